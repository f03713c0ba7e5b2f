/-
  The document's own answers: Good, and how two texts stand byte by byte, are what the plain functions say; the memory stays. Conditions: texts of the form's reach.
-/
import Derived.Test.YtmbbnabongnojaaDoorRows
import Derived.Test.YtmbbnabongnojaaDoorPaPlain
import Derived.Test.YtmbbnabongnojaaDoorPaLib
import Derived.Test.YtmbbnabongnojaaDoorPaRune
import Derived.Test.YtmbbnabongnojaaDoorPaShelf
import Derived.Test.YtmbbnabongnojaaDoorPaGood
import Derived.Test.YtmbbnabongnojaaDoorOctKit
import Derived.WalkKit
import Derived.WalkSpells
import Derived.WalkLawsBesides
import Derived.ProofKit
import Derived.OpenShut
import Derived.Laws.BytesArg
import Derived.Laws.Externs
import Derived.Deep.QuietTactic
import Derived.BigQuiet
import Derived.BigRegion
import Derived.Lib.Hide
import Derived.Lib.Bytealg
import Derived.IntWalk
import Derived.Deep.LoopGhost
import Derived.Laws.OwnMore
import Derived.Deep.OwnRows
import Derived.Deep.Draws
import Derived.Deep.MidRow
namespace Go.Proofs.YtmbbnabongnojaaDoor.Pa
open Go Go.RowKit
open Oct (TextsAt)

theorem byte_eq (c d : UInt8) : ((c.toNat : Int) == (d.toNat : Int)) = decide (c = d) := by
  rw [Bool.eq_iff_iff]; simp only [beq_iff_eq, decide_eq_true_eq]
  exact ⟨fun h => UInt8.toNat.inj (by omega), fun h => by rw [h]⟩
theorem good_step {l : Tx} {k : Nat} (h : ∀ j, j < k → l.getD j 0 ≠ 47 ∧ l.getD j 0 ≠ 0) (hk : l.getD k 0 ≠ 47 ∧ l.getD k 0 ≠ 0) : ∀ j, j < k + 1 → l.getD j 0 ≠ 47 ∧ l.getD j 0 ≠ 0 := fun j hj => by
  by_cases e : j = k
  · subst e; exact hk
  · exact h j (by omega)
set_option maxRecDepth 100000 in
theorem RGood_calls (s : ByteArray) (w : World) :
    Calls Tryd.prog 36 #[.string s] w fun e w' => e = .returned (.bool (isName s.data.toList)) ∧ w = w' := by
  by_cases h0 : s = ⟨#[]⟩
  · subst h0
    go_enter Tryd.func36, Tryd.ntmps36
    go_wp2
    go_ret
    exact ⟨rfl, rfl⟩
  by_cases h1 : s = ⟨#[46]⟩
  · subst h1
    go_enter Tryd.func36, Tryd.ntmps36
    go_wp2
    go_ret
    exact ⟨rfl, rfl⟩
  by_cases h2 : s = ⟨#[46, 46]⟩
  · subst h2
    go_enter Tryd.func36, Tryd.ntmps36
    go_wp2
    go_ret
    exact ⟨rfl, rfl⟩
  have g0 : s.data.toList ≠ [] := fun e => h0 (data_inj e)
  have g1 : s.data.toList ≠ [46] := fun e => h1 (data_inj e)
  have g2 : s.data.toList ≠ [46, 46] := fun e => h2 (data_inj e)
  have e1 : (s.toList == [46]) = false := by rw [ByteArray.toList_eq]; simpa using g1
  have e2 : (s.toList == [46, 46]) = false := by rw [ByteArray.toList_eq]; simpa using g2
  have l0 : ¬ (s.size : Int) < 1 := by have := List.length_pos_iff.2 g0; have := size_list s; omega
  rw [name_iff _ g0 g1 g2, ← size_list]
  clear g0 g1 g2 h0 h1 h2
  by_cases h3 : s.size ≤ 255
  · have h4 : ¬ (255 : Int) < s.size := by omega
    rw [decide_eq_true h3, Bool.true_and]
    generalize hx : decide (47 ∉ s.data.toList ∧ 0 ∉ s.data.toList) = x
    replace hx := Lib.hid hx
    have hcl := Lib.hid (clean_iff s)
    go_enter Tryd.func36, Tryd.ntmps36
    go_wp2
    go_loopw [3] (fun i wr => ∃ k : Nat, k ≤ s.size ∧ i = .int .i64 k ∧ Hid (Clean s k) ∧ w = wr) (fun i _ => s.size - (intOf i).toNat)
    case atStart => exact ⟨0, by omega, rfl, Lib.hid fun j hj => by omega, rfl⟩
    case round =>
      obtain ⟨k, hk, rfl, hc, rfl⟩ := hrel
      by_cases hlt : k < s.size
      · have i1 : (k : Int) < s.size := by omega
        have i0 : 0 ≤ (k : Int) := by omega
        obtain ⟨c, hcb⟩ : ∃ c : UInt8, s[k]'hlt = c := ⟨_, rfl⟩
        have hgd : Hid (s.data.toList.getD k 0 = c) := Lib.hid (by rw [← hcb, get_list])
        by_cases hbad : c = 47 ∨ c = 0
        · have fin : Hid (false = x) := Lib.hid (by
            rw [← hx.out, eq_comm, decide_eq_false_iff_not, ← hcl.out]
            intro h
            have := h k hlt
            rw [hgd.out] at this
            rcases hbad with e | e
            · exact this.1 e
            · exact this.2 e)
          by_cases h47 : c = 47
          · have n1 : ((c.toNat : Int) == 47) = true := by rw [h47]; rfl
            clear hbad h47
            go_wp2
            go_ret
            exact ⟨Oct.ret_bool fin.out, rfl⟩
          · have n1 : ((c.toNat : Int) == 47) = false := (byte_eq c 47).trans (decide_eq_false h47)
            have n2 : ((c.toNat : Int) == 0) = true := by rw [hbad.resolve_left h47]; rfl
            clear hbad h47
            go_wp2
            go_ret
            exact ⟨Oct.ret_bool fin.out, rfl⟩
        · have n1 : ((c.toNat : Int) == 47) = false := (byte_eq c 47).trans (decide_eq_false fun e => hbad (Or.inl e))
          have n2 : ((c.toNat : Int) == 0) = false := (byte_eq c 0).trans (decide_eq_false fun e => hbad (Or.inr e))
          have nx : Hid (Clean s (k + 1)) := Lib.hid (good_step hc.out (by rw [hgd.out]; exact ⟨fun e => hbad (Or.inl e), fun e => hbad (Or.inr e)⟩))
          clear hbad
          go_wp2
          exact ⟨⟨k + 1, by omega, by go_num, nx, by trivial⟩, by simp [intOf]; omega⟩
      · have d0 : decide ((k : Int) < s.size) = false := decide_eq_false (by omega)
        have d1 : (s.size : Int) ≤ k := by omega
        obtain rfl : k = s.size := by omega
        have fin : Hid (true = x) := Lib.hid (by
          rw [← hx.out, eq_comm, decide_eq_true_eq, ← hcl.out]; exact hc.out)
        go_wp2
        go_ret
        exact ⟨Oct.ret_bool fin.out, rfl⟩
  · have h4 : (255 : Int) < s.size := by omega
    rw [decide_eq_false h3, Bool.false_and]
    go_enter Tryd.func36, Tryd.ntmps36
    go_wp2
    go_ret
    exact ⟨rfl, rfl⟩
/-! ### bytes -/
theorem cmpB_cons (c : UInt8) (x y : Tx) : cmpB (c :: x) (c :: y) = cmpB x y := by
  unfold cmpB
  by_cases h : x = y
  · rw [if_pos h, if_pos (by rw [h])]
  · rw [if_neg h, if_neg (fun e => h (List.cons.inj e).2)]
    simp [Op.bytesLess]
theorem cmpB_lt {c d : UInt8} (x y : Tx) (h : c.toNat < d.toNat) : cmpB (c :: x) (d :: y) = -1 := by
  unfold cmpB
  rw [if_neg (fun e => by rw [(List.cons.inj e).1] at h; omega)]
  simp [Op.bytesLess, UInt8.lt_iff_toNat_lt, h]
theorem cmpB_gt {c d : UInt8} (x y : Tx) (h : d.toNat < c.toNat) : cmpB (c :: x) (d :: y) = 1 := by
  rw [cmpB_neg, cmpB_lt y x h]; rfl
theorem cmpB_nil_left {y : Tx} (h : y ≠ []) : cmpB [] y = -1 := by
  obtain ⟨a, t, rfl⟩ := List.exists_cons_of_ne_nil h
  simp [cmpB, Op.bytesLess]
theorem cmpB_nil_right {x : Tx} (h : x ≠ []) : cmpB x [] = 1 := by rw [cmpB_neg, cmpB_nil_left h]; rfl
theorem drop_get {l : Tx} {k : Nat} (h : k < l.length) : l.drop k = l.getD k 0 :: l.drop (k + 1) := by
  rw [List.drop_eq_getElem_cons h, List.getD_eq_getElem?_getD, List.getElem?_eq_getElem h]; rfl
end Go.Proofs.YtmbbnabongnojaaDoor.Pa
