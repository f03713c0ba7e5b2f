/-
  The document's own answers: Compare, Within, Join, as the plain functions say; old memory stays. Conditions: texts of fewer than 2^40 bytes, at most 1000 names.
-/
import Derived.Test.YtokebgmlenlciaaDoorRows
import Derived.Test.YtokebgmlenlciaaDoorPaPlain
import Derived.Test.YtokebgmlenlciaaDoorPaLib
import Derived.Test.YtokebgmlenlciaaDoorPaRune
import Derived.Test.YtokebgmlenlciaaDoorPaShelf
import Derived.Test.YtokebgmlenlciaaDoorPaGood
import Derived.Test.YtokebgmlenlciaaDoorPaSplit
import Derived.Test.YtokebgmlenlciaaDoorPaSort
import Derived.Test.YtokebgmlenlciaaDoorPaCheck
import Derived.Test.YtokebgmlenlciaaDoorPaAwake
import Derived.Test.YtokebgmlenlciaaDoorPaMore
import Derived.Test.YtokebgmlenlciaaDoorPaOwn
import Derived.Test.YtokebgmlenlciaaDoorPaRefA
import Derived.Test.YtokebgmlenlciaaDoorPaRefB
import Derived.Test.YtokebgmlenlciaaDoorOctKit
import Derived.WalkKit
import Derived.WalkSpells
import Derived.WalkLawsBesides
import Derived.ProofKit
import Derived.OpenShut
import Derived.Laws.BytesArg
import Derived.Laws.Externs
import Derived.Deep.QuietTactic
import Derived.BigQuiet
import Derived.BigRegion
import Derived.Lib.Hide
import Derived.Lib.Bytealg
import Derived.IntWalk
import Derived.Deep.LoopGhost
import Derived.Laws.OwnMore
import Derived.Deep.OwnRows
import Derived.Deep.Draws
import Derived.Deep.MidRow
namespace Go.Proofs.YtokebgmlenlciaaDoor.Pa
open Go Go.RowKit
open Oct (TextsAt)

theorem cmpN_nil_left {y : List Tx} (h : y ≠ []) : cmpN [] y = -1 := by obtain ⟨a, t, rfl⟩ := List.exists_cons_of_ne_nil h; rfl
theorem cmpN_nil_right {x : List Tx} (h : x ≠ []) : cmpN x [] = 1 := by obtain ⟨a, t, rfl⟩ := List.exists_cons_of_ne_nil h; rfl
theorem tx_drop {T : Nat → ByteArray} {len k : Nat} (h : k < len) : (tx T len).drop k = (T k).data.toList :: (tx T len).drop (k + 1) := by
  have hl := tx_length T len
  rw [List.drop_eq_getElem_cons (by rw [hl]; exact h)]
  congr 1
  have := tx_get (T := T) h
  rw [List.getElem?_eq_getElem (by rw [hl]; exact h)] at this
  exact Option.some.inj this
set_option maxRecDepth 100000 in
set_option maxHeartbeats 2000000 in
theorem RCompare_calls (a b : ByteArray) (w : World) (ha : a.size ≤ 1099511627000) (hb : b.size ≤ 1099511627000) :
    Calls Tryd.prog 19 #[.string a, .string b] w fun e w' => e = .returned (.int .i64 (Pa.compare a.data.toList b.data.toList)) ∧ Below w.heap.size w w' := by
  generalize hr : Pa.compare a.data.toList b.data.toList = r
  unfold Pa.compare at hr
  go_enter Tryd.func19, Tryd.ntmps19
  go_wp2_with fail
  refine (RSplit_calls a w ha).mono ?_
  rintro e w1 ⟨⟨p1, n1, c1, d1, o1, X, rfl, hX, -, eX⟩, b1⟩
  replace b1 := Lib.hid b1
  go_wp2_with fail
  refine (RSplit_calls b w1 hb).mono ?_
  rintro e w2 ⟨⟨p2, n2, c2, d2, o2, Y, rfl, hY, -, eY⟩, b2⟩
  replace hX := Lib.hid (texts_below hX b2)
  replace b2 := Lib.hid (b1.out.trans (b2.mono b1.out.size))
  replace hY := Lib.hid hY
  clear b1
  by_cases hf : fault a.data.toList = 0 ∧ fault b.data.toList = 0
  · rw [if_pos hf, ← eX hf.1, ← eY hf.2] at hr
    obtain ⟨f1, f2⟩ := hf
    have l1 : n1 ≤ 1000 := by
      have h1 := congrArg List.length (eX f1)
      rw [tx_length] at h1
      have := (isPath_iff.1 f1).2
      omega
    have l2 : n2 ≤ 1000 := by
      have h1 := congrArg List.length (eY f2)
      rw [tx_length] at h1
      have := (isPath_iff.1 f2).2
      omega
    rw [f1, f2]
    clear eX eY f1 f2
    replace hr := Lib.hid hr
    go_wp2
    go_loopw [9, 10] (fun i _ wr => ∃ k : Nat, k ≤ n1 ∧ k ≤ n2 ∧ i = .int .i64 k ∧ Hid (cmpN ((tx X n1).drop k) ((tx Y n2).drop k) = r) ∧ Hid (TextsAt wr p1 d1 o1 n1 X) ∧ Hid (TextsAt wr p2 d2 o2 n2 Y) ∧ Hid (Below w.heap.size w wr)) (fun i _ _ => n1 - (intOf i).toNat)
    case atStart => exact ⟨0, by omega, by omega, rfl, Lib.hid (by simpa using hr.out), hX, hY, b2⟩
    case round =>
      clear hr hX hY b2
      obtain ⟨k, hk1, hk2, rfl, hc, hX, hY, bw⟩ := hrel
      by_cases h1 : k < n1
      · by_cases h2 : k < n2
        · have i1 : (k : Int) < n1 := by omega
          have i2 : (k : Int) < n2 := by omega
          have i0 : 0 ≤ (k : Int) := by omega
          obtain rfl := hX.out.addr (by omega)
          obtain rfl := hY.out.addr (by omega)
          have cX := hX.out.cell k h1
          have cY := hY.out.cell k h2
          have hc' := hc.out
          rw [tx_drop h1, tx_drop h2] at hc'
          have hB := Lib.hid fun w => Rbytes_calls (X k) (Y k) w (hX.out.size k) (hY.out.size k)
          simp only [cmpN] at hc'
          have hq0 : Hid (cmpB (X k).data.toList (Y k).data.toList = 0 ↔ (X k).data.toList = (Y k).data.toList) := Lib.hid cmpB_zero
          generalize cmpB (X k).data.toList (Y k).data.toList = q at *
          clear hc
          by_cases hz : q = 0
          · rw [if_pos (hq0.out.1 hz)] at hc'
            replace hc' := Lib.hid hc'
            subst hz
            clear hq0
            go_wp2
            go_quiet ((go_at_call 32; exact Calls.quiet_of (hB.out _)))
            have hX' : Hid (TextsAt (wr.drewN nq) _ d1 o1 n1 X) := Lib.hid ⟨hX.out.addr, hX.out.cell, hX.out.size⟩
            have hY' : Hid (TextsAt (wr.drewN nq) _ d2 o2 n2 Y) := Lib.hid ⟨hY.out.addr, hY.out.cell, hY.out.size⟩
            have bw' := Lib.hid (below_drewN bw.out nq)
            clear hX hY bw cX cY hB
            go_wp2
            exact ⟨⟨k + 1, by omega, by omega, by go_num, hc', hX', hY', bw'⟩, by simp [intOf]; omega⟩
          · have z1 : (q != 0) = true := by simpa using hz
            rw [if_neg (fun e => hz (hq0.out.2 e))] at hc'
            subst hc'
            clear hq0 hz
            go_wp2
            go_quiet ((go_at_call 32; exact Calls.quiet_of (hB.out _)))
            clear cX cY hB
            go_wp2
            go_ret
            exact ⟨rfl, below_drewN bw.out _⟩
        · have i1 : (k : Int) < n1 := by omega
          have i2 : ¬ (k : Int) < n2 := by omega
          have i3 : ¬ (n1 : Int) < n2 := by omega
          have i4 : (n2 : Int) < n1 := by omega
          have hc' := hc.out
          rw [List.drop_of_length_le (l := tx Y n2) (by rw [tx_length]; omega), cmpN_nil_right (fun e => by have := congrArg List.length e; rw [List.length_drop, tx_length] at this; simp at this; omega)] at hc'
          subst hc'
          clear hc
          go_wp2
          go_ret
          exact ⟨rfl, bw.out⟩
      · have i1 : ¬ (k : Int) < n1 := by omega
        have hc' := hc.out
        rw [List.drop_of_length_le (l := tx X n1) (by rw [tx_length]; omega)] at hc'
        by_cases h2 : k < n2
        · have i3 : (n1 : Int) < n2 := by omega
          rw [cmpN_nil_left (fun e => by have := congrArg List.length e; rw [List.length_drop, tx_length] at this; simp at this; omega)] at hc'
          subst hc'
          clear hc
          go_wp2
          go_ret
          exact ⟨rfl, bw.out⟩
        · have i3 : ¬ (n1 : Int) < n2 := by omega
          have i4 : ¬ (n2 : Int) < n1 := by omega
          rw [List.drop_of_length_le (l := tx Y n2) (by rw [tx_length]; omega)] at hc'
          have hc2 : (0 : Int) = r := hc'
          subst hc2
          clear hc hc'
          go_wp2
          go_ret
          exact ⟨rfl, bw.out⟩
  · rw [if_neg hf] at hr
    subst hr
    clear eX eY hX hY
    by_cases f1 : fault a.data.toList = 0
    · have z1 : ((fault a.data.toList : Int) != 0) = false := by rw [f1]; rfl
      have z2 : ((fault b.data.toList : Int) != 0) = true := by
        have : ¬ fault b.data.toList = 0 := fun g => hf ⟨f1, g⟩
        simp only [bne_iff_ne]; omega
      generalize fault a.data.toList = fa at *
      generalize fault b.data.toList = fb at *
      clear hf f1
      go_wp2
      go_ret
      exact ⟨rfl, b2.out⟩
    · have z1 : ((fault a.data.toList : Int) != 0) = true := by simp only [bne_iff_ne]; omega
      generalize fault a.data.toList = fa at *
      generalize fault b.data.toList = fb at *
      clear hf f1
      go_wp2
      go_ret
      exact ⟨rfl, b2.out⟩
/-! ### Within -/
theorem tx_prefix {X Y : Nat → ByteArray} {n m : Nat} (h : n ≤ m) : (tx X n).isPrefixOf (tx Y m) = true ↔ ∀ i, i < n → X i = Y i := by
  rw [List.isPrefixOf_iff_prefix]
  constructor
  · rintro ⟨t, e⟩ i hi
    have h1 := congrArg (fun l => l[i]?) e
    simp only [List.getElem?_append_left (l₂ := t) (show i < (tx X n).length by rw [tx_length]; exact hi), tx_get hi, tx_get (show i < m by omega)] at h1
    exact data_inj (Option.some.inj h1)
  · intro h2
    refine ⟨(tx Y m).drop n, ?_⟩
    have e : tx X n = (tx Y m).take n := by
      rw [tx_eq.2 h2]
      unfold tx
      rw [← List.map_take, List.take_range, Nat.min_eq_left h]
    rw [e, List.take_append_drop]
set_option maxRecDepth 100000 in
set_option maxHeartbeats 2000000 in
theorem RWithin_calls (a b : ByteArray) (w : World) (ha : a.size ≤ 1099511627000) (hb : b.size ≤ 1099511627000) :
    Calls Tryd.prog 21 #[.string a, .string b] w fun e w' => e = .returned (.bool (Pa.within a.data.toList b.data.toList)) ∧ Below w.heap.size w w' := by
  generalize hr : Pa.within a.data.toList b.data.toList = r
  unfold Pa.within at hr
  go_enter Tryd.func21, Tryd.ntmps21
  go_wp2_with fail
  refine (RSplit_calls a w ha).mono ?_
  rintro e w1 ⟨⟨p1, n1, c1, d1, o1, X, rfl, hX, -, eX⟩, b1⟩
  replace b1 := Lib.hid b1
  go_wp2_with fail
  refine (RSplit_calls b w1 hb).mono ?_
  rintro e w2 ⟨⟨p2, n2, c2, d2, o2, Y, rfl, hY, -, eY⟩, b2⟩
  replace hX := Lib.hid (texts_below hX b2)
  replace b2 := Lib.hid (b1.out.trans (b2.mono b1.out.size))
  replace hY := Lib.hid hY
  clear b1
  by_cases hf : fault a.data.toList = 0 ∧ fault b.data.toList = 0
  · obtain ⟨f1, f2⟩ := hf
    rw [decide_eq_true f1, decide_eq_true f2, ← eX f1, ← eY f2, Bool.true_and, Bool.true_and] at hr
    unfold under at hr
    rw [tx_length, tx_length] at hr
    have l1 : n1 ≤ 1000 := by
      have h1 := congrArg List.length (eX f1)
      rw [tx_length] at h1
      have := (isPath_iff.1 f1).2
      omega
    rw [f1, f2]
    clear eX eY f1 f2
    by_cases hn : n1 < n2
    · rw [decide_eq_true hn, Bool.and_true] at hr
      have hr' : Hid (r = true ↔ ∀ i, i < n1 → X i = Y i) := Lib.hid (by rw [← hr]; exact tx_prefix (by omega))
      clear hr
      have i3 : ¬ (n2 : Int) ≤ n1 := by omega
      go_wp2
      go_loopw [9] (fun i wr => ∃ k : Nat, k ≤ n1 ∧ i = .int .i64 k ∧ Hid (∀ i, i < k → X i = Y i) ∧ Hid (TextsAt wr p1 d1 o1 n1 X) ∧ Hid (TextsAt wr p2 d2 o2 n2 Y) ∧ Hid (Below w.heap.size w wr)) (fun i _ => n1 - (intOf i).toNat)
      case atStart => exact ⟨0, by omega, rfl, Lib.hid fun i hi => by omega, hX, hY, b2⟩
      case round =>
        clear hX hY b2
        obtain ⟨k, hk1, rfl, hc, hX, hY, bw⟩ := hrel
        by_cases h1 : k < n1
        · have i1 : (k : Int) < n1 := by omega
          have i2 : (k : Int) < n2 := by omega
          have i0 : 0 ≤ (k : Int) := by omega
          obtain rfl := hX.out.addr (by omega)
          obtain rfl := hY.out.addr (by omega)
          have cX := hX.out.cell k h1
          have cY := hY.out.cell k (by omega)
          by_cases hv : X k = Y k
          · have hb2 : ((X k).toList == (Y k).toList) = true := by rw [hv]; simp
            have nx : Hid (∀ i, i < k + 1 → X i = Y i) := Lib.hid fun i hi => by
              by_cases e : i = k
              · subst e; exact hv
              · exact hc.out i (by omega)
            have hX' : Hid (TextsAt wr.drew _ d1 o1 n1 X) := Lib.hid ⟨hX.out.addr, hX.out.cell, hX.out.size⟩
            have hY' : Hid (TextsAt wr.drew _ d2 o2 n2 Y) := Lib.hid ⟨hY.out.addr, hY.out.cell, hY.out.size⟩
            have bw' := Lib.hid bw.out.drew
            clear hv hX hY bw
            go_wp2
            go_region
            go_wp2
            exact ⟨⟨k + 1, by omega, by go_num, nx, hX', hY', bw'⟩, by simp [intOf]; omega⟩
          · have hb2 : ((X k).toList == (Y k).toList) = false := by rw [Oct.beq_toList]; exact decide_eq_false hv
            have hrf : false = r := by
              cases r with
              | false => rfl
              | true => exact absurd ((hr'.out.1 rfl) k h1) hv
            subst hrf
            clear hv hr'
            go_wp2
            go_region
            go_wp2
            go_ret
            exact ⟨rfl, bw.out.drew⟩
        · have i1 : ¬ (k : Int) < n1 := by omega
          obtain rfl : k = n1 := by omega
          have hrt : true = r := (hr'.out.2 hc.out).symm
          subst hrt
          clear hr' hc
          go_wp2
          go_ret
          exact ⟨rfl, bw.out⟩
    · rw [decide_eq_false hn, Bool.and_false] at hr
      subst hr
      have i3 : (n2 : Int) ≤ n1 := by omega
      go_wp2
      go_ret
      exact ⟨rfl, b2.out⟩
  · have hrf : false = r := by
      rw [← hr]
      by_cases f1 : fault a.data.toList = 0
      · have : ¬ fault b.data.toList = 0 := fun g => hf ⟨f1, g⟩
        simp [this]
      · simp [f1]
    subst hrf
    clear eX eY hX hY hr
    by_cases f1 : fault a.data.toList = 0
    · have z1 : ((fault a.data.toList : Int) != 0) = false := by rw [f1]; rfl
      have z2 : ((fault b.data.toList : Int) != 0) = true := by
        have : ¬ fault b.data.toList = 0 := fun g => hf ⟨f1, g⟩
        simp only [bne_iff_ne]; omega
      generalize fault a.data.toList = fa at *
      generalize fault b.data.toList = fb at *
      clear hf f1
      go_wp2
      go_ret
      exact ⟨rfl, b2.out⟩
    · have z1 : ((fault a.data.toList : Int) != 0) = true := by simp only [bne_iff_ne]; omega
      generalize fault a.data.toList = fa at *
      generalize fault b.data.toList = fb at *
      clear hf f1
      go_wp2
      go_ret
      exact ⟨rfl, b2.out⟩
end Go.Proofs.YtokebgmlenlciaaDoor.Pa
