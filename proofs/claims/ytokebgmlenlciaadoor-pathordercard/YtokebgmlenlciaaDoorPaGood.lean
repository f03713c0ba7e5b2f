/-
  path's Good, fault, bothPaths, order, lies, Compare, Within answer as the plain functions say; old memory stays. Conditions: texts of the form's reach.
-/
import Derived.Test.YtokebgmlenlciaaDoorRows
import Derived.Test.YtokebgmlenlciaaDoorPaPlain
import Derived.Test.YtokebgmlenlciaaDoorPaLib
import Derived.Test.YtokebgmlenlciaaDoorPaRune
import Derived.Test.YtokebgmlenlciaaDoorPaShelf
import Derived.Test.YtokebgmlenlciaaDoorOctKit
import Derived.WalkKit
import Derived.WalkSpells
import Derived.WalkLawsBesides
import Derived.ProofKit
import Derived.OpenShut
import Derived.Laws.BytesArg
import Derived.Laws.Externs
import Derived.Deep.QuietTactic
import Derived.BigQuiet
import Derived.BigRegion
import Derived.Lib.Hide
import Derived.Lib.Bytealg
import Derived.IntWalk
import Derived.Deep.LoopGhost
namespace Go.Proofs.YtokebgmlenlciaaDoor.Pa
open Go.RowKit

theorem clean_iff (s : ByteArray) : Clean s s.size ↔ 47 ∉ s.data.toList ∧ 0 ∉ s.data.toList := by
  unfold Clean
  constructor
  · intro h
    constructor <;> intro hm <;> obtain ⟨j, hj, e⟩ := List.getElem_of_mem hm
    · have := (h j (by rw [size_list]; exact hj)).1
      rw [List.getD_eq_getElem?_getD, List.getElem?_eq_getElem hj] at this
      exact this e
    · have := (h j (by rw [size_list]; exact hj)).2
      rw [List.getD_eq_getElem?_getD, List.getElem?_eq_getElem hj] at this
      exact this e
  · rintro ⟨h1, h2⟩ j hj
    rw [size_list] at hj
    rw [List.getD_eq_getElem?_getD, List.getElem?_eq_getElem hj]
    exact ⟨fun e => h1 (e ▸ List.getElem_mem hj), fun e => h2 (e ▸ List.getElem_mem hj)⟩
theorem indexAny_iff (l : Tx) : 0 ≤ Lib.indexAny l [47, 0] ↔ ¬ (47 ∉ l ∧ 0 ∉ l) := by
  induction l with
  | nil => simp [Lib.indexAny]
  | cons c l ih =>
    have hge := Lib.indexAny_ge [47, 0] l
    unfold Lib.indexAny
    by_cases hc : c = 47 ∨ c = 0
    · have : ([47, 0] : Tx).contains c = true := by rcases hc with rfl | rfl <;> rfl
      rw [this]
      simp only [if_true]
      constructor
      · rintro - ⟨h1, h2⟩
        rcases hc with rfl | rfl
        · exact h1 (by simp)
        · exact h2 (by simp)
      · intro _; decide
    · have h1 : c ≠ 47 := fun e => hc (Or.inl e)
      have h2 : c ≠ 0 := fun e => hc (Or.inr e)
      have : ([47, 0] : Tx).contains c = false := by simp [h1, h2]
      rw [this]
      simp only [Bool.false_eq_true, if_false, List.mem_cons, not_or]
      rw [show (47 ≠ c ∧ 47 ∉ l) ∧ 0 ≠ c ∧ 0 ∉ l ↔ 47 ∉ l ∧ 0 ∉ l from ⟨fun h => ⟨h.1.2, h.2.2⟩, fun h => ⟨⟨fun e => h1 e.symm, h.1⟩, fun e => h2 e.symm, h.2⟩⟩, ← ih]
      split
      · rename_i e; have := beq_iff_eq.1 e; rw [this]
      · rename_i e
        have : Lib.indexAny l [47, 0] ≠ -1 := fun k => e (beq_iff_eq.2 k)
        omega
theorem IndexAny_calls (s : ByteArray) (hs : s.size < 4294967281) (w : World) :
    Calls Tryd.prog 46 #[.string s, .string ⟨#[47, 0]⟩] w fun e w' => (∃ n : Int, e = .returned (.int .i64 n) ∧ (0 ≤ n ↔ ¬ Clean s s.size)) ∧ Below w.heap.size w w' := by
  by_cases h8 : s.size ≤ 8
  · exact IndexAny_short s h8 w
  · have h116 : (Tryd.prog.info? 74).map (fun i => (i.zero, i.size)) = some (some (.agg (Array.replicate 256 (.bool false))), 256) := by kernel_rfl
    have hz := zero_of_info h116
    have h := Any.strings_IndexAny_long Tryd.lays153 hz.1 hz.2 s ⟨#[47, 0]⟩ w (by decide) (by omega) hs (by decide) (by
      intro j b hb
      match j, hb with
      | 0, hb => cases hb; decide
      | 1, hb => cases hb; decide
      | j + 2, hb => simp at hb)
    refine h.mono fun e w' ⟨he, hw⟩ => ⟨⟨_, he, ?_⟩, ?_⟩
    · rw [clean_iff]; exact indexAny_iff _
    · rw [hw]
      exact ((Below.refl _ _).alloc (Nat.le_refl _) _).alloc (by simp) _
theorem ContainsAny_calls (s : ByteArray) (hs : s.size < 4294967281) (w : World) :
    Calls Tryd.prog 29 #[.string s, .string ⟨#[47, 0]⟩] w fun e w' => (∃ b, e = .returned (.bool b) ∧ (b = true ↔ ¬ Clean s s.size)) ∧ Below w.heap.size w w' := by
  go_enter Tryd.func29, Tryd.ntmps29
  go_wp2_with fail
  refine (IndexAny_calls s hs w).mono ?_
  rintro e w' ⟨⟨n, rfl, hn⟩, bel⟩
  replace hn := Lib.hid hn
  replace bel := Lib.hid bel
  go_wp2
  go_ret
  exact ⟨⟨_, rfl, by rw [decide_eq_true_eq]; exact hn.out⟩, bel.out⟩
theorem name_iff (l : Tx) (h0 : l ≠ []) (h1 : l ≠ [46]) (h2 : l ≠ [46, 46]) : isName l = (decide (l.length ≤ 255) && decide (47 ∉ l ∧ 0 ∉ l)) := by
  have := List.length_pos_iff.2 h0
  rw [Bool.eq_iff_iff]
  simp [isName, h1, h2, show 1 ≤ l.length from this, and_assoc]
set_option maxRecDepth 100000 in
theorem Good_calls (s : ByteArray) (w : World) :
    Calls Tryd.prog 15 #[.string s] w fun e w' => e = .returned (.bool (isName s.data.toList)) ∧ Below w.heap.size w w' := by
  by_cases h0 : s = ⟨#[]⟩
  · subst h0
    go_enter Tryd.func15, Tryd.ntmps15
    go_wp2
    go_ret
    exact ⟨rfl, Below.refl _ _⟩
  by_cases h1 : s = ⟨#[46]⟩
  · subst h1
    go_enter Tryd.func15, Tryd.ntmps15
    go_wp2
    go_ret
    exact ⟨rfl, Below.refl _ _⟩
  by_cases h2 : s = ⟨#[46, 46]⟩
  · subst h2
    go_enter Tryd.func15, Tryd.ntmps15
    go_wp2
    go_ret
    exact ⟨rfl, Below.refl _ _⟩
  have g0 : s.data.toList ≠ [] := fun e => h0 (data_inj e)
  have g1 : s.data.toList ≠ [46] := fun e => h1 (data_inj e)
  have g2 : s.data.toList ≠ [46, 46] := fun e => h2 (data_inj e)
  have e0 : s.toList.isEmpty = false := by rw [ByteArray.toList_eq]; simpa using g0
  have e1 : (s.toList == [46]) = false := by rw [ByteArray.toList_eq]; simpa using g1
  have e2 : (s.toList == [46, 46]) = false := by rw [ByteArray.toList_eq]; simpa using g2
  rw [name_iff _ g0 g1 g2, ← size_list]
  clear g0 g1 g2 h0 h1 h2
  by_cases h3 : s.size ≤ 255
  · have h4 : (s.size : Int) ≤ 255 := by omega
    have h5 : decide (s.size ≤ 255) = true := decide_eq_true h3
    rw [h5, Bool.true_and]
    generalize hx : decide (47 ∉ s.data.toList ∧ 0 ∉ s.data.toList) = x
    replace hx := Lib.hid hx
    go_enter Tryd.func15, Tryd.ntmps15
    go_wp2_with fail
    refine (ContainsAny_calls s (by omega) w).mono ?_
    rintro e w' ⟨⟨b, rfl, hb⟩, bel⟩
    replace hb := Lib.hid hb
    replace bel := Lib.hid bel
    go_wp2
    go_ret
    refine ⟨Oct.ret_bool ?_, bel.out⟩
    have := hb.out
    rw [clean_iff] at this
    rw [← hx.out]
    cases b
    · simp at this; simp [this]
    · simp only [true_iff] at this; rw [eq_comm, Bool.not_true, decide_eq_false_iff_not]; exact this
  · have h4 : ¬ (s.size : Int) ≤ 255 := by omega
    have h5 : decide (s.size ≤ 255) = false := decide_eq_false h3
    rw [h5, Bool.false_and]
    go_enter Tryd.func15, Tryd.ntmps15
    go_wp2
    go_ret
    exact ⟨rfl, Below.refl _ _⟩
/-! ### fault -/
theorem IsCut.shorter {l a b : Tx} {f : Bool} (h : IsCut l a b f) : b.length ≤ l.length := by
  cases h with
  | hit a b h no => rw [h]; simp; omega
  | miss => simp
theorem IsCut.miss_rest {l a b : Tx} (h : IsCut l a b false) : b = [] ∧ a = l := by cases h; exact ⟨rfl, rfl⟩
theorem IsCut.hit_len {l a b : Tx} (h : IsCut l a b true) : b.length + 1 ≤ l.length := by
  cases h with
  | hit _ _ h no => rw [h]; simp
theorem IsCut.strict {l a b : Tx} {f : Bool} (h : IsCut l a b f) (hl : l ≠ []) : b.length < l.length := by
  cases f with
  | true => exact h.hit_len
  | false => rw [h.miss_rest.1]; exact List.length_pos_iff.2 hl
theorem fault_hit {l a b : Tx} (h : IsCut l a b true) : pieces l = a :: pieces b := by
  cases h with
  | hit _ _ h no => rw [h, pieces_slash _ _ no]
theorem fault_miss {l a b : Tx} (h : IsCut l a b false) : pieces l = [a] := by
  cases h with
  | miss no => exact pieces_one _ no
theorem pieces_le (l : Tx) : (pieces l).length ≤ l.length + 1 := by
  induction l with
  | nil => simp [pieces]
  | cons c l ih =>
    unfold pieces
    split
    · simp; omega
    · have := List.length_pos_iff.2 (pieces_ne l)
      simp; omega
/-- fault, as its loop goes: so many pieces done, all of them names -/
def FaultAt (l r : Tx) (d : Nat) (more : Bool) : Prop :=
  if more then (pieces l).length = d + (pieces r).length ∧ (pieces l).all isName = (pieces r).all isName else (pieces l).length = d ∧ (pieces l).all isName = true
theorem below_drewN {B : Nat} {a w : World} (h : Below B a w) (n : Nat) : Below B a (w.drewN n) := ⟨h.os, h.tape, h.output, h.size, h.block⟩
set_option maxRecDepth 100000 in
theorem fault_calls (s : ByteArray) (w : World) (hs : s.size ≤ 140737488351232) :
    Calls Tryd.prog 24 #[.string s] w fun e w' => e = .returned (.int .i64 (fault s.data.toList)) ∧ Below w.heap.size w w' := by
  have hz := Lib.hid (size_list s)
  generalize hl : s.data.toList = l at *
  go_enter Tryd.func24, Tryd.ntmps24
  go_wp2
  go_loopg [0, 3, 4, 5] (s.size + 1) (fun g x d m _ wx => ∃ (r : ByteArray) (k : Nat) (more : Bool), x = .string r ∧ d = .int .i64 k ∧ m = .bool more ∧ r.size + 1 ≤ g + (if more then 0 else 1) ∧ r.size + k ≤ s.size + (if more then 0 else 1) ∧ Hid (FaultAt l r.data.toList k more) ∧ Below w.heap.size w wx)
  case atStart => exact ⟨s, 0, true, rfl, rfl, rfl, by simp, by simp, Lib.hid (by rw [hl]; exact ⟨by simp, rfl⟩), Below.refl _ _⟩
  case round =>
    obtain ⟨r, k, more, rfl, rfl, rfl, hg, hk, hF, hB⟩ := hrel
    replace hB := Lib.hid hB
    cases more with
    | false =>
      simp only [Bool.false_eq_true, if_false] at hk
      have hf : fault l = if 64 < k then 33 else 0 := by
        have := hF.out
        unfold FaultAt at this
        simp only [Bool.false_eq_true, if_false] at this
        unfold fault
        rw [this.2, this.1]; rfl
      by_cases h64 : 64 < k
      · have d0 : (64 : Int) < k := by omega
        rw [if_pos h64] at hf
        replace hf := Lib.hid hf
        go_wp2
        go_ret
        exact ⟨by rw [hf.out]; rfl, hB.out⟩
      · have d0 : ¬ (64 : Int) < k := by omega
        rw [if_neg h64] at hf
        replace hf := Lib.hid hf
        go_wp2
        go_ret
        exact ⟨by rw [hf.out]; rfl, hB.out⟩
    | true =>
      simp only [if_true, Nat.add_zero] at hg hk
      obtain ⟨g', rfl⟩ : ∃ g', gk = g' + 1 := ⟨gk - 1, by omega⟩
      go_wp2_with fail
      refine (Cut_calls r wr (by omega)).mono ?_
      rintro e w' ⟨⟨a, b, f, rfl, hc⟩, n, rfl⟩
      replace hB := Lib.hid (below_drewN hB.out n)
      generalize wr.drewN n = w1 at *
      replace hc := Lib.hid hc
      go_wp2_with fail
      refine (Good_calls a w1).mono ?_
      rintro e w2 ⟨rfl, hb2⟩
      replace hB := Lib.hid (hB.out.trans (hb2.mono hB.out.size))
      clear hb2
      have hsr := size_list r
      have hsb := size_list b
      have hsh := hc.out.shorter
      generalize hx : isName a.data.toList = x
      replace hx := Lib.hid hx
      have hF := hF.out
      unfold FaultAt at hF
      simp only [if_true] at hF
      cases x with
      | false =>
        have hf : fault l = 30 := by
          unfold fault
          rw [hF.2]
          have : (pieces r.data.toList).all isName = false := by
            cases f
            · rw [fault_miss hc.out]; simp [hx.out]
            · rw [fault_hit hc.out]; simp [hx.out]
          rw [this]; rfl
        replace hf := Lib.hid hf
        clear hF hsr hsb hsh
        go_wp2
        go_ret
        exact ⟨by rw [hf.out]; rfl, hB.out⟩
      | true =>
        have hrest : ∃ m : Nat, b.size + 1 ≤ g' + (if f then 0 else 1) ∧ b.size + (k + 1) ≤ s.size + (if f then 0 else 1) ∧ FaultAt l b.data.toList (k + 1) f := by
          cases hc' : f with
          | false =>
            rw [hc'] at hc
            have h1 := fault_miss hc.out
            have hb0 : b.data.toList = [] := hc.out.miss_rest.1
            rw [h1] at hF
            have : b.size = 0 := by rw [hsb, hb0]; rfl
            exact ⟨0, by simp [this], by rw [this]; simp; omega, by unfold FaultAt; simp only [Bool.false_eq_true, if_false]; simp [hx.out] at hF; exact ⟨by rw [hF.1], by simpa using hF.2⟩⟩
          | true =>
            rw [hc'] at hc
            have h1 := fault_hit hc.out
            have hlt := hc.out.hit_len
            rw [h1] at hF
            refine ⟨0, by simp; omega, by simp; omega, ?_⟩
            unfold FaultAt; simp only [if_true]
            simp [hx.out] at hF
            exact ⟨by omega, by simpa using hF.2⟩
        obtain ⟨_, r1, r2, r3⟩ := hrest
        replace r1 := Lib.hid r1
        replace r2 := Lib.hid r2
        replace r3 := Lib.hid r3
        replace hg := Lib.hid hg
        clear hF hsr hsb hsh hc hz hl
        go_wp2
        go_roundg g'
        case measure => omega
        case rel => exact ⟨b, k + 1, f, rfl, by go_num, rfl, r1.out, r2.out, r3, hB.out⟩
set_option maxRecDepth 100000 in
theorem bothPaths_calls (a b : ByteArray) (w : World) (ha : a.size ≤ 140737488351232) (hb : b.size ≤ 140737488351232) :
    Calls Tryd.prog 30 #[.string a, .string b] w fun e w' => e = .returned (.bool (decide (fault a.data.toList = 0) && decide (fault b.data.toList = 0))) ∧ Below w.heap.size w w' := by
  generalize hx : fault a.data.toList = x
  generalize hy : fault b.data.toList = y
  have cA := fun w => fault_calls a w ha
  have cB := fun w => fault_calls b w hb
  rw [hx] at cA
  rw [hy] at cB
  clear hx hy
  go_enter Tryd.func30, Tryd.ntmps30
  go_wp2_with fail
  refine (cA w).mono ?_
  rintro e w1 ⟨rfl, b1⟩
  replace b1 := Lib.hid b1
  by_cases h0 : x = 0
  · subst h0
    go_wp2_with fail
    refine (cB w1).mono ?_
    rintro e w2 ⟨rfl, b2⟩
    replace b2 := Lib.hid (b1.out.trans (b2.mono b1.out.size))
    go_wp2
    go_ret
    refine ⟨Oct.ret_bool ?_, b2.out⟩
    rw [Bool.eq_iff_iff]; simp
  · have h1 : ((x : Int) == 0) = false := by simp only [beq_eq_false_iff_ne]; omega
    replace h0 := Lib.hid h0
    go_wp2
    go_ret
    exact ⟨Oct.ret_bool (by rw [decide_eq_false h0.out]; rfl), b1.out⟩
/-! ### order -/
/-- the names of what is left of a path: none, if nothing is -/
def nm (r : Tx) : List Tx := if r = [] then [] else pieces r
theorem nm_cut {l a b : Tx} {f : Bool} (h : IsCut l a b f) (hall : ∀ p ∈ pieces l, isName p = true) : pieces l = a :: nm b ∧ ∀ p ∈ nm b, isName p = true := by
  cases f with
  | true =>
    have e := fault_hit h
    rw [e] at hall
    have hb : b ≠ [] := by
      rintro rfl
      have := hall [] (by simp [pieces])
      exact name_ne this rfl
    unfold nm
    rw [if_neg hb, e]
    exact ⟨rfl, fun p hp => hall p (List.mem_cons_of_mem _ hp)⟩
  | false =>
    have e := fault_miss h
    have hb := h.miss_rest.1
    subst hb
    rw [e]
    exact ⟨rfl, fun p hp => by simp [nm] at hp⟩
theorem nm_ne {l : Tx} (h : l ≠ []) : nm l = pieces l := by unfold nm; rw [if_neg h]
theorem cmpI_len (x y : Tx) (h : x = [] ∨ y = []) : cmpI (x.length : Int) (y.length : Int) = cmpN (nm x) (nm y) := by
  have key : ∀ l : Tx, l ≠ [] → ∃ a t, nm l = a :: t := fun l hl => by
    rw [nm_ne hl]; exact List.exists_cons_of_ne_nil (pieces_ne l)
  by_cases hx : x = []
  · subst hx
    by_cases hy : y = []
    · subst hy; rfl
    · obtain ⟨a, t, e⟩ := key y hy
      have := List.length_pos_iff.2 hy
      rw [e]
      show cmpI 0 _ = -1
      unfold cmpI
      rw [if_pos (by omega)]
  · obtain rfl := h.resolve_left hx
    obtain ⟨a, t, e⟩ := key x hx
    have := List.length_pos_iff.2 hx
    rw [e]
    show cmpI _ 0 = 1
    unfold cmpI
    rw [if_neg (by omega), if_pos (by omega)]
theorem empty_of {x : ByteArray} (h : x.data.toList = []) : x = ByteArray.empty := data_inj h
set_option maxRecDepth 100000 in
set_option maxHeartbeats 1000000 in
theorem order_calls (a b : ByteArray) (w : World) (ha : isPath a.data.toList) (hb : isPath b.data.toList) (hsa : a.size ≤ 140737488351232) (hsb : b.size ≤ 140737488351232) :
    Calls Tryd.prog 31 #[.string a, .string b] w fun e w' => e = .returned (.int .i64 (cmpN (pieces a.data.toList) (pieces b.data.toList))) ∧ ∃ n, w' = w.drewN n := by
  have pa := Lib.hid (isPath_iff.1 ha).1
  have pb := Lib.hid (isPath_iff.1 hb).1
  have na : a.data.toList ≠ [] := by intro e; have := pa.out [] (by rw [e]; simp [pieces]); exact name_ne this rfl
  have nb : b.data.toList ≠ [] := by intro e; have := pb.out [] (by rw [e]; simp [pieces]); exact name_ne this rfl
  rw [← nm_ne na, ← nm_ne nb] at *
  replace na := Lib.hid na
  replace nb := Lib.hid nb
  clear ha hb
  generalize hr : cmpN (nm a.data.toList) (nm b.data.toList) = r at *
  replace hr := Lib.hid hr
  go_enter Tryd.func31, Tryd.ntmps31
  go_wp2
  go_loopg [0, 1, 5, 6] (a.size + 1) (fun g x y _ _ wx => ∃ (s t : ByteArray) (n : Nat), x = .string s ∧ y = .string t ∧ s.size + 1 ≤ g ∧ s.size ≤ a.size ∧ t.size ≤ b.size ∧ wx = w.drewN n ∧ Hid (cmpN (nm s.data.toList) (nm t.data.toList) = r ∧ (∀ p ∈ nm s.data.toList, isName p = true) ∧ ∀ p ∈ nm t.data.toList, isName p = true))
  case atStart => exact ⟨a, b, 0, rfl, rfl, by omega, by omega, by omega, rfl, Lib.hid ⟨hr.out, pa.out, pb.out⟩⟩
  case round =>
    obtain ⟨s, t, n, rfl, rfl, hg, hs, ht, rfl, hF⟩ := hrel
    obtain ⟨g', rfl⟩ : ∃ g', gk = g' + 1 := ⟨gk - 1, by omega⟩
    clear pa pb na nb hr
    have zs := Lib.hid (size_list s)
    have zt := Lib.hid (size_list t)
    by_cases hend : s.data.toList = [] ∨ t.data.toList = []
    · have hc := cmpI_len _ _ hend
      rw [← zs.out, ← zt.out, hF.out.1] at hc
      have fin : ∀ w : World, Calls Tryd.prog 48 #[.int .i64 (s.size : Int), .int .i64 (t.size : Int)] w fun e w' => e = .returned (.int .i64 r) ∧ w = w' := fun w => by rw [← hc]; exact CompareI_calls _ _ w
      replace fin := Lib.hid fin
      clear hc
      by_cases he : s.data.toList = []
      · have e1 : s.toList.isEmpty = true := by rw [ByteArray.toList_eq, he]; rfl
        clear he hend
        go_wp2_with fail
        refine (fin.out _).mono ?_
        rintro e w' ⟨rfl, rfl⟩
        go_wp2
        go_ret
        exact ⟨rfl, _, rfl⟩
      · have e2 : t.toList.isEmpty = true := by rw [ByteArray.toList_eq, hend.resolve_left he]; rfl
        have e1 : s.toList.isEmpty = false := by rw [ByteArray.toList_eq]; simpa using he
        clear he hend
        go_wp2_with fail
        refine (fin.out _).mono ?_
        rintro e w' ⟨rfl, rfl⟩
        go_wp2
        go_ret
        exact ⟨rfl, _, rfl⟩
    · have e1 : s.toList.isEmpty = false := by rw [ByteArray.toList_eq]; simpa using fun h => hend (Or.inl h)
      have e2 : t.toList.isEmpty = false := by rw [ByteArray.toList_eq]; simpa using fun h => hend (Or.inr h)
      have s1 : nm s.data.toList = pieces s.data.toList := nm_ne fun h => hend (Or.inl h)
      have t1 : nm t.data.toList = pieces t.data.toList := nm_ne fun h => hend (Or.inr h)
      have hF' := hF.out
      rw [s1, t1] at hF'
      replace hF' := Lib.hid hF'
      have ne1 := Lib.hid (show s.data.toList ≠ [] from fun h => hend (Or.inl h))
      clear hend s1 t1 hF
      go_wp2_with fail
      refine (Cut_calls s _ (by omega)).mono ?_
      rintro e w' ⟨⟨p, s', f1, rfl, c1⟩, n1, rfl⟩
      replace c1 := Lib.hid c1
      go_wp2_with fail
      refine (Cut_calls t _ (by omega)).mono ?_
      rintro e w' ⟨⟨q, t', f2, rfl, c2⟩, n2, rfl⟩
      replace c2 := Lib.hid c2
      obtain ⟨m1, m2⟩ := nm_cut c1.out hF'.out.2.1
      obtain ⟨m3, m4⟩ := nm_cut c2.out hF'.out.2.2
      have k1 := hF'.out.1
      rw [m1, m3] at k1
      simp only [cmpN] at k1
      by_cases hpq : p.data.toList = q.data.toList
      · rw [if_pos hpq] at k1
        have hq : (p.toList == q.toList) = true := by rw [ByteArray.toList_eq, ByteArray.toList_eq, hpq]; simp
        have l1 : s'.size ≤ g' - 1 ∧ s'.size ≤ a.size ∧ t'.size ≤ b.size ∧ 1 ≤ g' := by
          have := size_list s'
          have := size_list t'
          have h3 := c1.out.strict ne1.out
          have h4 := c2.out.shorter
          have h5 := zs.out
          have h6 := zt.out
          omega
        have key := Lib.hid (show cmpN (nm s'.data.toList) (nm t'.data.toList) = r ∧ (∀ p ∈ nm s'.data.toList, isName p = true) ∧ ∀ p ∈ nm t'.data.toList, isName p = true from ⟨k1, m2, m4⟩)
        clear k1 m1 m2 m3 m4 hpq c1 c2 hF'
        go_wp2
        go_roundg g'
        case measure => omega
        case rel => exact ⟨s', t', _, rfl, rfl, by omega, by omega, by omega, rfl, key⟩
      · rw [if_neg hpq] at k1
        have hq : (p.toList == q.toList) = false := by rw [ByteArray.toList_eq, ByteArray.toList_eq]; simpa using hpq
        have fin : ∀ w : World, Calls Tryd.prog 47 #[.string p, .string q] w fun e w' => e = .returned (.int .i64 r) ∧ w = w' := fun w => by rw [← k1]; exact CompareS_calls _ _ w
        replace fin := Lib.hid fin
        clear k1 m1 m2 m3 m4 hpq c1 c2 hF'
        go_wp2_with fail
        refine (fin.out _).mono ?_
        rintro e w' ⟨rfl, rfl⟩
        go_wp2
        go_ret
        exact ⟨rfl, _, rfl⟩
/-! ### lies, Compare, Within -/
theorem slash_pre (r : Tx) : pre [47] r = true ↔ ∃ t, r = 47 :: t := by rw [pre_iff]; rfl
theorem lies_iff {f p r : Tx} {b : Bool} (h : IsCutPrefix p f r b) : lies f p ↔ (b && pre [47] r) = true := by
  rw [Bool.and_eq_true, slash_pre]
  cases h with
  | hit r h =>
    simp only [true_and]
    unfold lies
    rw [h]
    constructor
    · rintro ⟨t, e⟩; exact ⟨t, List.append_cancel_left e⟩
    · rintro ⟨t, rfl⟩; exact ⟨t, rfl⟩
  | miss h =>
    simp only [Bool.false_eq_true, false_and, iff_false]
    rintro ⟨t, e⟩
    exact h ⟨_, e⟩
set_option maxRecDepth 100000 in
theorem lies_calls (f p : ByteArray) (w : World) :
    Calls Tryd.prog 33 #[.string f, .string p] w fun e w' => (∃ b, e = .returned (.bool b) ∧ (b = true ↔ lies f.data.toList p.data.toList)) ∧ w = w' := by
  go_enter Tryd.func33, Tryd.ntmps33
  go_wp2_with fail
  refine (CutPrefix_calls p f w).mono ?_
  rintro e w' ⟨⟨r, b, rfl, h⟩, rfl⟩
  have hl := Lib.hid (lies_iff h)
  clear h
  cases b with
  | false =>
    go_wp2
    go_ret
    exact ⟨⟨_, rfl, by rw [hl.out]; simp⟩, rfl⟩
  | true =>
    go_wp2_with fail
    refine (HasPrefix_calls r ⟨#[47]⟩ w).mono ?_
    rintro e w' ⟨rfl, rfl⟩
    generalize hx : pre (ByteArray.mk #[47]).data.toList r.data.toList = x
    replace hx := Lib.hid hx
    go_wp2
    go_ret
    exact ⟨⟨_, rfl, by rw [hl.out, Bool.true_and]; rw [← hx.out]⟩, rfl⟩
set_option maxRecDepth 100000 in
theorem Compare_calls (a b : ByteArray) (w : World) (ha : a.size ≤ 140737488351232) (hb : b.size ≤ 140737488351232) :
    Calls Tryd.prog 18 #[.string a, .string b] w fun e w' => e = .returned (.int .i64 (compare a.data.toList b.data.toList)) ∧ Below w.heap.size w w' := by
  generalize hr : compare a.data.toList b.data.toList = r
  unfold compare at hr
  have both := bothPaths_calls a b w ha hb
  by_cases h : fault a.data.toList = 0 ∧ fault b.data.toList = 0
  · rw [if_pos h] at hr
    have e1 : (decide (fault a.data.toList = 0) && decide (fault b.data.toList = 0)) = true := by simp [h]
    rw [e1] at both
    have ord := fun w => order_calls a b w h.1 h.2 ha hb
    rw [hr] at ord
    clear hr h e1
    go_enter Tryd.func18, Tryd.ntmps18
    go_wp2_with fail
    refine both.mono ?_
    rintro e w1 ⟨rfl, b1⟩
    replace b1 := Lib.hid b1
    go_wp2_with fail
    refine (ord w1).mono ?_
    rintro e w2 ⟨rfl, n, rfl⟩
    go_wp2
    go_ret
    exact ⟨rfl, below_drewN b1.out n⟩
  · rw [if_neg h] at hr
    have e1 : (decide (fault a.data.toList = 0) && decide (fault b.data.toList = 0)) = false := by
      rw [Bool.eq_false_iff]; simpa using h
    rw [e1] at both
    subst hr
    clear h e1
    go_enter Tryd.func18, Tryd.ntmps18
    go_wp2_with fail
    refine both.mono ?_
    rintro e w1 ⟨rfl, b1⟩
    replace b1 := Lib.hid b1
    go_wp2
    go_ret
    exact ⟨rfl, b1.out⟩
theorem within_iff {f p : Tx} : within f p = true ↔ fault f = 0 ∧ fault p = 0 ∧ lies f p := by
  unfold within
  rw [Bool.and_eq_true, Bool.and_eq_true, decide_eq_true_eq, decide_eq_true_eq, lies_under, and_assoc]
set_option maxRecDepth 100000 in
theorem Within_calls (a b : ByteArray) (w : World) (ha : a.size ≤ 140737488351232) (hb : b.size ≤ 140737488351232) :
    Calls Tryd.prog 20 #[.string a, .string b] w fun e w' => e = .returned (.bool (within a.data.toList b.data.toList)) ∧ Below w.heap.size w w' := by
  generalize hr : within a.data.toList b.data.toList = r
  have both := bothPaths_calls a b w ha hb
  by_cases h : fault a.data.toList = 0 ∧ fault b.data.toList = 0
  · have e1 : (decide (fault a.data.toList = 0) && decide (fault b.data.toList = 0)) = true := by simp [h]
    rw [e1] at both
    have hw : Hid (r = true ↔ lies a.data.toList b.data.toList) := Lib.hid (by rw [← hr, within_iff]; exact ⟨fun x => x.2.2, fun x => ⟨h.1, h.2, x⟩⟩)
    clear hr h e1
    go_enter Tryd.func20, Tryd.ntmps20
    go_wp2_with fail
    refine both.mono ?_
    rintro e w1 ⟨rfl, b1⟩
    replace b1 := Lib.hid b1
    go_wp2_with fail
    refine (lies_calls a b w1).mono ?_
    rintro e w2 ⟨⟨x, rfl, hx⟩, rfl⟩
    obtain rfl : x = r := by rw [Bool.eq_iff_iff, hx, hw.out]
    clear hx hw
    go_wp2
    go_ret
    exact ⟨rfl, b1.out⟩
  · have e1 : (decide (fault a.data.toList = 0) && decide (fault b.data.toList = 0)) = false := by
      rw [Bool.eq_false_iff]; simpa using h
    rw [e1] at both
    have hr' : r = false := by rw [← hr, Bool.eq_false_iff, ne_eq, within_iff]; exact fun x => h ⟨x.1, x.2.1⟩
    subst hr'
    clear h e1 hr
    go_enter Tryd.func20, Tryd.ntmps20
    go_wp2_with fail
    refine both.mono ?_
    rintro e w1 ⟨rfl, b1⟩
    replace b1 := Lib.hid b1
    go_wp2
    go_ret
    exact ⟨rfl, b1.out⟩
end Go.Proofs.YtokebgmlenlciaaDoor.Pa
