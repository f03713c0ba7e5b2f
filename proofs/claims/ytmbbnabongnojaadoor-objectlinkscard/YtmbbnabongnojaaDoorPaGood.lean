/-
  path's Good, fault, bothPaths, order, lies, Compare, Within answer as the plain functions say; old memory stays. Conditions: texts of the form's reach.
-/
import Derived.Test.YtmbbnabongnojaaDoorRows
import Derived.Test.YtmbbnabongnojaaDoorPaPlain
import Derived.Test.YtmbbnabongnojaaDoorPaLib
import Derived.Test.YtmbbnabongnojaaDoorPaRune
import Derived.Test.YtmbbnabongnojaaDoorPaShelf
import Derived.Test.YtmbbnabongnojaaDoorOctKit
import Derived.WalkKit
import Derived.WalkSpells
import Derived.WalkLawsBesides
import Derived.ProofKit
import Derived.OpenShut
import Derived.Laws.BytesArg
import Derived.Laws.Externs
import Derived.Deep.QuietTactic
import Derived.BigQuiet
import Derived.BigRegion
import Derived.Lib.Hide
import Derived.Lib.Bytealg
import Derived.IntWalk
import Derived.Deep.LoopGhost
namespace Go.Proofs.YtmbbnabongnojaaDoor.Pa
open Go.RowKit

theorem clean_iff (s : ByteArray) : Clean s s.size ↔ 47 ∉ s.data.toList ∧ 0 ∉ s.data.toList := by
  unfold Clean
  constructor
  · intro h
    constructor <;> intro hm <;> obtain ⟨j, hj, e⟩ := List.getElem_of_mem hm
    · have := (h j (by rw [size_list]; exact hj)).1
      rw [List.getD_eq_getElem?_getD, List.getElem?_eq_getElem hj] at this
      exact this e
    · have := (h j (by rw [size_list]; exact hj)).2
      rw [List.getD_eq_getElem?_getD, List.getElem?_eq_getElem hj] at this
      exact this e
  · rintro ⟨h1, h2⟩ j hj
    rw [size_list] at hj
    rw [List.getD_eq_getElem?_getD, List.getElem?_eq_getElem hj]
    exact ⟨fun e => h1 (e ▸ List.getElem_mem hj), fun e => h2 (e ▸ List.getElem_mem hj)⟩
theorem indexAny_iff (l : Tx) : 0 ≤ Lib.indexAny l [47, 0] ↔ ¬ (47 ∉ l ∧ 0 ∉ l) := by
  induction l with
  | nil => simp [Lib.indexAny]
  | cons c l ih =>
    have hge := Lib.indexAny_ge [47, 0] l
    unfold Lib.indexAny
    by_cases hc : c = 47 ∨ c = 0
    · have : ([47, 0] : Tx).contains c = true := by rcases hc with rfl | rfl <;> rfl
      rw [this]
      simp only [if_true]
      constructor
      · rintro - ⟨h1, h2⟩
        rcases hc with rfl | rfl
        · exact h1 (by simp)
        · exact h2 (by simp)
      · intro _; decide
    · have h1 : c ≠ 47 := fun e => hc (Or.inl e)
      have h2 : c ≠ 0 := fun e => hc (Or.inr e)
      have : ([47, 0] : Tx).contains c = false := by simp [h1, h2]
      rw [this]
      simp only [Bool.false_eq_true, if_false, List.mem_cons, not_or]
      rw [show (47 ≠ c ∧ 47 ∉ l) ∧ 0 ≠ c ∧ 0 ∉ l ↔ 47 ∉ l ∧ 0 ∉ l from ⟨fun h => ⟨h.1.2, h.2.2⟩, fun h => ⟨⟨fun e => h1 e.symm, h.1⟩, fun e => h2 e.symm, h.2⟩⟩, ← ih]
      split
      · rename_i e; have := beq_iff_eq.1 e; rw [this]
      · rename_i e
        have : Lib.indexAny l [47, 0] ≠ -1 := fun k => e (beq_iff_eq.2 k)
        omega
theorem IndexAny_calls (s : ByteArray) (hs : s.size < 4294967281) (w : World) :
    Calls Tryd.prog 110 #[.string s, .string ⟨#[47, 0]⟩] w fun e w' => (∃ n : Int, e = .returned (.int .i64 n) ∧ (0 ≤ n ↔ ¬ Clean s s.size)) ∧ Below w.heap.size w w' := by
  by_cases h8 : s.size ≤ 8
  · exact IndexAny_short s h8 w
  · have h116 : (Tryd.prog.info? 137).map (fun i => (i.zero, i.size)) = some (some (.agg (Array.replicate 256 (.bool false))), 256) := by kernel_rfl
    have hz := zero_of_info h116
    have h := Any.strings_IndexAny_long Tryd.lays153 hz.1 hz.2 s ⟨#[47, 0]⟩ w (by decide) (by omega) hs (by decide) (by
      intro j b hb
      match j, hb with
      | 0, hb => cases hb; decide
      | 1, hb => cases hb; decide
      | j + 2, hb => simp at hb)
    refine h.mono fun e w' ⟨he, hw⟩ => ⟨⟨_, he, ?_⟩, ?_⟩
    · rw [clean_iff]; exact indexAny_iff _
    · rw [hw]
      exact ((Below.refl _ _).alloc (Nat.le_refl _) _).alloc (by simp) _
theorem ContainsAny_calls (s : ByteArray) (hs : s.size < 4294967281) (w : World) :
    Calls Tryd.prog 100 #[.string s, .string ⟨#[47, 0]⟩] w fun e w' => (∃ b, e = .returned (.bool b) ∧ (b = true ↔ ¬ Clean s s.size)) ∧ Below w.heap.size w w' := by
  go_enter Tryd.func100, Tryd.ntmps100
  go_wp2_with fail
  refine (IndexAny_calls s hs w).mono ?_
  rintro e w' ⟨⟨n, rfl, hn⟩, bel⟩
  replace hn := Lib.hid hn
  replace bel := Lib.hid bel
  go_wp2
  go_ret
  exact ⟨⟨_, rfl, by rw [decide_eq_true_eq]; exact hn.out⟩, bel.out⟩
theorem name_iff (l : Tx) (h0 : l ≠ []) (h1 : l ≠ [46]) (h2 : l ≠ [46, 46]) : isName l = (decide (l.length ≤ 255) && decide (47 ∉ l ∧ 0 ∉ l)) := by
  have := List.length_pos_iff.2 h0
  rw [Bool.eq_iff_iff]
  simp [isName, h1, h2, show 1 ≤ l.length from this, and_assoc]
set_option maxRecDepth 100000 in
theorem Good_calls (s : ByteArray) (w : World) :
    Calls Tryd.prog 83 #[.string s] w fun e w' => e = .returned (.bool (isName s.data.toList)) ∧ Below w.heap.size w w' := by
  by_cases h0 : s = ⟨#[]⟩
  · subst h0
    go_enter Tryd.func83, Tryd.ntmps83
    go_wp2
    go_ret
    exact ⟨rfl, Below.refl _ _⟩
  by_cases h1 : s = ⟨#[46]⟩
  · subst h1
    go_enter Tryd.func83, Tryd.ntmps83
    go_wp2
    go_ret
    exact ⟨rfl, Below.refl _ _⟩
  by_cases h2 : s = ⟨#[46, 46]⟩
  · subst h2
    go_enter Tryd.func83, Tryd.ntmps83
    go_wp2
    go_ret
    exact ⟨rfl, Below.refl _ _⟩
  have g0 : s.data.toList ≠ [] := fun e => h0 (data_inj e)
  have g1 : s.data.toList ≠ [46] := fun e => h1 (data_inj e)
  have g2 : s.data.toList ≠ [46, 46] := fun e => h2 (data_inj e)
  have e0 : s.toList.isEmpty = false := by rw [ByteArray.toList_eq]; simpa using g0
  have e1 : (s.toList == [46]) = false := by rw [ByteArray.toList_eq]; simpa using g1
  have e2 : (s.toList == [46, 46]) = false := by rw [ByteArray.toList_eq]; simpa using g2
  rw [name_iff _ g0 g1 g2, ← size_list]
  clear g0 g1 g2 h0 h1 h2
  by_cases h3 : s.size ≤ 255
  · have h4 : (s.size : Int) ≤ 255 := by omega
    have h5 : decide (s.size ≤ 255) = true := decide_eq_true h3
    rw [h5, Bool.true_and]
    generalize hx : decide (47 ∉ s.data.toList ∧ 0 ∉ s.data.toList) = x
    replace hx := Lib.hid hx
    go_enter Tryd.func83, Tryd.ntmps83
    go_wp2_with fail
    refine (ContainsAny_calls s (by omega) w).mono ?_
    rintro e w' ⟨⟨b, rfl, hb⟩, bel⟩
    replace hb := Lib.hid hb
    replace bel := Lib.hid bel
    go_wp2
    go_ret
    refine ⟨Oct.ret_bool ?_, bel.out⟩
    have := hb.out
    rw [clean_iff] at this
    rw [← hx.out]
    cases b
    · simp at this; simp [this]
    · simp only [true_iff] at this; rw [eq_comm, Bool.not_true, decide_eq_false_iff_not]; exact this
  · have h4 : ¬ (s.size : Int) ≤ 255 := by omega
    have h5 : decide (s.size ≤ 255) = false := decide_eq_false h3
    rw [h5, Bool.false_and]
    go_enter Tryd.func83, Tryd.ntmps83
    go_wp2
    go_ret
    exact ⟨rfl, Below.refl _ _⟩
/-! ### fault -/
theorem IsCut.shorter {l a b : Tx} {f : Bool} (h : IsCut l a b f) : b.length ≤ l.length := by
  cases h with
  | hit a b h no => rw [h]; simp; omega
  | miss => simp
theorem IsCut.miss_rest {l a b : Tx} (h : IsCut l a b false) : b = [] ∧ a = l := by cases h; exact ⟨rfl, rfl⟩
theorem IsCut.hit_len {l a b : Tx} (h : IsCut l a b true) : b.length + 1 ≤ l.length := by
  cases h with
  | hit _ _ h no => rw [h]; simp
theorem IsCut.strict {l a b : Tx} {f : Bool} (h : IsCut l a b f) (hl : l ≠ []) : b.length < l.length := by
  cases f with
  | true => exact h.hit_len
  | false => rw [h.miss_rest.1]; exact List.length_pos_iff.2 hl
theorem fault_hit {l a b : Tx} (h : IsCut l a b true) : pieces l = a :: pieces b := by
  cases h with
  | hit _ _ h no => rw [h, pieces_slash _ _ no]
theorem fault_miss {l a b : Tx} (h : IsCut l a b false) : pieces l = [a] := by
  cases h with
  | miss no => exact pieces_one _ no
theorem pieces_le (l : Tx) : (pieces l).length ≤ l.length + 1 := by
  induction l with
  | nil => simp [pieces]
  | cons c l ih =>
    unfold pieces
    split
    · simp; omega
    · have := List.length_pos_iff.2 (pieces_ne l)
      simp; omega
/-- fault, as its loop goes: so many pieces done, all of them names -/
def FaultAt (l r : Tx) (d : Nat) (more : Bool) : Prop :=
  if more then (pieces l).length = d + (pieces r).length ∧ (pieces l).all isName = (pieces r).all isName else (pieces l).length = d ∧ (pieces l).all isName = true
theorem below_drewN {B : Nat} {a w : World} (h : Below B a w) (n : Nat) : Below B a (w.drewN n) := ⟨h.os, h.tape, h.output, h.size, h.block⟩
/-! ### order -/
/-- the names of what is left of a path: none, if nothing is -/
def nm (r : Tx) : List Tx := if r = [] then [] else pieces r
theorem nm_cut {l a b : Tx} {f : Bool} (h : IsCut l a b f) (hall : ∀ p ∈ pieces l, isName p = true) : pieces l = a :: nm b ∧ ∀ p ∈ nm b, isName p = true := by
  cases f with
  | true =>
    have e := fault_hit h
    rw [e] at hall
    have hb : b ≠ [] := by
      rintro rfl
      have := hall [] (by simp [pieces])
      exact name_ne this rfl
    unfold nm
    rw [if_neg hb, e]
    exact ⟨rfl, fun p hp => hall p (List.mem_cons_of_mem _ hp)⟩
  | false =>
    have e := fault_miss h
    have hb := h.miss_rest.1
    subst hb
    rw [e]
    exact ⟨rfl, fun p hp => by simp [nm] at hp⟩
theorem nm_ne {l : Tx} (h : l ≠ []) : nm l = pieces l := by unfold nm; rw [if_neg h]
theorem cmpI_len (x y : Tx) (h : x = [] ∨ y = []) : cmpI (x.length : Int) (y.length : Int) = cmpN (nm x) (nm y) := by
  have key : ∀ l : Tx, l ≠ [] → ∃ a t, nm l = a :: t := fun l hl => by
    rw [nm_ne hl]; exact List.exists_cons_of_ne_nil (pieces_ne l)
  by_cases hx : x = []
  · subst hx
    by_cases hy : y = []
    · subst hy; rfl
    · obtain ⟨a, t, e⟩ := key y hy
      have := List.length_pos_iff.2 hy
      rw [e]
      show cmpI 0 _ = -1
      unfold cmpI
      rw [if_pos (by omega)]
  · obtain rfl := h.resolve_left hx
    obtain ⟨a, t, e⟩ := key x hx
    have := List.length_pos_iff.2 hx
    rw [e]
    show cmpI _ 0 = 1
    unfold cmpI
    rw [if_neg (by omega), if_pos (by omega)]
theorem empty_of {x : ByteArray} (h : x.data.toList = []) : x = ByteArray.empty := data_inj h
/-! ### lies, Compare, Within -/
theorem slash_pre (r : Tx) : pre [47] r = true ↔ ∃ t, r = 47 :: t := by rw [pre_iff]; rfl
theorem lies_iff {f p r : Tx} {b : Bool} (h : IsCutPrefix p f r b) : lies f p ↔ (b && pre [47] r) = true := by
  rw [Bool.and_eq_true, slash_pre]
  cases h with
  | hit r h =>
    simp only [true_and]
    unfold lies
    rw [h]
    constructor
    · rintro ⟨t, e⟩; exact ⟨t, List.append_cancel_left e⟩
    · rintro ⟨t, rfl⟩; exact ⟨t, rfl⟩
  | miss h =>
    simp only [Bool.false_eq_true, false_and, iff_false]
    rintro ⟨t, e⟩
    exact h ⟨_, e⟩
theorem within_iff {f p : Tx} : within f p = true ↔ fault f = 0 ∧ fault p = 0 ∧ lies f p := by
  unfold within
  rw [Bool.and_eq_true, Bool.and_eq_true, decide_eq_true_eq, decide_eq_true_eq, lies_under, and_assoc]
end Go.Proofs.YtmbbnabongnojaaDoor.Pa
