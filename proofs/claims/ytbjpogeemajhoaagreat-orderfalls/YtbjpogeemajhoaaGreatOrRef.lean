/-
  The document's place and met: where an Id stands in a list, and which facts are met from one on; old memory stays. Conditions: lists of no more than a hundred thousand.
-/
import Derived.Test.YtbjpogeemajhoaaGreatRows
import Derived.Test.YtbjpogeemajhoaaGreatOrMap
import Derived.Test.YtbjpogeemajhoaaGreatOrMet
import Derived.Test.YtbjpogeemajhoaaGreatOrBest
import Derived.Test.YtbjpogeemajhoaaGreatOrLog
import Derived.Deep.Cut
import Derived.Deep.LoopGhost
import Derived.Deep.OwnRows
import Derived.Laws.OwnMore
namespace Go.Proofs.YtbjpogeemajhoaaGreat.Or
open Go Go.RowKit

/-- where an Id stands first -/
def IsPlace (L : List Fx) (s : ByteArray) (p : Int) : Prop := (p = -1 ∧ ∀ x ∈ L, x.f.id ≠ s) ∨ ∃ (k : Nat) (x : Fx), p = k ∧ L[k]? = some x ∧ x.f.id = s ∧ ∀ j y, j < k → L[j]? = some y → y.f.id ≠ s
/-! ### which are met -/
/-- a row of flags in a block -/
def Flags (w : World) (g n : Nat) (B : Nat → Bool) : Prop := w.heap[g]? = some (.cells ((List.range n).map fun i => Value.bool (B i)).toArray 4 (0, 0))
def upd (B : Nat → Bool) (i : Nat) : Nat → Bool := fun j => decide (j = i) || B j
theorem Flags.lt {w : World} {g n : Nat} {B : Nat → Bool} (h : Flags w g n B) : g < w.heap.size := (Array.getElem?_eq_some_iff.1 h).1
theorem Flags.next {w w' : World} {g n : Nat} {B : Nat → Bool} (h : Flags w g n B) (b : Below w.heap.size w w') : Flags w' g n B := (b.block g h.lt).trans h
theorem Flags.cell {w : World} {g n : Nat} {B : Nat → Bool} (h : Flags w g n B) {i : Nat} (hi : i < n) : w.cell? ⟨g, i, none⟩ = some (.bool (B i)) := by
  simp [World.cell?, show w.heap[g]? = _ from h, List.getElem?_range hi]
theorem Flags.free {w : World} {g n : Nat} {B : Nat → Bool} (h : Flags w g n B) (i : Nat) : w.frozen? ⟨g, i, none⟩ = false := by
  simp [World.frozen?, show w.heap[g]? = _ from h]
theorem Flags.set {w : World} {g n : Nat} {B : Nat → Bool} (h : Flags w g n B) {i : Nat} (hi : i < n) : Flags (w.setCell ⟨g, i, none⟩ (.bool true)) g n (upd B i) := by
  have := set_at h (.bool true) (i := i) (by simpa using hi)
  refine this.trans ?_
  congr 2
  apply Array.ext'
  apply List.ext_getElem?
  intro j
  simp only [Array.toList_set, List.getElem?_set, List.length_map, List.length_range, List.getElem?_map]
  by_cases e : i = j
  · subst e
    rw [if_pos rfl, if_pos hi, List.getElem?_range hi]
    simp [upd]
  · rw [if_neg e]
    by_cases hj : j < n
    · have e' : ¬ j = i := fun q => e q.symm
      rw [List.getElem?_range hj]; simp [upd, e']
    · rw [List.getElem?_eq_none (by simpa using hj)]; rfl
theorem Flags.made (w : World) (n : Nat) : Flags (w.alloc (.cells (madeCells #[.bool false] n) 4)) w.heap.size n (fun _ => false) := by
  refine (heap_new w _).trans ?_
  congr 2
  apply Array.ext'
  rw [toList_madeCells_one]
  apply List.ext_getElem?
  intro j
  by_cases hj : j < n
  · simp [List.getElem?_replicate, hj, List.getElem?_range hj]
  · simp [List.getElem?_replicate, hj]
/-- how many are still unseen -/
def left (B : Nat → Bool) : Nat → Nat
  | 0 => 0
  | n + 1 => left B n + (if B n = true then 0 else 1)
theorem left_upd (B : Nat → Bool) (i : Nat) : ∀ n, left (upd B i) n ≤ left B n ∧ (i < n → B i = false → left (upd B i) n + 1 ≤ left B n)
  | 0 => ⟨Nat.le_refl _, fun h => absurd h (Nat.not_lt_zero _)⟩
  | n + 1 => by
    obtain ⟨h1, h2⟩ := left_upd B i n
    have hn : upd B i n = (decide (n = i) || B n) := rfl
    refine ⟨?_, fun hi hB => ?_⟩
    · show left (upd B i) n + (if upd B i n = true then 0 else 1) ≤ left B n + (if B n = true then 0 else 1)
      rw [hn]
      by_cases e : n = i
      · subst e
        rw [if_pos (by simp)]; omega
      · simp only [e, decide_false, Bool.false_or]; omega
    · show left (upd B i) n + (if upd B i n = true then 0 else 1) + 1 ≤ left B n + (if B n = true then 0 else 1)
      rw [hn]
      by_cases e : n = i
      · subst e; rw [hB]; simp; exact h1
      · have := h2 (by omega) hB
        simp only [e, decide_false, Bool.false_or]; omega
/-- on the way -/
structure Seen (L : List Fx) (x : ByteArray) (B : Nat → Bool) (wh : Bool) : Prop where
  met : ∀ i y, L[i]? = some y → B i = true → Met (plain L) x y.f
  first : ∀ i y, L[i]? = some y → y.f.id = x → B i = true
  hole : wh = false → ¬ Whole (plain L) x
/-- of fact i the parents among P are seen -/
def Clos (L : List Fx) (B : Nat → Bool) (wh : Bool) (i : Nat) (P : Fx → List ByteArray) : Prop :=
  ∀ y, L[i]? = some y → B i = true → ∀ z ∈ P y, (∀ j g, L[j]? = some g → g.f.id = z → B j = true) ∧ ((∀ g ∈ L, g.f.id ≠ z) → wh = false)
theorem Clos.wh {L : List Fx} {B : Nat → Bool} {wh : Bool} {i : Nat} {P : Fx → List ByteArray} (h : Clos L B wh i P) : Clos L B false i P := fun y hy hB z hz => ⟨(h y hy hB z hz).1, fun _ => rfl⟩
theorem place_one {L : List Fx} (ho : (L.map fun y => y.f.id).Nodup) {i j : Nat} {y g : Fx} (hi : L[i]? = some y) (hj : L[j]? = some g) (e : y.f.id = g.f.id) : i = j ∧ y = g := by
  have := one_of ho (List.mem_of_getElem? hi) (List.mem_of_getElem? hj) e
  subst this
  refine ⟨?_, rfl⟩
  have hi' := List.getElem?_eq_some_iff.1 hi
  have hj' := List.getElem?_eq_some_iff.1 hj
  obtain ⟨hi1, hi2⟩ := hi'
  obtain ⟨hj1, hj2⟩ := hj'
  rcases Nat.lt_trichotomy i j with h | h | h
  · have := List.pairwise_iff_getElem.1 ho i j (by simpa using hi1) (by simpa using hj1) h
    simp only [List.getElem_map, hi2, hj2, ne_eq, not_true_eq_false] at this
  · exact h
  · have := List.pairwise_iff_getElem.1 ho j i (by simpa using hj1) (by simpa using hi1) h
    simp only [List.getElem_map, hi2, hj2, ne_eq, not_true_eq_false] at this
theorem Seen.start {L : List Fx} (ho : (L.map fun y => y.f.id).Nodup) {i : Nat} {y : Fx} (hi : L[i]? = some y) : Seen L y.f.id (upd (fun _ => false) i) true := by
  refine ⟨fun j g hj hB => ?_, fun j g hj e => ?_, fun h => by cases h⟩
  · have : j = i := by simpa [upd] using hB
    subst this
    rw [hi] at hj; cases hj
    exact .here (List.mem_map.2 ⟨_, List.mem_of_getElem? hi, rfl⟩) rfl
  · obtain ⟨rfl, _⟩ := place_one ho hj hi e
    simp [upd]
/-- a parent that is new -/
theorem Seen.new {L : List Fx} {x : ByteArray} {B : Nat → Bool} {wh : Bool} (h : Seen L x B wh) {i j : Nat} {y g : Fx} (hi : L[i]? = some y) (hB : B i = true) (hj : L[j]? = some g) (hp : g.f.id ∈ y.f.pars) : Seen L x (upd B j) wh := by
  refine ⟨fun k q hk hBk => ?_, fun k q hk e => ?_, h.hole⟩
  · have : k = j ∨ B k = true := by simpa [upd] using hBk
    rcases this with rfl | hBk
    · rw [hj] at hk; cases hk
      exact .next (h.met i y hi hB) (List.mem_map.2 ⟨_, List.mem_of_getElem? hj, rfl⟩) hp
    · exact h.met k q hk hBk
  · simp [upd, h.first k q hk e]
/-- a parent that is none's -/
theorem Seen.lack {L : List Fx} {x : ByteArray} {B : Nat → Bool} {wh : Bool} (h : Seen L x B wh) {i : Nat} {y : Fx} (hi : L[i]? = some y) (hB : B i = true) {z : ByteArray} (hz : z ∈ y.f.pars) (hno : ∀ g ∈ L, g.f.id ≠ z) : Seen L x B false := by
  refine ⟨h.met, h.first, fun _ hw => ?_⟩
  obtain ⟨g, hg, e⟩ := hw y.f (h.met i y hi hB) z hz
  obtain ⟨q, hq, rfl⟩ := List.mem_map.1 hg
  exact hno q hq e
/-- all are closed: just what is met -/
theorem Seen.done {L : List Fx} {x : ByteArray} {B : Nat → Bool} {wh : Bool} (h : Seen L x B wh) (hc : ∀ i, i < L.length → Clos L B wh i (fun y => y.f.pars)) : (∀ i y, L[i]? = some y → (B i = true ↔ Met (plain L) x y.f)) ∧ (wh = true ↔ Whole (plain L) x) := by
  have key : ∀ f, Met (plain L) x f → ∀ i y, L[i]? = some y → y.f = f → B i = true := fun f hf => by
    induction hf with
    | here h1 h2 => intro i y hi e; exact h.first i y hi (by rw [e, h2])
    | next h1 h2 h3 ih =>
      intro i y hi e
      obtain ⟨q, hq, e2⟩ := List.mem_map.1 h1.mem
      obtain ⟨j, hj, rfl⟩ := List.mem_iff_getElem.1 hq
      have hj' := List.getElem?_eq_getElem hj
      exact (hc j hj _ hj' (ih j _ hj' e2) y.f.id (by show y.f.id ∈ (L[j]).f.pars; rw [e2, e]; exact h3)).1 i y hi rfl
  refine ⟨fun i y hi => ⟨h.met i y hi, fun hm => key _ hm i y hi rfl⟩, ?_, fun hw => ?_⟩
  · intro ht f hf z hz
    obtain ⟨q, hq, e2⟩ := List.mem_map.1 hf.mem
    obtain ⟨j, hj, rfl⟩ := List.mem_iff_getElem.1 hq
    have hj' := List.getElem?_eq_getElem hj
    refine Classical.byContradiction fun hno => ?_
    have := (hc j hj _ hj' (key f hf j _ hj' e2) z (by show z ∈ (L[j]).f.pars; rw [e2]; exact hz)).2 fun g hg e => hno ⟨g.f, List.mem_map.2 ⟨g, hg, rfl⟩, e⟩
    rw [ht] at this; cases this
  · cases wh with
    | true => rfl
    | false => exact absurd hw (h.hole rfl)
theorem set_new (w : World) (cs : Array Value) (t : TypeId) (i : Nat) (v : Value) : (w.alloc (.cells cs t)).setCell ⟨w.heap.size, i, none⟩ v = w.alloc (.cells (cs.setIfInBounds i v) t) := by
  rw [World.setCell_alloc_new]
/-- in a pass: the facts up to i are closed, if nothing has been seen anew -/
structure Pass (L : List Fx) (x : ByteArray) (B : Nat → Bool) (wh gr : Bool) (c0 n : Nat) (i : Nat) : Prop where
  seen : Seen L x B wh
  clos : gr = false → ∀ j, j < i → Clos L B wh j (fun y => y.f.pars)
  cnt : left B n ≤ c0
  more : gr = true → left B n + 1 ≤ c0
theorem wrapN (k : Nat) (h : k < 1000000) : IntKind.i64.wrap ((k : Int) + 1) = ((k + 1 : Nat) : Int) := by simp [IntKind.wrap, IntKind.bits, IntKind.signed]; omega
end Go.Proofs.YtbjpogeemajhoaaGreat.Or
