/-
  Layer 11 as plain functions: facts, how they stand, what is met from one on, whose heights are right, logs; of no program. Conditions: none.
-/
import Derived.Test.YtbjpogeemajhoaaGreatShPlain
namespace Go.Proofs.YtbjpogeemajhoaaGreat.Or
open Go
open Sh (Key)
open Sh.Key (lt)

/-- a fact -/
structure Fct where
  id : ByteArray
  high : Int
  pars : List ByteArray
instance : Inhabited Fct := ⟨⟨ByteArray.empty, 0, []⟩⟩
/-- one stands below another one -/
def under (a b : Fct) : Prop := a.high < b.high ∨ (a.high = b.high ∧ lt a.id b.id = true)
instance (a b : Fct) : Decidable (under a b) := by unfold under; exact inferInstance
theorem under_irr (a : Fct) : ¬ under a a := fun h => by
  rcases h with h | ⟨_, h⟩
  · omega
  · rw [Key.irr] at h; cases h
theorem under_tra {a b c : Fct} (h : under a b) (g : under b c) : under a c := by
  rcases h with h | ⟨h1, h2⟩
  · rcases g with g | ⟨g, _⟩
    · exact Or.inl (by omega)
    · exact Or.inl (by omega)
  · rcases g with g | ⟨g1, g2⟩
    · exact Or.inl (by omega)
    · exact Or.inr ⟨by omega, Key.tra _ _ _ h2 g2⟩
theorem under_asym {a b : Fct} (h : under a b) : ¬ under b a := fun g => under_irr a (under_tra h g)
theorem under_tri (a b : Fct) : under a b ∨ (a.high = b.high ∧ a.id = b.id) ∨ under b a := by
  rcases Int.lt_trichotomy a.high b.high with h | h | h
  · exact Or.inl (Or.inl h)
  · rcases Key.tri a.id b.id with g | g | g
    · exact Or.inl (Or.inr ⟨h, g⟩)
    · exact Or.inr (Or.inl ⟨h, g⟩)
    · exact Or.inr (Or.inr (Or.inr ⟨h.symm, g⟩))
  · exact Or.inr (Or.inr (Or.inl h))
/-- like facts stand alike to others -/
theorem under_like {a b c : Fct} (h1 : a.high = b.high) (h2 : a.id = b.id) : under a c ↔ under b c := by unfold under; rw [h1, h2]
theorem like_under {a b c : Fct} (h1 : a.high = b.high) (h2 : a.id = b.id) : under c a ↔ under c b := by unfold under; rw [h1, h2]
/-- how two stand -/
def cmp (a b : Fct) : Int := if under a b then -1 else if under b a then 1 else 0
theorem cmp_zero {a b : Fct} : cmp a b = 0 ↔ a.high = b.high ∧ a.id = b.id := by
  unfold cmp
  rcases under_tri a b with h | h | h
  · rw [if_pos h]
    exact ⟨fun g => by omega, fun ⟨g1, g2⟩ => absurd ((under_like g1 g2).1 h) (under_irr b)⟩
  · rw [if_neg fun g => under_irr b ((under_like h.1 h.2).1 g), if_neg fun g => under_irr b ((like_under h.1 h.2).1 g)]
    exact ⟨fun _ => h, fun _ => rfl⟩
  · rw [if_neg (under_asym h), if_pos h]
    exact ⟨fun g => by omega, fun ⟨g1, g2⟩ => absurd ((like_under g1 g2).1 h) (under_irr b)⟩
theorem cmp_turn (a b : Fct) : cmp b a = - cmp a b := by
  unfold cmp
  by_cases h : under a b
  · rw [if_pos h, if_pos h, if_neg (under_asym h)]; rfl
  · rw [if_neg h, if_neg h]
    by_cases g : under b a
    · rw [if_pos g, if_pos g]
    · rw [if_neg g, if_neg g]; rfl
theorem cmp_pos {a b : Fct} : 0 < cmp a b ↔ under b a := by
  unfold cmp
  by_cases h : under a b
  · rw [if_pos h]; exact ⟨fun g => by omega, fun g => absurd g (under_asym h)⟩
  · rw [if_neg h]
    by_cases g : under b a
    · rw [if_pos g]; exact ⟨fun _ => g, fun _ => by omega⟩
    · rw [if_neg g]; exact ⟨fun g' => by omega, fun g' => absurd g' g⟩
theorem cmp_neg {a b : Fct} : cmp a b < 0 ↔ under a b := by
  have := cmp_pos (a := b) (b := a)
  rw [cmp_turn a b] at this
  rw [← this]; omega
theorem cmp_one (a b : Fct) : cmp a b = -1 ∨ cmp a b = 0 ∨ cmp a b = 1 := by
  unfold cmp
  split
  · exact Or.inl rfl
  · split
    · exact Or.inr (Or.inr rfl)
    · exact Or.inr (Or.inl rfl)

/-- the best of a list: the first one above which none stands -/
def IsBest (L : List Fct) (i : Nat) (x : Fct) : Prop := L[i]? = some x ∧ (∀ y ∈ L, ¬ under x y) ∧ ∀ j y, j < i → L[j]? = some y → under y x
theorem IsBest.unique {L : List Fct} {i j : Nat} {x y : Fct} (h : IsBest L i x) (g : IsBest L j y) : i = j ∧ x = y := by
  have key : ∀ {i j : Nat} {x y : Fct}, IsBest L i x → IsBest L j y → ¬ i < j := fun h g hlt =>
    h.2.1 _ (List.mem_of_getElem? g.1) (g.2.2 _ _ hlt h.1)
  have e : i = j := by
    rcases Nat.lt_trichotomy i j with k | k | k
    · exact absurd k (key h g)
    · exact k
    · exact absurd k (key g h)
  subst e
  exact ⟨rfl, Option.some.inj (h.1.symm.trans g.1)⟩
/-- the best so far, and one more -/
theorem IsBest.more {L : List Fct} {i : Nat} {x : Fct} (h : IsBest L i x) (y : Fct) (hy : ¬ under x y) : IsBest (L ++ [y]) i x := by
  have hi : i < L.length := (List.getElem?_eq_some_iff.1 h.1).1
  refine ⟨by rw [List.getElem?_append_left hi]; exact h.1, fun z hz => ?_, fun j z hj hz => ?_⟩
  · rcases List.mem_append.1 hz with hz | hz
    · exact h.2.1 z hz
    · rw [List.mem_singleton] at hz; subst hz; exact hy
  · rw [List.getElem?_append_left (by omega)] at hz; exact h.2.2 j z hj hz
theorem IsBest.over {L : List Fct} {i : Nat} {x : Fct} (h : IsBest L i x) (y : Fct) (hy : under x y) : IsBest (L ++ [y]) L.length y := by
  have all : ∀ z ∈ L, under z y := fun z hz => by
    rcases under_tri z x with g | g | g
    · exact under_tra g hy
    · exact (under_like g.1 g.2).2 hy
    · exact absurd g (h.2.1 z hz)
  refine ⟨by simp, fun z hz => ?_, fun j z hj hz => ?_⟩
  · rcases List.mem_append.1 hz with hz | hz
    · exact under_asym (all z hz)
    · rw [List.mem_singleton] at hz; subst hz; exact under_irr z
  · rw [List.getElem?_append_left hj] at hz; exact all z (List.mem_of_getElem? hz)
theorem IsBest.one (x : Fct) : IsBest [x] 0 x := ⟨rfl, fun y hy => by rw [List.mem_singleton] at hy; subst hy; exact under_irr y, fun j y hj _ => absurd hj (Nat.not_lt_zero _)⟩

/-! ### logs -/
/-- no two facts have one Id -/
def Once (L : List Fct) : Prop := (L.map Fct.id).Nodup
theorem once_eq {L : List Fct} (h : Once L) {f g : Fct} (hf : f ∈ L) (hg : g ∈ L) (e : f.id = g.id) : f = g := by
  obtain ⟨i, hi, rfl⟩ := List.mem_iff_getElem.1 hf
  obtain ⟨j, hj, rfl⟩ := List.mem_iff_getElem.1 hg
  have key : ∀ {i j : Nat} (hi : i < L.length) (hj : j < L.length), L[i].id = L[j].id → ¬ i < j := fun {i j} hi hj e hlt => by
    have := List.pairwise_iff_getElem.1 h i j (by simpa using hi) (by simpa using hj) hlt
    simp only [List.getElem_map, ne_eq] at this
    exact this e
  have : i = j := by
    rcases Nat.lt_trichotomy i j with k | k | k
    · exact absurd k (key hi hj e)
    · exact k
    · exact absurd k (key hj hi e.symm)
  subst this; rfl
/-- what is met from an Id on, by parents -/
inductive Met (L : List Fct) (x : ByteArray) : Fct → Prop
  | here {f : Fct} : f ∈ L → f.id = x → Met L x f
  | next {f g : Fct} : Met L x f → g ∈ L → g.id ∈ f.pars → Met L x g
theorem Met.mem {L : List Fct} {x : ByteArray} {f : Fct} (h : Met L x f) : f ∈ L := by cases h <;> assumption
/-- whatever holds of from, and goes on to parents, holds of all that are met -/
theorem Met.closed {L : List Fct} {x : ByteArray} {S : Fct → Prop} (h0 : ∀ f ∈ L, f.id = x → S f) (h1 : ∀ f g, S f → g ∈ L → g.id ∈ f.pars → S g) {f : Fct} (h : Met L x f) : S f := by
  induction h with
  | here h1 h2 => exact h0 _ h1 h2
  | next _ hg hp ih => exact h1 _ _ ih hg hp
theorem Met.trans {L : List Fct} {x : ByteArray} {f g : Fct} (h : Met L x f) (k : Met L f.id g) (ho : Once L) : Met L x g := by
  induction k with
  | here h1 h2 => rw [once_eq ho h1 h.mem h2]; exact h
  | next _ hg hp ih => exact .next ih hg hp
/-- all parents of what is met are facts -/
def Whole (L : List Fct) (x : ByteArray) : Prop := ∀ f, Met L x f → ∀ z ∈ f.pars, ∃ g ∈ L, g.id = z
/-- the heights of a fact's parents, in their order -/
def highs (L : List Fct) (P : List ByteArray) : List Int := P.map fun z => ((L.find? fun g => decide (g.id = z)).map Fct.high).getD 0
/-- layer 6's height of some heights -/
def height (N : List Int) : Int := match N with
  | [] => 0
  | n :: r => r.foldl max n + 1
def Right (L : List Fct) (f : Fct) : Prop := f.high = height (highs L f.pars)
instance (L : List Fct) (f : Fct) : Decidable (Right L f) := by unfold Right; exact inferInstance
/-- the facts of a log: those that are met, falling -/
structure IsRow (L : List Fct) (x : ByteArray) (F : List Fct) : Prop where
  falls : F.Pairwise fun a b => under b a
  mem : ∀ f, f ∈ F ↔ Met L x f
theorem fall_one : ∀ {F G : List Fct}, F.Pairwise (fun a b => under b a) → G.Pairwise (fun a b => under b a) → (∀ f, f ∈ F ↔ f ∈ G) → F = G
  | [], [], _, _, _ => rfl
  | [], y :: G, _, _, h => absurd ((h y).2 (by simp)) (by simp)
  | x :: F, [], _, _, h => absurd ((h x).1 (by simp)) (by simp)
  | x :: F, y :: G, hF, hG, h => by
    obtain ⟨f1, f2⟩ := List.pairwise_cons.1 hF
    obtain ⟨g1, g2⟩ := List.pairwise_cons.1 hG
    have e : x = y := by
      rcases List.mem_cons.1 ((h x).1 (by simp)) with e | hx
      · exact e
      · rcases List.mem_cons.1 ((h y).2 (by simp)) with e | hy
        · exact e.symm
        · exact absurd (g1 x hx) (under_asym (f1 y hy))
    subst e
    rw [fall_one f2 g2 fun f => ?_]
    constructor
    · intro hf
      rcases List.mem_cons.1 ((h f).1 (by simp [hf])) with e | hg
      · subst e; exact absurd (f1 f hf) (under_irr f)
      · exact hg
    · intro hg
      rcases List.mem_cons.1 ((h f).2 (by simp [hg])) with e | hf
      · subst e; exact absurd (g1 f hg) (under_irr f)
      · exact hf
/-- what Log answers: an error's number, and facts whose Ids it tells -/
inductive IsLog (L : List Fct) (x : ByteArray) : Int → List Fct → Prop
  | twice : ¬ Once L → IsLog L x 31 []
  | none : Once L → (∀ f ∈ L, f.id ≠ x) → IsLog L x 12 []
  | open_ {f : Fct} : Once L → f ∈ L → f.id = x → ¬ Whole L x → IsLog L x 21 []
  | order {f g : Fct} : Once L → f ∈ L → f.id = x → Whole L x → Met L x g → ¬ Right L g → IsLog L x 41 []
  | ok {f : Fct} {F : List Fct} : Once L → f ∈ L → f.id = x → Whole L x → (∀ g, Met L x g → Right L g) → IsRow L x F → IsLog L x 0 F
theorem IsLog.unique {L : List Fct} {x : ByteArray} {n m : Int} {F G : List Fct} (h : IsLog L x n F) (g : IsLog L x m G) : n = m ∧ F = G := by
  cases h with
  | twice h => cases g with
    | twice _ => exact ⟨rfl, rfl⟩
    | none g _ => exact absurd g h
    | open_ g => exact absurd g h
    | order g => exact absurd g h
    | ok g => exact absurd g h
  | none h h2 => cases g with
    | twice g => exact absurd h g
    | none _ _ => exact ⟨rfl, rfl⟩
    | open_ _ g1 g2 => exact absurd g2 (h2 _ g1)
    | order _ g1 g2 => exact absurd g2 (h2 _ g1)
    | ok _ g1 g2 => exact absurd g2 (h2 _ g1)
  | open_ h h1 h2 h3 => cases g with
    | twice g => exact absurd h g
    | none _ g => exact absurd h2 (g _ h1)
    | open_ => exact ⟨rfl, rfl⟩
    | order _ _ _ g => exact absurd g h3
    | ok _ _ _ g => exact absurd g h3
  | order h h1 h2 h3 h4 h5 => cases g with
    | twice g => exact absurd h g
    | none _ g => exact absurd h2 (g _ h1)
    | open_ _ _ _ g => exact absurd h3 g
    | order => exact ⟨rfl, rfl⟩
    | ok _ _ _ _ g => exact absurd (g _ h4) h5
  | ok h h1 h2 h3 h4 h5 => cases g with
    | twice g => exact absurd h g
    | none _ g => exact absurd h2 (g _ h1)
    | open_ _ _ _ g => exact absurd h3 g
    | order _ _ _ _ g1 g2 => exact absurd (h4 _ g1) g2
    | ok _ _ _ _ _ g => exact ⟨rfl, fall_one h5.falls g.falls fun f => (h5.mem f).trans (g.mem f).symm⟩
/-- a parent's height is lower -/
theorem height_above {N : List Int} {n : Int} (h : n ∈ N) : n < height N := by
  match N, h with
  | m :: r, h =>
    show n < r.foldl max m + 1
    have key : ∀ (r : List Int) (m : Int), m ≤ r.foldl max m ∧ ∀ x ∈ r, x ≤ r.foldl max m := by
      intro r
      induction r with
      | nil => exact fun m => ⟨Int.le_refl _, fun x hx => by simp at hx⟩
      | cons y r ih =>
        intro m
        obtain ⟨h1, h2⟩ := ih (max m y)
        refine ⟨?_, fun x hx => ?_⟩
        · show m ≤ r.foldl max (max m y); omega
        · rcases List.mem_cons.1 hx with rfl | hx
          · show x ≤ r.foldl max (max m x); omega
          · exact h2 x hx
    obtain ⟨h1, h2⟩ := key r m
    rcases List.mem_cons.1 h with rfl | h
    · omega
    · have := h2 n h; omega
theorem find_fact {L : List Fct} (ho : Once L) {g : Fct} (hg : g ∈ L) : L.find? (fun f => decide (f.id = g.id)) = some g := by
  cases hf : L.find? (fun f => decide (f.id = g.id)) with
  | none =>
    have := List.find?_eq_none.1 hf g hg
    simp at this
  | some f =>
    have h1 := List.find?_some hf
    have h2 := List.mem_of_find?_eq_some hf
    rw [once_eq ho h2 hg (by simpa using h1)]
/-- of right heights, a parent stands below -/
theorem right_under {L : List Fct} (ho : Once L) {f g : Fct} (hf : Right L f) (hg : g ∈ L) (hp : g.id ∈ f.pars) : g.high < f.high := by
  unfold Right at hf
  rw [hf]
  refine height_above ?_
  unfold highs
  refine List.mem_map.2 ⟨g.id, hp, ?_⟩
  rw [find_fact ho hg]; rfl
end Go.Proofs.YtbjpogeemajhoaaGreat.Or
