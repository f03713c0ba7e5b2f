/-
  Logs of what was grown, as OrderFalls looks at them: they begin with the one asked, fall, hold no Id twice, and of each all its parents further behind. Conditions: none.
-/
import Derived.Test.YtbjpogeemajhoaaGreatOrJoin
namespace Go.Proofs.YtbjpogeemajhoaaGreat.Or
open Go

theorem row_once {L : List Fct} {x : ByteArray} {F : List Fct} (h : IsRow L x F) (ho : Once L) {i j : Nat} {f g : Fct} (hi : F[i]? = some f) (hj : F[j]? = some g) (e : f.id = g.id) : i = j := by
  have hf := (h.mem f).1 (List.mem_of_getElem? hi)
  have hg := (h.mem g).1 (List.mem_of_getElem? hj)
  have := once_eq ho hf.mem hg.mem e
  subst this
  obtain ⟨hi1, hi2⟩ := List.getElem?_eq_some_iff.1 hi
  obtain ⟨hj1, hj2⟩ := List.getElem?_eq_some_iff.1 hj
  rcases Nat.lt_trichotomy i j with k | k | k
  · have := List.pairwise_iff_getElem.1 h.falls i j hi1 hj1 k
    rw [hi2, hj2] at this
    exact absurd this (under_irr f)
  · exact k
  · have := List.pairwise_iff_getElem.1 h.falls j i hj1 hi1 k
    rw [hi2, hj2] at this
    exact absurd this (under_irr f)
/-- one behind another one stands below it -/
theorem row_falls {L : List Fct} {x : ByteArray} {F : List Fct} (h : IsRow L x F) {i j : Nat} {f g : Fct} (hi : F[i]? = some f) (hj : F[j]? = some g) (hij : i < j) : cmp f g = 1 := by
  obtain ⟨hi1, hi2⟩ := List.getElem?_eq_some_iff.1 hi
  obtain ⟨hj1, hj2⟩ := List.getElem?_eq_some_iff.1 hj
  have := List.pairwise_iff_getElem.1 h.falls i j hi1 hj1 hij
  rw [hi2, hj2] at this
  have h1 := cmp_pos.2 this
  rcases cmp_one f g with e | e | e <;> omega
/-- which stands below lies behind -/
theorem row_behind {L : List Fct} {x : ByteArray} {F : List Fct} (h : IsRow L x F) {i j : Nat} {f g : Fct} (hi : F[i]? = some f) (hj : F[j]? = some g) (hu : under g f) : i < j := by
  rcases Nat.lt_trichotomy i j with k | k | k
  · exact k
  · subst k
    rw [hi] at hj
    cases hj
    exact absurd hu (under_irr f)
  · have := row_falls h hj hi k
    exact absurd (cmp_pos.1 (show 0 < cmp g f by omega)) (under_asym hu)
/-- all parents are further behind -/
theorem row_parents {L : List Fct} {x : ByteArray} {F : List Fct} (ho : Once L) (hall : ∀ f ∈ L, Right L f) (hw : Whole L x) (h : IsRow L x F) {i : Nat} {f : Fct} (hi : F[i]? = some f) {z : ByteArray} (hz : z ∈ f.pars) : ∃ j g, i < j ∧ F[j]? = some g ∧ g.id = z := by
  have hf := (h.mem f).1 (List.mem_of_getElem? hi)
  obtain ⟨g, hg, rfl⟩ := hw f hf z hz
  have hgF := (h.mem g).2 (.next hf hg hz)
  obtain ⟨j, hj, rfl⟩ := List.mem_iff_getElem.1 hgF
  exact ⟨j, _, row_behind h hi (List.getElem?_eq_getElem hj) (Or.inl (right_under ho (hall f hf.mem) hg hz)), List.getElem?_eq_getElem hj, rfl⟩
/-- a row begins with the one asked -/
theorem row_first {L F : List Fct} (ho : Once L) (hall : ∀ f ∈ L, Right L f) {y : Fct} (hy : y ∈ L) (h : IsRow L y.id F) : F[0]? = some y := by
  obtain ⟨hyF, htop⟩ := row_top ho hall hy h
  obtain ⟨j, hj, e⟩ := List.mem_iff_getElem.1 hyF
  have h0 : F[0]? = some F[0] := List.getElem?_eq_getElem (by omega)
  rcases htop F[0] (List.getElem_mem _) with g | g
  · rw [h0, g]
  · have := row_behind h (i := j) (j := 0) (by rw [List.getElem?_eq_getElem hj, e]) h0 g
    omega
end Go.Proofs.YtbjpogeemajhoaaGreat.Or
