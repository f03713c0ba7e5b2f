/-
  How unions, meetings and differences of rising lists go together, counted. Conditions: none.
-/
import Derived.Test.YtkdghmbglaghlaaGreatRows
import Derived.Test.YtkdghmbglaghlaaGreatShPlain
namespace Go.Proofs.YtkdghmbglaghlaaGreat.Sh
open Key (lt)
open Ent (key)
theorem sub_len {E : Type} [DecidableEq E] : ∀ {l m : List E}, l.Nodup → (∀ x ∈ l, x ∈ m) → l.length ≤ m.length
  | [], _, _, _ => Nat.zero_le _
  | a :: l, m, h, hs => by
    have ha : a ∈ m := hs a (by simp)
    have h1 := List.length_erase_of_mem ha
    have h2 := sub_len (l := l) (m := m.erase a) (List.nodup_cons.1 h).2 (fun x hx => by
      have hne : x ≠ a := fun e => (List.nodup_cons.1 h).1 (e ▸ hx)
      exact (List.mem_erase_of_ne hne).2 (hs x (by simp [hx])))
    have h3 := List.length_pos_of_mem ha
    simp only [List.length_cons]
    omega
theorem same_len {E : Type} [DecidableEq E] {l m : List E} (hl : l.Nodup) (hm : m.Nodup) (h : ∀ x, x ∈ l ↔ x ∈ m) : l.length = m.length :=
  Nat.le_antisymm (sub_len hl fun x hx => (h x).1 hx) (sub_len hm fun x hx => (h x).2 hx)
theorem part_len {E : Type} (p : E → Bool) : ∀ l : List E, (l.filter p).length + (l.filter fun x => !p x).length = l.length
  | [] => rfl
  | a :: l => by
    have := part_len p l
    simp only [List.filter_cons]
    cases p a <;> simp <;> omega
section
variable {E : Type} [Key E] [Ent E E]
theorem has_mem (hid : ∀ a : E, (key a : E) = a) (x : E) (l : List E) : has x l = true ↔ x ∈ l := by
  rw [has_iff]
  exact ⟨fun ⟨a, h1, h2⟩ => by rw [hid] at h2; exact h2 ▸ h1, fun h => ⟨x, h, hid x⟩⟩
theorem all_has (hid : ∀ a : E, (key a : E) = a) (A B : List E) : (A.all fun x => has x B) = true ↔ ∀ x ∈ A, x ∈ B := by
  rw [List.all_eq_true]
  exact ⟨fun h x hx => (has_mem hid x B).1 (h x hx), fun h x hx => (has_mem hid x B).2 (h x hx)⟩
/-- what the statement asks of two rising lists -/
theorem algebra (hid : ∀ a : E, (key a : E) = a) {A B U M D V : List E} (rA : Rises A) (rB : Rises B) (rU : Rises U) (hU : ∀ x, x ∈ U ↔ x ∈ A ∨ x ∈ B)
    (hM : M = A.filter fun x => has x B) (hD : D = A.filter fun x => !has x B) (hV : ∀ x, x ∈ V ↔ x ∈ M ∨ x ∈ D) :
    U.length + M.length = A.length + B.length ∧ D.length + M.length = A.length ∧ (D.filter fun x => has x B) = [] ∧ (A.all fun x => has x U) = true ∧ (B.all fun x => has x U) = true ∧
    (M.all fun x => has x A) = true ∧ (M.all fun x => has x B) = true ∧ (V.all fun x => has x A) = true ∧ (A.all fun x => has x V) = true ∧ ((A.all fun x => has x B) = decide (D.length = 0)) := by
  haveI : DecidableEq E := fun a b => Key.dec a b
  have mM : ∀ x, x ∈ M ↔ x ∈ A ∧ x ∈ B := fun x => by rw [hM, List.mem_filter, has_mem hid]
  have nB : ∀ x, (!has x B) = true ↔ ¬ x ∈ B := fun x => by
    rw [← has_mem hid x B]; cases has x B <;> simp
  have mD : ∀ x, x ∈ D ↔ x ∈ A ∧ ¬ x ∈ B := fun x => by rw [hD, List.mem_filter, nB]
  have h1 := part_len (fun x => has x B) A
  rw [← hM, ← hD] at h1
  have nd := fun {l : List E} (h : Rises l) => rises_nodup h
  have h2 : U.length = A.length + (B.filter fun x => !has x A).length := by
    rw [← List.length_append]
    refine same_len (nd rU) (List.nodup_append.2 ⟨nd rA, (nd rB).filter _, fun a ha b hb e => ?_⟩) fun x => ?_
    · subst e
      have := (List.mem_filter.1 hb).2
      rw [(has_mem hid a A).2 ha] at this
      cases this
    · rw [hU, List.mem_append, List.mem_filter]
      constructor
      · rintro (h | h)
        · exact Or.inl h
        · by_cases g : x ∈ A
          · exact Or.inl g
          · refine Or.inr ⟨h, ?_⟩
            cases hh : has x A with
            | false => rfl
            | true => exact absurd ((has_mem hid x A).1 hh) g
      · rintro (h | h)
        · exact Or.inl h
        · exact Or.inr h.1
  have h3 := part_len (fun x => has x A) B
  have h4 : (B.filter fun x => has x A).length = M.length := by
    refine same_len ((nd rB).filter _) (by rw [hM]; exact (nd rA).filter _) fun x => ?_
    rw [List.mem_filter, has_mem hid, mM]
    exact And.comm
  refine ⟨by omega, by omega, ?_, (all_has hid _ _).2 fun x hx => (hU x).2 (Or.inl hx), (all_has hid _ _).2 fun x hx => (hU x).2 (Or.inr hx), (all_has hid _ _).2 fun x hx => ((mM x).1 hx).1, (all_has hid _ _).2 fun x hx => ((mM x).1 hx).2, (all_has hid _ _).2 fun x hx => ?_, (all_has hid _ _).2 fun x hx => ?_, ?_⟩
  · rw [List.filter_eq_nil_iff]
    intro x hx
    rw [has_mem hid]
    exact ((mD x).1 hx).2
  · rcases (hV x).1 hx with h | h
    · exact ((mM x).1 h).1
    · exact ((mD x).1 h).1
  · by_cases g : x ∈ B
    · exact (hV x).2 (Or.inl ((mM x).2 ⟨hx, g⟩))
    · exact (hV x).2 (Or.inr ((mD x).2 ⟨hx, g⟩))
  · rw [Bool.eq_iff_iff, all_has hid, decide_eq_true_iff, List.length_eq_zero_iff, List.eq_nil_iff_forall_not_mem]
    constructor
    · intro h x hx
      exact ((mD x).1 hx).2 (h x ((mD x).1 hx).1)
    · intro h x hx
      by_cases g : x ∈ B
      · exact g
      · exact absurd ((mD x).2 ⟨hx, g⟩) (h x)
end
end Go.Proofs.YtkdghmbglaghlaaGreat.Sh
