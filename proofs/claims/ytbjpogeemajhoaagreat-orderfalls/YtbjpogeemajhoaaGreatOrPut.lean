/-
  Entries put into a map one after another, each key once: what the map then holds, and what is found in it; of no program. Conditions: none.
-/
import Derived.Test.YtbjpogeemajhoaaGreatShPlain
namespace Go.Proofs.YtbjpogeemajhoaaGreat.Sh
open Go
open Key (lt)
open Ent (key)
section
variable {E K : Type} [Key K] [Ent E K]

theorem mem_ins_iff {e b : E} : ∀ {l : List E}, Rises l → (b ∈ ins e l ↔ b = e ∨ (b ∈ l ∧ key b ≠ key e))
  | [], _ => by simp [ins]
  | a :: r, h => by
    have hh := rises_head h
    have ht := rises_tail h
    rcases Key.tri (key e) (key a) with g | g | g
    · rw [show ins e (a :: r) = e :: a :: r by simp [ins, g], List.mem_cons]
      refine or_congr_right ⟨fun hb => ⟨hb, ?_⟩, fun hb => hb.1⟩
      rcases List.mem_cons.1 hb with rfl | hb
      · exact (lt_ne g).symm
      · exact (lt_ne (Key.tra _ _ _ g (hh b hb))).symm
    · rw [show ins e (a :: r) = e :: r by simp [ins, g, Key.irr], List.mem_cons, List.mem_cons]
      refine or_congr_right ⟨fun hb => ⟨Or.inr hb, ?_⟩, fun hb => ?_⟩
      · have := lt_ne (hh b hb); rw [← g] at this; exact this.symm
      · rcases hb.1 with rfl | h1
        · exact absurd g.symm hb.2
        · exact h1
    · rw [show ins e (a :: r) = a :: ins e r by simp [ins, g, lt_asym g], List.mem_cons, mem_ins_iff ht, List.mem_cons]
      constructor
      · rintro (rfl | rfl | ⟨h1, h2⟩)
        · exact Or.inr ⟨Or.inl rfl, lt_ne g⟩
        · exact Or.inl rfl
        · exact Or.inr ⟨Or.inr h1, h2⟩
      · rintro (rfl | ⟨rfl | h1, h2⟩)
        · exact Or.inr (Or.inl rfl)
        · exact Or.inl rfl
        · exact Or.inr (Or.inr ⟨h1, h2⟩)
/-- what is in a rising list is found by its key -/
theorem fnd_mem {e : E} : ∀ {l : List E}, Rises l → e ∈ l → fnd (key e) l = some e
  | [], _, h => by cases h
  | a :: r, h, hm => by
    rcases List.mem_cons.1 hm with rfl | hm
    · simp [fnd]
    · have hne : key a ≠ key e := lt_ne (rises_head h e hm)
      have := fnd_mem (rises_tail h) hm
      unfold fnd at *
      rw [List.find?_cons, decide_eq_false hne]
      exact this
/-- a map into which these were put -/
structure Filled (es M : List E) : Prop where
  up : Rises M
  mem : ∀ b, b ∈ M ↔ b ∈ es
  len : M.length ≤ es.length
theorem Filled.nil : Filled ([] : List E) [] := ⟨by simp [Rises], fun b => Iff.rfl, Nat.le_refl _⟩
theorem Filled.step {es M : List E} {k : Nat} {e : E} (h : Filled (es.take k) M) (hn : (es.map key).Nodup) (he : es[k]? = some e) : has (key e) M = false ∧ Filled (es.take (k + 1)) (ins e M) := by
  have hlt := (List.getElem?_eq_some_iff.1 he).1
  have hnew : ∀ b ∈ es.take k, key b ≠ key e := fun b hb e1 => by
    obtain ⟨j, hj, rfl⟩ := List.mem_iff_getElem.1 hb
    rw [List.length_take] at hj
    rw [List.getElem_take] at e1
    have := List.pairwise_iff_getElem.1 hn j k (by rw [List.length_map]; omega) (by rw [List.length_map]; omega) (by omega)
    rw [List.getElem_map, List.getElem_map] at this
    rw [(List.getElem?_eq_some_iff.1 he).2] at this
    exact this e1
  have ht : es.take (k + 1) = es.take k ++ [e] := by rw [List.take_add_one, he]; rfl
  refine ⟨?_, rises_ins e h.up, fun b => ?_, ?_⟩
  · cases hh : has (key e) M with
    | false => rfl
    | true =>
      obtain ⟨a, ha, hk⟩ := has_iff.1 hh
      exact absurd hk (hnew a ((h.mem a).1 ha))
  · rw [mem_ins_iff h.up, ht, List.mem_append, List.mem_singleton, h.mem]
    constructor
    · rintro (h1 | ⟨h1, _⟩)
      · exact Or.inr h1
      · exact Or.inl h1
    · rintro (h1 | h1)
      · exact Or.inr ⟨h1, hnew b h1⟩
      · exact Or.inl h1
  · rw [ht, List.length_append]
    have := ins_len_le e M
    have := h.len
    simp only [List.length_singleton]
    omega
theorem Filled.get {es M : List E} {e : E} (h : Filled es M) (he : e ∈ es) : fnd (key e) M = some e := fnd_mem h.up ((h.mem e).2 he)
end
end Go.Proofs.YtbjpogeemajhoaaGreat.Sh
