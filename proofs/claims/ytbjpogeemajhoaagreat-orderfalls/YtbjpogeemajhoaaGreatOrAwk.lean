/-
  Four facts as plain ones: their logs, where two meet, the best of them; of no program. Conditions: none.
-/
import Derived.Test.YtbjpogeemajhoaaGreatOrPlain
import Derived.Test.YtbjpogeemajhoaaGreatOrLog
namespace Go.Proofs.YtbjpogeemajhoaaGreat.Or
open Go
open Sh (Key)
open Sh.Key (lt)

abbrev sA : ByteArray := ⟨#[97]⟩
abbrev sB : ByteArray := ⟨#[98]⟩
abbrev sC : ByteArray := ⟨#[99]⟩
abbrev sD : ByteArray := ⟨#[100]⟩
abbrev sX : ByteArray := ⟨#[120]⟩
abbrev fA : Fct := ⟨sA, 0, []⟩
abbrev fB : Fct := ⟨sB, 1, [sA]⟩
abbrev fC : Fct := ⟨sC, 1, [sA]⟩
abbrev fD : Fct := ⟨sD, 2, [sB, sC]⟩
abbrev four : List Fct := [fA, fB, fC, fD]
theorem ne_of_bytes {a b : Array UInt8} (h : a ≠ b) : (⟨a⟩ : ByteArray) ≠ ⟨b⟩ := fun e => h (by injection e)
theorem nAB : sA ≠ sB := ne_of_bytes (by decide)
theorem nAC : sA ≠ sC := ne_of_bytes (by decide)
theorem nAD : sA ≠ sD := ne_of_bytes (by decide)
theorem nBC : sB ≠ sC := ne_of_bytes (by decide)
theorem nBD : sB ≠ sD := ne_of_bytes (by decide)
theorem nCD : sC ≠ sD := ne_of_bytes (by decide)
theorem lBC : lt sB sC = true := by rw [← less_lt]; rfl
theorem four_once : Once four := by
  unfold Once
  simp only [List.map_cons, List.map_nil, List.nodup_cons, List.mem_cons, List.not_mem_nil, or_false, not_or, List.nodup_nil, not_false_eq_true, and_true]
  exact ⟨⟨nAB, nAC, nAD⟩, ⟨nBC, nBD⟩, nCD⟩
/-- what is met lies in whatever holds from and goes on to parents -/
theorem met_in {L : List Fct} {x : ByteArray} {F : List Fct} (h0 : ∀ f ∈ L, f.id = x → f ∈ F) (h1 : ∀ f ∈ F, ∀ g ∈ L, g.id ∈ f.pars → g ∈ F) {f : Fct} (h : Met L x f) : f ∈ F := Met.closed (S := fun f => f ∈ F) h0 (fun f g hf hg hp => h1 f hf g hg hp) h
theorem uBC : under fB fC := Or.inr ⟨rfl, lBC⟩
theorem uAB : under fA fB := Or.inl (by decide)
theorem uAC : under fA fC := Or.inl (by decide)
theorem uAD : under fA fD := Or.inl (by decide)
theorem uBD : under fB fD := Or.inl (by decide)
theorem uCD : under fC fD := Or.inl (by decide)
theorem four_best : IsBest four 3 fD := by
  refine ⟨rfl, fun y hy => ?_, fun j y hj hy => ?_⟩
  · simp only [List.mem_cons, List.not_mem_nil, or_false] at hy
    rcases hy with rfl | rfl | rfl | rfl
    · exact under_asym uAD
    · exact under_asym uBD
    · exact under_asym uCD
    · exact under_irr _
  · match j, hj with
    | 0, _ => cases hy; exact uAD
    | 1, _ => cases hy; exact uBD
    | 2, _ => cases hy; exact uCD
theorem mets {x : ByteArray} {F : List Fct} (h0 : ∀ f ∈ four, f.id = x → f ∈ F) (h1 : ∀ f ∈ F, ∀ g ∈ four, g.id ∈ f.pars → g ∈ F) (hF : ∀ f ∈ F, Met four x f) (hw : ∀ f ∈ F, ∀ z ∈ f.pars, ∃ g ∈ four, g.id = z) (hr : ∀ f ∈ F, Right four f) (hs : F.Pairwise fun a b => under b a) {f0 : Fct} (hf0 : f0 ∈ four) (hx : f0.id = x) : IsLog four x 0 F :=
  .ok four_once hf0 hx (fun f hf z hz => hw f (met_in h0 h1 hf) z hz) (fun g hg => hr g (met_in h0 h1 hg)) ⟨hs, fun f => ⟨hF f, met_in h0 h1⟩⟩
theorem find_at {f : Fct} (hf : f ∈ four) : four.find? (fun g => decide (g.id = f.id)) = some f := find_fact four_once hf
theorem high_at {f : Fct} (hf : f ∈ four) : ((four.find? fun g => decide (g.id = f.id)).map Fct.high).getD 0 = f.high := by rw [find_at hf]; rfl
theorem rA : Right four fA := rfl
theorem rB : Right four fB := by
  unfold Right highs
  simp only [List.map_cons, List.map_nil]
  rw [show sA = fA.id from rfl, high_at (f := fA) (by simp)]; rfl
theorem rC : Right four fC := by
  unfold Right highs
  simp only [List.map_cons, List.map_nil]
  rw [show sA = fA.id from rfl, high_at (f := fA) (by simp)]; rfl
theorem rD : Right four fD := by
  unfold Right highs
  simp only [List.map_cons, List.map_nil]
  rw [show sB = fB.id from rfl, show sC = fC.id from rfl, high_at (f := fB) (by simp), high_at (f := fC) (by simp)]; rfl
theorem four_in {f : Fct} (h : f ∈ four) : f = fA ∨ f = fB ∨ f = fC ∨ f = fD := by simpa using h
theorem log_d : IsLog four sD 0 [fD, fC, fB, fA] := by
  have all : ∀ f ∈ four, f ∈ [fD, fC, fB, fA] := fun f hf => by rcases four_in hf with rfl | rfl | rfl | rfl <;> simp
  have md : Met four sD fD := .here (by simp) rfl
  have mb : Met four sD fB := .next md (by simp) (by simp)
  have mc : Met four sD fC := .next md (by simp) (by simp)
  have ma : Met four sD fA := .next mb (by simp) (by simp)
  refine mets (fun f hf _ => all f hf) (fun f _ g hg _ => all g hg) (fun f hf => ?_) (fun f hf z hz => ?_) (fun f hf => ?_) ?_ (f0 := fD) (by simp) rfl
  · simp only [List.mem_cons, List.not_mem_nil, or_false] at hf
    rcases hf with rfl | rfl | rfl | rfl
    all_goals assumption
  · simp only [List.mem_cons, List.not_mem_nil, or_false] at hf
    rcases hf with rfl | rfl | rfl | rfl <;> simp at hz
    · rcases hz with rfl | rfl
      · exact ⟨fB, by simp, rfl⟩
      · exact ⟨fC, by simp, rfl⟩
    · exact ⟨fA, by simp, hz.symm⟩
    · exact ⟨fA, by simp, hz.symm⟩
  · simp only [List.mem_cons, List.not_mem_nil, or_false] at hf
    rcases hf with rfl | rfl | rfl | rfl
    all_goals first | exact rD | exact rC | exact rB | exact rA
  · simp only [List.pairwise_cons, List.mem_cons, List.not_mem_nil, or_false, forall_eq_or_imp, forall_eq, false_implies, implies_true, List.Pairwise.nil, and_true]
    exact ⟨⟨uCD, uBD, uAD⟩, ⟨uBC, uAC⟩, uAB⟩
theorem log_b : IsLog four sB 0 [fB, fA] := by
  have mb : Met four sB fB := .here (by simp) rfl
  have ma : Met four sB fA := .next mb (by simp) (by simp)
  refine mets (fun f hf e => ?_) (fun f hf g hg hp => ?_) (fun f hf => ?_) (fun f hf z hz => ?_) (fun f hf => ?_) ?_ (f0 := fB) (by simp) rfl
  · rcases four_in hf with rfl | rfl | rfl | rfl
    · simp
    · simp
    · exact absurd e.symm nBC
    · exact absurd e.symm nBD
  · simp only [List.mem_cons, List.not_mem_nil, or_false] at hf
    rcases hf with rfl | rfl
    · rcases four_in hg with rfl | rfl | rfl | rfl
      · simp
      · simp
      · simp only [List.mem_singleton] at hp; exact absurd hp.symm nAC
      · simp only [List.mem_singleton] at hp; exact absurd hp.symm nAD
    · simp at hp
  · simp only [List.mem_cons, List.not_mem_nil, or_false] at hf
    rcases hf with rfl | rfl
    all_goals assumption
  · simp only [List.mem_cons, List.not_mem_nil, or_false] at hf
    rcases hf with rfl | rfl <;> simp at hz
    exact ⟨fA, by simp, hz.symm⟩
  · simp only [List.mem_cons, List.not_mem_nil, or_false] at hf
    rcases hf with rfl | rfl
    all_goals first | exact rD | exact rC | exact rB | exact rA
  · simp only [List.pairwise_cons, List.mem_cons, List.not_mem_nil, or_false, forall_eq, false_implies, implies_true, List.Pairwise.nil, and_true]
    exact uAB
theorem log_c : IsLog four sC 0 [fC, fA] := by
  have mc : Met four sC fC := .here (by simp) rfl
  have ma : Met four sC fA := .next mc (by simp) (by simp)
  refine mets (fun f hf e => ?_) (fun f hf g hg hp => ?_) (fun f hf => ?_) (fun f hf z hz => ?_) (fun f hf => ?_) ?_ (f0 := fC) (by simp) rfl
  · rcases four_in hf with rfl | rfl | rfl | rfl
    · simp
    · exact absurd e nBC
    · simp
    · exact absurd e.symm nCD
  · simp only [List.mem_cons, List.not_mem_nil, or_false] at hf
    rcases hf with rfl | rfl
    · rcases four_in hg with rfl | rfl | rfl | rfl
      · simp
      · simp only [List.mem_singleton] at hp; exact absurd hp.symm nAB
      · simp
      · simp only [List.mem_singleton] at hp; exact absurd hp.symm nAD
    · simp at hp
  · simp only [List.mem_cons, List.not_mem_nil, or_false] at hf
    rcases hf with rfl | rfl
    all_goals assumption
  · simp only [List.mem_cons, List.not_mem_nil, or_false] at hf
    rcases hf with rfl | rfl <;> simp at hz
    exact ⟨fA, by simp, hz.symm⟩
  · simp only [List.mem_cons, List.not_mem_nil, or_false] at hf
    rcases hf with rfl | rfl
    all_goals first | exact rD | exact rC | exact rB | exact rA
  · simp only [List.pairwise_cons, List.mem_cons, List.not_mem_nil, or_false, forall_eq, false_implies, implies_true, List.Pairwise.nil, and_true]
    exact uAC
theorem log_x : IsLog four sX 12 [] := .none four_once fun f hf => by
  rcases four_in hf with rfl | rfl | rfl | rfl
  all_goals exact ne_of_bytes (by decide)
theorem above_d : (decide (sD ≠ sA) && inIds [fD, fC, fB, fA] sA) = true := by
  rw [Bool.and_eq_true]
  refine ⟨by simp, ?_⟩
  unfold inIds
  rw [List.any_eq_true]
  exact ⟨fA, by simp, by simp⟩
theorem first_bc : firstOf [fB, fA] [fC, fA] = sA := by
  unfold firstOf
  have h1 : inIds [fC, fA] fB.id = false := by
    unfold inIds
    rw [List.any_eq_false]
    intro g hg
    simp only [List.mem_cons, List.not_mem_nil, or_false] at hg
    rcases hg with rfl | rfl
    · simp
    · simp
  have h2 : inIds [fC, fA] fA.id = true := by
    unfold inIds
    rw [List.any_eq_true]
    exact ⟨fA, by simp, by simp⟩
  rw [List.find?_cons, h1, List.find?_cons, h2]
  rfl
end Go.Proofs.YtbjpogeemajhoaaGreat.Or
