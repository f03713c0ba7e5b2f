/-
  Where two logs of what was grown meet: the best of what is in both, the same turned round, and of what one came from the other. Conditions: none.
-/
import Derived.Test.YtbjpogeemajhoaaGreatRows
import Derived.Test.YtbjpogeemajhoaaGreatOrLog
import Derived.Test.YtbjpogeemajhoaaGreatOrGrow
namespace Go.Proofs.YtbjpogeemajhoaaGreat.Or
open Go

theorem inIds_iff {K : List Fct} {s : ByteArray} : inIds K s = true ↔ ∃ f ∈ K, f.id = s := by
  unfold inIds
  rw [List.any_eq_true]
  exact ⟨fun ⟨f, hf, e⟩ => ⟨f, hf, by simpa using e⟩, fun ⟨f, hf, e⟩ => ⟨f, hf, by simpa using e⟩⟩
/-- the first of a falling row that is in another one stands above all others that are -/
theorem first_best : ∀ {F K : List Fct}, F.Pairwise (fun a b => under b a) → (∃ f ∈ F, inIds K f.id = true) → ∃ f ∈ F, inIds K f.id = true ∧ firstOf F K = f.id ∧ ∀ g ∈ F, inIds K g.id = true → ¬ under f g
  | [], _, _, h => by obtain ⟨f, hf, _⟩ := h; simp at hf
  | x :: F, K, hp, h => by
    obtain ⟨h1, h2⟩ := List.pairwise_cons.1 hp
    cases hx : inIds K x.id with
    | true =>
      refine ⟨x, by simp, hx, ?_, fun g hg _ => ?_⟩
      · unfold firstOf; rw [List.find?_cons, hx]; rfl
      · rcases List.mem_cons.1 hg with rfl | hg
        · exact under_irr g
        · exact under_asym (h1 g hg)
    | false =>
      obtain ⟨f, hf, hk⟩ := h
      have hfF : f ∈ F := by
        rcases List.mem_cons.1 hf with rfl | hf
        · rw [hx] at hk; cases hk
        · exact hf
      obtain ⟨q, hq, hqk, hqe, hqa⟩ := first_best h2 ⟨f, hfF, hk⟩
      refine ⟨q, by simp [hq], hqk, ?_, fun g hg hgk => ?_⟩
      · unfold firstOf at hqe ⊢; rw [List.find?_cons, hx]; exact hqe
      · rcases List.mem_cons.1 hg with rfl | hg
        · rw [hx] at hgk; cases hgk
        · exact hqa g hg hgk
theorem first_none {F K : List Fct} (h : ∀ f ∈ F, inIds K f.id = false) : firstOf F K = ⟨#[]⟩ := by
  unfold firstOf
  rw [List.find?_eq_none.2 fun f hf => by rw [h f hf]; simp]
  rfl
/-- of two rows of one list's facts: what is in both -/
theorem in_both {L F K : List Fct} {x y : ByteArray} (ho : Once L) (hF : IsRow L x F) (hK : IsRow L y K) {f : Fct} (hf : f ∈ F) : inIds K f.id = true ↔ f ∈ K := by
  rw [inIds_iff]
  constructor
  · rintro ⟨g, hg, e⟩
    rw [← once_eq ho ((hK.mem g).1 hg).mem ((hF.mem f).1 hf).mem e]
    exact hg
  · exact fun h => ⟨f, h, rfl⟩
theorem first_turn {L F K : List Fct} {x y : ByteArray} (ho : Once L) (hF : IsRow L x F) (hK : IsRow L y K) : firstOf F K = firstOf K F := by
  by_cases h : ∃ f ∈ F, f ∈ K
  · obtain ⟨f, hf, hk⟩ := h
    obtain ⟨a, ha, hak, ea, ba⟩ := first_best hF.falls ⟨f, hf, (in_both ho hF hK hf).2 hk⟩
    obtain ⟨b, hb, hbk, eb, bb⟩ := first_best hK.falls ⟨f, hk, (in_both ho hK hF hk).2 hf⟩
    have haK := (in_both ho hF hK ha).1 hak
    have hbF := (in_both ho hK hF hb).1 hbk
    have n1 := ba b hbF ((in_both ho hF hK hbF).2 hb)
    have n2 := bb a haK ((in_both ho hK hF haK).2 ha)
    rw [ea, eb]
    rcases under_tri a b with u | u | u
    · exact absurd u n1
    · exact u.2
    · exact absurd u n2
  · have n1 : ∀ f ∈ F, inIds K f.id = false := fun f hf => by
      cases e : inIds K f.id with
      | false => rfl
      | true => exact absurd ⟨f, hf, (in_both ho hF hK hf).1 e⟩ h
    have n2 : ∀ f ∈ K, inIds F f.id = false := fun f hf => by
      cases e : inIds F f.id with
      | false => rfl
      | true => exact absurd ⟨f, (in_both ho hK hF hf).1 e, hf⟩ h
    rw [first_none n1, first_none n2]
/-- what one asks from is the best of its log -/
theorem row_top {L K : List Fct} (ho : Once L) (hall : ∀ f ∈ L, Right L f) {y : Fct} (hy : y ∈ L) (hK : IsRow L y.id K) : y ∈ K ∧ ∀ f ∈ K, f = y ∨ under f y := by
  refine ⟨(hK.mem y).2 (.here hy rfl), fun f hf => ?_⟩
  have hm := (hK.mem f).1 hf
  refine Met.closed (S := fun f => f ∈ L ∧ (f = y ∨ under f y)) (fun f hf e => ⟨hf, Or.inl (once_eq ho hf hy e)⟩) (fun f g hf hg hp => ⟨hg, Or.inr ?_⟩) hm |>.2
  have h1 := right_under ho (hall f hf.1) hg hp
  rcases hf.2 with rfl | u
  · exact Or.inl h1
  · rcases u with u | u
    · exact Or.inl (by omega)
    · exact Or.inl (by omega)
/-- of a commit and what it came from it is the latter -/
theorem first_old {L F K : List Fct} {x : ByteArray} {y : Fct} (ho : Once L) (hall : ∀ f ∈ L, Right L f) (hF : IsRow L x F) (hy : y ∈ L) (hK : IsRow L y.id K) (h : inIds F y.id = true) : firstOf F K = y.id := by
  obtain ⟨hyK, htop⟩ := row_top ho hall hy hK
  have hyF : y ∈ F := by
    obtain ⟨f, hf, e⟩ := inIds_iff.1 h
    rw [← once_eq ho ((hF.mem f).1 hf).mem hy e]; exact hf
  obtain ⟨a, ha, hak, ea, ba⟩ := first_best hF.falls ⟨y, hyF, (in_both ho hF hK hyF).2 hyK⟩
  rw [ea]
  rcases htop a ((in_both ho hF hK ha).1 hak) with rfl | u
  · rfl
  · exact absurd u (ba y hyF ((in_both ho hF hK hyF).2 hyK))
/-- what the set of both tells of where they meet -/
theorem first_both {L F K : List Fct} {x y : ByteArray} (ho : Once L) (hne : ∀ f ∈ L, f.id ≠ ⟨#[]⟩) (hF : IsRow L x F) (hK : IsRow L y K) : (firstOf F K = ⟨#[]⟩ ↔ ∀ f ∈ F, f ∉ K) ∧ (firstOf F K ≠ ⟨#[]⟩ → ∃ f ∈ F, f ∈ K ∧ firstOf F K = f.id ∧ ∀ g ∈ F, g ∈ K → ¬ under f g) := by
  by_cases h : ∃ f ∈ F, f ∈ K
  · obtain ⟨f, hf, hk⟩ := h
    obtain ⟨a, ha, hak, ea, ba⟩ := first_best hF.falls ⟨f, hf, (in_both ho hF hK hf).2 hk⟩
    have hne2 : firstOf F K ≠ ⟨#[]⟩ := by rw [ea]; exact hne a ((hF.mem a).1 ha).mem
    exact ⟨⟨fun e => absurd e hne2, fun h => absurd hk (h f hf)⟩, fun _ => ⟨a, ha, (in_both ho hF hK ha).1 hak, ea, fun g hg hgk => ba g hg ((in_both ho hF hK hg).2 hgk)⟩⟩
  · have n1 : ∀ f ∈ F, inIds K f.id = false := fun f hf => by
      cases e : inIds K f.id with
      | false => rfl
      | true => exact absurd ⟨f, hf, (in_both ho hF hK hf).1 e⟩ h
    exact ⟨⟨fun _ f hf hk => h ⟨f, hf, hk⟩, fun _ => first_none n1⟩, fun e => absurd (first_none n1) e⟩
end Go.Proofs.YtbjpogeemajhoaaGreat.Or
