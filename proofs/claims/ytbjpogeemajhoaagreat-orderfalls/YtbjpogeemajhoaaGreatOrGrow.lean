/-
  Commits made of numbers (grown), as plain functions: each of earlier ones, with right heights; of no program. Conditions: none.
-/
import Derived.Test.YtbjpogeemajhoaaGreatOrPlain
namespace Go.Proofs.YtbjpogeemajhoaaGreat.Or
open Go

/-- the i-th commit's Id -/
def idOf (i : Nat) : ByteArray := ⟨#[UInt8.ofNat (97 + i * 7 % 26), UInt8.ofNat (97 + i % 26), UInt8.ofNat i]⟩
theorem idOf_inj {i j : Nat} (hi : i < 256) (hj : j < 256) (h : idOf i = idOf j) : i = j := by
  have e : UInt8.ofNat i = UInt8.ofNat j := by
    have := congrArg (fun b : ByteArray => b.data[2]?) h
    simpa [idOf] using this
  have := congrArg UInt8.toNat e
  simp [UInt8.toNat_ofNat'] at this
  omega
theorem idOf_size (i : Nat) : (idOf i).size = 3 := rfl
theorem highs_app {G D : List Fct} {P : List ByteArray} (h : ∀ z ∈ P, ∃ g ∈ G, g.id = z) : highs (G ++ D) P = highs G P := by
  unfold highs
  refine List.map_congr_left fun z hz => ?_
  obtain ⟨g, hg, e⟩ := h z hz
  rw [List.find?_append]
  cases hf : G.find? fun g => decide (g.id = z) with
  | none => have := List.find?_eq_none.1 hf g hg; simp [e] at this
  | some f => rfl
theorem height_max : ∀ {N : List Int}, N ≠ [] → ∃ m ∈ N, height N = m + 1
  | [], h => absurd rfl h
  | n :: r, _ => by
    have key : ∀ (r : List Int) (n : Int), r.foldl max n ∈ n :: r := by
      intro r
      induction r with
      | nil => exact fun n => by simp
      | cons y r ih =>
        intro n
        have h := ih (max n y)
        show r.foldl max (max n y) ∈ n :: y :: r
        rcases List.mem_cons.1 h with h | h
        · rw [h]
          rcases Int.le_total n y with g | g
          · rw [Int.max_eq_right g]; simp
          · rw [Int.max_eq_left g]; simp
        · exact List.mem_cons_of_mem _ (List.mem_cons_of_mem _ h)
    exact ⟨_, key r n, rfl⟩
/-- the height hangs on which heights there are alone -/
theorem height_same {N M : List Int} (h : ∀ x, x ∈ N ↔ x ∈ M) : height N = height M := by
  by_cases h0 : N = []
  · subst h0
    have : M = [] := List.eq_nil_iff_forall_not_mem.2 fun x hx => by have := (h x).2 hx; simp at this
    rw [this]
  · have h1 : M ≠ [] := fun e => by
      subst e
      exact h0 (List.eq_nil_iff_forall_not_mem.2 fun x hx => by have := (h x).1 hx; simp at this)
    obtain ⟨m, hm, e⟩ := height_max h0
    obtain ⟨k, hk, e'⟩ := height_max h1
    have a := height_above ((h m).1 hm)
    have b := height_above ((h k).2 hk)
    omega
theorem height_le {N : List Int} {n : Int} (h0 : 0 ≤ n) (h : ∀ x ∈ N, 0 ≤ x ∧ x < n) : 0 ≤ height N ∧ height N ≤ n := by
  by_cases e : N = []
  · subst e; exact ⟨Int.le_refl _, h0⟩
  · obtain ⟨m, hm, e⟩ := height_max e
    have := h m hm
    omega
/-- what is grown -/
structure Grown (G : List Fct) : Prop where
  len : G.length ≤ 40
  id : ∀ (i : Nat) (f : Fct), G[i]? = some f → f.id = idOf i
  par : ∀ (i : Nat) (f : Fct), G[i]? = some f → ∀ z ∈ f.pars, ∃ j g, j < i ∧ G[j]? = some g ∧ g.id = z
  right : ∀ (i : Nat) (f : Fct), G[i]? = some f → Right G f
  high : ∀ (i : Nat) (f : Fct), G[i]? = some f → 0 ≤ f.high ∧ f.high ≤ i
  few : ∀ (i : Nat) (f : Fct), G[i]? = some f → f.pars.length ≤ 40
theorem Grown.nil : Grown [] := ⟨by simp, fun i f h => by simp at h, fun i f h => by simp at h, fun i f h => by simp at h, fun i f h => by simp at h, fun i f h => by simp at h⟩
theorem Grown.once {G : List Fct} (h : Grown G) : Once G := by
  unfold Once List.Nodup
  rw [List.pairwise_iff_getElem]
  intro i j hi hj hij e
  rw [List.length_map] at hi hj
  simp only [List.getElem_map] at e
  rw [h.id i _ (List.getElem?_eq_getElem hi), h.id j _ (List.getElem?_eq_getElem hj)] at e
  have := h.len
  have := idOf_inj (by omega) (by omega) e
  omega
theorem Grown.highs {G : List Fct} (h : Grown G) {P : List ByteArray} (hp : ∀ z ∈ P, ∃ g ∈ G, g.id = z) {n : Int} : n ∈ highs G P ↔ ∃ z ∈ P, ∃ g ∈ G, g.id = z ∧ g.high = n := by
  unfold Or.highs
  rw [List.mem_map]
  constructor
  · rintro ⟨z, hz, e⟩
    obtain ⟨g, hg, rfl⟩ := hp z hz
    rw [find_fact h.once hg] at e
    exact ⟨_, hz, g, hg, rfl, e⟩
  · rintro ⟨z, hz, g, hg, rfl, e⟩
    exact ⟨_, hz, by rw [find_fact h.once hg]; exact e⟩
theorem Grown.more {G : List Fct} (h : Grown G) (hl : G.length < 40) {f : Fct} (hid : f.id = idOf G.length) (hp : ∀ z ∈ f.pars, ∃ g ∈ G, g.id = z) (hr : f.high = height (Or.highs G f.pars)) (hf : f.pars.length ≤ 40) : Grown (G ++ [f]) := by
  have part : ∀ i g, (G ++ [f])[i]? = some g → (i < G.length ∧ G[i]? = some g) ∨ (i = G.length ∧ g = f) := fun i g hg => by
    by_cases hi : i < G.length
    · rw [List.getElem?_append_left hi] at hg; exact Or.inl ⟨hi, hg⟩
    · have : i < (G ++ [f]).length := (List.getElem?_eq_some_iff.1 hg).1
      rw [List.length_append, List.length_singleton] at this
      obtain rfl : i = G.length := by omega
      simp at hg
      exact Or.inr ⟨rfl, hg.symm⟩
  have left : ∀ j g, G[j]? = some g → (G ++ [f])[j]? = some g := fun j g hg => by
    rw [List.getElem?_append_left (List.getElem?_eq_some_iff.1 hg).1]; exact hg
  have in_ : ∀ (i : Nat) (g : Fct), G[i]? = some g → ∀ z ∈ g.pars, ∃ q ∈ G, q.id = z := fun i g hg z hz => by
    obtain ⟨j, q, _, hq, e⟩ := h.par i g hg z hz
    exact ⟨q, List.mem_of_getElem? hq, e⟩
  have hh : 0 ≤ f.high ∧ f.high ≤ G.length := by
    rw [hr]
    refine height_le (by omega) fun x hx => ?_
    obtain ⟨z, _, g, hg, _, rfl⟩ := (h.highs hp).1 hx
    obtain ⟨j, hj, rfl⟩ := List.mem_iff_getElem.1 hg
    have := h.high j _ (List.getElem?_eq_getElem hj)
    omega
  refine ⟨by rw [List.length_append, List.length_singleton]; omega, fun i g hg => ?_, fun i g hg z hz => ?_, fun i g hg => ?_, fun i g hg => ?_, fun i g hg => ?_⟩
  · rcases part i g hg with ⟨_, e⟩ | ⟨rfl, rfl⟩
    · exact h.id i g e
    · exact hid
  · rcases part i g hg with ⟨_, e⟩ | ⟨rfl, rfl⟩
    · obtain ⟨j, q, hj, hq, e'⟩ := h.par i g e z hz
      exact ⟨j, q, hj, left j q hq, e'⟩
    · obtain ⟨q, hq, e'⟩ := hp z hz
      obtain ⟨j, hj, rfl⟩ := List.mem_iff_getElem.1 hq
      exact ⟨j, _, hj, left j _ (List.getElem?_eq_getElem hj), e'⟩
  · unfold Right
    rcases part i g hg with ⟨_, e⟩ | ⟨rfl, rfl⟩
    · rw [highs_app (in_ i g e)]; exact h.right i g e
    · rw [highs_app hp]; exact hr
  · rcases part i g hg with ⟨_, e⟩ | ⟨rfl, rfl⟩
    · exact h.high i g e
    · exact hh
  · rcases part i g hg with ⟨_, e⟩ | ⟨rfl, rfl⟩
    · exact h.few i g e
    · exact hf
theorem Grown.take {G : List Fct} (h : Grown G) (n : Nat) : Grown (G.take n) := by
  have lift : ∀ i f, (G.take n)[i]? = some f → i < n ∧ G[i]? = some f := fun i f hf => by
    have hi := (List.getElem?_eq_some_iff.1 hf).1
    rw [List.length_take] at hi
    rw [List.getElem?_take_of_lt (by omega)] at hf
    exact ⟨by omega, hf⟩
  refine ⟨by have := h.len; rw [List.length_take]; omega, fun i f hf => h.id i f (lift i f hf).2, fun i f hf z hz => ?_, fun i f hf => ?_, fun i f hf => h.high i f (lift i f hf).2, fun i f hf => h.few i f (lift i f hf).2⟩
  · obtain ⟨hi, hf⟩ := lift i f hf
    obtain ⟨j, g, hj, hg, e⟩ := h.par i f hf z hz
    exact ⟨j, g, hj, by rw [List.getElem?_take_of_lt (by omega)]; exact hg, e⟩
  · obtain ⟨hi, hf⟩ := lift i f hf
    have := h.right i f hf
    unfold Right at *
    rw [this]
    conv => lhs; rw [← List.take_append_drop n G]
    rw [highs_app]
    intro z hz
    obtain ⟨j, g, hj, hg, e⟩ := h.par i f hf z hz
    exact ⟨g, List.mem_of_getElem? (i := j) (by rw [List.getElem?_take_of_lt (by omega)]; exact hg), e⟩
theorem Grown.whole {G : List Fct} (h : Grown G) (x : ByteArray) : Whole G x := fun f hf z hz => by
  obtain ⟨i, hi, rfl⟩ := List.mem_iff_getElem.1 hf.mem
  obtain ⟨j, g, _, hg, e⟩ := h.par i _ (List.getElem?_eq_getElem hi) z hz
  exact ⟨g, List.mem_of_getElem? hg, e⟩
theorem Grown.all {G : List Fct} (h : Grown G) {f : Fct} (hf : f ∈ G) : Right G f := by
  obtain ⟨i, hi, rfl⟩ := List.mem_iff_getElem.1 hf
  exact h.right i _ (List.getElem?_eq_getElem hi)
/-- of what is grown a log is told -/
theorem Grown.log {G : List Fct} (h : Grown G) {x : ByteArray} {n : Int} {F : List Fct} (hx : ∃ f ∈ G, f.id = x) (hl : IsLog G x n F) : n = 0 ∧ IsRow G x F := by
  obtain ⟨f, hf, rfl⟩ := hx
  cases hl with
  | twice g => exact absurd h.once g
  | none _ g => exact absurd rfl (g f hf)
  | open_ _ _ _ g => exact absurd (h.whole _) g
  | order _ _ _ _ g1 g2 => exact absurd (h.all g1.mem) g2
  | ok _ _ _ _ _ g => exact ⟨rfl, g⟩
/-- what is met lies ahead -/
theorem Grown.met_take {G : List Fct} (h : Grown G) {n : Nat} {x : ByteArray} (hx : ∃ f ∈ G.take n, f.id = x) {f : Fct} : Met (G.take n) x f ↔ Met G x f := by
  constructor
  · intro hm
    induction hm with
    | here h1 h2 => exact .here (List.mem_of_mem_take h1) h2
    | next _ hg hp ih => exact .next ih (List.mem_of_mem_take hg) hp
  · intro hm
    induction hm with
    | here h1 h2 =>
      obtain ⟨g, hg, e⟩ := hx
      have := once_eq h.once (List.mem_of_mem_take hg) h1 (e.trans h2.symm)
      subst this
      exact .here hg h2
    | @next f g _ hg hp ih =>
      refine .next ih ?_ hp
      obtain ⟨i, hi, hf⟩ := List.mem_iff_getElem.1 ih.mem
      have hin : i < n ∧ G[i]? = some f := by
        rw [List.length_take] at hi
        refine ⟨by omega, ?_⟩
        have := List.getElem?_eq_getElem (l := G.take n) (i := i) (by rw [List.length_take]; omega)
        rw [hf, List.getElem?_take_of_lt (by omega)] at this
        exact this
      obtain ⟨j, q, hj, hq, e⟩ := h.par i f hin.2 g.id hp
      have := once_eq h.once (List.mem_of_getElem? hq) hg e
      subst this
      exact List.mem_of_getElem? (i := j) (by rw [List.getElem?_take_of_lt (by omega)]; exact hq)
theorem Grown.same_log {G : List Fct} (h : Grown G) {n : Nat} {x : ByteArray} {a b : Int} {F F' : List Fct} (hx : ∃ f ∈ G.take n, f.id = x) (hl : IsLog (G.take n) x a F) (hl' : IsLog G x b F') : a = 0 ∧ b = 0 ∧ F = F' := by
  obtain ⟨h1, r1⟩ := (h.take n).log hx hl
  obtain ⟨h2, r2⟩ := h.log (by obtain ⟨f, hf, e⟩ := hx; exact ⟨f, List.mem_of_mem_take hf, e⟩) hl'
  exact ⟨h1, h2, fall_one r1.falls r2.falls fun f => by rw [r1.mem, r2.mem]; exact h.met_take hx⟩
end Go.Proofs.YtbjpogeemajhoaaGreat.Or
