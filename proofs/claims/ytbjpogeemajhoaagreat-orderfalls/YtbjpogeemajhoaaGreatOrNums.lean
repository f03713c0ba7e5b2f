/-
  Rows of numbers that came in, opened; lists of commits made, and their beginnings, as the calls want them. Conditions: none.
-/
import Derived.Test.YtbjpogeemajhoaaGreatRows
import Derived.Test.YtbjpogeemajhoaaGreatOrMake
import Derived.Test.YtbjpogeemajhoaaGreatOrLog
import Derived.ProofKit
import Derived.OpenShut
import Derived.SizedLaws
import Derived.Carry
import Derived.Deep.Matrix
import Derived.Deep.Draws
namespace Go.Proofs.YtbjpogeemajhoaaGreat.Or
open Go Go.RowKit Go.WideShapes Go.ChangeShapes

theorem cellsN : Tryz.prog.cellsOf 3 = 1 := by kernel_rfl
theorem cellsRow : Tryz.prog.cellsOf 52 = 1 := by kernel_rfl
section
variable {H : Type} {enc : TypeId × Value → H} {w : World} {base : Nat} {held : Bool}
set_option maxRecDepth 100000 in
theorem open_nums {r : Reach} {b0 : Nat} {v : Value} {d : DataW H} {p : List MemPlace} (ok : Value.okWide Tryz.prog w r b0 22 v) (h : DataW.Trod enc Tryz.prog w base (fun _ => true) held 22 v d p) :
    ∃ (a : Option Addr) (cap b off n : Nat) (A : Nat → Option Addr) (L C : Nat → Nat) (Z : Nat → Nat → Int), v = .slice a n cap ∧ NumsAt w a b off n A L C Z ∧ n ≤ maxLen := by
  obtain ⟨a, len, cap, rfl⟩ := okWide_slice Tryz.underlying22 ok
  obtain ⟨fuel, hf⟩ := h
  rcases Deep.open_int_rows Tryz.underlying22 Tryz.underlying52 Tryz.underlying3 cellsRow cellsN hf with ⟨hcs, _⟩ | ⟨ad, len, cap, A, L, C, Z, hcs, _, hl, hm, _, hrow⟩
  · simp [Value.cells] at hcs
    obtain ⟨rfl, rfl, rfl⟩ := hcs
    exact ⟨none, 0, 0, 0, 0, fun _ => none, fun _ => 0, fun _ => 0, fun _ _ => 0, rfl, ⟨fun h => absurd h (Nat.lt_irrefl 0), fun r hr => absurd hr (Nat.not_lt_zero r), fun r hr => absurd hr (Nat.not_lt_zero r)⟩, Nat.zero_le _⟩
  · simp [Value.cells] at hcs
    obtain ⟨rfl, rfl, rfl⟩ := hcs
    have inner : ∀ r, r < len → ∀ c, c < L r → ∃ g o, A r = some ⟨g, o, none⟩ ∧ w.cell? ⟨g, o + c, none⟩ = some (.int .i64 ((Z r).getD c 0)) := fun r hr c hc => by
      obtain ⟨_, h1, _, _, _, h5, h6⟩ := hrow r (by omega)
      cases hA : A r with
      | none => have := h5 hA; omega
      | some a' =>
        obtain ⟨_, h7⟩ := h6 a' hA
        obtain ⟨g, o, spot⟩ := a'
        have hspot : spot = none := by
          simpa [Addr.add] using World.cell?_spot (h7 0 (by omega))
        subst hspot
        refine ⟨g, o, rfl, ?_⟩
        have := h7 c (by omega)
        rwa [add_plain] at this
    by_cases hp : 0 < len
    · obtain ⟨b, off, spot⟩ := ad
      have hspot : spot = none := by simpa [Addr.add] using World.cell?_spot (hrow 0 (by omega)).1
      subst hspot
      refine ⟨some ⟨b, off, none⟩, cap, b, off, len, A, L, C, fun r c => (Z r).getD c 0, rfl, ⟨fun _ => rfl, fun r hr => ?_, inner⟩, by omega⟩
      have := (hrow r (by omega)).1
      rwa [add_plain] at this
    · exact ⟨some ad, cap, 0, 0, len, A, L, C, fun r c => (Z r).getD c 0, rfl, ⟨fun h => absurd h hp, fun r hr => by omega, inner⟩, by omega⟩
end
theorem Fine.take {w : World} {a : Option Addr} {b off : Nat} {L : List Fx} (h : Fine w a b off L) (n : Nat) : Fine w a b off (L.take n) := by
  have sub : ∀ x ∈ L.take n, x ∈ L := fun x hx => List.mem_of_mem_take hx
  have at_ : ∀ (i : Nat) (x : Fx), (L.take n)[i]? = some x → L[i]? = some x := fun i x hx => by
    have hi := (List.getElem?_eq_some_iff.1 hx).1
    rw [List.length_take] at hi
    rwa [List.getElem?_take_of_lt (by omega)] at hx
  refine ⟨⟨fun h0 => h.at_.addr (by rw [List.length_take] at h0; omega), fun i x hx => h.at_.id i x (at_ i x hx), fun i x hx => h.at_.high i x (at_ i x hx), fun i x hx => h.at_.pars i x (at_ i x hx)⟩, h.facts.sub sub, by have := h.few; rw [List.length_take]; omega, fun x hx => h.pars x (sub x hx), fun x hx => h.high x (sub x hx)⟩
theorem fine_of {w : World} {a : Option Addr} {b off : Nat} {G : List Fx} (h : Grown (plain G)) (hG : FxsAt w a b off G) (hF : Facts w G) : Fine w a b off G := by
  have in_ : ∀ x ∈ G, ∃ i, (plain G)[i]? = some x.f ∧ i < 40 := fun x hx => by
    obtain ⟨i, hi, e⟩ := List.mem_iff_getElem.1 (List.mem_map.2 ⟨x, hx, rfl⟩ : x.f ∈ plain G)
    have h3 : i < (plain G).length := hi
    have h2 := h.len
    exact ⟨i, by rw [List.getElem?_eq_getElem hi, e], by omega⟩
  refine ⟨hG, hF, ?_, fun x hx => ?_, fun x hx => ?_⟩
  · have := h.len; unfold plain at this; rw [List.length_map] at this; omega
  · obtain ⟨i, e, hi⟩ := in_ x hx
    have := h.few i _ e; omega
  · obtain ⟨i, e, hi⟩ := in_ x hx
    have := (h.high i _ e).2; omega
end Go.Proofs.YtbjpogeemajhoaaGreat.Or
