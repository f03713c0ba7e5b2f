/-
  Nodes handed in, opened: a key and a list of numbers each. Conditions: none.
-/
import Derived.Test.YtcoccaglbepbdaaGreatRows
import Derived.Test.YtcoccaglbepbdaaGreatGrRefA
import Derived.Test.YtcoccaglbepbdaaGreatOctKit
import Derived.ProofKit
import Derived.OpenShut
import Derived.SizedLaws
import Derived.Carry
import Derived.WalkKit
import Derived.Deep.Draws
import Derived.Deep.SlicePairs
import Derived.Deep.Slices
import Derived.Deep.Strs
namespace Go.Proofs.YtcoccaglbepbdaaGreat.Rg
open Go Go.RowKit Go.WideShapes Go.ChangeShapes Sh
open Rf (Sl)

theorem cellsN_int : Tryz.prog.cellsOf 3 = 1 := by kernel_rfl
theorem cellsN_ints : Tryz.prog.cellsOf 23 = 1 := by kernel_rfl
theorem cellsN_node : Tryz.prog.cellsOf 53 = 2 := by kernel_rfl
theorem listN1 {α : Type} {l : List α} (h : l.length = 1) : ∃ a, l = [a] := by
  match l, h with
  | [a], _ => exact ⟨a, rfl⟩
theorem listN2 {α : Type} {l : List α} (h : l.length = 2) : ∃ a b, l = [a, b] := by
  match l, h with
  | [a, b], _ => exact ⟨a, b, rfl⟩
section
variable {H : Type} {enc : TypeId × Value → H} {w : World} {base : Nat} {spare : Nat → Bool} {held : Bool}
theorem open_row {fuel : Nat} {c : Value} {x : DataW H × List MemPlace} (h : DataW.trod enc Tryz.prog w base spare held fuel 23 [c] = some x) : ∃ L, Sl w c L := by
  rcases open_ints Tryz.underlying23 Tryz.underlying3 cellsN_int h with ⟨hcs, _⟩ | ⟨a, len, cap, zs, hcs, _, hl, _, hz, _, hcell, _⟩
  · simp at hcs
    subst hcs
    exact ⟨[], none, 0, rfl, fun h => by simp at h⟩
  · simp at hcs
    subst hcs
    have hlz : len ≤ zs.length := by rw [hz]; split <;> omega
    have hll : (zs.take len).length = len := by rw [List.length_take]; omega
    refine ⟨zs.take len, some a, cap, by rw [hll], fun h0 => ?_⟩
    rw [hll] at h0
    obtain ⟨b, off, spot⟩ := a
    have hspot : spot = none := by simpa [Addr.add] using World.cell?_spot (hcell 0 (by omega))
    subst hspot
    refine ⟨b, off, rfl, World.block_lt_of_cell? w _ (hcell 0 (by omega)), fun j hj => ?_⟩
    rw [hll] at hj
    have := hcell j (by omega)
    rw [add_plain] at this
    rw [this, List.getElem?_take, if_pos hj, List.getD_eq_getElem?_getD]
set_option maxRecDepth 100000 in
theorem open_nodes {b0 : Nat} {r : Reach} {v : Value} {d : DataW H} {p : List MemPlace} (ok : Value.okWide Tryz.prog w r b0 22 v) (h : DataW.Trod enc Tryz.prog w base spare held 22 v d p) :
    ∃ (a : Option Addr) (cap b off : Nat) (P : List (Int × Value)) (T : Nat → List Int), v = .slice a P.length cap ∧ NodesAt w a b off P ∧ ∀ i p, P[i]? = some p → Sl w p.2 (T i) := by
  obtain ⟨a, len, cap, rfl⟩ := okWide_slice Tryz.underlying22 ok
  obtain ⟨fuel, hf⟩ := h
  rcases DataW.trod_slice Tryz.underlying22 hf with ⟨hcs, _⟩ | ⟨ad, len, cap, elems, rest, n, _, hcs, _, hb, hl, hm, hlen, hel, _⟩
  · simp [Value.cells] at hcs
    obtain ⟨rfl, rfl, rfl⟩ := hcs
    exact ⟨none, 0, 0, 0, [], fun _ => [], rfl, ⟨fun h => absurd h (Nat.lt_irrefl _), fun i e he => by simp at he, fun i e he => by simp at he⟩, fun i e he => by simp at he⟩
  · simp [Value.cells] at hcs
    obtain ⟨rfl, rfl, rfl⟩ := hcs
    have each : ∀ i, i < len → ∃ e : (Int × Value) × List Int, w.cell? (ad.add (i * 2)) = some (.int .i64 e.1.1) ∧ w.cell? (ad.add (i * 2 + 1)) = some e.1.2 ∧ Sl w e.1.2 e.2 := fun i hi => by
      have g := hel i hi
      rw [List.getElem?_eq_getElem (by omega), Option.bind_eq_some_iff] at g
      obtain ⟨cs', h1, h2⟩ := g
      rw [cellsN_node] at h1
      obtain ⟨_, hl3, hcell⟩ := World.cells?_some h1
      obtain ⟨y0, y1, k, _, _, g0, g1⟩ := ChangeShapes.trod_struct2 Tryz.underlying53 h2
      obtain ⟨v0, v1, rfl⟩ := listN2 hl3
      simp only [cellsN_int, cellsN_ints] at g0 g1
      obtain ⟨z0, q0, _, _⟩ := DataW.trod_int Tryz.underlying3 g0
      obtain ⟨L, hL⟩ := open_row (c := v1) (by simpa using g1)
      simp at q0
      have e0 := hcell 0 (by omega)
      have e1 := hcell 1 (by omega)
      rw [Deep.add_add] at e0 e1
      exact ⟨⟨⟨z0, v1⟩, L⟩, by simpa [q0] using e0, by simpa using e1, hL⟩
    obtain ⟨z, hz⟩ := Deep.choose_lt each
    have hL : ((List.range len).map fun i => (z i).1).length = len := by simp
    have hget : ∀ i e, ((List.range len).map fun i => (z i).1)[i]? = some e → i < len ∧ e = (z i).1 := fun i e he => by
      rw [List.getElem?_map] at he
      by_cases hi : i < len
      · rw [List.getElem?_range hi] at he; simp at he; exact ⟨hi, he.symm⟩
      · rw [List.getElem?_eq_none (by simpa using hi)] at he; simp at he
    by_cases hp : 0 < len
    · obtain ⟨b, off, spot⟩ := ad
      have hspot : spot = none := by simpa [Addr.add] using World.cell?_spot (hz 0 hp).1
      subst hspot
      refine ⟨some ⟨b, off, none⟩, cap, b, off, _, fun i => (z i).2, by rw [hL], ⟨fun _ => ⟨rfl, World.block_lt_of_cell? w _ (hz 0 hp).1⟩, fun i e he => ?_, fun i e he => ?_⟩, fun i e he => ?_⟩
      all_goals (obtain ⟨hi, rfl⟩ := hget i e he)
      · rw [← add_plain]; exact (hz i hi).1
      · rw [Nat.add_assoc, ← add_plain]; exact (hz i hi).2.1
      · exact (hz i hi).2.2
    · obtain rfl : len = 0 := by omega
      exact ⟨some ad, cap, 0, 0, [], fun _ => [], rfl, ⟨fun h => absurd h (Nat.lt_irrefl _), fun i e he => by simp at he, fun i e he => by simp at he⟩, fun i e he => by simp at he⟩
end
end Go.Proofs.YtcoccaglbepbdaaGreat.Rg
