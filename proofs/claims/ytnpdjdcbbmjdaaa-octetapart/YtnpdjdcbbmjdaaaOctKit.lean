/-
  Small lemmas for the rows' own steps: what the form's reach says of a text. Conditions: none.
-/
import Derived.Test.YtnpdjdcbbmjdaaaRows
import Derived.ProofKit
import Derived.OpenShut
import Derived.SizedLaws
import Derived.Carry
import Derived.WalkKit
import Derived.Deep.Draws
namespace Go.Proofs.Ytnpdjdcbbmjdaaa.Oct
open Go Go.RowKit

theorem size_reach {s : ByteArray} (h : s.data.toList.length ≤ reachBytes) : s.size ≤ 140737488351232 := by
  have e : s.data.toList.length = s.size := by rw [Array.length_toList]; rfl
  rw [e] at h
  simpa only [reachBytes] using h

/-- 'int(uint(c) % uint(m))', as the walk spells it, is a number below m -/
theorem rem_small (c m : Int) (h0 : 0 < m) (h1 : m ≤ 2147483648) : ∃ k : Nat, wrap64 ((IntKind.u64.wrap c).tmod m) = (k : Int) ∧ (k : Int) < m := by
  rw [IntKind.wrap_u64, Int.tmod_eq_emod_of_nonneg (by omega)]
  have a := Int.emod_nonneg (c % 18446744073709551616) (show m ≠ 0 by omega)
  have b := Int.emod_lt_of_pos (c % 18446744073709551616) h0
  rw [IntWalk.wrap64_in _ ⟨by omega, by omega⟩]
  exact ⟨(c % 18446744073709551616 % m).toNat, by omega, by omega⟩

theorem toList_inj {s t : ByteArray} : s.toList = t.toList ↔ s = t := by
  rw [ByteArray.toList_eq, ByteArray.toList_eq]
  exact ⟨fun h => ByteArray.ext (Array.toList_inj.1 h), fun h => by rw [h]⟩
/-- '==' on texts, as the walk spells it -/
theorem beq_toList (s t : ByteArray) : (s.toList == t.toList) = decide (s = t) := by
  rw [Bool.eq_iff_iff]; simp [toList_inj]

theorem cell_drew {w : World} {p : Addr} {v : Value} (h : w.cell? p = some v) : w.drew.cell? p = some v := h
theorem cell_drewN {w : World} {p : Addr} {v : Value} {n : Nat} (h : w.cell? p = some v) : (w.drewN n).cell? p = some v := h
theorem cell_alloc {w : World} {p : Addr} {v : Value} {o : Obj} (h : w.cell? p = some v) : (w.alloc o).cell? p = some v := by
  have hp : p.block < w.heap.size := by
    rcases Nat.lt_or_ge p.block w.heap.size with g | g
    · exact g
    · simp [World.cell?, Array.getElem?_eq_none g] at h
  exact (((Below.refl w.heap.size w).alloc (Nat.le_refl _) o).cell hp).trans h

theorem below_alloc {u w : World} {o : Obj} (h : Below u.heap.size u w) : Below u.heap.size u (w.alloc o) := h.alloc h.size o
theorem ret_bool {x y : Bool} (h : x = y) : Ending.returned (.bool x) = .returned (.bool y) := by rw [h]

/-- an array of two texts, by value, opened -/
theorem open_str2 {H : Type} {enc : TypeId × Value → H} {P : Program} {w : World} {base b0 : Nat} {spare : Nat → Bool} {held : Bool} {r : Reach} {t e : TypeId} {v : Value} {d : DataW H} {p : List MemPlace}
    (ht : P.underlying t = some (.array 2 e)) (he : P.underlying e = some .string) (hC : P.cellsOf t = 2) (hE : P.cellsOf e = 1)
    (ok : Value.okWide P w r b0 t v) (h : DataW.Trod enc P w base spare held t v d p) : ∃ s0 s1 : ByteArray, v = .agg #[.string s0, .string s1] := by
  simp only [Value.okWide, ht] at ok
  obtain ⟨cs, rfl, h2, _⟩ := ok
  rw [hC] at h2
  obtain ⟨fuel, hf⟩ := h
  obtain ⟨xs, m, _, _, _, hlen, hx⟩ := DataW.trod_array ht hf
  have a0 := hx 0 (by omega)
  have a1 := hx 1 (by omega)
  have n0 : xs[0]? ≠ none := by rw [List.getElem?_eq_getElem (by omega)]; simp
  have n1 : xs[1]? ≠ none := by rw [List.getElem?_eq_getElem (by omega)]; simp
  obtain ⟨y0, e0⟩ := Option.ne_none_iff_exists'.1 n0
  obtain ⟨y1, e1⟩ := Option.ne_none_iff_exists'.1 n1
  rw [e0] at a0
  rw [e1] at a1
  obtain ⟨s0, g0, _, _⟩ := DataW.trod_string he a0
  obtain ⟨s1, g1, _, _⟩ := DataW.trod_string he a1
  simp only [Value.cells, hE] at g0 g1
  obtain ⟨l⟩ := cs
  match l, h2 with
  | [c0, c1], _ =>
    simp at g0 g1
    exact ⟨s0, s1, by rw [g0, g1]⟩

end Go.Proofs.Ytnpdjdcbbmjdaaa.Oct
