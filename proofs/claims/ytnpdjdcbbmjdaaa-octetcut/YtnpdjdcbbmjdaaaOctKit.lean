/-
  Small lemmas for the rows' own steps: what the form's reach says of a text. Conditions: none.
-/
import Derived.Test.YtnpdjdcbbmjdaaaRows
import Derived.ProofKit
import Derived.OpenShut
import Derived.SizedLaws
import Derived.Carry
import Derived.WalkKit
namespace Go.Proofs.Ytnpdjdcbbmjdaaa.Oct
open Go Go.RowKit

theorem size_reach {s : ByteArray} (h : s.data.toList.length ≤ reachBytes) : s.size ≤ 140737488351232 := by
  have e : s.data.toList.length = s.size := by rw [Array.length_toList]; rfl
  rw [e] at h
  simpa only [reachBytes] using h

/-- 'int(uint(c) % uint(m))', as the walk spells it, is a number below m -/
theorem rem_small (c m : Int) (h0 : 0 < m) (h1 : m ≤ 2147483648) : ∃ k : Nat, wrap64 ((IntKind.u64.wrap c).tmod m) = (k : Int) ∧ (k : Int) < m := by
  rw [IntKind.wrap_u64, Int.tmod_eq_emod_of_nonneg (by omega)]
  have a := Int.emod_nonneg (c % 18446744073709551616) (show m ≠ 0 by omega)
  have b := Int.emod_lt_of_pos (c % 18446744073709551616) h0
  rw [IntWalk.wrap64_in _ ⟨by omega, by omega⟩]
  exact ⟨(c % 18446744073709551616 % m).toNat, by omega, by omega⟩

end Go.Proofs.Ytnpdjdcbbmjdaaa.Oct
