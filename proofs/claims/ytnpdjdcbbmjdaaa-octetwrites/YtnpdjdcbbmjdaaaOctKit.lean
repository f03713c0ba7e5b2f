/-
  Small lemmas for the rows' own steps: what the form's reach says of a text. Conditions: none.
-/
import Derived.Test.YtnpdjdcbbmjdaaaRows
import Derived.ProofKit
import Derived.OpenShut
import Derived.SizedLaws
import Derived.Carry
namespace Go.Proofs.Ytnpdjdcbbmjdaaa.Oct

theorem size_reach {s : ByteArray} (h : s.data.toList.length ≤ reachBytes) : s.size ≤ 140737488351232 := by
  have e : s.data.toList.length = s.size := by rw [Array.length_toList]; rfl
  rw [e] at h
  simpa only [reachBytes] using h

end Go.Proofs.Ytnpdjdcbbmjdaaa.Oct
