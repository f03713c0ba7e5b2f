/-
  What the document's own answers for layer 1 (Num, Text) do, called with any arguments in any memory. Conditions: a number fits its kind, a text is within the form's own reach.
-/
import Derived.Test.YtliojhhiadfmiaaDoorOctCalls
namespace Go.Proofs.YtliojhhiadfmiaaDoor.Oct
open Go.RowKit

set_option maxHeartbeats 400000 in
theorem RefNum_calls (n : Int) (h0 : 0 ≤ n) (h1 : n < 4294967296) (w : World) :
    Calls Tryd.prog 57 #[.int .u32 n] w fun e w' => e = .returned (.string (num4 n)) ∧ ∃ c, w.alloc (.cells c 5) = w' := by
  have hc := run_convert_bytes_arg (P := Tryd.prog) (w.alloc (Obj.cells
              #[Value.int IntKind.u8 (n % 256), Value.int IntKind.u8 (n / 256 % 256),
                Value.int IntKind.u8 (n / 65536 % 256), Value.int IntKind.u8 (n / 16777216)]
              5)) 40 5 Tryd.underlying40 Tryd.underlying5 w.heap.size 0 4 4 [n % 256, n / 256 % 256, n / 65536 % 256, n / 16777216] rfl (by
                intro i hi
                match i, hi with
                | 0, _ => simp [go_sem]
                | 1, _ => simp [go_sem]
                | 2, _ => simp [go_sem]
                | 3, _ => simp [go_sem]) 9 Tryd.underlying9
  go_enter Tryd.func57, Tryd.ntmps57
  go_wp2
  go_ret
  exact ⟨rfl, _, rfl⟩
end Go.Proofs.YtliojhhiadfmiaaDoor.Oct
