/-
  NARROWER THAN 'FOR EVERY INPUT', by the rows' own cells (each row's printed sentence says how): CrcSums: laid · CrcGoes: laid · CrcLinear: laid · CrcBurst: laid.
  DERIVED. THE GIVEN ROWS OF THIS SEAT. 4 by the template 'for every input the law returns true; each argument reads behind the call as it read before'; 0 by the template 'total and deterministic' (their statements: YtcjfphpieehhlaaDoorTotals.lean).
  GIVEN WITH THE SEED: the statements are not yours to turn. If you find one false, say at which input.
  Laid BY PROGRAM, IN A SANDBOX (cutbox-rows.mjs): the forced cells as the released guide's own fill.sh prints them over the translation f3154f9a3c9e2730… (all of the seat's roots in one cut). By AI agents, Wed Nov 11 2026. No macro, syntax, notation, axiom, sorry.
-/
import Derived.Test.YtcjfphpieehhlaaDoorChecked
import GoSem.Claim
import GoSem.ClaimJoined
import GoSem.ClaimMapViews
import Derived.JoinedTies
import Derived.KernelRfl
namespace Go.Proofs.YtcjfphpieehhlaaDoor
/- THE CELL 'sum', in the pinned program and in every row, IS THE sha256 OF THE DUMP (.gsa) THAT YtcjfphpieehhlaaDoorProg.lean LOADS. Nothing in Lean hashes anything: it is a label: what it is worth is what the hold of that sum in a sandbox is worth. -/
noncomputable def Tryd.pinned : Pinned := { name := "ytcjfphpieehhlaadoor", sum := "f3154f9a3c9e2730e21c9f8f9f068fea23b017584df6e36e33a40e16eacae388", checked := Tryd.checked }
namespace Rows
def none {H : Type} : Left H := { results := [], args := [] }

/- WHAT THE LISTED PACKAGE-LEVEL VARIABLES READ AS WHEN THE CALL BEGINS. Each datum BY PROGRAM (the guide's laid-datum.mjs) off the statement by which the dump's own 'gosem.cut.vars' lays the variable. In a bare row this is a premise. The card (YtcjfphpieehhlaaDoorCards.lean) ties it to the program's text. -/
def laid_reliquary_crc_lower {H : Type} : DataW H := .agg [.lit (.int .u32 0), .lit (.int .u32 4067132163), .lit (.int .u32 3778769143), .lit (.int .u32 324072436), .lit (.int .u32 3348797215), .lit (.int .u32 904991772), .lit (.int .u32 648144872), .lit (.int .u32 3570033899), .lit (.int .u32 2329499855), .lit (.int .u32 2024987596), .lit (.int .u32 1809983544), .lit (.int .u32 2575936315), .lit (.int .u32 1296289744), .lit (.int .u32 3207089363), .lit (.int .u32 2893594407), .lit (.int .u32 1578318884)]
def laid_reliquary_crc_upper {H : Type} : DataW H := .agg [.lit (.int .u32 0), .lit (.int .u32 274646895), .lit (.int .u32 549293790), .lit (.int .u32 820201905), .lit (.int .u32 1098587580), .lit (.int .u32 1361435347), .lit (.int .u32 1640403810), .lit (.int .u32 1905808397), .lit (.int .u32 2197175160), .lit (.int .u32 2460548119), .lit (.int .u32 2722870694), .lit (.int .u32 2987750089), .lit (.int .u32 3280807620), .lit (.int .u32 3553878443), .lit (.int .u32 3811616794), .lit (.int .u32 4084100981)]

/-- 'reliquarylaw04.CrcSums': WHATEVER THE INPUT: true; the input reads as it did. -/
def crcSumsSpec : ChangeSpec := { name := "crcSums", fn := fun _ => fun
  | [d1, d2] => { results := [.lit (.bool true)], args := [d1, d2] }
  | _ => none }
def crcSumsRow : OpenClaim := { program := "ytcjfphpieehhlaadoor", sum := "f3154f9a3c9e2730e21c9f8f9f068fea23b017584df6e36e33a40e16eacae388", func := "reliquary/reliquarylaw04.CrcSums", spec := "crcSums", named := ["reliquary/crc.lower", "reliquary/crc.upper"], apart := false, laid := [("reliquary/crc.lower", laid_reliquary_crc_lower), ("reliquary/crc.upper", laid_reliquary_crc_upper)] }
def CrcSumsSaid : Prop := crcSumsRow.holds Tryd.pinned (OpenSpec.ofChange crcSumsSpec)

/-- ITS FALSE NEIGHBOUR: 'it returns false'. Refute it at one input. -/
def crcSumsWrong : ChangeSpec := { name := "crcSums", fn := fun _ => fun
  | [d1, d2] => { results := [.lit (.bool false)], args := [d1, d2] }
  | _ => none }
def CrcSumsWrongFalsely : Prop := crcSumsRow.holds Tryd.pinned (OpenSpec.ofChange crcSumsWrong)

/-- 'reliquarylaw04.CrcGoes': WHATEVER THE INPUT: true; the input reads as it did. -/
def crcGoesSpec : ChangeSpec := { name := "crcGoes", fn := fun _ => fun
  | [d1, d2] => { results := [.lit (.bool true)], args := [d1, d2] }
  | _ => none }
def crcGoesRow : OpenClaim := { program := "ytcjfphpieehhlaadoor", sum := "f3154f9a3c9e2730e21c9f8f9f068fea23b017584df6e36e33a40e16eacae388", func := "reliquary/reliquarylaw04.CrcGoes", spec := "crcGoes", named := ["reliquary/crc.lower", "reliquary/crc.upper"], apart := false, laid := [("reliquary/crc.lower", laid_reliquary_crc_lower), ("reliquary/crc.upper", laid_reliquary_crc_upper)] }
def CrcGoesSaid : Prop := crcGoesRow.holds Tryd.pinned (OpenSpec.ofChange crcGoesSpec)

/-- ITS FALSE NEIGHBOUR: 'it returns false'. Refute it at one input. -/
def crcGoesWrong : ChangeSpec := { name := "crcGoes", fn := fun _ => fun
  | [d1, d2] => { results := [.lit (.bool false)], args := [d1, d2] }
  | _ => none }
def CrcGoesWrongFalsely : Prop := crcGoesRow.holds Tryd.pinned (OpenSpec.ofChange crcGoesWrong)

/-- 'reliquarylaw04.CrcLinear': WHATEVER THE INPUT: true; the input reads as it did. -/
def crcLinearSpec : ChangeSpec := { name := "crcLinear", fn := fun _ => fun
  | [d1, d2, d3] => { results := [.lit (.bool true)], args := [d1, d2, d3] }
  | _ => none }
def crcLinearRow : OpenClaim := { program := "ytcjfphpieehhlaadoor", sum := "f3154f9a3c9e2730e21c9f8f9f068fea23b017584df6e36e33a40e16eacae388", func := "reliquary/reliquarylaw04.CrcLinear", spec := "crcLinear", named := ["reliquary/crc.lower", "reliquary/crc.upper"], apart := false, laid := [("reliquary/crc.lower", laid_reliquary_crc_lower), ("reliquary/crc.upper", laid_reliquary_crc_upper)] }
def CrcLinearSaid : Prop := crcLinearRow.holds Tryd.pinned (OpenSpec.ofChange crcLinearSpec)

/-- ITS FALSE NEIGHBOUR: 'it returns false'. Refute it at one input. -/
def crcLinearWrong : ChangeSpec := { name := "crcLinear", fn := fun _ => fun
  | [d1, d2, d3] => { results := [.lit (.bool false)], args := [d1, d2, d3] }
  | _ => none }
def CrcLinearWrongFalsely : Prop := crcLinearRow.holds Tryd.pinned (OpenSpec.ofChange crcLinearWrong)

/-- 'reliquarylaw04.CrcBurst': WHATEVER THE INPUT: true; the input reads as it did. -/
def crcBurstSpec : ChangeSpec := { name := "crcBurst", fn := fun _ => fun
  | [d1, d2, d3] => { results := [.lit (.bool true)], args := [d1, d2, d3] }
  | _ => none }
def crcBurstRow : OpenClaim := { program := "ytcjfphpieehhlaadoor", sum := "f3154f9a3c9e2730e21c9f8f9f068fea23b017584df6e36e33a40e16eacae388", func := "reliquary/reliquarylaw04.CrcBurst", spec := "crcBurst", named := ["reliquary/crc.lower", "reliquary/crc.upper"], apart := false, laid := [("reliquary/crc.lower", laid_reliquary_crc_lower), ("reliquary/crc.upper", laid_reliquary_crc_upper)] }
def CrcBurstSaid : Prop := crcBurstRow.holds Tryd.pinned (OpenSpec.ofChange crcBurstSpec)

/-- ITS FALSE NEIGHBOUR: 'it returns false'. Refute it at one input. -/
def crcBurstWrong : ChangeSpec := { name := "crcBurst", fn := fun _ => fun
  | [d1, d2, d3] => { results := [.lit (.bool false)], args := [d1, d2, d3] }
  | _ => none }
def CrcBurstWrongFalsely : Prop := crcBurstRow.holds Tryd.pinned (OpenSpec.ofChange crcBurstWrong)

/- THE SECOND FORM. 'bulk': how many values and letters a reading holds, each counted each time it is reached (what is shared counts as often as it is met; a slice's spare places count too). A statement '..UptoSaid' is the law's where the arguments, and the package variables that the reading takes, are together of bulk at most 1048576: NARROWER than '..Said'. Prove '..Said' where nothing that the law and all that it calls make is longer than what came in: it says more and counts as full. Else prove '..UptoSaid'. A law counts once. -/
mutual
def uptoBulk {H : Type} : DataW H → Nat
  | .lit (.string bytes) => bytes.length + 1
  | .lit _ => 1
  | .nil => 1
  | .ptr d => uptoBulk d + 1
  | .slice elems spare => uptoBulkAll elems + uptoBulkAll spare + 1
  | .agg parts => uptoBulkAll parts + 1
  | .iface _ d => uptoBulk d + 1
  | .map entries => uptoBulkEntries entries + 1
  | .held _ => 1
def uptoBulkAll {H : Type} : List (DataW H) → Nat
  | [] => 0
  | d :: r => uptoBulk d + uptoBulkAll r
def uptoBulkEntries {H : Type} : List (Lit × DataW H) → Nat
  | [] => 0
  | x :: r => uptoBulkEntry x + uptoBulkEntries r
def uptoBulkEntry {H : Type} : Lit × DataW H → Nat
  | (.string bytes, d) => bytes.length + uptoBulk d + 1
  | (_, d) => uptoBulk d + 1
 end
def uptoSmall : (H : Type) → List (DataW H) → Bool := fun _ ds => decide (uptoBulkAll ds ≤ 1048576)
def OpenSpec.upto (s : _root_.Go.ChangeSpec) : _root_.Go.OpenSpec := { _root_.Go.OpenSpec.ofChange s with cond := some uptoSmall }

/-- 'reliquarylaw04.CrcSums', WHERE WHAT IT READS IS OF BULK AT MOST 1048576: true; the input reads as it did. -/
def crcSumsUptoRow : OpenClaim := { program := "ytcjfphpieehhlaadoor", sum := "f3154f9a3c9e2730e21c9f8f9f068fea23b017584df6e36e33a40e16eacae388", func := "reliquary/reliquarylaw04.CrcSums", spec := "crcSums", named := ["reliquary/crc.lower", "reliquary/crc.upper"], apart := false, laid := [("reliquary/crc.lower", laid_reliquary_crc_lower), ("reliquary/crc.upper", laid_reliquary_crc_upper)], narrowed := true }
def CrcSumsUptoSaid : Prop := crcSumsUptoRow.holds Tryd.pinned (OpenSpec.upto crcSumsSpec)

/-- 'reliquarylaw04.CrcGoes', WHERE WHAT IT READS IS OF BULK AT MOST 1048576: true; the input reads as it did. -/
def crcGoesUptoRow : OpenClaim := { program := "ytcjfphpieehhlaadoor", sum := "f3154f9a3c9e2730e21c9f8f9f068fea23b017584df6e36e33a40e16eacae388", func := "reliquary/reliquarylaw04.CrcGoes", spec := "crcGoes", named := ["reliquary/crc.lower", "reliquary/crc.upper"], apart := false, laid := [("reliquary/crc.lower", laid_reliquary_crc_lower), ("reliquary/crc.upper", laid_reliquary_crc_upper)], narrowed := true }
def CrcGoesUptoSaid : Prop := crcGoesUptoRow.holds Tryd.pinned (OpenSpec.upto crcGoesSpec)

/-- 'reliquarylaw04.CrcLinear', WHERE WHAT IT READS IS OF BULK AT MOST 1048576: true; the input reads as it did. -/
def crcLinearUptoRow : OpenClaim := { program := "ytcjfphpieehhlaadoor", sum := "f3154f9a3c9e2730e21c9f8f9f068fea23b017584df6e36e33a40e16eacae388", func := "reliquary/reliquarylaw04.CrcLinear", spec := "crcLinear", named := ["reliquary/crc.lower", "reliquary/crc.upper"], apart := false, laid := [("reliquary/crc.lower", laid_reliquary_crc_lower), ("reliquary/crc.upper", laid_reliquary_crc_upper)], narrowed := true }
def CrcLinearUptoSaid : Prop := crcLinearUptoRow.holds Tryd.pinned (OpenSpec.upto crcLinearSpec)

/-- 'reliquarylaw04.CrcBurst', WHERE WHAT IT READS IS OF BULK AT MOST 1048576: true; the input reads as it did. -/
def crcBurstUptoRow : OpenClaim := { program := "ytcjfphpieehhlaadoor", sum := "f3154f9a3c9e2730e21c9f8f9f068fea23b017584df6e36e33a40e16eacae388", func := "reliquary/reliquarylaw04.CrcBurst", spec := "crcBurst", named := ["reliquary/crc.lower", "reliquary/crc.upper"], apart := false, laid := [("reliquary/crc.lower", laid_reliquary_crc_lower), ("reliquary/crc.upper", laid_reliquary_crc_upper)], narrowed := true }
def CrcBurstUptoSaid : Prop := crcBurstUptoRow.holds Tryd.pinned (OpenSpec.upto crcBurstSpec)

end Rows
end Go.Proofs.YtcjfphpieehhlaaDoor
