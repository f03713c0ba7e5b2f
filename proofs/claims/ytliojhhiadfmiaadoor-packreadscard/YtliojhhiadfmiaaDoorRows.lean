/-
  NARROWER THAN 'FOR EVERY INPUT', by the rows' own cells (each row's printed sentence says how): PackMakes: laid · PackReads: laid · PackFinds: laid · PackBack: laid · PackFound: laid · PackTells: laid · PackSize: laid.
  DERIVED. THE GIVEN ROWS OF THIS SEAT. 7 by the template 'for every input the law returns true; each argument reads behind the call as it read before'; 0 by the template 'total and deterministic' (their statements: YtliojhhiadfmiaaDoorTotals.lean).
  GIVEN WITH THE SEED: the statements are not yours to turn. If you find one false, say at which input.
  Laid BY PROGRAM, IN A SANDBOX (cutbox-rows.mjs): the forced cells as the released guide's own fill.sh prints them over the translation f366c8c9162b892e… (all of the seat's roots in one cut). By AI agents, Wed Nov 11 2026. No macro, syntax, notation, axiom, sorry.
-/
import Derived.Test.YtliojhhiadfmiaaDoorChecked
import GoSem.Claim
import GoSem.ClaimJoined
import GoSem.ClaimMapViews
import Derived.JoinedTies
import Derived.KernelRfl
namespace Go.Proofs.YtliojhhiadfmiaaDoor
/- THE CELL 'sum', in the pinned program and in every row, IS THE sha256 OF THE DUMP (.gsa) THAT YtliojhhiadfmiaaDoorProg.lean LOADS. Nothing in Lean hashes anything: it is a label: what it is worth is what the hold of that sum in a sandbox is worth. -/
noncomputable def Tryd.pinned : Pinned := { name := "ytliojhhiadfmiaadoor", sum := "f366c8c9162b892e568d6ddeb89b91538a12acedd23d685d2a9303019e524a12", checked := Tryd.checked }
namespace Rows
def none {H : Type} : Left H := { results := [], args := [] }

/- WHAT THE LISTED PACKAGE-LEVEL VARIABLES READ AS WHEN THE CALL BEGINS. Each datum BY PROGRAM (the guide's laid-datum.mjs) off the statement by which the dump's own 'gosem.cut.vars' lays the variable. In a bare row this is a premise. The card (YtliojhhiadfmiaaDoorCards.lean) ties it to the program's text. -/
def laid_reliquary_crc_lower {H : Type} : DataW H := .agg [.lit (.int .u32 0), .lit (.int .u32 4067132163), .lit (.int .u32 3778769143), .lit (.int .u32 324072436), .lit (.int .u32 3348797215), .lit (.int .u32 904991772), .lit (.int .u32 648144872), .lit (.int .u32 3570033899), .lit (.int .u32 2329499855), .lit (.int .u32 2024987596), .lit (.int .u32 1809983544), .lit (.int .u32 2575936315), .lit (.int .u32 1296289744), .lit (.int .u32 3207089363), .lit (.int .u32 2893594407), .lit (.int .u32 1578318884)]
def laid_reliquary_crc_upper {H : Type} : DataW H := .agg [.lit (.int .u32 0), .lit (.int .u32 274646895), .lit (.int .u32 549293790), .lit (.int .u32 820201905), .lit (.int .u32 1098587580), .lit (.int .u32 1361435347), .lit (.int .u32 1640403810), .lit (.int .u32 1905808397), .lit (.int .u32 2197175160), .lit (.int .u32 2460548119), .lit (.int .u32 2722870694), .lit (.int .u32 2987750089), .lit (.int .u32 3280807620), .lit (.int .u32 3553878443), .lit (.int .u32 3811616794), .lit (.int .u32 4084100981)]
def laid_reliquary_sha_constants {H : Type} : DataW H := .agg [.lit (.int .u32 1116352408), .lit (.int .u32 1899447441), .lit (.int .u32 3049323471), .lit (.int .u32 3921009573), .lit (.int .u32 961987163), .lit (.int .u32 1508970993), .lit (.int .u32 2453635748), .lit (.int .u32 2870763221), .lit (.int .u32 3624381080), .lit (.int .u32 310598401), .lit (.int .u32 607225278), .lit (.int .u32 1426881987), .lit (.int .u32 1925078388), .lit (.int .u32 2162078206), .lit (.int .u32 2614888103), .lit (.int .u32 3248222580), .lit (.int .u32 3835390401), .lit (.int .u32 4022224774), .lit (.int .u32 264347078), .lit (.int .u32 604807628), .lit (.int .u32 770255983), .lit (.int .u32 1249150122), .lit (.int .u32 1555081692), .lit (.int .u32 1996064986), .lit (.int .u32 2554220882), .lit (.int .u32 2821834349), .lit (.int .u32 2952996808), .lit (.int .u32 3210313671), .lit (.int .u32 3336571891), .lit (.int .u32 3584528711), .lit (.int .u32 113926993), .lit (.int .u32 338241895), .lit (.int .u32 666307205), .lit (.int .u32 773529912), .lit (.int .u32 1294757372), .lit (.int .u32 1396182291), .lit (.int .u32 1695183700), .lit (.int .u32 1986661051), .lit (.int .u32 2177026350), .lit (.int .u32 2456956037), .lit (.int .u32 2730485921), .lit (.int .u32 2820302411), .lit (.int .u32 3259730800), .lit (.int .u32 3345764771), .lit (.int .u32 3516065817), .lit (.int .u32 3600352804), .lit (.int .u32 4094571909), .lit (.int .u32 275423344), .lit (.int .u32 430227734), .lit (.int .u32 506948616), .lit (.int .u32 659060556), .lit (.int .u32 883997877), .lit (.int .u32 958139571), .lit (.int .u32 1322822218), .lit (.int .u32 1537002063), .lit (.int .u32 1747873779), .lit (.int .u32 1955562222), .lit (.int .u32 2024104815), .lit (.int .u32 2227730452), .lit (.int .u32 2361852424), .lit (.int .u32 2428436474), .lit (.int .u32 2756734187), .lit (.int .u32 3204031479), .lit (.int .u32 3329325298)]

/-- 'reliquarylaw07.PackMakes': WHATEVER THE INPUT: true; the input reads as it did. -/
def packMakesSpec : ChangeSpec := { name := "packMakes", fn := fun _ => fun
  | [d] => { results := [.lit (.bool true)], args := [d] }
  | _ => none }
def packMakesRow : OpenClaim := { program := "ytliojhhiadfmiaadoor", sum := "f366c8c9162b892e568d6ddeb89b91538a12acedd23d685d2a9303019e524a12", func := "reliquary/reliquarylaw07.PackMakes", spec := "packMakes", inPlace := ["internal/abi.NoEscape", "internal/bytealg.abigen_runtime_cmpstring"], unfollowed := true, recurses := true, named := ["reliquary/sha.constants", "reliquary/crc.lower", "reliquary/crc.upper"], apart := false, laid := [("reliquary/crc.lower", laid_reliquary_crc_lower), ("reliquary/crc.upper", laid_reliquary_crc_upper), ("reliquary/sha.constants", laid_reliquary_sha_constants)] }
def PackMakesSaid : Prop := packMakesRow.holds Tryd.pinned (OpenSpec.ofChange packMakesSpec)

/-- ITS FALSE NEIGHBOUR: 'it returns false'. Refute it at one input. -/
def packMakesWrong : ChangeSpec := { name := "packMakes", fn := fun _ => fun
  | [d] => { results := [.lit (.bool false)], args := [d] }
  | _ => none }
def PackMakesWrongFalsely : Prop := packMakesRow.holds Tryd.pinned (OpenSpec.ofChange packMakesWrong)

/-- 'reliquarylaw07.PackReads': WHATEVER THE INPUT: true; the input reads as it did. -/
def packReadsSpec : ChangeSpec := { name := "packReads", fn := fun _ => fun
  | [d] => { results := [.lit (.bool true)], args := [d] }
  | _ => none }
def packReadsRow : OpenClaim := { program := "ytliojhhiadfmiaadoor", sum := "f366c8c9162b892e568d6ddeb89b91538a12acedd23d685d2a9303019e524a12", func := "reliquary/reliquarylaw07.PackReads", spec := "packReads", inPlace := ["internal/abi.NoEscape", "internal/bytealg.abigen_runtime_cmpstring"], unfollowed := true, recurses := true, named := ["reliquary/sha.constants", "reliquary/crc.lower", "reliquary/crc.upper"], apart := false, laid := [("reliquary/crc.lower", laid_reliquary_crc_lower), ("reliquary/crc.upper", laid_reliquary_crc_upper), ("reliquary/sha.constants", laid_reliquary_sha_constants)] }
def PackReadsSaid : Prop := packReadsRow.holds Tryd.pinned (OpenSpec.ofChange packReadsSpec)

/-- ITS FALSE NEIGHBOUR: 'it returns false'. Refute it at one input. -/
def packReadsWrong : ChangeSpec := { name := "packReads", fn := fun _ => fun
  | [d] => { results := [.lit (.bool false)], args := [d] }
  | _ => none }
def PackReadsWrongFalsely : Prop := packReadsRow.holds Tryd.pinned (OpenSpec.ofChange packReadsWrong)

/-- 'reliquarylaw07.PackFinds': WHATEVER THE INPUT: true; the input reads as it did. -/
def packFindsSpec : ChangeSpec := { name := "packFinds", fn := fun _ => fun
  | [d1, d2] => { results := [.lit (.bool true)], args := [d1, d2] }
  | _ => none }
def packFindsRow : OpenClaim := { program := "ytliojhhiadfmiaadoor", sum := "f366c8c9162b892e568d6ddeb89b91538a12acedd23d685d2a9303019e524a12", func := "reliquary/reliquarylaw07.PackFinds", spec := "packFinds", inPlace := ["internal/abi.NoEscape", "internal/bytealg.abigen_runtime_cmpstring"], unfollowed := true, recurses := true, named := ["reliquary/sha.constants", "reliquary/crc.lower", "reliquary/crc.upper"], apart := false, laid := [("reliquary/crc.lower", laid_reliquary_crc_lower), ("reliquary/crc.upper", laid_reliquary_crc_upper), ("reliquary/sha.constants", laid_reliquary_sha_constants)] }
def PackFindsSaid : Prop := packFindsRow.holds Tryd.pinned (OpenSpec.ofChange packFindsSpec)

/-- ITS FALSE NEIGHBOUR: 'it returns false'. Refute it at one input. -/
def packFindsWrong : ChangeSpec := { name := "packFinds", fn := fun _ => fun
  | [d1, d2] => { results := [.lit (.bool false)], args := [d1, d2] }
  | _ => none }
def PackFindsWrongFalsely : Prop := packFindsRow.holds Tryd.pinned (OpenSpec.ofChange packFindsWrong)

/-- 'reliquarylaw07.PackBack': WHATEVER THE INPUT: true; the input reads as it did. -/
def packBackSpec : ChangeSpec := { name := "packBack", fn := fun _ => fun
  | [d] => { results := [.lit (.bool true)], args := [d] }
  | _ => none }
def packBackRow : OpenClaim := { program := "ytliojhhiadfmiaadoor", sum := "f366c8c9162b892e568d6ddeb89b91538a12acedd23d685d2a9303019e524a12", func := "reliquary/reliquarylaw07.PackBack", spec := "packBack", inPlace := ["internal/abi.NoEscape", "internal/bytealg.abigen_runtime_cmpstring"], unfollowed := true, recurses := true, named := ["reliquary/sha.constants", "reliquary/crc.lower", "reliquary/crc.upper"], apart := false, laid := [("reliquary/crc.lower", laid_reliquary_crc_lower), ("reliquary/crc.upper", laid_reliquary_crc_upper), ("reliquary/sha.constants", laid_reliquary_sha_constants)] }
def PackBackSaid : Prop := packBackRow.holds Tryd.pinned (OpenSpec.ofChange packBackSpec)

/-- ITS FALSE NEIGHBOUR: 'it returns false'. Refute it at one input. -/
def packBackWrong : ChangeSpec := { name := "packBack", fn := fun _ => fun
  | [d] => { results := [.lit (.bool false)], args := [d] }
  | _ => none }
def PackBackWrongFalsely : Prop := packBackRow.holds Tryd.pinned (OpenSpec.ofChange packBackWrong)

/-- 'reliquarylaw07.PackFound': WHATEVER THE INPUT: true; the input reads as it did. -/
def packFoundSpec : ChangeSpec := { name := "packFound", fn := fun _ => fun
  | [d1, d2] => { results := [.lit (.bool true)], args := [d1, d2] }
  | _ => none }
def packFoundRow : OpenClaim := { program := "ytliojhhiadfmiaadoor", sum := "f366c8c9162b892e568d6ddeb89b91538a12acedd23d685d2a9303019e524a12", func := "reliquary/reliquarylaw07.PackFound", spec := "packFound", inPlace := ["internal/abi.NoEscape", "internal/bytealg.abigen_runtime_cmpstring"], unfollowed := true, recurses := true, named := ["reliquary/sha.constants", "reliquary/crc.lower", "reliquary/crc.upper"], apart := false, laid := [("reliquary/crc.lower", laid_reliquary_crc_lower), ("reliquary/crc.upper", laid_reliquary_crc_upper), ("reliquary/sha.constants", laid_reliquary_sha_constants)] }
def PackFoundSaid : Prop := packFoundRow.holds Tryd.pinned (OpenSpec.ofChange packFoundSpec)

/-- ITS FALSE NEIGHBOUR: 'it returns false'. Refute it at one input. -/
def packFoundWrong : ChangeSpec := { name := "packFound", fn := fun _ => fun
  | [d1, d2] => { results := [.lit (.bool false)], args := [d1, d2] }
  | _ => none }
def PackFoundWrongFalsely : Prop := packFoundRow.holds Tryd.pinned (OpenSpec.ofChange packFoundWrong)

/-- 'reliquarylaw07.PackTells': WHATEVER THE INPUT: true; the input reads as it did. -/
def packTellsSpec : ChangeSpec := { name := "packTells", fn := fun _ => fun
  | [d1, d2, d3] => { results := [.lit (.bool true)], args := [d1, d2, d3] }
  | _ => none }
def packTellsRow : OpenClaim := { program := "ytliojhhiadfmiaadoor", sum := "f366c8c9162b892e568d6ddeb89b91538a12acedd23d685d2a9303019e524a12", func := "reliquary/reliquarylaw07.PackTells", spec := "packTells", inPlace := ["internal/abi.NoEscape", "internal/bytealg.abigen_runtime_cmpstring"], unfollowed := true, recurses := true, named := ["reliquary/sha.constants", "reliquary/crc.lower", "reliquary/crc.upper"], apart := false, laid := [("reliquary/crc.lower", laid_reliquary_crc_lower), ("reliquary/crc.upper", laid_reliquary_crc_upper), ("reliquary/sha.constants", laid_reliquary_sha_constants)] }
def PackTellsSaid : Prop := packTellsRow.holds Tryd.pinned (OpenSpec.ofChange packTellsSpec)

/-- ITS FALSE NEIGHBOUR: 'it returns false'. Refute it at one input. -/
def packTellsWrong : ChangeSpec := { name := "packTells", fn := fun _ => fun
  | [d1, d2, d3] => { results := [.lit (.bool false)], args := [d1, d2, d3] }
  | _ => none }
def PackTellsWrongFalsely : Prop := packTellsRow.holds Tryd.pinned (OpenSpec.ofChange packTellsWrong)

/-- 'reliquarylaw07.PackSize': WHATEVER THE INPUT: true; the input reads as it did. -/
def packSizeSpec : ChangeSpec := { name := "packSize", fn := fun _ => fun
  | [d1, d2] => { results := [.lit (.bool true)], args := [d1, d2] }
  | _ => none }
def packSizeRow : OpenClaim := { program := "ytliojhhiadfmiaadoor", sum := "f366c8c9162b892e568d6ddeb89b91538a12acedd23d685d2a9303019e524a12", func := "reliquary/reliquarylaw07.PackSize", spec := "packSize", inPlace := ["internal/abi.NoEscape", "internal/bytealg.abigen_runtime_cmpstring"], unfollowed := true, recurses := true, named := ["reliquary/sha.constants", "reliquary/crc.lower", "reliquary/crc.upper"], apart := false, laid := [("reliquary/crc.lower", laid_reliquary_crc_lower), ("reliquary/crc.upper", laid_reliquary_crc_upper), ("reliquary/sha.constants", laid_reliquary_sha_constants)] }
def PackSizeSaid : Prop := packSizeRow.holds Tryd.pinned (OpenSpec.ofChange packSizeSpec)

/-- ITS FALSE NEIGHBOUR: 'it returns false'. Refute it at one input. -/
def packSizeWrong : ChangeSpec := { name := "packSize", fn := fun _ => fun
  | [d1, d2] => { results := [.lit (.bool false)], args := [d1, d2] }
  | _ => none }
def PackSizeWrongFalsely : Prop := packSizeRow.holds Tryd.pinned (OpenSpec.ofChange packSizeWrong)

/- THE SECOND FORM. 'bulk': how many values and letters a reading holds, each counted each time it is reached (what is shared counts as often as it is met; a slice's spare places count too). A statement '..UptoSaid' is the law's where the arguments, and the package variables that the reading takes, are together of bulk at most 1048576: NARROWER than '..Said'. Prove '..Said' where nothing that the law and all that it calls make is longer than what came in: it says more and counts as full. Else prove '..UptoSaid'. A law counts once. -/
mutual
def uptoBulk {H : Type} : DataW H → Nat
  | .lit (.string bytes) => bytes.length + 1
  | .lit _ => 1
  | .nil => 1
  | .ptr d => uptoBulk d + 1
  | .slice elems spare => uptoBulkAll elems + uptoBulkAll spare + 1
  | .agg parts => uptoBulkAll parts + 1
  | .iface _ d => uptoBulk d + 1
  | .map entries => uptoBulkEntries entries + 1
  | .held _ => 1
def uptoBulkAll {H : Type} : List (DataW H) → Nat
  | [] => 0
  | d :: r => uptoBulk d + uptoBulkAll r
def uptoBulkEntries {H : Type} : List (Lit × DataW H) → Nat
  | [] => 0
  | x :: r => uptoBulkEntry x + uptoBulkEntries r
def uptoBulkEntry {H : Type} : Lit × DataW H → Nat
  | (.string bytes, d) => bytes.length + uptoBulk d + 1
  | (_, d) => uptoBulk d + 1
 end
def uptoSmall : (H : Type) → List (DataW H) → Bool := fun _ ds => decide (uptoBulkAll ds ≤ 1048576)
def OpenSpec.upto (s : _root_.Go.ChangeSpec) : _root_.Go.OpenSpec := { _root_.Go.OpenSpec.ofChange s with cond := some uptoSmall }

/-- 'reliquarylaw07.PackMakes', WHERE WHAT IT READS IS OF BULK AT MOST 1048576: true; the input reads as it did. -/
def packMakesUptoRow : OpenClaim := { program := "ytliojhhiadfmiaadoor", sum := "f366c8c9162b892e568d6ddeb89b91538a12acedd23d685d2a9303019e524a12", func := "reliquary/reliquarylaw07.PackMakes", spec := "packMakes", inPlace := ["internal/abi.NoEscape", "internal/bytealg.abigen_runtime_cmpstring"], unfollowed := true, recurses := true, named := ["reliquary/sha.constants", "reliquary/crc.lower", "reliquary/crc.upper"], apart := false, laid := [("reliquary/crc.lower", laid_reliquary_crc_lower), ("reliquary/crc.upper", laid_reliquary_crc_upper), ("reliquary/sha.constants", laid_reliquary_sha_constants)], narrowed := true }
def PackMakesUptoSaid : Prop := packMakesUptoRow.holds Tryd.pinned (OpenSpec.upto packMakesSpec)

/-- 'reliquarylaw07.PackReads', WHERE WHAT IT READS IS OF BULK AT MOST 1048576: true; the input reads as it did. -/
def packReadsUptoRow : OpenClaim := { program := "ytliojhhiadfmiaadoor", sum := "f366c8c9162b892e568d6ddeb89b91538a12acedd23d685d2a9303019e524a12", func := "reliquary/reliquarylaw07.PackReads", spec := "packReads", inPlace := ["internal/abi.NoEscape", "internal/bytealg.abigen_runtime_cmpstring"], unfollowed := true, recurses := true, named := ["reliquary/sha.constants", "reliquary/crc.lower", "reliquary/crc.upper"], apart := false, laid := [("reliquary/crc.lower", laid_reliquary_crc_lower), ("reliquary/crc.upper", laid_reliquary_crc_upper), ("reliquary/sha.constants", laid_reliquary_sha_constants)], narrowed := true }
def PackReadsUptoSaid : Prop := packReadsUptoRow.holds Tryd.pinned (OpenSpec.upto packReadsSpec)

/-- 'reliquarylaw07.PackFinds', WHERE WHAT IT READS IS OF BULK AT MOST 1048576: true; the input reads as it did. -/
def packFindsUptoRow : OpenClaim := { program := "ytliojhhiadfmiaadoor", sum := "f366c8c9162b892e568d6ddeb89b91538a12acedd23d685d2a9303019e524a12", func := "reliquary/reliquarylaw07.PackFinds", spec := "packFinds", inPlace := ["internal/abi.NoEscape", "internal/bytealg.abigen_runtime_cmpstring"], unfollowed := true, recurses := true, named := ["reliquary/sha.constants", "reliquary/crc.lower", "reliquary/crc.upper"], apart := false, laid := [("reliquary/crc.lower", laid_reliquary_crc_lower), ("reliquary/crc.upper", laid_reliquary_crc_upper), ("reliquary/sha.constants", laid_reliquary_sha_constants)], narrowed := true }
def PackFindsUptoSaid : Prop := packFindsUptoRow.holds Tryd.pinned (OpenSpec.upto packFindsSpec)

/-- 'reliquarylaw07.PackBack', WHERE WHAT IT READS IS OF BULK AT MOST 1048576: true; the input reads as it did. -/
def packBackUptoRow : OpenClaim := { program := "ytliojhhiadfmiaadoor", sum := "f366c8c9162b892e568d6ddeb89b91538a12acedd23d685d2a9303019e524a12", func := "reliquary/reliquarylaw07.PackBack", spec := "packBack", inPlace := ["internal/abi.NoEscape", "internal/bytealg.abigen_runtime_cmpstring"], unfollowed := true, recurses := true, named := ["reliquary/sha.constants", "reliquary/crc.lower", "reliquary/crc.upper"], apart := false, laid := [("reliquary/crc.lower", laid_reliquary_crc_lower), ("reliquary/crc.upper", laid_reliquary_crc_upper), ("reliquary/sha.constants", laid_reliquary_sha_constants)], narrowed := true }
def PackBackUptoSaid : Prop := packBackUptoRow.holds Tryd.pinned (OpenSpec.upto packBackSpec)

/-- 'reliquarylaw07.PackFound', WHERE WHAT IT READS IS OF BULK AT MOST 1048576: true; the input reads as it did. -/
def packFoundUptoRow : OpenClaim := { program := "ytliojhhiadfmiaadoor", sum := "f366c8c9162b892e568d6ddeb89b91538a12acedd23d685d2a9303019e524a12", func := "reliquary/reliquarylaw07.PackFound", spec := "packFound", inPlace := ["internal/abi.NoEscape", "internal/bytealg.abigen_runtime_cmpstring"], unfollowed := true, recurses := true, named := ["reliquary/sha.constants", "reliquary/crc.lower", "reliquary/crc.upper"], apart := false, laid := [("reliquary/crc.lower", laid_reliquary_crc_lower), ("reliquary/crc.upper", laid_reliquary_crc_upper), ("reliquary/sha.constants", laid_reliquary_sha_constants)], narrowed := true }
def PackFoundUptoSaid : Prop := packFoundUptoRow.holds Tryd.pinned (OpenSpec.upto packFoundSpec)

/-- 'reliquarylaw07.PackTells', WHERE WHAT IT READS IS OF BULK AT MOST 1048576: true; the input reads as it did. -/
def packTellsUptoRow : OpenClaim := { program := "ytliojhhiadfmiaadoor", sum := "f366c8c9162b892e568d6ddeb89b91538a12acedd23d685d2a9303019e524a12", func := "reliquary/reliquarylaw07.PackTells", spec := "packTells", inPlace := ["internal/abi.NoEscape", "internal/bytealg.abigen_runtime_cmpstring"], unfollowed := true, recurses := true, named := ["reliquary/sha.constants", "reliquary/crc.lower", "reliquary/crc.upper"], apart := false, laid := [("reliquary/crc.lower", laid_reliquary_crc_lower), ("reliquary/crc.upper", laid_reliquary_crc_upper), ("reliquary/sha.constants", laid_reliquary_sha_constants)], narrowed := true }
def PackTellsUptoSaid : Prop := packTellsUptoRow.holds Tryd.pinned (OpenSpec.upto packTellsSpec)

/-- 'reliquarylaw07.PackSize', WHERE WHAT IT READS IS OF BULK AT MOST 1048576: true; the input reads as it did. -/
def packSizeUptoRow : OpenClaim := { program := "ytliojhhiadfmiaadoor", sum := "f366c8c9162b892e568d6ddeb89b91538a12acedd23d685d2a9303019e524a12", func := "reliquary/reliquarylaw07.PackSize", spec := "packSize", inPlace := ["internal/abi.NoEscape", "internal/bytealg.abigen_runtime_cmpstring"], unfollowed := true, recurses := true, named := ["reliquary/sha.constants", "reliquary/crc.lower", "reliquary/crc.upper"], apart := false, laid := [("reliquary/crc.lower", laid_reliquary_crc_lower), ("reliquary/crc.upper", laid_reliquary_crc_upper), ("reliquary/sha.constants", laid_reliquary_sha_constants)], narrowed := true }
def PackSizeUptoSaid : Prop := packSizeUptoRow.holds Tryd.pinned (OpenSpec.upto packSizeSpec)

end Rows
end Go.Proofs.YtliojhhiadfmiaaDoor
