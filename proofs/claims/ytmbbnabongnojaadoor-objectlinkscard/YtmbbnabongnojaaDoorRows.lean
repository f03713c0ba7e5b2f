/-
  NARROWER THAN 'FOR EVERY INPUT', by the rows' own cells (each row's printed sentence says how): ObjectWrites: laid · ObjectReads: laid · ObjectHeights: laid · ObjectBack: laid · ObjectLinks: laid · ObjectCuts: laid · ObjectRises: laid.
  DERIVED. THE GIVEN ROWS OF THIS SEAT. 7 by the template 'for every input the law returns true; each argument reads behind the call as it read before'; 0 by the template 'total and deterministic' (their statements: YtmbbnabongnojaaDoorTotals.lean).
  GIVEN WITH THE SEED: the statements are not yours to turn. If you find one false, say at which input.
  Laid BY PROGRAM, IN A SANDBOX (cutbox-rows.mjs): the forced cells as the released guide's own fill.sh prints them over the translation 298319d749a756e3… (all of the seat's roots in one cut). By AI agents, Wed Nov 11 2026. No macro, syntax, notation, axiom, sorry.
-/
import Derived.Test.YtmbbnabongnojaaDoorChecked
import GoSem.Claim
import GoSem.ClaimJoined
import GoSem.ClaimMapViews
import Derived.JoinedTies
import Derived.KernelRfl
namespace Go.Proofs.YtmbbnabongnojaaDoor
/- THE CELL 'sum', in the pinned program and in every row, IS THE sha256 OF THE DUMP (.gsa) THAT YtmbbnabongnojaaDoorProg.lean LOADS. Nothing in Lean hashes anything: it is a label: what it is worth is what the hold of that sum in a sandbox is worth. -/
noncomputable def Tryd.pinned : Pinned := { name := "ytmbbnabongnojaadoor", sum := "298319d749a756e314cbdf6ea55f32b1f04ef73318f92eee0506f5da0ac5b48e", checked := Tryd.checked }
namespace Rows
def none {H : Type} : Left H := { results := [], args := [] }

/- WHAT THE LISTED PACKAGE-LEVEL VARIABLES READ AS WHEN THE CALL BEGINS. Each datum BY PROGRAM (the guide's laid-datum.mjs) off the statement by which the dump's own 'gosem.cut.vars' lays the variable. In a bare row this is a premise. The card (YtmbbnabongnojaaDoorCards.lean) ties it to the program's text. -/
def laid_reliquary_sha_constants {H : Type} : DataW H := .agg [.lit (.int .u32 1116352408), .lit (.int .u32 1899447441), .lit (.int .u32 3049323471), .lit (.int .u32 3921009573), .lit (.int .u32 961987163), .lit (.int .u32 1508970993), .lit (.int .u32 2453635748), .lit (.int .u32 2870763221), .lit (.int .u32 3624381080), .lit (.int .u32 310598401), .lit (.int .u32 607225278), .lit (.int .u32 1426881987), .lit (.int .u32 1925078388), .lit (.int .u32 2162078206), .lit (.int .u32 2614888103), .lit (.int .u32 3248222580), .lit (.int .u32 3835390401), .lit (.int .u32 4022224774), .lit (.int .u32 264347078), .lit (.int .u32 604807628), .lit (.int .u32 770255983), .lit (.int .u32 1249150122), .lit (.int .u32 1555081692), .lit (.int .u32 1996064986), .lit (.int .u32 2554220882), .lit (.int .u32 2821834349), .lit (.int .u32 2952996808), .lit (.int .u32 3210313671), .lit (.int .u32 3336571891), .lit (.int .u32 3584528711), .lit (.int .u32 113926993), .lit (.int .u32 338241895), .lit (.int .u32 666307205), .lit (.int .u32 773529912), .lit (.int .u32 1294757372), .lit (.int .u32 1396182291), .lit (.int .u32 1695183700), .lit (.int .u32 1986661051), .lit (.int .u32 2177026350), .lit (.int .u32 2456956037), .lit (.int .u32 2730485921), .lit (.int .u32 2820302411), .lit (.int .u32 3259730800), .lit (.int .u32 3345764771), .lit (.int .u32 3516065817), .lit (.int .u32 3600352804), .lit (.int .u32 4094571909), .lit (.int .u32 275423344), .lit (.int .u32 430227734), .lit (.int .u32 506948616), .lit (.int .u32 659060556), .lit (.int .u32 883997877), .lit (.int .u32 958139571), .lit (.int .u32 1322822218), .lit (.int .u32 1537002063), .lit (.int .u32 1747873779), .lit (.int .u32 1955562222), .lit (.int .u32 2024104815), .lit (.int .u32 2227730452), .lit (.int .u32 2361852424), .lit (.int .u32 2428436474), .lit (.int .u32 2756734187), .lit (.int .u32 3204031479), .lit (.int .u32 3329325298)]

/-- 'reliquarylaw06.ObjectWrites': WHATEVER THE INPUT: true; the input reads as it did. -/
def objectWritesSpec : ChangeSpec := { name := "objectWrites", fn := fun _ => fun
  | [d] => { results := [.lit (.bool true)], args := [d] }
  | _ => none }
def objectWritesRow : OpenClaim := { program := "ytmbbnabongnojaadoor", sum := "298319d749a756e314cbdf6ea55f32b1f04ef73318f92eee0506f5da0ac5b48e", func := "reliquary/reliquarylaw06.ObjectWrites", spec := "objectWrites", inPlace := ["internal/bytealg.IndexByteString", "internal/bytealg.IndexString", "internal/abi.NoEscape"], unfollowed := true, recurses := true, named := ["reliquary/sha.constants", "internal/bytealg.MaxLen"], apart := false, laid := [("reliquary/sha.constants", laid_reliquary_sha_constants)] }
def ObjectWritesSaid : Prop := objectWritesRow.holds Tryd.pinned (OpenSpec.ofChange objectWritesSpec)

/-- ITS FALSE NEIGHBOUR: 'it returns false'. Refute it at one input. -/
def objectWritesWrong : ChangeSpec := { name := "objectWrites", fn := fun _ => fun
  | [d] => { results := [.lit (.bool false)], args := [d] }
  | _ => none }
def ObjectWritesWrongFalsely : Prop := objectWritesRow.holds Tryd.pinned (OpenSpec.ofChange objectWritesWrong)

/-- 'reliquarylaw06.ObjectReads': WHATEVER THE INPUT: true; the input reads as it did. -/
def objectReadsSpec : ChangeSpec := { name := "objectReads", fn := fun _ => fun
  | [d] => { results := [.lit (.bool true)], args := [d] }
  | _ => none }
def objectReadsRow : OpenClaim := { program := "ytmbbnabongnojaadoor", sum := "298319d749a756e314cbdf6ea55f32b1f04ef73318f92eee0506f5da0ac5b48e", func := "reliquary/reliquarylaw06.ObjectReads", spec := "objectReads", inPlace := ["internal/bytealg.IndexByteString", "internal/bytealg.IndexString", "internal/abi.NoEscape"], named := ["reliquary/sha.constants", "internal/bytealg.MaxLen"], apart := false, laid := [("reliquary/sha.constants", laid_reliquary_sha_constants)] }
def ObjectReadsSaid : Prop := objectReadsRow.holds Tryd.pinned (OpenSpec.ofChange objectReadsSpec)

/-- ITS FALSE NEIGHBOUR: 'it returns false'. Refute it at one input. -/
def objectReadsWrong : ChangeSpec := { name := "objectReads", fn := fun _ => fun
  | [d] => { results := [.lit (.bool false)], args := [d] }
  | _ => none }
def ObjectReadsWrongFalsely : Prop := objectReadsRow.holds Tryd.pinned (OpenSpec.ofChange objectReadsWrong)

/-- 'reliquarylaw06.ObjectHeights': WHATEVER THE INPUT: true; the input reads as it did. -/
def objectHeightsSpec : ChangeSpec := { name := "objectHeights", fn := fun _ => fun
  | [d] => { results := [.lit (.bool true)], args := [d] }
  | _ => none }
def objectHeightsRow : OpenClaim := { program := "ytmbbnabongnojaadoor", sum := "298319d749a756e314cbdf6ea55f32b1f04ef73318f92eee0506f5da0ac5b48e", func := "reliquary/reliquarylaw06.ObjectHeights", spec := "objectHeights", inPlace := ["internal/bytealg.IndexByteString", "internal/bytealg.IndexString", "internal/abi.NoEscape"], named := ["reliquary/sha.constants", "internal/bytealg.MaxLen"], apart := false, laid := [("reliquary/sha.constants", laid_reliquary_sha_constants)] }
def ObjectHeightsSaid : Prop := objectHeightsRow.holds Tryd.pinned (OpenSpec.ofChange objectHeightsSpec)

/-- ITS FALSE NEIGHBOUR: 'it returns false'. Refute it at one input. -/
def objectHeightsWrong : ChangeSpec := { name := "objectHeights", fn := fun _ => fun
  | [d] => { results := [.lit (.bool false)], args := [d] }
  | _ => none }
def ObjectHeightsWrongFalsely : Prop := objectHeightsRow.holds Tryd.pinned (OpenSpec.ofChange objectHeightsWrong)

/-- 'reliquarylaw06.ObjectBack': WHATEVER THE INPUT: true; the input reads as it did. -/
def objectBackSpec : ChangeSpec := { name := "objectBack", fn := fun _ => fun
  | [d1, d2, d3] => { results := [.lit (.bool true)], args := [d1, d2, d3] }
  | _ => none }
def objectBackRow : OpenClaim := { program := "ytmbbnabongnojaadoor", sum := "298319d749a756e314cbdf6ea55f32b1f04ef73318f92eee0506f5da0ac5b48e", func := "reliquary/reliquarylaw06.ObjectBack", spec := "objectBack", inPlace := ["internal/bytealg.IndexByteString", "internal/bytealg.IndexString", "internal/abi.NoEscape"], named := ["reliquary/sha.constants", "internal/bytealg.MaxLen"], apart := false, laid := [("reliquary/sha.constants", laid_reliquary_sha_constants)] }
def ObjectBackSaid : Prop := objectBackRow.holds Tryd.pinned (OpenSpec.ofChange objectBackSpec)

/-- ITS FALSE NEIGHBOUR: 'it returns false'. Refute it at one input. -/
def objectBackWrong : ChangeSpec := { name := "objectBack", fn := fun _ => fun
  | [d1, d2, d3] => { results := [.lit (.bool false)], args := [d1, d2, d3] }
  | _ => none }
def ObjectBackWrongFalsely : Prop := objectBackRow.holds Tryd.pinned (OpenSpec.ofChange objectBackWrong)

/-- 'reliquarylaw06.ObjectLinks': WHATEVER THE INPUT: true; the input reads as it did. -/
def objectLinksSpec : ChangeSpec := { name := "objectLinks", fn := fun _ => fun
  | [d] => { results := [.lit (.bool true)], args := [d] }
  | _ => none }
def objectLinksRow : OpenClaim := { program := "ytmbbnabongnojaadoor", sum := "298319d749a756e314cbdf6ea55f32b1f04ef73318f92eee0506f5da0ac5b48e", func := "reliquary/reliquarylaw06.ObjectLinks", spec := "objectLinks", inPlace := ["internal/bytealg.IndexByteString", "internal/bytealg.IndexString", "internal/abi.NoEscape"], unfollowed := true, recurses := true, named := ["reliquary/sha.constants", "internal/bytealg.MaxLen"], apart := false, laid := [("reliquary/sha.constants", laid_reliquary_sha_constants)] }
def ObjectLinksSaid : Prop := objectLinksRow.holds Tryd.pinned (OpenSpec.ofChange objectLinksSpec)

/-- ITS FALSE NEIGHBOUR: 'it returns false'. Refute it at one input. -/
def objectLinksWrong : ChangeSpec := { name := "objectLinks", fn := fun _ => fun
  | [d] => { results := [.lit (.bool false)], args := [d] }
  | _ => none }
def ObjectLinksWrongFalsely : Prop := objectLinksRow.holds Tryd.pinned (OpenSpec.ofChange objectLinksWrong)

/-- 'reliquarylaw06.ObjectCuts': WHATEVER THE INPUT: true; the input reads as it did. -/
def objectCutsSpec : ChangeSpec := { name := "objectCuts", fn := fun _ => fun
  | [d1, d2, d3] => { results := [.lit (.bool true)], args := [d1, d2, d3] }
  | _ => none }
def objectCutsRow : OpenClaim := { program := "ytmbbnabongnojaadoor", sum := "298319d749a756e314cbdf6ea55f32b1f04ef73318f92eee0506f5da0ac5b48e", func := "reliquary/reliquarylaw06.ObjectCuts", spec := "objectCuts", inPlace := ["internal/bytealg.IndexByteString", "internal/bytealg.IndexString", "internal/abi.NoEscape"], named := ["reliquary/sha.constants", "internal/bytealg.MaxLen"], apart := false, laid := [("reliquary/sha.constants", laid_reliquary_sha_constants)] }
def ObjectCutsSaid : Prop := objectCutsRow.holds Tryd.pinned (OpenSpec.ofChange objectCutsSpec)

/-- ITS FALSE NEIGHBOUR: 'it returns false'. Refute it at one input. -/
def objectCutsWrong : ChangeSpec := { name := "objectCuts", fn := fun _ => fun
  | [d1, d2, d3] => { results := [.lit (.bool false)], args := [d1, d2, d3] }
  | _ => none }
def ObjectCutsWrongFalsely : Prop := objectCutsRow.holds Tryd.pinned (OpenSpec.ofChange objectCutsWrong)

/-- 'reliquarylaw06.ObjectRises': WHATEVER THE INPUT: true; the input reads as it did. -/
def objectRisesSpec : ChangeSpec := { name := "objectRises", fn := fun _ => fun
  | [d] => { results := [.lit (.bool true)], args := [d] }
  | _ => none }
def objectRisesRow : OpenClaim := { program := "ytmbbnabongnojaadoor", sum := "298319d749a756e314cbdf6ea55f32b1f04ef73318f92eee0506f5da0ac5b48e", func := "reliquary/reliquarylaw06.ObjectRises", spec := "objectRises", inPlace := ["internal/bytealg.IndexByteString", "internal/bytealg.IndexString", "internal/abi.NoEscape"], named := ["reliquary/sha.constants", "internal/bytealg.MaxLen"], apart := false, laid := [("reliquary/sha.constants", laid_reliquary_sha_constants)] }
def ObjectRisesSaid : Prop := objectRisesRow.holds Tryd.pinned (OpenSpec.ofChange objectRisesSpec)

/-- ITS FALSE NEIGHBOUR: 'it returns false'. Refute it at one input. -/
def objectRisesWrong : ChangeSpec := { name := "objectRises", fn := fun _ => fun
  | [d] => { results := [.lit (.bool false)], args := [d] }
  | _ => none }
def ObjectRisesWrongFalsely : Prop := objectRisesRow.holds Tryd.pinned (OpenSpec.ofChange objectRisesWrong)

/- THE SECOND FORM. 'bulk': how many values and letters a reading holds, each counted each time it is reached (what is shared counts as often as it is met; a slice's spare places count too). A statement '..UptoSaid' is the law's where the arguments, and the package variables that the reading takes, are together of bulk at most 1048576: NARROWER than '..Said'. Prove '..Said' where nothing that the law and all that it calls make is longer than what came in: it says more and counts as full. Else prove '..UptoSaid'. A law counts once. -/
mutual
def uptoBulk {H : Type} : DataW H → Nat
  | .lit (.string bytes) => bytes.length + 1
  | .lit _ => 1
  | .nil => 1
  | .ptr d => uptoBulk d + 1
  | .slice elems spare => uptoBulkAll elems + uptoBulkAll spare + 1
  | .agg parts => uptoBulkAll parts + 1
  | .iface _ d => uptoBulk d + 1
  | .map entries => uptoBulkEntries entries + 1
  | .held _ => 1
def uptoBulkAll {H : Type} : List (DataW H) → Nat
  | [] => 0
  | d :: r => uptoBulk d + uptoBulkAll r
def uptoBulkEntries {H : Type} : List (Lit × DataW H) → Nat
  | [] => 0
  | x :: r => uptoBulkEntry x + uptoBulkEntries r
def uptoBulkEntry {H : Type} : Lit × DataW H → Nat
  | (.string bytes, d) => bytes.length + uptoBulk d + 1
  | (_, d) => uptoBulk d + 1
 end
def uptoSmall : (H : Type) → List (DataW H) → Bool := fun _ ds => decide (uptoBulkAll ds ≤ 1048576)
def OpenSpec.upto (s : _root_.Go.ChangeSpec) : _root_.Go.OpenSpec := { _root_.Go.OpenSpec.ofChange s with cond := some uptoSmall }

/-- 'reliquarylaw06.ObjectWrites', WHERE WHAT IT READS IS OF BULK AT MOST 1048576: true; the input reads as it did. -/
def objectWritesUptoRow : OpenClaim := { program := "ytmbbnabongnojaadoor", sum := "298319d749a756e314cbdf6ea55f32b1f04ef73318f92eee0506f5da0ac5b48e", func := "reliquary/reliquarylaw06.ObjectWrites", spec := "objectWrites", inPlace := ["internal/bytealg.IndexByteString", "internal/bytealg.IndexString", "internal/abi.NoEscape"], unfollowed := true, recurses := true, named := ["reliquary/sha.constants", "internal/bytealg.MaxLen"], apart := false, laid := [("reliquary/sha.constants", laid_reliquary_sha_constants)], narrowed := true }
def ObjectWritesUptoSaid : Prop := objectWritesUptoRow.holds Tryd.pinned (OpenSpec.upto objectWritesSpec)

/-- 'reliquarylaw06.ObjectReads', WHERE WHAT IT READS IS OF BULK AT MOST 1048576: true; the input reads as it did. -/
def objectReadsUptoRow : OpenClaim := { program := "ytmbbnabongnojaadoor", sum := "298319d749a756e314cbdf6ea55f32b1f04ef73318f92eee0506f5da0ac5b48e", func := "reliquary/reliquarylaw06.ObjectReads", spec := "objectReads", inPlace := ["internal/bytealg.IndexByteString", "internal/bytealg.IndexString", "internal/abi.NoEscape"], named := ["reliquary/sha.constants", "internal/bytealg.MaxLen"], apart := false, laid := [("reliquary/sha.constants", laid_reliquary_sha_constants)], narrowed := true }
def ObjectReadsUptoSaid : Prop := objectReadsUptoRow.holds Tryd.pinned (OpenSpec.upto objectReadsSpec)

/-- 'reliquarylaw06.ObjectHeights', WHERE WHAT IT READS IS OF BULK AT MOST 1048576: true; the input reads as it did. -/
def objectHeightsUptoRow : OpenClaim := { program := "ytmbbnabongnojaadoor", sum := "298319d749a756e314cbdf6ea55f32b1f04ef73318f92eee0506f5da0ac5b48e", func := "reliquary/reliquarylaw06.ObjectHeights", spec := "objectHeights", inPlace := ["internal/bytealg.IndexByteString", "internal/bytealg.IndexString", "internal/abi.NoEscape"], named := ["reliquary/sha.constants", "internal/bytealg.MaxLen"], apart := false, laid := [("reliquary/sha.constants", laid_reliquary_sha_constants)], narrowed := true }
def ObjectHeightsUptoSaid : Prop := objectHeightsUptoRow.holds Tryd.pinned (OpenSpec.upto objectHeightsSpec)

/-- 'reliquarylaw06.ObjectBack', WHERE WHAT IT READS IS OF BULK AT MOST 1048576: true; the input reads as it did. -/
def objectBackUptoRow : OpenClaim := { program := "ytmbbnabongnojaadoor", sum := "298319d749a756e314cbdf6ea55f32b1f04ef73318f92eee0506f5da0ac5b48e", func := "reliquary/reliquarylaw06.ObjectBack", spec := "objectBack", inPlace := ["internal/bytealg.IndexByteString", "internal/bytealg.IndexString", "internal/abi.NoEscape"], named := ["reliquary/sha.constants", "internal/bytealg.MaxLen"], apart := false, laid := [("reliquary/sha.constants", laid_reliquary_sha_constants)], narrowed := true }
def ObjectBackUptoSaid : Prop := objectBackUptoRow.holds Tryd.pinned (OpenSpec.upto objectBackSpec)

/-- 'reliquarylaw06.ObjectLinks', WHERE WHAT IT READS IS OF BULK AT MOST 1048576: true; the input reads as it did. -/
def objectLinksUptoRow : OpenClaim := { program := "ytmbbnabongnojaadoor", sum := "298319d749a756e314cbdf6ea55f32b1f04ef73318f92eee0506f5da0ac5b48e", func := "reliquary/reliquarylaw06.ObjectLinks", spec := "objectLinks", inPlace := ["internal/bytealg.IndexByteString", "internal/bytealg.IndexString", "internal/abi.NoEscape"], unfollowed := true, recurses := true, named := ["reliquary/sha.constants", "internal/bytealg.MaxLen"], apart := false, laid := [("reliquary/sha.constants", laid_reliquary_sha_constants)], narrowed := true }
def ObjectLinksUptoSaid : Prop := objectLinksUptoRow.holds Tryd.pinned (OpenSpec.upto objectLinksSpec)

/-- 'reliquarylaw06.ObjectCuts', WHERE WHAT IT READS IS OF BULK AT MOST 1048576: true; the input reads as it did. -/
def objectCutsUptoRow : OpenClaim := { program := "ytmbbnabongnojaadoor", sum := "298319d749a756e314cbdf6ea55f32b1f04ef73318f92eee0506f5da0ac5b48e", func := "reliquary/reliquarylaw06.ObjectCuts", spec := "objectCuts", inPlace := ["internal/bytealg.IndexByteString", "internal/bytealg.IndexString", "internal/abi.NoEscape"], named := ["reliquary/sha.constants", "internal/bytealg.MaxLen"], apart := false, laid := [("reliquary/sha.constants", laid_reliquary_sha_constants)], narrowed := true }
def ObjectCutsUptoSaid : Prop := objectCutsUptoRow.holds Tryd.pinned (OpenSpec.upto objectCutsSpec)

/-- 'reliquarylaw06.ObjectRises', WHERE WHAT IT READS IS OF BULK AT MOST 1048576: true; the input reads as it did. -/
def objectRisesUptoRow : OpenClaim := { program := "ytmbbnabongnojaadoor", sum := "298319d749a756e314cbdf6ea55f32b1f04ef73318f92eee0506f5da0ac5b48e", func := "reliquary/reliquarylaw06.ObjectRises", spec := "objectRises", inPlace := ["internal/bytealg.IndexByteString", "internal/bytealg.IndexString", "internal/abi.NoEscape"], named := ["reliquary/sha.constants", "internal/bytealg.MaxLen"], apart := false, laid := [("reliquary/sha.constants", laid_reliquary_sha_constants)], narrowed := true }
def ObjectRisesUptoSaid : Prop := objectRisesUptoRow.holds Tryd.pinned (OpenSpec.upto objectRisesSpec)

end Rows
end Go.Proofs.YtmbbnabongnojaaDoor
