/-
  No cell of these rows narrows 'for every input' (looked for: loops, veiled, ifaces, maps, wideKeys, modest, calm, conditions, laid).
  DERIVED. THE GIVEN ROWS OF THIS SEAT. 6 by the template 'for every input the law returns true; each argument reads behind the call as it read before'; 0 by the template 'total and deterministic' (their statements: YtcoccaglbepbdaaGreatTotals.lean).
  GIVEN WITH THE SEED: the statements are not yours to turn. If you find one false, say at which input.
  Laid BY PROGRAM, IN A SANDBOX (cutbox-rows.mjs): the forced cells as the released guide's own fill.sh prints them over the translation 1a5c268c97e10d0c… (all of the seat's roots in one cut). By AI agents, Wed Nov 11 2026. No macro, syntax, notation, axiom, sorry.
-/
import Derived.Test.YtcoccaglbepbdaaGreatChecked
import GoSem.Claim
import GoSem.ClaimJoined
import GoSem.ClaimMapViews
import Derived.JoinedTies
import Derived.KernelRfl
namespace Go.Proofs.YtcoccaglbepbdaaGreat
/- THE CELL 'sum', in the pinned program and in every row, IS THE sha256 OF THE DUMP (.gsa) THAT YtcoccaglbepbdaaGreatProg.lean LOADS. Nothing in Lean hashes anything: it is a label: what it is worth is what the hold of that sum in a sandbox is worth. -/
noncomputable def Tryz.pinned : Pinned := { name := "ytcoccaglbepbdaagreat", sum := "1a5c268c97e10d0cd32a566a8f2d87e75d25166290c5e30ec3ab5e3118f06128", checked := Tryz.checked }
namespace Rows
def none {H : Type} : Left H := { results := [], args := [] }

/-- 'reliquarylaw09.GraphMeets': WHATEVER THE INPUT: true; the input reads as it did. -/
def graphMeetsSpec : ChangeSpec := { name := "graphMeets", fn := fun _ => fun
  | [d1, d2] => { results := [.lit (.bool true)], args := [d1, d2] }
  | _ => none }
def graphMeetsRow : OpenClaim := { program := "ytcoccaglbepbdaagreat", sum := "1a5c268c97e10d0cd32a566a8f2d87e75d25166290c5e30ec3ab5e3118f06128", func := "reliquary/reliquarylaw09.GraphMeets", spec := "graphMeets", unfollowed := true, recurses := true, apart := false }
def GraphMeetsSaid : Prop := graphMeetsRow.holds Tryz.pinned (OpenSpec.ofChange graphMeetsSpec)

/-- ITS FALSE NEIGHBOUR: 'it returns false'. Refute it at one input. -/
def graphMeetsWrong : ChangeSpec := { name := "graphMeets", fn := fun _ => fun
  | [d1, d2] => { results := [.lit (.bool false)], args := [d1, d2] }
  | _ => none }
def GraphMeetsWrongFalsely : Prop := graphMeetsRow.holds Tryz.pinned (OpenSpec.ofChange graphMeetsWrong)

/-- 'reliquarylaw09.GraphOrders': WHATEVER THE INPUT: true; the input reads as it did. -/
def graphOrdersSpec : ChangeSpec := { name := "graphOrders", fn := fun _ => fun
  | [d1, d2, d3] => { results := [.lit (.bool true)], args := [d1, d2, d3] }
  | _ => none }
def graphOrdersRow : OpenClaim := { program := "ytcoccaglbepbdaagreat", sum := "1a5c268c97e10d0cd32a566a8f2d87e75d25166290c5e30ec3ab5e3118f06128", func := "reliquary/reliquarylaw09.GraphOrders", spec := "graphOrders", unfollowed := true, recurses := true, apart := false }
def GraphOrdersSaid : Prop := graphOrdersRow.holds Tryz.pinned (OpenSpec.ofChange graphOrdersSpec)

/-- ITS FALSE NEIGHBOUR: 'it returns false'. Refute it at one input. -/
def graphOrdersWrong : ChangeSpec := { name := "graphOrders", fn := fun _ => fun
  | [d1, d2, d3] => { results := [.lit (.bool false)], args := [d1, d2, d3] }
  | _ => none }
def GraphOrdersWrongFalsely : Prop := graphOrdersRow.holds Tryz.pinned (OpenSpec.ofChange graphOrdersWrong)

/-- 'reliquarylaw09.GraphStands': WHATEVER THE INPUT: true; the input reads as it did. -/
def graphStandsSpec : ChangeSpec := { name := "graphStands", fn := fun _ => fun
  | [d1, d2] => { results := [.lit (.bool true)], args := [d1, d2] }
  | _ => none }
def graphStandsRow : OpenClaim := { program := "ytcoccaglbepbdaagreat", sum := "1a5c268c97e10d0cd32a566a8f2d87e75d25166290c5e30ec3ab5e3118f06128", func := "reliquary/reliquarylaw09.GraphStands", spec := "graphStands", unfollowed := true, recurses := true, apart := false }
def GraphStandsSaid : Prop := graphStandsRow.holds Tryz.pinned (OpenSpec.ofChange graphStandsSpec)

/-- ITS FALSE NEIGHBOUR: 'it returns false'. Refute it at one input. -/
def graphStandsWrong : ChangeSpec := { name := "graphStands", fn := fun _ => fun
  | [d1, d2] => { results := [.lit (.bool false)], args := [d1, d2] }
  | _ => none }
def GraphStandsWrongFalsely : Prop := graphStandsRow.holds Tryz.pinned (OpenSpec.ofChange graphStandsWrong)

/-- 'reliquarylaw09.GraphCloses': WHATEVER THE INPUT: true; the input reads as it did. -/
def graphClosesSpec : ChangeSpec := { name := "graphCloses", fn := fun _ => fun
  | [d1, d2, d3] => { results := [.lit (.bool true)], args := [d1, d2, d3] }
  | _ => none }
def graphClosesRow : OpenClaim := { program := "ytcoccaglbepbdaagreat", sum := "1a5c268c97e10d0cd32a566a8f2d87e75d25166290c5e30ec3ab5e3118f06128", func := "reliquary/reliquarylaw09.GraphCloses", spec := "graphCloses", unfollowed := true, recurses := true, apart := false }
def GraphClosesSaid : Prop := graphClosesRow.holds Tryz.pinned (OpenSpec.ofChange graphClosesSpec)

/-- ITS FALSE NEIGHBOUR: 'it returns false'. Refute it at one input. -/
def graphClosesWrong : ChangeSpec := { name := "graphCloses", fn := fun _ => fun
  | [d1, d2, d3] => { results := [.lit (.bool false)], args := [d1, d2, d3] }
  | _ => none }
def GraphClosesWrongFalsely : Prop := graphClosesRow.holds Tryz.pinned (OpenSpec.ofChange graphClosesWrong)

/-- 'reliquarylaw09.GraphCycle': WHATEVER THE INPUT: true; the input reads as it did. -/
def graphCycleSpec : ChangeSpec := { name := "graphCycle", fn := fun _ => fun
  | [d1, d2] => { results := [.lit (.bool true)], args := [d1, d2] }
  | _ => none }
def graphCycleRow : OpenClaim := { program := "ytcoccaglbepbdaagreat", sum := "1a5c268c97e10d0cd32a566a8f2d87e75d25166290c5e30ec3ab5e3118f06128", func := "reliquary/reliquarylaw09.GraphCycle", spec := "graphCycle", unfollowed := true, recurses := true, apart := false }
def GraphCycleSaid : Prop := graphCycleRow.holds Tryz.pinned (OpenSpec.ofChange graphCycleSpec)

/-- ITS FALSE NEIGHBOUR: 'it returns false'. Refute it at one input. -/
def graphCycleWrong : ChangeSpec := { name := "graphCycle", fn := fun _ => fun
  | [d1, d2] => { results := [.lit (.bool false)], args := [d1, d2] }
  | _ => none }
def GraphCycleWrongFalsely : Prop := graphCycleRow.holds Tryz.pinned (OpenSpec.ofChange graphCycleWrong)

/-- 'reliquarylaw09.GraphHeights': WHATEVER THE INPUT: true; the input reads as it did. -/
def graphHeightsSpec : ChangeSpec := { name := "graphHeights", fn := fun _ => fun
  | [d1, d2] => { results := [.lit (.bool true)], args := [d1, d2] }
  | _ => none }
def graphHeightsRow : OpenClaim := { program := "ytcoccaglbepbdaagreat", sum := "1a5c268c97e10d0cd32a566a8f2d87e75d25166290c5e30ec3ab5e3118f06128", func := "reliquary/reliquarylaw09.GraphHeights", spec := "graphHeights", unfollowed := true, recurses := true, apart := false }
def GraphHeightsSaid : Prop := graphHeightsRow.holds Tryz.pinned (OpenSpec.ofChange graphHeightsSpec)

/-- ITS FALSE NEIGHBOUR: 'it returns false'. Refute it at one input. -/
def graphHeightsWrong : ChangeSpec := { name := "graphHeights", fn := fun _ => fun
  | [d1, d2] => { results := [.lit (.bool false)], args := [d1, d2] }
  | _ => none }
def GraphHeightsWrongFalsely : Prop := graphHeightsRow.holds Tryz.pinned (OpenSpec.ofChange graphHeightsWrong)

/- THE SECOND FORM. 'bulk': how many values and letters a reading holds, each counted each time it is reached (what is shared counts as often as it is met; a slice's spare places count too). A statement '..UptoSaid' is the law's where the arguments, and the package variables that the reading takes, are together of bulk at most 1048576: NARROWER than '..Said'. Prove '..Said' where nothing that the law and all that it calls make is longer than what came in: it says more and counts as full. Else prove '..UptoSaid'. A law counts once. -/
mutual
def uptoBulk {H : Type} : DataW H → Nat
  | .lit (.string bytes) => bytes.length + 1
  | .lit _ => 1
  | .nil => 1
  | .ptr d => uptoBulk d + 1
  | .slice elems spare => uptoBulkAll elems + uptoBulkAll spare + 1
  | .agg parts => uptoBulkAll parts + 1
  | .iface _ d => uptoBulk d + 1
  | .map entries => uptoBulkEntries entries + 1
  | .held _ => 1
def uptoBulkAll {H : Type} : List (DataW H) → Nat
  | [] => 0
  | d :: r => uptoBulk d + uptoBulkAll r
def uptoBulkEntries {H : Type} : List (Lit × DataW H) → Nat
  | [] => 0
  | x :: r => uptoBulkEntry x + uptoBulkEntries r
def uptoBulkEntry {H : Type} : Lit × DataW H → Nat
  | (.string bytes, d) => bytes.length + uptoBulk d + 1
  | (_, d) => uptoBulk d + 1
 end
def uptoSmall : (H : Type) → List (DataW H) → Bool := fun _ ds => decide (uptoBulkAll ds ≤ 1048576)
def OpenSpec.upto (s : _root_.Go.ChangeSpec) : _root_.Go.OpenSpec := { _root_.Go.OpenSpec.ofChange s with cond := some uptoSmall }

/-- 'reliquarylaw09.GraphMeets', WHERE WHAT IT READS IS OF BULK AT MOST 1048576: true; the input reads as it did. -/
def graphMeetsUptoRow : OpenClaim := { program := "ytcoccaglbepbdaagreat", sum := "1a5c268c97e10d0cd32a566a8f2d87e75d25166290c5e30ec3ab5e3118f06128", func := "reliquary/reliquarylaw09.GraphMeets", spec := "graphMeets", unfollowed := true, recurses := true, apart := false, narrowed := true }
def GraphMeetsUptoSaid : Prop := graphMeetsUptoRow.holds Tryz.pinned (OpenSpec.upto graphMeetsSpec)

/-- 'reliquarylaw09.GraphOrders', WHERE WHAT IT READS IS OF BULK AT MOST 1048576: true; the input reads as it did. -/
def graphOrdersUptoRow : OpenClaim := { program := "ytcoccaglbepbdaagreat", sum := "1a5c268c97e10d0cd32a566a8f2d87e75d25166290c5e30ec3ab5e3118f06128", func := "reliquary/reliquarylaw09.GraphOrders", spec := "graphOrders", unfollowed := true, recurses := true, apart := false, narrowed := true }
def GraphOrdersUptoSaid : Prop := graphOrdersUptoRow.holds Tryz.pinned (OpenSpec.upto graphOrdersSpec)

/-- 'reliquarylaw09.GraphStands', WHERE WHAT IT READS IS OF BULK AT MOST 1048576: true; the input reads as it did. -/
def graphStandsUptoRow : OpenClaim := { program := "ytcoccaglbepbdaagreat", sum := "1a5c268c97e10d0cd32a566a8f2d87e75d25166290c5e30ec3ab5e3118f06128", func := "reliquary/reliquarylaw09.GraphStands", spec := "graphStands", unfollowed := true, recurses := true, apart := false, narrowed := true }
def GraphStandsUptoSaid : Prop := graphStandsUptoRow.holds Tryz.pinned (OpenSpec.upto graphStandsSpec)

/-- 'reliquarylaw09.GraphCloses', WHERE WHAT IT READS IS OF BULK AT MOST 1048576: true; the input reads as it did. -/
def graphClosesUptoRow : OpenClaim := { program := "ytcoccaglbepbdaagreat", sum := "1a5c268c97e10d0cd32a566a8f2d87e75d25166290c5e30ec3ab5e3118f06128", func := "reliquary/reliquarylaw09.GraphCloses", spec := "graphCloses", unfollowed := true, recurses := true, apart := false, narrowed := true }
def GraphClosesUptoSaid : Prop := graphClosesUptoRow.holds Tryz.pinned (OpenSpec.upto graphClosesSpec)

/-- 'reliquarylaw09.GraphCycle', WHERE WHAT IT READS IS OF BULK AT MOST 1048576: true; the input reads as it did. -/
def graphCycleUptoRow : OpenClaim := { program := "ytcoccaglbepbdaagreat", sum := "1a5c268c97e10d0cd32a566a8f2d87e75d25166290c5e30ec3ab5e3118f06128", func := "reliquary/reliquarylaw09.GraphCycle", spec := "graphCycle", unfollowed := true, recurses := true, apart := false, narrowed := true }
def GraphCycleUptoSaid : Prop := graphCycleUptoRow.holds Tryz.pinned (OpenSpec.upto graphCycleSpec)

/-- 'reliquarylaw09.GraphHeights', WHERE WHAT IT READS IS OF BULK AT MOST 1048576: true; the input reads as it did. -/
def graphHeightsUptoRow : OpenClaim := { program := "ytcoccaglbepbdaagreat", sum := "1a5c268c97e10d0cd32a566a8f2d87e75d25166290c5e30ec3ab5e3118f06128", func := "reliquary/reliquarylaw09.GraphHeights", spec := "graphHeights", unfollowed := true, recurses := true, apart := false, narrowed := true }
def GraphHeightsUptoSaid : Prop := graphHeightsUptoRow.holds Tryz.pinned (OpenSpec.upto graphHeightsSpec)

end Rows
end Go.Proofs.YtcoccaglbepbdaaGreat
