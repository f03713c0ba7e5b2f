/-
  DERIVED. GIVEN WITH THE SEED: THE CARDS: each row of YtliojhhiadfmiaaDoorRows.lean that lists a variable, with what it lists TIED to the program's text (the seventh form; the later family's looks); each row that meets fmt, with fmt's text TOLD by the authors' own Lean function (tested against real Go, not proved from fmt's source: count such statements apart). THE CARD IS WHAT COUNTS. Prove the row's statement (the work); the ties are given (YtliojhhiadfmiaaDoorTie.lean); close each card by the builder's one call (the guide's Derived/Test/ToyasCard.lean, 'card_holds'). Laid BY PROGRAM, IN A SANDBOX (cutbox-door.mjs). By AI agents, Wed Nov 11 2026. No macro, syntax, notation, axiom, sorry.
-/
import Derived.Test.YtliojhhiadfmiaaDoorRows
import GoSem.ClaimSeven
namespace Go.Proofs.YtliojhhiadfmiaaDoor
namespace Rows

/-- THE TIED CARD OF 'reliquarylaw07.PackMakes'. -/
def packMakesCard : Claim7 := { stood := { row := packMakesRow, standIns := [], harness := (true, "7b01ac0033caccabd0f384a99077a1f3026b4955da75e22c78ecb338b358ae95"), looks := false }, kinds := [], alts := [], laidByText := true, laidKinds := [.data, .data, .data], laidTests := true, laidLooks := .later }
def PackMakesCardSaid : Prop := Claim7.holds Tryd.pinned (.plain (OpenSpec.ofChange packMakesSpec)) packMakesCard

/-- THE TIED CARD OF 'reliquarylaw07.PackReads'. -/
def packReadsCard : Claim7 := { stood := { row := packReadsRow, standIns := [], harness := (true, "7b01ac0033caccabd0f384a99077a1f3026b4955da75e22c78ecb338b358ae95"), looks := false }, kinds := [], alts := [], laidByText := true, laidKinds := [.data, .data, .data], laidTests := true, laidLooks := .later }
def PackReadsCardSaid : Prop := Claim7.holds Tryd.pinned (.plain (OpenSpec.ofChange packReadsSpec)) packReadsCard

/-- THE TIED CARD OF 'reliquarylaw07.PackFinds'. -/
def packFindsCard : Claim7 := { stood := { row := packFindsRow, standIns := [], harness := (true, "7b01ac0033caccabd0f384a99077a1f3026b4955da75e22c78ecb338b358ae95"), looks := false }, kinds := [], alts := [], laidByText := true, laidKinds := [.data, .data, .data], laidTests := true, laidLooks := .later }
def PackFindsCardSaid : Prop := Claim7.holds Tryd.pinned (.plain (OpenSpec.ofChange packFindsSpec)) packFindsCard

/-- THE TIED CARD OF 'reliquarylaw07.PackBack'. -/
def packBackCard : Claim7 := { stood := { row := packBackRow, standIns := [], harness := (true, "7b01ac0033caccabd0f384a99077a1f3026b4955da75e22c78ecb338b358ae95"), looks := false }, kinds := [], alts := [], laidByText := true, laidKinds := [.data, .data, .data], laidTests := true, laidLooks := .later }
def PackBackCardSaid : Prop := Claim7.holds Tryd.pinned (.plain (OpenSpec.ofChange packBackSpec)) packBackCard

/-- THE TIED CARD OF 'reliquarylaw07.PackFound'. -/
def packFoundCard : Claim7 := { stood := { row := packFoundRow, standIns := [], harness := (true, "7b01ac0033caccabd0f384a99077a1f3026b4955da75e22c78ecb338b358ae95"), looks := false }, kinds := [], alts := [], laidByText := true, laidKinds := [.data, .data, .data], laidTests := true, laidLooks := .later }
def PackFoundCardSaid : Prop := Claim7.holds Tryd.pinned (.plain (OpenSpec.ofChange packFoundSpec)) packFoundCard

/-- THE TIED CARD OF 'reliquarylaw07.PackTells'. -/
def packTellsCard : Claim7 := { stood := { row := packTellsRow, standIns := [], harness := (true, "7b01ac0033caccabd0f384a99077a1f3026b4955da75e22c78ecb338b358ae95"), looks := false }, kinds := [], alts := [], laidByText := true, laidKinds := [.data, .data, .data], laidTests := true, laidLooks := .later }
def PackTellsCardSaid : Prop := Claim7.holds Tryd.pinned (.plain (OpenSpec.ofChange packTellsSpec)) packTellsCard

/-- THE TIED CARD OF 'reliquarylaw07.PackSize'. -/
def packSizeCard : Claim7 := { stood := { row := packSizeRow, standIns := [], harness := (true, "7b01ac0033caccabd0f384a99077a1f3026b4955da75e22c78ecb338b358ae95"), looks := false }, kinds := [], alts := [], laidByText := true, laidKinds := [.data, .data, .data], laidTests := true, laidLooks := .later }
def PackSizeCardSaid : Prop := Claim7.holds Tryd.pinned (.plain (OpenSpec.ofChange packSizeSpec)) packSizeCard

/-- THE SECOND FORM's CARD OF 'reliquarylaw07.PackMakes'. -/
def packMakesUptoCard : Claim7 := { stood := { row := packMakesUptoRow, standIns := [], harness := (true, "7b01ac0033caccabd0f384a99077a1f3026b4955da75e22c78ecb338b358ae95"), looks := false }, kinds := [], alts := [], laidByText := true, laidKinds := [.data, .data, .data], laidTests := true, laidLooks := .later }
def PackMakesUptoCardSaid : Prop := Claim7.holds Tryd.pinned (.plain (OpenSpec.upto packMakesSpec)) packMakesUptoCard

/-- THE SECOND FORM's CARD OF 'reliquarylaw07.PackReads'. -/
def packReadsUptoCard : Claim7 := { stood := { row := packReadsUptoRow, standIns := [], harness := (true, "7b01ac0033caccabd0f384a99077a1f3026b4955da75e22c78ecb338b358ae95"), looks := false }, kinds := [], alts := [], laidByText := true, laidKinds := [.data, .data, .data], laidTests := true, laidLooks := .later }
def PackReadsUptoCardSaid : Prop := Claim7.holds Tryd.pinned (.plain (OpenSpec.upto packReadsSpec)) packReadsUptoCard

/-- THE SECOND FORM's CARD OF 'reliquarylaw07.PackFinds'. -/
def packFindsUptoCard : Claim7 := { stood := { row := packFindsUptoRow, standIns := [], harness := (true, "7b01ac0033caccabd0f384a99077a1f3026b4955da75e22c78ecb338b358ae95"), looks := false }, kinds := [], alts := [], laidByText := true, laidKinds := [.data, .data, .data], laidTests := true, laidLooks := .later }
def PackFindsUptoCardSaid : Prop := Claim7.holds Tryd.pinned (.plain (OpenSpec.upto packFindsSpec)) packFindsUptoCard

/-- THE SECOND FORM's CARD OF 'reliquarylaw07.PackBack'. -/
def packBackUptoCard : Claim7 := { stood := { row := packBackUptoRow, standIns := [], harness := (true, "7b01ac0033caccabd0f384a99077a1f3026b4955da75e22c78ecb338b358ae95"), looks := false }, kinds := [], alts := [], laidByText := true, laidKinds := [.data, .data, .data], laidTests := true, laidLooks := .later }
def PackBackUptoCardSaid : Prop := Claim7.holds Tryd.pinned (.plain (OpenSpec.upto packBackSpec)) packBackUptoCard

/-- THE SECOND FORM's CARD OF 'reliquarylaw07.PackFound'. -/
def packFoundUptoCard : Claim7 := { stood := { row := packFoundUptoRow, standIns := [], harness := (true, "7b01ac0033caccabd0f384a99077a1f3026b4955da75e22c78ecb338b358ae95"), looks := false }, kinds := [], alts := [], laidByText := true, laidKinds := [.data, .data, .data], laidTests := true, laidLooks := .later }
def PackFoundUptoCardSaid : Prop := Claim7.holds Tryd.pinned (.plain (OpenSpec.upto packFoundSpec)) packFoundUptoCard

/-- THE SECOND FORM's CARD OF 'reliquarylaw07.PackTells'. -/
def packTellsUptoCard : Claim7 := { stood := { row := packTellsUptoRow, standIns := [], harness := (true, "7b01ac0033caccabd0f384a99077a1f3026b4955da75e22c78ecb338b358ae95"), looks := false }, kinds := [], alts := [], laidByText := true, laidKinds := [.data, .data, .data], laidTests := true, laidLooks := .later }
def PackTellsUptoCardSaid : Prop := Claim7.holds Tryd.pinned (.plain (OpenSpec.upto packTellsSpec)) packTellsUptoCard

/-- THE SECOND FORM's CARD OF 'reliquarylaw07.PackSize'. -/
def packSizeUptoCard : Claim7 := { stood := { row := packSizeUptoRow, standIns := [], harness := (true, "7b01ac0033caccabd0f384a99077a1f3026b4955da75e22c78ecb338b358ae95"), looks := false }, kinds := [], alts := [], laidByText := true, laidKinds := [.data, .data, .data], laidTests := true, laidLooks := .later }
def PackSizeUptoCardSaid : Prop := Claim7.holds Tryd.pinned (.plain (OpenSpec.upto packSizeSpec)) packSizeUptoCard
end Rows
end Go.Proofs.YtliojhhiadfmiaaDoor
