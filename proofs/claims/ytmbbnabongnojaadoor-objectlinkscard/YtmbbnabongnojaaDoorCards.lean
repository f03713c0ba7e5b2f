/-
  DERIVED. GIVEN WITH THE SEED: THE CARDS: each row of YtmbbnabongnojaaDoorRows.lean that lists a variable, with what it lists TIED to the program's text (the seventh form; the later family's looks); each row that meets fmt, with fmt's text TOLD by the authors' own Lean function (tested against real Go, not proved from fmt's source: count such statements apart). THE CARD IS WHAT COUNTS. Prove the row's statement (the work); the ties are given (YtmbbnabongnojaaDoorTie.lean); close each card by the builder's one call (the guide's Derived/Test/ToyasCard.lean, 'card_holds'). Laid BY PROGRAM, IN A SANDBOX (cutbox-door.mjs). By AI agents, Wed Nov 11 2026. No macro, syntax, notation, axiom, sorry.
-/
import Derived.Test.YtmbbnabongnojaaDoorRows
import GoSem.ClaimSeven
namespace Go.Proofs.YtmbbnabongnojaaDoor
namespace Rows

/-- THE TIED CARD OF 'reliquarylaw06.ObjectWrites'. -/
def objectWritesCard : Claim7 := { stood := { row := objectWritesRow, standIns := [], harness := (true, "cb12b2dee1a91374101822c20ea96eec1ab60b139db5994e5938f6a2d74e98bf"), looks := false }, kinds := [], alts := [], laidByText := true, laidKinds := [.data], laidTests := true, laidLooks := .later }
def ObjectWritesCardSaid : Prop := Claim7.holds Tryd.pinned (.plain (OpenSpec.ofChange objectWritesSpec)) objectWritesCard

/-- THE TIED CARD OF 'reliquarylaw06.ObjectReads'. -/
def objectReadsCard : Claim7 := { stood := { row := objectReadsRow, standIns := [], harness := (true, "cb12b2dee1a91374101822c20ea96eec1ab60b139db5994e5938f6a2d74e98bf"), looks := false }, kinds := [], alts := [], laidByText := true, laidKinds := [.data], laidTests := true, laidLooks := .later }
def ObjectReadsCardSaid : Prop := Claim7.holds Tryd.pinned (.plain (OpenSpec.ofChange objectReadsSpec)) objectReadsCard

/-- THE TIED CARD OF 'reliquarylaw06.ObjectHeights'. -/
def objectHeightsCard : Claim7 := { stood := { row := objectHeightsRow, standIns := [], harness := (true, "cb12b2dee1a91374101822c20ea96eec1ab60b139db5994e5938f6a2d74e98bf"), looks := false }, kinds := [], alts := [], laidByText := true, laidKinds := [.data], laidTests := true, laidLooks := .later }
def ObjectHeightsCardSaid : Prop := Claim7.holds Tryd.pinned (.plain (OpenSpec.ofChange objectHeightsSpec)) objectHeightsCard

/-- THE TIED CARD OF 'reliquarylaw06.ObjectBack'. -/
def objectBackCard : Claim7 := { stood := { row := objectBackRow, standIns := [], harness := (true, "cb12b2dee1a91374101822c20ea96eec1ab60b139db5994e5938f6a2d74e98bf"), looks := false }, kinds := [], alts := [], laidByText := true, laidKinds := [.data], laidTests := true, laidLooks := .later }
def ObjectBackCardSaid : Prop := Claim7.holds Tryd.pinned (.plain (OpenSpec.ofChange objectBackSpec)) objectBackCard

/-- THE TIED CARD OF 'reliquarylaw06.ObjectLinks'. -/
def objectLinksCard : Claim7 := { stood := { row := objectLinksRow, standIns := [], harness := (true, "cb12b2dee1a91374101822c20ea96eec1ab60b139db5994e5938f6a2d74e98bf"), looks := false }, kinds := [], alts := [], laidByText := true, laidKinds := [.data], laidTests := true, laidLooks := .later }
def ObjectLinksCardSaid : Prop := Claim7.holds Tryd.pinned (.plain (OpenSpec.ofChange objectLinksSpec)) objectLinksCard

/-- THE TIED CARD OF 'reliquarylaw06.ObjectCuts'. -/
def objectCutsCard : Claim7 := { stood := { row := objectCutsRow, standIns := [], harness := (true, "cb12b2dee1a91374101822c20ea96eec1ab60b139db5994e5938f6a2d74e98bf"), looks := false }, kinds := [], alts := [], laidByText := true, laidKinds := [.data], laidTests := true, laidLooks := .later }
def ObjectCutsCardSaid : Prop := Claim7.holds Tryd.pinned (.plain (OpenSpec.ofChange objectCutsSpec)) objectCutsCard

/-- THE TIED CARD OF 'reliquarylaw06.ObjectRises'. -/
def objectRisesCard : Claim7 := { stood := { row := objectRisesRow, standIns := [], harness := (true, "cb12b2dee1a91374101822c20ea96eec1ab60b139db5994e5938f6a2d74e98bf"), looks := false }, kinds := [], alts := [], laidByText := true, laidKinds := [.data], laidTests := true, laidLooks := .later }
def ObjectRisesCardSaid : Prop := Claim7.holds Tryd.pinned (.plain (OpenSpec.ofChange objectRisesSpec)) objectRisesCard

/-- THE SECOND FORM's CARD OF 'reliquarylaw06.ObjectWrites'. -/
def objectWritesUptoCard : Claim7 := { stood := { row := objectWritesUptoRow, standIns := [], harness := (true, "cb12b2dee1a91374101822c20ea96eec1ab60b139db5994e5938f6a2d74e98bf"), looks := false }, kinds := [], alts := [], laidByText := true, laidKinds := [.data], laidTests := true, laidLooks := .later }
def ObjectWritesUptoCardSaid : Prop := Claim7.holds Tryd.pinned (.plain (OpenSpec.upto objectWritesSpec)) objectWritesUptoCard

/-- THE SECOND FORM's CARD OF 'reliquarylaw06.ObjectReads'. -/
def objectReadsUptoCard : Claim7 := { stood := { row := objectReadsUptoRow, standIns := [], harness := (true, "cb12b2dee1a91374101822c20ea96eec1ab60b139db5994e5938f6a2d74e98bf"), looks := false }, kinds := [], alts := [], laidByText := true, laidKinds := [.data], laidTests := true, laidLooks := .later }
def ObjectReadsUptoCardSaid : Prop := Claim7.holds Tryd.pinned (.plain (OpenSpec.upto objectReadsSpec)) objectReadsUptoCard

/-- THE SECOND FORM's CARD OF 'reliquarylaw06.ObjectHeights'. -/
def objectHeightsUptoCard : Claim7 := { stood := { row := objectHeightsUptoRow, standIns := [], harness := (true, "cb12b2dee1a91374101822c20ea96eec1ab60b139db5994e5938f6a2d74e98bf"), looks := false }, kinds := [], alts := [], laidByText := true, laidKinds := [.data], laidTests := true, laidLooks := .later }
def ObjectHeightsUptoCardSaid : Prop := Claim7.holds Tryd.pinned (.plain (OpenSpec.upto objectHeightsSpec)) objectHeightsUptoCard

/-- THE SECOND FORM's CARD OF 'reliquarylaw06.ObjectBack'. -/
def objectBackUptoCard : Claim7 := { stood := { row := objectBackUptoRow, standIns := [], harness := (true, "cb12b2dee1a91374101822c20ea96eec1ab60b139db5994e5938f6a2d74e98bf"), looks := false }, kinds := [], alts := [], laidByText := true, laidKinds := [.data], laidTests := true, laidLooks := .later }
def ObjectBackUptoCardSaid : Prop := Claim7.holds Tryd.pinned (.plain (OpenSpec.upto objectBackSpec)) objectBackUptoCard

/-- THE SECOND FORM's CARD OF 'reliquarylaw06.ObjectLinks'. -/
def objectLinksUptoCard : Claim7 := { stood := { row := objectLinksUptoRow, standIns := [], harness := (true, "cb12b2dee1a91374101822c20ea96eec1ab60b139db5994e5938f6a2d74e98bf"), looks := false }, kinds := [], alts := [], laidByText := true, laidKinds := [.data], laidTests := true, laidLooks := .later }
def ObjectLinksUptoCardSaid : Prop := Claim7.holds Tryd.pinned (.plain (OpenSpec.upto objectLinksSpec)) objectLinksUptoCard

/-- THE SECOND FORM's CARD OF 'reliquarylaw06.ObjectCuts'. -/
def objectCutsUptoCard : Claim7 := { stood := { row := objectCutsUptoRow, standIns := [], harness := (true, "cb12b2dee1a91374101822c20ea96eec1ab60b139db5994e5938f6a2d74e98bf"), looks := false }, kinds := [], alts := [], laidByText := true, laidKinds := [.data], laidTests := true, laidLooks := .later }
def ObjectCutsUptoCardSaid : Prop := Claim7.holds Tryd.pinned (.plain (OpenSpec.upto objectCutsSpec)) objectCutsUptoCard

/-- THE SECOND FORM's CARD OF 'reliquarylaw06.ObjectRises'. -/
def objectRisesUptoCard : Claim7 := { stood := { row := objectRisesUptoRow, standIns := [], harness := (true, "cb12b2dee1a91374101822c20ea96eec1ab60b139db5994e5938f6a2d74e98bf"), looks := false }, kinds := [], alts := [], laidByText := true, laidKinds := [.data], laidTests := true, laidLooks := .later }
def ObjectRisesUptoCardSaid : Prop := Claim7.holds Tryd.pinned (.plain (OpenSpec.upto objectRisesSpec)) objectRisesUptoCard
end Rows
end Go.Proofs.YtmbbnabongnojaaDoor
