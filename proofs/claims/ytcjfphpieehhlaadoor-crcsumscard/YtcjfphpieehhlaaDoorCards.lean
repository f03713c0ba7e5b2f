/-
  DERIVED. GIVEN WITH THE SEED: THE CARDS: each row of YtcjfphpieehhlaaDoorRows.lean that lists a variable, with what it lists TIED to the program's text (the seventh form; the later family's looks); each row that meets fmt, with fmt's text TOLD by the authors' own Lean function (tested against real Go, not proved from fmt's source: count such statements apart). THE CARD IS WHAT COUNTS. Prove the row's statement (the work); the ties are given (YtcjfphpieehhlaaDoorTie.lean); close each card by the builder's one call (the guide's Derived/Test/ToyasCard.lean, 'card_holds'). Laid BY PROGRAM, IN A SANDBOX (cutbox-door.mjs). By AI agents, Wed Nov 11 2026. No macro, syntax, notation, axiom, sorry.
-/
import Derived.Test.YtcjfphpieehhlaaDoorRows
import GoSem.ClaimSeven
namespace Go.Proofs.YtcjfphpieehhlaaDoor
namespace Rows

/-- THE TIED CARD OF 'reliquarylaw04.CrcSums'. -/
def crcSumsCard : Claim7 := { stood := { row := crcSumsRow, standIns := [], harness := (true, "f934504c78fc6df831cf49fb36824326f90e2eb25f5a114672049cb44eb5d08c"), looks := false }, kinds := [], alts := [], laidByText := true, laidKinds := [.data, .data], laidTests := true, laidLooks := .later }
def CrcSumsCardSaid : Prop := Claim7.holds Tryd.pinned (.plain (OpenSpec.ofChange crcSumsSpec)) crcSumsCard

/-- THE TIED CARD OF 'reliquarylaw04.CrcGoes'. -/
def crcGoesCard : Claim7 := { stood := { row := crcGoesRow, standIns := [], harness := (true, "f934504c78fc6df831cf49fb36824326f90e2eb25f5a114672049cb44eb5d08c"), looks := false }, kinds := [], alts := [], laidByText := true, laidKinds := [.data, .data], laidTests := true, laidLooks := .later }
def CrcGoesCardSaid : Prop := Claim7.holds Tryd.pinned (.plain (OpenSpec.ofChange crcGoesSpec)) crcGoesCard

/-- THE TIED CARD OF 'reliquarylaw04.CrcLinear'. -/
def crcLinearCard : Claim7 := { stood := { row := crcLinearRow, standIns := [], harness := (true, "f934504c78fc6df831cf49fb36824326f90e2eb25f5a114672049cb44eb5d08c"), looks := false }, kinds := [], alts := [], laidByText := true, laidKinds := [.data, .data], laidTests := true, laidLooks := .later }
def CrcLinearCardSaid : Prop := Claim7.holds Tryd.pinned (.plain (OpenSpec.ofChange crcLinearSpec)) crcLinearCard

/-- THE TIED CARD OF 'reliquarylaw04.CrcBurst'. -/
def crcBurstCard : Claim7 := { stood := { row := crcBurstRow, standIns := [], harness := (true, "f934504c78fc6df831cf49fb36824326f90e2eb25f5a114672049cb44eb5d08c"), looks := false }, kinds := [], alts := [], laidByText := true, laidKinds := [.data, .data], laidTests := true, laidLooks := .later }
def CrcBurstCardSaid : Prop := Claim7.holds Tryd.pinned (.plain (OpenSpec.ofChange crcBurstSpec)) crcBurstCard

/-- THE SECOND FORM's CARD OF 'reliquarylaw04.CrcSums'. -/
def crcSumsUptoCard : Claim7 := { stood := { row := crcSumsUptoRow, standIns := [], harness := (true, "f934504c78fc6df831cf49fb36824326f90e2eb25f5a114672049cb44eb5d08c"), looks := false }, kinds := [], alts := [], laidByText := true, laidKinds := [.data, .data], laidTests := true, laidLooks := .later }
def CrcSumsUptoCardSaid : Prop := Claim7.holds Tryd.pinned (.plain (OpenSpec.upto crcSumsSpec)) crcSumsUptoCard

/-- THE SECOND FORM's CARD OF 'reliquarylaw04.CrcGoes'. -/
def crcGoesUptoCard : Claim7 := { stood := { row := crcGoesUptoRow, standIns := [], harness := (true, "f934504c78fc6df831cf49fb36824326f90e2eb25f5a114672049cb44eb5d08c"), looks := false }, kinds := [], alts := [], laidByText := true, laidKinds := [.data, .data], laidTests := true, laidLooks := .later }
def CrcGoesUptoCardSaid : Prop := Claim7.holds Tryd.pinned (.plain (OpenSpec.upto crcGoesSpec)) crcGoesUptoCard

/-- THE SECOND FORM's CARD OF 'reliquarylaw04.CrcLinear'. -/
def crcLinearUptoCard : Claim7 := { stood := { row := crcLinearUptoRow, standIns := [], harness := (true, "f934504c78fc6df831cf49fb36824326f90e2eb25f5a114672049cb44eb5d08c"), looks := false }, kinds := [], alts := [], laidByText := true, laidKinds := [.data, .data], laidTests := true, laidLooks := .later }
def CrcLinearUptoCardSaid : Prop := Claim7.holds Tryd.pinned (.plain (OpenSpec.upto crcLinearSpec)) crcLinearUptoCard

/-- THE SECOND FORM's CARD OF 'reliquarylaw04.CrcBurst'. -/
def crcBurstUptoCard : Claim7 := { stood := { row := crcBurstUptoRow, standIns := [], harness := (true, "f934504c78fc6df831cf49fb36824326f90e2eb25f5a114672049cb44eb5d08c"), looks := false }, kinds := [], alts := [], laidByText := true, laidKinds := [.data, .data], laidTests := true, laidLooks := .later }
def CrcBurstUptoCardSaid : Prop := Claim7.holds Tryd.pinned (.plain (OpenSpec.upto crcBurstSpec)) crcBurstUptoCard
end Rows
end Go.Proofs.YtcjfphpieehhlaaDoor
