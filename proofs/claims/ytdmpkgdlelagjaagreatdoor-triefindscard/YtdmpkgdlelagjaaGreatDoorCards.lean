/-
  DERIVED. GIVEN WITH THE SEED: THE CARDS: each row of YtdmpkgdlelagjaaGreatDoorRows.lean that lists a variable, with what it lists TIED to the program's text (the seventh form; the later family's looks); each row that meets fmt, with fmt's text TOLD by the authors' own Lean function (tested against real Go, not proved from fmt's source: count such statements apart). THE CARD IS WHAT COUNTS. Prove the row's statement (the work); the ties are given (YtdmpkgdlelagjaaGreatDoorTie.lean); close each card by the builder's one call (the guide's Derived/Test/ToyasCard.lean, 'card_holds'). Laid BY PROGRAM, IN A SANDBOX (cutbox-door.mjs). By AI agents, Wed Nov 11 2026. No macro, syntax, notation, axiom, sorry.
-/
import Derived.Test.YtdmpkgdlelagjaaGreatDoorRows
import GoSem.ClaimSeven
namespace Go.Proofs.YtdmpkgdlelagjaaGreatDoor
namespace Rows

/-- THE TIED CARD OF 'reliquarylaw10.TrieLooks'. -/
def trieLooksCard : Claim7 := { stood := { row := trieLooksRow, standIns := [], harness := (true, "0ae5b7c7b18faa1bdb8fc789c4281bfc31d7c9636da5f716c6dfd6b13312a2fc"), looks := false }, kinds := [], alts := [], laidByText := true, laidKinds := [.data], laidTests := true, laidLooks := .later }
def TrieLooksCardSaid : Prop := Claim7.holds Tryz.pinned (.plain (OpenSpec.ofChange trieLooksSpec)) trieLooksCard

/-- THE TIED CARD OF 'reliquarylaw10.TrieDraws'. -/
def trieDrawsCard : Claim7 := { stood := { row := trieDrawsRow, standIns := [], harness := (true, "0ae5b7c7b18faa1bdb8fc789c4281bfc31d7c9636da5f716c6dfd6b13312a2fc"), looks := false }, kinds := [], alts := [], laidByText := true, laidKinds := [.data], laidTests := true, laidLooks := .later }
def TrieDrawsCardSaid : Prop := Claim7.holds Tryz.pinned (.plain (OpenSpec.ofChange trieDrawsSpec)) trieDrawsCard

/-- THE TIED CARD OF 'reliquarylaw10.TrieFinds'. -/
def trieFindsCard : Claim7 := { stood := { row := trieFindsRow, standIns := [], harness := (true, "0ae5b7c7b18faa1bdb8fc789c4281bfc31d7c9636da5f716c6dfd6b13312a2fc"), looks := false }, kinds := [], alts := [], laidByText := true, laidKinds := [.data], laidTests := true, laidLooks := .later }
def TrieFindsCardSaid : Prop := Claim7.holds Tryz.pinned (.plain (OpenSpec.ofChange trieFindsSpec)) trieFindsCard

/-- THE TIED CARD OF 'reliquarylaw10.TrieSums'. -/
def trieSumsCard : Claim7 := { stood := { row := trieSumsRow, standIns := [], harness := (true, "0ae5b7c7b18faa1bdb8fc789c4281bfc31d7c9636da5f716c6dfd6b13312a2fc"), looks := false }, kinds := [], alts := [], laidByText := true, laidKinds := [.data], laidTests := true, laidLooks := .later }
def TrieSumsCardSaid : Prop := Claim7.holds Tryz.pinned (.plain (OpenSpec.ofChange trieSumsSpec)) trieSumsCard

/-- THE TIED CARD OF 'reliquarylaw10.TrieSpoilt'. -/
def trieSpoiltCard : Claim7 := { stood := { row := trieSpoiltRow, standIns := [], harness := (true, "0ae5b7c7b18faa1bdb8fc789c4281bfc31d7c9636da5f716c6dfd6b13312a2fc"), looks := false }, kinds := [], alts := [], laidByText := true, laidKinds := [.data], laidTests := true, laidLooks := .later }
def TrieSpoiltCardSaid : Prop := Claim7.holds Tryz.pinned (.plain (OpenSpec.ofChange trieSpoiltSpec)) trieSpoiltCard

/-- THE TIED CARD OF 'reliquarylaw10.TrieSelf'. -/
def trieSelfCard : Claim7 := { stood := { row := trieSelfRow, standIns := [], harness := (true, "0ae5b7c7b18faa1bdb8fc789c4281bfc31d7c9636da5f716c6dfd6b13312a2fc"), looks := false }, kinds := [], alts := [], laidByText := true, laidKinds := [.data], laidTests := true, laidLooks := .later }
def TrieSelfCardSaid : Prop := Claim7.holds Tryz.pinned (.plain (OpenSpec.ofChange trieSelfSpec)) trieSelfCard

/-- THE SECOND FORM's CARD OF 'reliquarylaw10.TrieLooks'. -/
def trieLooksUptoCard : Claim7 := { stood := { row := trieLooksUptoRow, standIns := [], harness := (true, "0ae5b7c7b18faa1bdb8fc789c4281bfc31d7c9636da5f716c6dfd6b13312a2fc"), looks := false }, kinds := [], alts := [], laidByText := true, laidKinds := [.data], laidTests := true, laidLooks := .later }
def TrieLooksUptoCardSaid : Prop := Claim7.holds Tryz.pinned (.plain (OpenSpec.upto trieLooksSpec)) trieLooksUptoCard

/-- THE SECOND FORM's CARD OF 'reliquarylaw10.TrieDraws'. -/
def trieDrawsUptoCard : Claim7 := { stood := { row := trieDrawsUptoRow, standIns := [], harness := (true, "0ae5b7c7b18faa1bdb8fc789c4281bfc31d7c9636da5f716c6dfd6b13312a2fc"), looks := false }, kinds := [], alts := [], laidByText := true, laidKinds := [.data], laidTests := true, laidLooks := .later }
def TrieDrawsUptoCardSaid : Prop := Claim7.holds Tryz.pinned (.plain (OpenSpec.upto trieDrawsSpec)) trieDrawsUptoCard

/-- THE SECOND FORM's CARD OF 'reliquarylaw10.TrieFinds'. -/
def trieFindsUptoCard : Claim7 := { stood := { row := trieFindsUptoRow, standIns := [], harness := (true, "0ae5b7c7b18faa1bdb8fc789c4281bfc31d7c9636da5f716c6dfd6b13312a2fc"), looks := false }, kinds := [], alts := [], laidByText := true, laidKinds := [.data], laidTests := true, laidLooks := .later }
def TrieFindsUptoCardSaid : Prop := Claim7.holds Tryz.pinned (.plain (OpenSpec.upto trieFindsSpec)) trieFindsUptoCard

/-- THE SECOND FORM's CARD OF 'reliquarylaw10.TrieSums'. -/
def trieSumsUptoCard : Claim7 := { stood := { row := trieSumsUptoRow, standIns := [], harness := (true, "0ae5b7c7b18faa1bdb8fc789c4281bfc31d7c9636da5f716c6dfd6b13312a2fc"), looks := false }, kinds := [], alts := [], laidByText := true, laidKinds := [.data], laidTests := true, laidLooks := .later }
def TrieSumsUptoCardSaid : Prop := Claim7.holds Tryz.pinned (.plain (OpenSpec.upto trieSumsSpec)) trieSumsUptoCard

/-- THE SECOND FORM's CARD OF 'reliquarylaw10.TrieSpoilt'. -/
def trieSpoiltUptoCard : Claim7 := { stood := { row := trieSpoiltUptoRow, standIns := [], harness := (true, "0ae5b7c7b18faa1bdb8fc789c4281bfc31d7c9636da5f716c6dfd6b13312a2fc"), looks := false }, kinds := [], alts := [], laidByText := true, laidKinds := [.data], laidTests := true, laidLooks := .later }
def TrieSpoiltUptoCardSaid : Prop := Claim7.holds Tryz.pinned (.plain (OpenSpec.upto trieSpoiltSpec)) trieSpoiltUptoCard

/-- THE SECOND FORM's CARD OF 'reliquarylaw10.TrieSelf'. -/
def trieSelfUptoCard : Claim7 := { stood := { row := trieSelfUptoRow, standIns := [], harness := (true, "0ae5b7c7b18faa1bdb8fc789c4281bfc31d7c9636da5f716c6dfd6b13312a2fc"), looks := false }, kinds := [], alts := [], laidByText := true, laidKinds := [.data], laidTests := true, laidLooks := .later }
def TrieSelfUptoCardSaid : Prop := Claim7.holds Tryz.pinned (.plain (OpenSpec.upto trieSelfSpec)) trieSelfUptoCard
end Rows
end Go.Proofs.YtdmpkgdlelagjaaGreatDoor
