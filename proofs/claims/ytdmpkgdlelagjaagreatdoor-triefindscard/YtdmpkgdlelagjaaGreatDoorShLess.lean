/-
  A tree with one entry less. Conditions: a tree is not too great for its count; its keys rise.
-/
import Derived.Test.YtdmpkgdlelagjaaGreatDoorRows
import Derived.Test.YtdmpkgdlelagjaaGreatDoorShBal
namespace Go.Proofs.YtdmpkgdlelagjaaGreatDoor.Ti
open Go.RowKit Sh
open Key (lt)
open Ent (key)
attribute [local go_sem] fold_none

end Go.Proofs.YtdmpkgdlelagjaaGreatDoor.Ti
namespace Go.Proofs.YtdmpkgdlelagjaaGreatDoor.Ts
open Go.RowKit Sh
open Key (lt)
open Ent (key)
attribute [local go_sem] fold_none

theorem GivesL.of {w w0 w' : World} {L M : List ByteArray} {e : Ending} (h : GivesL w L e w') (hb : Below w0.heap.size w0 w) (hL : L = M) : GivesL w0 M e w' := by
  obtain ⟨p, T, rfl, ht, hf, bb⟩ := h
  exact ⟨p, T, rfl, ht, hf.trans hL, b_then hb bb⟩

end Go.Proofs.YtdmpkgdlelagjaaGreatDoor.Ts
namespace Go.Proofs.YtdmpkgdlelagjaaGreatDoor.Tm
open Go.RowKit Sh
open Key (lt)
open Ent (key)
attribute [local go_sem] fold_none

end Go.Proofs.YtdmpkgdlelagjaaGreatDoor.Tm
