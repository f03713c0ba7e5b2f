/-
  A tree with one entry less. Conditions: a tree is not too great for its count; its keys rise.
-/
import Derived.Test.YtkdghmbglaghlaaGreatRows
import Derived.Test.YtkdghmbglaghlaaGreatShBal
namespace Go.Proofs.YtkdghmbglaghlaaGreat.Ti
open Go.RowKit Sh
open Key (lt)
open Ent (key)
attribute [local go_sem] fold_none

theorem GivesL.of {w w0 w' : World} {L M : List Int} {e : Ending} (h : GivesL w L e w') (hb : Below w0.heap.size w0 w) (hL : L = M) : GivesL w0 M e w' := by
  obtain ⟨p, T, rfl, ht, hf, bb⟩ := h
  exact ⟨p, T, rfl, ht, hf.trans hL, b_then hb bb⟩

end Go.Proofs.YtkdghmbglaghlaaGreat.Ti
namespace Go.Proofs.YtkdghmbglaghlaaGreat.Ts
open Go.RowKit Sh
open Key (lt)
open Ent (key)
attribute [local go_sem] fold_none

theorem GivesL.of {w w0 w' : World} {L M : List ByteArray} {e : Ending} (h : GivesL w L e w') (hb : Below w0.heap.size w0 w) (hL : L = M) : GivesL w0 M e w' := by
  obtain ⟨p, T, rfl, ht, hf, bb⟩ := h
  exact ⟨p, T, rfl, ht, hf.trans hL, b_then hb bb⟩

end Go.Proofs.YtkdghmbglaghlaaGreat.Ts
namespace Go.Proofs.YtkdghmbglaghlaaGreat.Tm
open Go.RowKit Sh
open Key (lt)
open Ent (key)
attribute [local go_sem] fold_none

theorem GivesL.of {w w0 w' : World} {L M : List (ByteArray × Int)} {e : Ending} (h : GivesL w L e w') (hb : Below w0.heap.size w0 w) (hL : L = M) : GivesL w0 M e w' := by
  obtain ⟨p, T, rfl, ht, hf, bb⟩ := h
  exact ⟨p, T, rfl, ht, hf.trans hL, b_then hb bb⟩

end Go.Proofs.YtkdghmbglaghlaaGreat.Tm
