/-
  Sets of the shelf made of rising lists of ids; a set's own cell lacks nothing and asks nothing. Conditions: none beyond lengths.
-/
import Derived.Test.YtdmpkgdlelagjaaGreatDoorRows
import Derived.Test.YtdmpkgdlelagjaaGreatDoorTrFresh
import Derived.Test.YtdmpkgdlelagjaaGreatDoorShWithin
namespace Go.Proofs.YtdmpkgdlelagjaaGreatDoor.Tr
open Go Go.RowKit
open Ident (by_ val dg digit has digits)
open Sh (b_alloc b_drew b_drewN b_next b_then Rises)

theorem OfSet_calls (a : Option Addr) (cap b off : Nat) (L : List ByteArray) (w : World) (hT : TxAt w a b off L) (hR : Rises L) (hn : L.length < 900000) :
    Calls Tryz.prog 19 #[.slice a L.length cap] w (Ts.Makes w L) :=
  (Ts.Of_calls w a cap L hn (reads_tx hT)).mono fun e w' ⟨M, hM, h⟩ => by
    have : M = L := Sh.rises_one hM.1 hR hM.2.1
    rwa [this] at h
theorem lacks_self (L : List ByteArray) (p : ByteArray) : lacks L (cellOf L p) = [] := by
  apply List.eq_nil_iff_forall_not_mem.2
  intro x hx
  obtain ⟨h1, h2⟩ := mem_lacks.1 hx
  rw [cell_ids'] at h1
  split at h1
  · exact h2 (List.mem_filter.1 h1).1
  · simp at h1
theorem asks_self (L : List ByteArray) (p : ByteArray) : asks L (cellOf L p) = [] := by
  apply List.eq_nil_iff_forall_not_mem.2
  intro x hx
  obtain ⟨_, d, _, _, h, _⟩ := mem_asks.1 hx
  exact h rfl
theorem all_own (L : List ByteArray) : (L.all fun x => Sh.has x L) = true := by
  rw [List.all_eq_true]
  intro x hx
  exact Sh.has_iff.2 ⟨x, hx, rfl⟩
theorem cell_own_few {L : List ByteArray} (hs : IsSet L) (h : L.length ≤ 8) : cellOf L ⟨#[]⟩ = fewCell L := cell_few hs.1 h
end Go.Proofs.YtdmpkgdlelagjaaGreatDoor.Tr
