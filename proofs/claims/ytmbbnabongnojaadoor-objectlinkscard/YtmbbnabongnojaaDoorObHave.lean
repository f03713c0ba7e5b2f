/-
  What a statement's walk carries along: an argument's block and lists stay where they are while only new memory is made. Conditions: none.
-/
import Derived.Test.YtmbbnabongnojaaDoorRows
import Derived.Test.YtmbbnabongnojaaDoorObPlain
import Derived.Test.YtmbbnabongnojaaDoorObGood
import Derived.Test.YtmbbnabongnojaaDoorObWrite
import Derived.Test.YtmbbnabongnojaaDoorObOwn
import Derived.Test.YtmbbnabongnojaaDoorObDec
import Derived.Test.YtmbbnabongnojaaDoorObAwake
import Derived.Test.YtmbbnabongnojaaDoorOctKit
import Derived.WalkKit
import Derived.ProofKit
import Derived.OpenShut
import Derived.Lib.Hide
namespace Go.Proofs.YtmbbnabongnojaaDoor.Ob
open Go Go.RowKit
open Oct (empty num4)

abbrev cellsOf (x : Obj) (ea : Option Addr) (ec : Nat) (pa : Option Addr) (pc : Nat) : Array Value :=
  #[.int .i64 x.kind, .string x.data, .slice ea x.ents.length ec, .string x.tree, .slice pa x.pars.length pc, .int .i64 x.height, .string x.note]
/-- at block r lies an object -/
structure Have (r : Nat) (w : World) (x : Obj) (ea : Option Addr) (ec : Nat) (pa : Option Addr) (pc : Nat) : Prop where
  blk : Blk w r (cellsOf x ea ec pa pc) 25
  at_ : ObAt w x ea ec pa pc
theorem Have.next {r : Nat} {w w' : World} {x : Obj} {ea : Option Addr} {ec : Nat} {pa : Option Addr} {pc : Nat} (h : Have r w x ea ec pa pc) (t : Below w.heap.size w w') : Have r w' x ea ec pa pc :=
  ⟨h.blk.below t h.blk.lt, h.at_.below t⟩
theorem Have.new {w : World} {x : Obj} {ea : Option Addr} {ec : Nat} {pa : Option Addr} {pc : Nat} (h : ObAt w x ea ec pa pc) : Have w.heap.size (w.alloc (.cells (cellsOf x ea ec pa pc) 25)) x ea ec pa pc :=
  ⟨Blk.new w _ _, h.below (b_alloc w _)⟩
theorem Have.cells {r : Nat} {w : World} {x : Obj} {ea : Option Addr} {ec : Nat} {pa : Option Addr} {pc : Nat} (h : Have r w x ea ec pa pc) :
    w.cell? ⟨r, 0, none⟩ = some (.int .i64 x.kind) ∧ w.cell? ⟨r, 1, none⟩ = some (.string x.data) ∧ w.cell? ⟨r, 2, none⟩ = some (.slice ea x.ents.length ec) ∧ w.cell? ⟨r, 3, none⟩ = some (.string x.tree) ∧
    w.cell? ⟨r, 4, none⟩ = some (.slice pa x.pars.length pc) ∧ w.cell? ⟨r, 5, none⟩ = some (.int .i64 x.height) ∧ w.cell? ⟨r, 6, none⟩ = some (.string x.note) :=
  ⟨h.blk.cell 0 rfl, h.blk.cell 1 rfl, h.blk.cell 2 rfl, h.blk.cell 3 rfl, h.blk.cell 4 rfl, h.blk.cell 5 rfl, h.blk.cell 6 rfl⟩
theorem below_next {w u v : World} (h : Below w.heap.size w u) (g : Below u.heap.size u v) : Below w.heap.size w v := h.trans (g.mono h.size)
theorem wrote_yes {x : Obj} (h : good x = true) : wrote x = .tuple #[.string (enc x), .int .i64 0] := by unfold wrote; rw [h]; rfl
theorem wrote_no' {x : Obj} (h : good x = false) : wrote x = .tuple #[.string empty, .int .i64 1] := by unfold wrote; rw [h]; rfl
theorem enc_size {x : Obj} (h : good x = true) : (enc x).size ≤ 100000 := by
  have hk := good_kind h
  unfold enc encRest
  rw [ByteArray.size_append, b1_size]
  unfold good at h
  by_cases h1 : x.kind = 1
  · rw [if_pos h1] at h ⊢
    have := of_decide_eq_true h; omega
  · rw [if_neg h1] at h ⊢
    by_cases h2 : x.kind = 2
    · rw [if_pos h2, Bool.and_eq_true, decide_eq_true_eq] at h
      rw [if_pos h2, ByteArray.size_append, Oct.num4_size]
      have := encEnts_size x.ents (goodEnts_mem h.2)
      omega
    · rw [if_neg h2, if_pos (by omega)] at h
      rw [if_neg h2]
      obtain ⟨g1, g2, g3, _, _, _, g7⟩ := goodCommit_iff.1 h
      have := encPars_size x.pars (goodPars_mem g3)
      unfold txt
      simp only [ByteArray.size_append, Oct.num4_size]
      omega
end Go.Proofs.YtmbbnabongnojaaDoor.Ob
