/-
  The document's answers (reliquaryref02): turn and constants, by their contracts. Conditions: none.
-/
import Derived.Test.YtdmpkgdlelagjaaGreatDoorRows
import Derived.Test.YtdmpkgdlelagjaaGreatDoorShaAwake
import Derived.WalkKit
import Derived.WalkSpells
import Derived.WalkLawsBesides
import Derived.ProofKit
import Derived.OpenShut
import Derived.Laws.BytesArg
import Derived.Deep.QuietTactic
import Derived.BigQuiet
import Derived.BigRegion
import Derived.Lib.Hide
import Derived.Lib.Builder
import Derived.Lib.UnsafeStr
import Derived.Lib.AppendStr
import Derived.Laws.Externs
import Derived.Deep.OwnRows
import Derived.Lib.SlBuf
import Derived.Lib.LazyBuf
import Derived.Deep.Cut
import Derived.Deep.MidRow
import Derived.IntWalk
import Derived.StillTailTactics
namespace Go.Proofs.YtdmpkgdlelagjaaGreatDoor.Sha
open Go.RowKit
attribute [local go_sem] u_xor u_or u_and u_not u_not2 u_add w_add w_byte m_byte m_shl24 m_shl16 m_shl8 w_shl24 w_shl16 w_shl8 m_shr3 m_shr10
theorem rotr_read2 (x : UInt32) (n : Nat) (M N : Int) (h : n < 32) (h0 : 0 < n) (hM : M = 2 ^ (32 - n)) (hN : N = 2 ^ n) :
    bits .or .u32 (u x / N) (u x * M % 4294967296) = u (rotr x n) := by
  rw [hM, hN, u_shl x (32 - n) (by omega), u_shr x n h, u_or, UInt32.or_comm]; rfl
set_option maxRecDepth 100000 in
theorem rturn_calls (x : UInt32) (n : Int) (h : turnOk n) (w : World) :
    Calls Tryz.prog 102 #[.int .u32 (u x), .int .i64 n] w fun e w' => e = .returned (.int .u32 (u (rotr x n.toNat))) ∧ ∃ m, w' = w.drewN m := by
  rcases h with rfl | rfl | rfl | rfl | rfl | rfl | rfl | rfl | rfl | rfl
  all_goals
    go_enter Tryz.func102, Tryz.ntmps102
    go_wp2_with fail
    go_quiet (fail)
    go_wp2
    go_ret
    exact ⟨congrArg (fun z => Ending.returned (Value.int .u32 z)) (rotr_read2 x _ _ _ (by decide) (by decide) (by decide) (by decide)), _, rfl⟩
theorem wpList_of_run {P : Program} {ops : Array Oper} {Q : Exit → Act → World → Prop} {o : Oper} {l : List Oper} {a : Act} {w : World} {v : Value} (hg : o.guard = none) (h : (execOp a.eval o).run P w = .ok (.value v) w) (k : wpList P ops Q l (a.put o.dst v) w) : wpList P ops Q (o :: l) a w :=
  wpList_plain hg fun K hK => by unfold Oper.wp; rw [h]; exact hK _ _ k
theorem ksu_length : (ks.map uv).length = 64 := rfl
set_option maxRecDepth 100000 in
theorem rconst_calls (w : World) :
    Calls Tryz.prog 72 #[] w fun e w' => e = .returned (.agg (ks.map uv).toArray) ∧ Below w.heap.size w w' := by
  have hz : ∀ w', (zeroValue 96).run Tryz.prog w' = .ok (.agg (Array.replicate 64 (Value.int .u32 0))) w' := fun w' => by kernel_rfl
  go_enter Tryz.func72, Tryz.ntmps72
  go_upto_region 1 with (fail)
  refine wp_region_lit ?_
  refine wpList_of_run (v := .agg (ks.map uv).toArray) rfl (by kernel_rfl) ?_
  have hA0 := Arr.new w 96
  have hth := hA0.there (ks.map uv).toArray.size (by decide)
  refine wpList_store_mid rfl 96 (.tmp 0) (.tmp 1) rfl w.heap.size 0 (ks.map uv).toArray rfl rfl hth (by kernel_rfl) (all_oneCell_toArray (uv_one _)) ?_
  go_wp2_with fail
  exact bodyPost_ret (results_cell Tryz.results72 rfl (World.rangeAt_setCells_same _ w.heap.size 0 (ks.map uv) hth) Tryz.underlying96 rfl (by kernel_rfl)) rfl ⟨rfl, below_setCells _ (Nat.le_refl _) _ _ _ ((Below.refl _ _).alloc (Nat.le_refl _) _)⟩
end Go.Proofs.YtdmpkgdlelagjaaGreatDoor.Sha
