/-
  sha.schedule, called at 64 bytes in memory: it hands back the 64 words of the schedule and turns nothing that was there. Conditions: the 64 bytes lie there.
-/
import Derived.Test.YtdmpkgdlelagjaaGreatDoorRows
import Derived.Test.YtdmpkgdlelagjaaGreatDoorShaLib
import Derived.WalkKit
import Derived.WalkSpells
import Derived.WalkLawsBesides
import Derived.ProofKit
import Derived.OpenShut
import Derived.Laws.BytesArg
import Derived.Deep.QuietTactic
import Derived.BigQuiet
import Derived.BigRegion
import Derived.Lib.Hide
import Derived.Deep.Cut
import Derived.Deep.MidRow
import Derived.IntWalk
import Derived.StillTailTactics
namespace Go.Proofs.YtdmpkgdlelagjaaGreatDoor.Sha
open Go.RowKit
attribute [local go_sem] u_xor u_or u_and u_not u_add w_add w_byte m_byte m_shl24 m_shl16 m_shl8 w_shl24 w_shl16 w_shl8 m_shr3 m_shr10
attribute [local irreducible] sched
set_option maxRecDepth 100000 in
set_option maxHeartbeats 1000000 in
theorem schedule_calls (b o : Nat) (f : Nat → UInt8) (w : World) (hb : Bytes w b o f) :
    Calls Tryz.prog 111 #[.pointer (some ⟨b, o, none⟩)] w fun e w' => e = .returned (.agg ((sched f 48).map uv).toArray) ∧ Below w.heap.size w w' := by
  go_enter Tryz.func111, Tryz.ntmps111
  go_wp2
  go_loopw [9] (fun i wr => ∃ t : Nat, t ≤ 16 ∧ i = .int .i64 t ∧ Arr wr w.heap.size (fun k => if k < t then word f k else 0) ∧ Below w.heap.size w wr ∧ w.heap.size < wr.heap.size) (fun i _ => 16 - (intOf i).toNat)
  case atStart => exact ⟨0, by omega, rfl, (Arr.new w 96).congr fun i _ => rfl, (Below.refl _ _).alloc (Nat.le_refl _) _, by simp⟩
  case round =>
    obtain ⟨t, ht, rfl, hA, hB, hs⟩ := hrel
    by_cases hlt : t < 16
    · have it : (t : Int) < 64 := by omega
      have jt : 0 ≤ (t : Int) := by omega
      have hbw : ∀ i, i < 64 → wr.cell? ⟨b, o + i, none⟩ = some (.int .u8 ((f i).toNat : Int)) := fun i hi => by
        have h0 := hb.cell i hi
        exact (hB.cell (p := ⟨b, o + i, none⟩) (lt_of_cell h0)).trans h0
      have c0 := hbw (4 * t) (by omega)
      have c1 := hbw (4 * t + 1) (by omega)
      have c2 := hbw (4 * t + 2) (by omega)
      have c3 := hbw (4 * t + 3) (by omega)
      have ct := hA.cell t (by omega)
      have cf := hA.frozen t (by omega)
      clear hbw
      have i0 : (4 * (t : Int)) < 64 := by omega
      have i1 : (4 * (t : Int) + 1) < 64 := by omega
      have i2 : (4 * (t : Int) + 2) < 64 := by omega
      have i3 : (4 * (t : Int) + 3) < 64 := by omega
      have j0 : 0 ≤ (4 * (t : Int)) := by omega
      have j1 : 0 ≤ (4 * (t : Int) + 1) := by omega
      have j2 : 0 ≤ (4 * (t : Int) + 2) := by omega
      have j3 : 0 ≤ (4 * (t : Int) + 3) := by omega
      have n0 : (4 * (t : Int)).toNat = 4 * t := by omega
      have n1 : (4 * (t : Int) + 1).toNat = 4 * t + 1 := by omega
      have n2 : (4 * (t : Int) + 2).toNat = 4 * t + 2 := by omega
      have n3 : (4 * (t : Int) + 3).toNat = 4 * t + 3 := by omega
      have w0 : IntKind.i64.wrap (4 * (t : Int)) = 4 * (t : Int) := IntWalk.i64_in _ (by omega)
      have w1 : IntKind.i64.wrap (4 * (t : Int) + 1) = 4 * (t : Int) + 1 := IntWalk.i64_in _ (by omega)
      have w2 : IntKind.i64.wrap (4 * (t : Int) + 2) = 4 * (t : Int) + 2 := IntWalk.i64_in _ (by omega)
      have w3 : IntKind.i64.wrap (4 * (t : Int) + 3) = 4 * (t : Int) + 3 := IntWalk.i64_in _ (by omega)
      go_wp2
      go_still_tail 39, (by kernel_rfl)
      change wpList _ _ _ _ _ wr.drew
      clear n0 n1 n2 n3 w0 w1 w2 w3 i0 i1 i2 i3 j0 j1 j2 j3 c0 c1 c2 c3
      go_wp2
      go_roundw
      case rel => exact ⟨t + 1, by omega, by go_num, ((hA.set t (by omega) (word f t)).congr fun i _ => word_next f t i).drew, below_drew (hB.setCell (p := ⟨w.heap.size, t, none⟩) (Nat.le_refl _) _), by simpa using hs⟩
      case measure => simp [intOf]; omega
    · have h16 := Lib.hid (show t = 16 by omega)
      have hd : decide ((t : Int) < 16) = false := decide_eq_false (by omega)
      replace hA : Arr wr w.heap.size (fun k => (sched f 0).getD k 0) := hA.congr (fun i hi => by rw [h16.out]; exact sched_first f i hi)
      clear hlt ht
      go_wp2
      clear hd h16
      go_loopw [4] (fun i wr => ∃ t : Nat, 16 ≤ t ∧ t ≤ 64 ∧ i = .int .i64 t ∧ Arr wr w.heap.size (fun k => (sched f (t - 16)).getD k 0) ∧ Below w.heap.size w wr ∧ w.heap.size < wr.heap.size) (fun i _ => 64 - (intOf i).toNat)
      case atStart => exact ⟨16, by omega, by omega, rfl, hA, hB, hs⟩
      case round =>
        clear hA hB hs
        obtain ⟨n, h16, hn, rfl, hA, hB, hs⟩ := hrel
        by_cases hlt : n < 64
        · have e15 := hA.cell (n - 15) (by omega)
          have e2 := hA.cell (n - 2) (by omega)
          have e16 := hA.cell (n - 16) (by omega)
          have e7 := hA.cell (n - 7) (by omega)
          have en := hA.cell n (by omega)
          have fn := hA.frozen n (by omega)
          have hl : (n : Int) < 64 := by omega
          have hl0 : 0 ≤ (n : Int) := by omega
          have l15 : (n : Int) - 15 < 64 := by omega
          have l2 : (n : Int) - 2 < 64 := by omega
          have l16 : (n : Int) - 16 < 64 := by omega
          have l7 : (n : Int) - 7 < 64 := by omega
          have g15 : 0 ≤ (n : Int) - 15 := by omega
          have g2 : 0 ≤ (n : Int) - 2 := by omega
          have g16 : 0 ≤ (n : Int) - 16 := by omega
          have g7 : 0 ≤ (n : Int) - 7 := by omega
          have n15 : ((n : Int) - 15).toNat = n - 15 := by omega
          have n2 : ((n : Int) - 2).toNat = n - 2 := by omega
          have n16 : ((n : Int) - 16).toNat = n - 16 := by omega
          have n7 : ((n : Int) - 7).toNat = n - 7 := by omega
          have w15 : IntKind.i64.wrap ((n : Int) - 15) = (n : Int) - 15 := IntWalk.i64_in _ (by omega)
          have w2 : IntKind.i64.wrap ((n : Int) - 2) = (n : Int) - 2 := IntWalk.i64_in _ (by omega)
          have w16 : IntKind.i64.wrap ((n : Int) - 16) = (n : Int) - 16 := IntWalk.i64_in _ (by omega)
          have w7 : IntKind.i64.wrap ((n : Int) - 7) = (n : Int) - 7 := IntWalk.i64_in _ (by omega)
          have hx := Lib.hid (fun i => sched_next f n i h16 _ rfl)
          generalize (sched f (n - 16)).getD (n - 15) 0 = x15 at *
          generalize (sched f (n - 16)).getD (n - 2) 0 = x2 at *
          generalize (sched f (n - 16)).getD (n - 16) 0 = x16 at *
          generalize (sched f (n - 16)).getD (n - 7) 0 = x7 at *
          generalize (sched f (n - 16)).getD n 0 = xn at *
          go_wp2_with fail
          go_quiet (fail)
          go_wp2_with (go_at_call 112; refine (turn_calls _ _ (by simp [turnOk]) _).mono ?_; rintro e w' ⟨rfl, rfl⟩)
          replace hA := hA.drewN nq
          replace hB := below_drewN hB nq
          replace hs : w.heap.size < (wr.drewN nq).heap.size := hs
          replace e16 : (wr.drewN nq).cell? _ = _ := e16
          replace e7 : (wr.drewN nq).cell? _ = _ := e7
          replace en : (wr.drewN nq).cell? _ = _ := en
          replace fn : (wr.drewN nq).frozen? _ = _ := fn
          clear e15 e2
          generalize wr.drewN nq = wr at *
          have k16 : 16 ≤ (n : Int) := by omega
          have k7 : 7 ≤ (n : Int) := by omega
          go_still_tail 15, (by kernel_rfl)
          change wpList _ _ _ _ _ wr.drew
          clear n15 n2 n16 n7 w15 w2 w16 w7 l15 l2 l16 l7 g15 g2 g16 g7 e16 e7
          go_wp2
          go_roundw
          case rel => exact ⟨n + 1, by omega, by omega, by go_num, ((hA.set n (by omega) (x16 + s0 x15 + x7 + s1 x2)).congr fun i _ => hx.out i).drew, below_drew (hB.setCell (p := ⟨w.heap.size, n, none⟩) (Nat.le_refl _) _), by simpa using hs⟩
          case measure => simp [intOf]; omega
        · have h64 := Lib.hid (show n = 64 by omega)
          have hd : decide ((n : Int) < 64) = false := decide_eq_false (by omega)
          replace hA : Arr wr w.heap.size (fun k => (sched f 48).getD k 0) := hA.congr (fun i _ => by rw [h64.out])
          have hl := Lib.hid (sched_length f 48)
          have hr := hA.range (sched f 48) (by rw [hl.out]; decide) (fun _ _ => rfl)
          have hth := hA.there ((sched f 48).map uv).toArray.size (by simp [hl.out])
          have hi := Lib.hid (show (Tryz.prog.info? 96).map (·.size) = some ((sched f 48).map uv).length by rw [List.length_map, hl.out]; kernel_rfl)
          clear hlt hn h16 h64
          go_upto_region 13 with (fail)
          refine wp_region_lit ?_
          refine wpList_load_mid rfl 96 (.tmp 2) rfl w.heap.size 0 rfl ((sched f 48).map uv) _ hr Tryz.underlying96 rfl hi.out ?_
          refine wpList_store_mid rfl 96 (.tmp 2) (.tmp 95) rfl w.heap.size 0 ((sched f 48).map uv).toArray rfl rfl hth (by simpa using hi.out) (all_oneCell_toArray (uv_one _)) ?_
          go_wp2_with fail
          exact bodyPost_ret (results_cell Tryz.results111 rfl (World.rangeAt_setCells_same wr w.heap.size 0 ((sched f 48).map uv) (by simpa using hth)) Tryz.underlying96 rfl hi.out) rfl ⟨rfl, below_setCells _ (Nat.le_refl _) _ _ _ hB⟩
end Go.Proofs.YtdmpkgdlelagjaaGreatDoor.Sha
