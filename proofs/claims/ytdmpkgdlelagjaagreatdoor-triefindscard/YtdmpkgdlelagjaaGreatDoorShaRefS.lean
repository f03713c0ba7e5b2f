/-
  The document's digest (reliquaryref02.Sum): the same plain function of the bytes; nothing that was there turns. Conditions: the text is within the form's own reach.
-/
import Derived.Test.YtdmpkgdlelagjaaGreatDoorRows
import Derived.Test.YtdmpkgdlelagjaaGreatDoorShaRefP
import Derived.WalkKit
import Derived.WalkSpells
import Derived.WalkLawsBesides
import Derived.ProofKit
import Derived.OpenShut
import Derived.Laws.BytesArg
import Derived.Deep.QuietTactic
import Derived.BigQuiet
import Derived.BigRegion
import Derived.Lib.Hide
import Derived.Deep.AppendSrc
import Derived.Room.Entries
import Derived.Lib.ConvBytes
import Derived.Laws.IdiomStrings
import Derived.Deep.RegionHeld3
import Derived.Lib.Builder
import Derived.Lib.UnsafeStr
import Derived.Lib.AppendStr
import Derived.Laws.Externs
import Derived.Deep.OwnRows
import Derived.Lib.SlBuf
import Derived.Lib.LazyBuf
import Derived.Deep.Cut
import Derived.Deep.MidRow
import Derived.IntWalk
import Derived.StillTailTactics
namespace Go.Proofs.YtdmpkgdlelagjaaGreatDoor.Sha
open Go.RowKit
theorem wpStill_load_mid {P : Program} {ops : Array Oper} {w : World} {Q : Act → Prop} {rest : List Oper} {op : Oper} {a : Act} (hgd : op.guard = none) (ty : TypeId) (x : Operand) (ho : op.op = .load ty x)
    (b o : Nat) (hx : a.eval x = .pointer (some ⟨b, o, none⟩)) (cs : List Value) (d : TypeDesc) (hc : w.rangeAt b o cs)
    (hu : P.underlying ty = some d) (hd : d.isRow = true) (hi : (P.info? ty).map (·.size) = some cs.length)
    (h : wpStill P ops w Q rest (a.put op.dst (.agg cs.toArray))) : wpStill P ops w Q (op :: rest) a := by
  refine wpStill_step fun K hK => ?_
  rw [if_pos (by simp [Region.wanted, hgd])]
  have hr : (execOp a.eval op).run P w = .ok (.value (.agg cs.toArray)) w := by
    unfold execOp
    simp only [ho, hx, Instr.loadAt, Instr.sureAddr, Sem.run_bind, Sem.run_pure, Result.andThen_ok, run_loadVar_mid w b o ty cs d hc hu hd hi]
  unfold Oper.still
  rw [hr, Oper.stillUpon_value]
  exact hK _ h
/-- the block of a slice -/
def lenB : Value → Nat
  | .slice (some a) _ _ => a.block
  | _ => 0
theorem Pd.below {B C : Nat} {w w' : World} {v : Value} {l : List UInt8} (h : Pd B w v l) (t : Below C w w') (hC : lenB v < C) : Pd B w' v l := by
  obtain ⟨g, cap, rfl, hg, hl, hcell, hth⟩ := h
  exact ⟨g, cap, rfl, hg, hl, fun j hj => (t.cell (p := ⟨g, j, none⟩) hC).trans (hcell j hj), fun j hj => by rw [t.cell (p := ⟨g, j, none⟩) hC, t.frozen (p := ⟨g, j, none⟩) hC]; exact hth j hj⟩
theorem step_append_pd {ops : Array Oper} {o : Oper} {a : Act} {w : World} {K : Act → World → Prop} {Q : Exit → Act → World → Prop} {E : Prop} (hgd : o.guard = none) (s x : Operand)
    (ho : o.op = .call { callee := .builtin .append, args := #[s, x], argTypes := #[42, 42] }) {B : Nat} {l : List UInt8} {v : Value} (hv : a.eval s = v) (h : Pd B w v l)
    (ad : Addr) (c : Nat) (m : List UInt8) (n : Nat) (hn : m.length = n) (hx : a.eval x = .slice (some ad) n c) (hm : 0 < n) (hc : ∀ j, j < n → w.cell? (ad.add j) = some (c8 (m.getD j 0))) (hle : l.length + n ≤ 140737488355328) (hB : B ≤ w.heap.size)
    (hK : ∀ v' w', Pd B w' v' (l ++ m) → Below B w w' → K (a.put o.dst v') w') : if Region.wanted o (yielded ops a.tmps) = true then Oper.wp Tryz.prog o a w K Q else E := by
  subst hn
  have hw : Region.wanted o (yielded ops a.tmps) = true := by simp [Region.wanted, hgd]
  rw [if_pos hw]
  obtain ⟨v', w', hrun, r1, r2⟩ := h.append ad c m hm hc hle hB o.type
  unfold Oper.wp
  simp [execOp, ho, resolve, invoke, builtin, hv, hx, hrun, Result.andThen]
  exact hK v' w' r1 r2
theorem cells4 (w : World) (x : UInt32) {a b c d : Int} (ha : a = ((x >>> 24).toUInt8.toNat : Int)) (hb : b = ((x >>> 16).toUInt8.toNat : Int)) (hc : c = ((x >>> 8).toUInt8.toNat : Int)) (hd : d = (x.toUInt8.toNat : Int)) :
    ∀ j, j < 4 → (w.alloc (.cells #[.int .u8 a, .int .u8 b, .int .u8 c, .int .u8 d] 5)).cell? ((⟨w.heap.size, 0, none⟩ : Addr).add j) = some (c8 ((bytes4 x).getD j 0)) := fun j hj => by
  subst ha hb hc hd
  rw [Addr.add_mid, Nat.zero_add, cell_new]
  match j, hj with
  | 0, _ => rfl
  | 1, _ => rfl
  | 2, _ => rfl
  | 3, _ => rfl
/-- the memory of a call of Sum: its words, the constants, the message -/
structure RS (Kb : Nat) (X : V) (v : Value) (l : List UInt8) (w w' : World) : Prop where
  h : Ar8 w' w.heap.size X
  k : Arr w' Kb (fun i => ks.getD i 0)
  p : Pd (Kb + 1) w' v l
  lt : lenB v < w'.heap.size
  bel : Below w.heap.size w w'
  hk : w.heap.size < Kb
  z : Kb < w'.heap.size
def RS0 (Kb : Nat) (w w' : World) : Prop := Ar8 w' w.heap.size first ∧ Arr w' Kb (fun i => ks.getD i 0) ∧ Below w.heap.size w w' ∧ w'.heap.size = Kb + 1
theorem first_lit : (vList first).toArray = #[.int .u32 1779033703, .int .u32 3144134277, .int .u32 1013904242, .int .u32 2773480762, .int .u32 1359893119, .int .u32 2600822924, .int .u32 528734635, .int .u32 1541459225] := by kernel_rfl
theorem ks_length : ks.length = 64 := rfl
theorem Arr.rangeKs {w : World} {b : Nat} (h : Arr w b (fun i => ks.getD i 0)) : w.rangeAt b 0 (ks.map uv) := h.range ks (by rw [ks_length]; exact Nat.le_refl _) (fun _ _ => rfl)
theorem Ar8.turned {w w' : World} {b b' : Nat} {v : V} (h : Ar8 w b v) (t : Turned b' w w') (hb : b ≠ b') (hl : b < w.heap.size) : Ar8 w' b v :=
  ⟨fun i hi => (t.cell (p := ⟨b, i, none⟩) hb hl).trans (h.cell i hi), fun i hi => (t.frozen (p := ⟨b, i, none⟩) hb hl).trans (h.frozen i hi)⟩
theorem RS.next {Kb : Nat} {X Y : V} {v : Value} {l : List UInt8} {w w' : World} (h : RS Kb X v l w w') (w'' : World) (t : Below w'.heap.size w' w'') : RS Kb Y v l w (w''.setCells w.heap.size 0 (vList Y)) := by
  obtain ⟨h1, h2, h3, h4, h5, h6, h7⟩ := h
  have b2 := h1.below t (by omega)
  have a2 := h2.below t h7
  have p2 := h3.below t h4
  have z2 := t.size
  have tt : Turned w.heap.size w'' (w''.setCells w.heap.size 0 (vList Y)) := Turned.setCells _ _ _ (Turned.refl _ _)
  refine ⟨b2.setCells Y, ⟨fun i hi => (tt.cell (p := ⟨Kb, i, none⟩) (by show Kb ≠ _; omega) (by show Kb < _; omega)).trans (a2.cell i hi), fun i hi => (tt.frozen (p := ⟨Kb, i, none⟩) (by show Kb ≠ _; omega) (by show Kb < _; omega)).trans (a2.frozen i hi)⟩, ?_, Nat.lt_of_lt_of_le h4 (Nat.le_trans z2 tt.size), (h5.trans (t.mono (by omega))).trans (tt.below (Nat.le_refl _) (by omega)), h6, Nat.lt_of_lt_of_le h7 (Nat.le_trans z2 tt.size)⟩
  obtain ⟨g, cap, rfl, hg, hl, hcell, hth⟩ := p2
  have hg2 : g < w''.heap.size := Nat.lt_of_lt_of_le h4 z2
  exact ⟨g, cap, rfl, hg, hl, fun j hj => (tt.cell (p := ⟨g, j, none⟩) (by show g ≠ _; omega) hg2).trans (hcell j hj), fun j hj => by rw [tt.cell (p := ⟨g, j, none⟩) (by show g ≠ _; omega) hg2, tt.frozen (p := ⟨g, j, none⟩) (by show g ≠ _; omega) hg2]; exact hth j hj⟩
theorem RS.drewN {Kb : Nat} {X : V} {v : Value} {l : List UInt8} {w w' : World} (h : RS Kb X v l w w') (n : Nat) : RS Kb X v l w (w'.drewN n) :=
  ⟨h.h.drewN n, h.k.drewN n, h.p, h.lt, below_drewN h.bel n, h.hk, h.z⟩
theorem fold_succ (l : List UInt8) (n : Nat) : fold l (n + 1) = block (fold l n) (fun i => l.getD (64 * n + i) 0) := rfl
theorem pad_blocks (n : Nat) : (n + (zs n + 9)) % 64 = 0 := by unfold zs; omega
attribute [local irreducible] sched rounds ks fold block ending sum bytesTo
set_option maxRecDepth 100000 in
set_option maxHeartbeats 1000000 in
theorem RSum_calls (s : ByteArray) (hs : s.size ≤ 140737488351232) (w : World) :
    Calls Tryz.prog 41 #[.string s] w fun e w' => e = .returned (.string ⟨(sum s.data.toList).toArray⟩) ∧ Below w.heap.size w w' := by
  have a1 := Ar8.new w first 95
  have b1 := (Below.refl w.heap.size w).alloc (Nat.le_refl _) (.cells (vList first).toArray 95)
  have s1 : (w.alloc (.cells (vList first).toArray 95)).heap.size = w.heap.size + 1 := by simp
  rw [first_lit] at a1 b1 s1
  go_enter Tryz.func41, Tryz.ntmps41
  go_wp2_with fail
  refine (rconst_calls _).mono ?_
  rintro e w2 ⟨rfl, b2⟩
  generalize w.alloc (.cells #[.int .u32 1779033703, .int .u32 3144134277, .int .u32 1013904242, .int .u32 2773480762, .int .u32 1359893119, .int .u32 2600822924, .int .u32 528734635, .int .u32 1541459225] 95) = w1 at *
  have z2 := b2.size
  have a2 := a1.below b2 (by omega)
  replace b2 := b1.trans (b2.mono (by omega))
  have hKb : w.heap.size < w2.heap.size := by omega
  have hA0 := Arr.new w2 96
  have hth := hA0.there (ks.map uv).toArray.size (by rw [List.size_toArray, List.length_map, ks_length]; exact Nat.le_refl _)
  have hS : RS0 w2.heap.size w ((w2.alloc (.cells (Array.replicate 64 (.int .u32 0)) 96)).setCells w2.heap.size 0 (ks.map uv)) := by
    have t1 := (Below.refl w2.heap.size w2).alloc (Nat.le_refl _) (.cells (Array.replicate 64 (.int .u32 0)) 96)
    have t2 := below_setCells w2.heap.size (Nat.le_refl _) (ks.map uv) 0 _ t1
    exact ⟨a2.below t2 hKb, hA0.setCells ks ks_length, b2.trans (t2.mono (by omega)), by rw [size_setCells]; simp⟩
  clear hA0 a1 b1 a2 b2 s1
  go_wp2_with (refine wpList_store_mid (op := ⟨Option.none, .store 96 (.tmp 4) (.tmp 10), _, _, _, _⟩) (by rfl) 96 (.tmp 4) (.tmp 10) (by rfl) w2.heap.size 0 (ks.map uv).toArray (by rfl) (by rfl) hth (by kernel_rfl) (all_oneCell_toArray (uv_one _)) (wpList_gen (RS0 w2.heap.size w) hS ?_))
  clear hS hth
  rintro w3 ⟨a3, k3, b3, z3⟩
  generalize w2.heap.size = Kb at *
  clear z2
  go_wp2_with fail
  refine (padded_calls s hs w3).mono ?_
  rintro e w4 ⟨v, rfl, p4, b4⟩
  have hR : RS Kb (fold (s.data.toList ++ ending s.size) 0) v (s.data.toList ++ ending s.size) w w4 := by
    rw [z3] at p4
    have hlt : lenB v < w4.heap.size := by
      obtain ⟨g, cap, rfl, hg, hl, hcell, hth⟩ := p4
      have e := ending_length s.size
      exact lt_of_cell (hcell 0 (by rw [List.length_append, e]; omega))
    exact ⟨by rw [fold]; exact a3.below b4 (by omega), k3.below b4 (by omega), p4, hlt, b3.trans (b4.mono (by omega)), hKb, by have := b4.size; omega⟩
  clear a3 k3 b3 p4 b4
  have hll := Lib.hid (show (s.data.toList ++ ending s.size).length = s.size + (zs s.size + 9) by rw [List.length_append, ending_length, ← Lib.size_eq])
  have hmod := pad_blocks s.size
  have hzl : zs s.size < 64 := Nat.mod_lt _ (by decide)
  have hsum := Lib.hid (show sum s.data.toList = (fold (s.data.toList ++ ending s.size) ((s.data.toList ++ ending s.size).length / 64)).bytes by rw [sum, ← Lib.size_eq])
  generalize s.data.toList ++ ending s.size = l at *
  have hp := hR.p
  obtain ⟨g, cap, rfl, hg, hl, hcell, hth⟩ := hp
  rw [hll.out] at hl hR
  obtain ⟨n, hn⟩ : ∃ n, s.size + (zs s.size + 9) = 64 * n := ⟨(s.size + (zs s.size + 9)) / 64, by omega⟩
  rw [hll.out]
  rw [hn] at hl hR hll ⊢
  have hn2 : 64 * n ≤ 140737488351400 := by omega
  clear hmod hcell hth hn
  go_wp2_with fail
  go_loopw [6] (fun i wr => ∃ q : Nat, q ≤ n ∧ i = .int .i64 (64 * (q : Int)) ∧ RS Kb (fold l q) (.slice (some ⟨g, 0, none⟩) (64 * n) cap) l w wr) (fun i _ => 64 * n - (intOf i).toNat)
  case atStart => exact ⟨0, Nat.zero_le _, rfl, hR⟩
  case round =>
    clear hR
    obtain ⟨q, hq, rfl, hR⟩ := hrel
    by_cases hlt : q < n
    · have i1 : 64 * (q : Int) < 64 * (n : Int) := by omega
      have i2 : 0 ≤ 64 * (q : Int) := by omega
      have i3 : 64 * (q : Int) + 64 ≤ (cap : Int) := by omega
      have i4 : 64 * (q : Int) ≤ 64 * (q : Int) + 64 := by omega
      have i5 : 0 ≤ 64 * (q : Int) + 64 := by omega
      have n1 : (64 * (q : Int)).toNat = 64 * q := by omega
      have n2 : (64 * (q : Int) + 64).toNat = 64 * q + 64 := by omega
      have w1 : IntKind.i64.wrap (64 * (q : Int) + 64) = 64 * (q : Int) + 64 := IntWalk.i64_in _ (by omega)
      have hr1 := hR.h.range
      have hr2 := hR.k.rangeKs
      have hth := hR.h.there
      go_wp2_with fail
      refine wp_region_still_tail 7 (by kernel_rfl) (by kernel_rfl) ?_
      simp only [List.take_succ_cons, List.take_zero, List.drop_succ_cons, List.drop_zero]
      refine wpStill_load_mid rfl 95 (.tmp 3) rfl w.heap.size 0 rfl (vList (fold l q)) _ hr1 Tryz.underlying95 rfl (by kernel_rfl) ?_
      still_step
      still_step
      still_step
      still_step
      still_step
      rw [if_neg (show ¬ cap = 64 * q by omega)]
      refine wpStill_load_mid rfl 96 (.tmp 4) rfl Kb 0 rfl (ks.map uv) _ hr2 Tryz.underlying96 rfl (by kernel_rfl) ?_
      refine wpStill_nil ?_
      change wpList _ _ _ _ _ wr.drew
      have hbytes : ∀ i, i < 64 → wr.drew.cell? ⟨g, 64 * q + i, none⟩ = some (.int .u8 ((l.getD (64 * q + i) 0).toNat : Int)) := fun i hi => by
        obtain ⟨g', cap', he, _, _, hcell, _⟩ := hR.p
        simp only [Value.slice.injEq, Option.some.injEq, Addr.mk.injEq] at he
        obtain ⟨⟨rfl, _⟩, _, rfl⟩ := he
        have hll' := hll.out
        exact hcell (64 * q + i) (by rw [hll']; omega)
      replace hbytes := Lib.hid hbytes
      replace hR := Lib.hid hR
      clear hr1 hr2 i1 i2 i3 i4 i5 n1 n2 w1
      go_wp2_with fail
      refine (rblock_calls (fold l q) g (64 * q) (cap - 64 * q) (fun i => l.getD (64 * q + i) 0) wr.drew hbytes.out).mono ?_
      rintro e w5 ⟨rfl, b5⟩
      have hR5 := (show RS Kb (fold l q) (.slice (some ⟨g, 0, none⟩) (64 * n) cap) l w wr.drew from hR.out.drewN 1).next (Y := fold l (q + 1)) w5 b5
      have hth5 : w5.there w.heap.size 0 8 := (hR.out.h.below (show Below wr.heap.size wr w5 from ⟨b5.os, b5.tape, b5.output, b5.size, b5.block⟩) (Nat.lt_trans hR.out.hk hR.out.z)).there
      rw [← fold_succ]
      clear hR hbytes hth b5
      go_wp2_with (refine wpList_store_mid (op := ⟨Option.none, .store 95 (.tmp 3) (.tmp 26), _, _, _, _⟩) (by rfl) 95 (.tmp 3) (.tmp 26) (by rfl) w.heap.size 0 (vList (fold l (q + 1))).toArray (by rfl) (by rfl) hth5 (by kernel_rfl) (all_oneCell_toArray (vList_one _)) (wpList_gen (RS Kb (fold l (q + 1)) (.slice (some ⟨g, 0, none⟩) (64 * n) cap) l w) hR5 ?_))
      intro w6 hR6
      clear hR5 hth5
      go_wp2_with fail
      exact ⟨⟨q + 1, by omega, by go_num, hR6⟩, by simp [intOf]; omega⟩
    · have hqn : q = n := by omega
      subst hqn
      have hend := Lib.hid (show sum s.data.toList = (fold l q).bytes by rw [hsum.out, hll.out, Nat.mul_div_cancel_left q (by decide)])
      have hA := hR.h
      have hB := hR.bel
      have hz : w.heap.size < wr.heap.size := Nat.lt_trans hR.hk hR.z
      generalize fold l q = X at *
      clear hR hsum hll hlt hq
      go_wp2_with fail
      have p0 : Pd (w.heap.size + 1) (wr.alloc (.cells #[] 5)) (.slice (some ⟨wr.heap.size, 0, none⟩) 0 0) (bytesTo X 0) := by
        have e0 : bytesTo X 0 = [] := by unfold bytesTo; rfl
        rw [e0]
        exact ⟨wr.heap.size, 0, rfl, by omega, Nat.le_refl _, fun j hj => absurd hj (Nat.not_lt_zero j), fun j hj => absurd hj (Nat.not_lt_zero j)⟩
      have t1 := (Below.refl wr.heap.size wr).alloc (Nat.le_refl _) (.cells #[] 5)
      have hA1 := hA.below t1 hz
      have hB1 := hB.trans (t1.mono (Nat.le_of_lt hz))
      have hz1 : w.heap.size < (wr.alloc (.cells #[] 5)).heap.size := by simp; omega
      clear t1 hA hB
      generalize wr.alloc (.cells #[] 5) = w5 at *
      go_loopw [7, 8] (fun v i wr => ∃ k : Nat, k ≤ 8 ∧ i = .int .i64 k ∧ Pd (w.heap.size + 1) wr v (bytesTo X k) ∧ Ar8 wr w.heap.size X ∧ Below w.heap.size w wr ∧ w.heap.size < wr.heap.size) (fun _ i _ => 8 - (intOf i).toNat)
      case atStart => exact ⟨0, by omega, rfl, p0, hA1, hB1, hz1⟩
      case round =>
        clear p0 hA1 hB1 hz1
        obtain ⟨k, hk, rfl, p, hA, hB, hz⟩ := hrel
        by_cases hlt : k < 8
        · have ik : (k : Int) < 8 := by omega
          have jk : 0 ≤ (k : Int) := by omega
          have c0 := hA.cell k hlt
          have hnx := Lib.hid (show bytesTo X (k + 1) = bytesTo X k ++ bytes4 (X.at k) by rw [bytesTo])
          have hbl := Lib.hid (bytesTo_length X k)
          generalize X.at k = x at *
          replace p := Lib.hid p
          have e24 := Lib.hid (byte_24 x)
          have e16 := Lib.hid (byte_16 x)
          have e8 := Lib.hid (byte_8 x)
          have e0 := Lib.hid (byte_0 x)
          have hca : ∀ o, (wr.alloc o).cell? ⟨w.heap.size, k, none⟩ = some (.int .u32 (u x)) := fun o => (((Below.refl wr.heap.size wr).alloc (Nat.le_refl _) o).cell (p := ⟨w.heap.size, k, none⟩) hz).trans c0
          replace hca := Lib.hid hca
          have hz2 : w.heap.size + 1 ≤ wr.heap.size := hz
          go_wp2_with fail
          go_region_held3 (fun w' => w'.cell? ⟨w.heap.size, k, none⟩ = some (.int .u32 (u x)))
            (first | exact c0 | exact hca.out _ | exact (b5.cell (p := ⟨w.heap.size, k, none⟩) (Nat.lt_succ_self _)).trans (hca.out _))
            ((refine step_append_pd (by rfl) _ _ (by rfl) (by rfl) (p.out.alloc _) ⟨wr.heap.size, 0, none⟩ 4 (bytes4 x) 4 rfl (by rfl) (by decide) (cells4 wr x e24.out e16.out e8.out e0.out) (by rw [hbl.out]; omega) (by simp; omega) ?_; intro v5 w5 p5 b5))
          rw [← hnx.out] at p5
          replace p5 := Lib.hid p5
          have b6 : Below (w.heap.size + 1) wr w5 := (below_drew ((Below.refl (w.heap.size + 1) wr).alloc hz2 _)).trans b5
          have hA5 := Lib.hid (hA.below b6 (Nat.lt_succ_self _))
          have hB5 := Lib.hid (hB.trans (b6.mono (Nat.le_succ _)))
          have hz5 : w.heap.size < w5.heap.size := Nat.lt_of_lt_of_le hz b6.size
          clear hA hB b5 b6 p c0 hca hbl hnx
          go_wp2_with fail
          exact ⟨⟨k + 1, by omega, by go_num, p5.out, hA5.out, hB5.out, hz5⟩, by simp [intOf]; omega⟩
        · have hd : decide ((k : Int) < 8) = false := decide_eq_false (by omega)
          have h8 : bytesTo X k = X.bytes := by rw [show k = 8 by omega]; exact bytesTo_all X
          rw [h8] at p
          obtain ⟨g2, c2, rfl, _, _, hcell2, _⟩ := p
          have hcv := run_convert_bytes_back (P := Tryz.prog) wr 42 9 5 ⟨g2, 0, none⟩ c2 X.bytes Tryz.underlying42 Tryz.underlying5 Tryz.underlying9 (fun j hj => by
            rw [Addr.add_mid, Nat.zero_add, hcell2 j hj, List.getD_eq_getElem?_getD, List.getElem?_eq_getElem hj]; rfl)
          clear hcell2 hA h8
          have h32 : X.bytes.length = 32 := by simp [V.bytes, bytes4]
          rw [h32] at hcv ⊢
          go_wp2
          go_ret
          exact ⟨by rw [hend.out]; rfl, hB⟩
end Go.Proofs.YtdmpkgdlelagjaaGreatDoor.Sha
