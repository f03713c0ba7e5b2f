/-
  The document's padded message (reliquaryref02.padded): the bytes and what stands behind them, in a row of the call's own. Conditions: the text is within the form's own reach.
-/
import Derived.Test.YtdmpkgdlelagjaaGreatDoorRows
import Derived.Test.YtdmpkgdlelagjaaGreatDoorShaRefB
import Derived.WalkKit
import Derived.WalkSpells
import Derived.WalkLawsBesides
import Derived.ProofKit
import Derived.OpenShut
import Derived.Laws.BytesArg
import Derived.Deep.QuietTactic
import Derived.BigQuiet
import Derived.BigRegion
import Derived.Lib.Hide
import Derived.Deep.AppendSrc
import Derived.Room.Entries
import Derived.Lib.ConvBytes
import Derived.Laws.IdiomStrings
import Derived.Deep.RegionHeld3
import Derived.Lib.Builder
import Derived.Lib.UnsafeStr
import Derived.Lib.AppendStr
import Derived.Laws.Externs
import Derived.Deep.OwnRows
import Derived.Lib.SlBuf
import Derived.Lib.LazyBuf
import Derived.Deep.Cut
import Derived.Deep.MidRow
import Derived.IntWalk
import Derived.StillTailTactics
namespace Go.Proofs.YtdmpkgdlelagjaaGreatDoor.Sha
open Go.RowKit
/-- v is a slice of the bytes l in a row of the call's own (from block B on), of which nothing may not be written -/
def Pd (B : Nat) (w : World) (v : Value) (l : List UInt8) : Prop :=
  ∃ g cap, v = .slice (some ⟨g, 0, none⟩) l.length cap ∧ B ≤ g ∧ l.length ≤ cap ∧ (∀ j, j < l.length → w.cell? ⟨g, j, none⟩ = some (c8 (l.getD j 0))) ∧ (∀ j, j < cap → (w.cell? ⟨g, j, none⟩).isSome = true ∧ w.frozen? ⟨g, j, none⟩ = false)
theorem getD_append (l m : List UInt8) (j : Nat) : (l ++ m).getD j 0 = if j < l.length then l.getD j 0 else m.getD (j - l.length) 0 := by
  rw [List.getD_eq_getElem?_getD, List.getD_eq_getElem?_getD, List.getD_eq_getElem?_getD]
  by_cases h : j < l.length
  · rw [if_pos h, List.getElem?_append_left h]
  · rw [if_neg h, List.getElem?_append_right (by omega)]
theorem map_c8 (m : List UInt8) (j : Nat) (h : j < m.length) : (m.map c8)[j]? = some (c8 (m.getD j 0)) := by
  rw [List.getElem?_map, List.getD_eq_getElem?_getD, List.getElem?_eq_getElem h]; rfl
theorem cell_new (w : World) (c : Array Value) (t : TypeId) (j : Nat) : (w.alloc (.cells c t)).cell? ⟨w.heap.size, j, none⟩ = c[j]? := by simp [go_sem]
/-- the bytes m out of a slice elsewhere, appended -/
theorem Pd.append {B : Nat} {w : World} {v : Value} {l : List UInt8} (h : Pd B w v l) (ad : Addr) (c : Nat) (m : List UInt8) (hm : 0 < m.length) (hc : ∀ j, j < m.length → w.cell? (ad.add j) = some (c8 (m.getD j 0))) (hn : l.length + m.length ≤ 140737488355328) (hB : B ≤ w.heap.size) (ty : TypeId) :
    ∃ v' w', (Builtin.append_ #[42, 42] ty #[v, .slice (some ad) m.length c]).run Tryz.prog w = .ok v' w' ∧ Pd B w' v' (l ++ m) ∧ Below B w w' := by
  obtain ⟨g, cap, rfl, hg, hl, hcell, hth⟩ := h
  obtain ⟨i0, hi, hz0, hz1, hz2⟩ := info_parts infoByte
  have hsrc : Src Tryz.prog 1 42 (.slice (some ad) m.length c) m.length (m.map c8) w :=
    Src.ofSlice w Tryz.underlying42 ad m.length c (m.map c8) (by simp) (fun j x hj => by
      have hj' : j < m.length := by
        rcases Nat.lt_or_ge j m.length with g | g
        · exact g
        · rw [List.getElem?_eq_none (by simpa using g)] at hj; cases hj
      rw [map_c8 m j hj'] at hj
      rw [hc j hj', hj]) (fun x hx => by obtain ⟨y, _, rfl⟩ := List.mem_map.1 hx; rfl)
  have hsrc' := hsrc
  rw [← hz1] at hsrc'
  by_cases hroom : l.length + m.length ≤ cap
  · have hrun := run_append_room_src (P := Tryz.prog) w 42 42 ty 5 i0 Tryz.underlying42 hi g 0 l.length cap (.slice (some ad) m.length c) m.length (m.map c8) hsrc' hroom
      (fun j hj => by rw [hz1, Nat.mul_one, Nat.zero_add]; exact (hth (l.length + j) (by simp at hj; omega)).1) (fun j hj => by rw [hz1, Nat.mul_one, Nat.zero_add]; exact (hth (l.length + j) (by simp at hj; omega)).2)
    rw [hz1, Nat.mul_one, Nat.zero_add] at hrun
    refine ⟨_, _, hrun, ⟨g, cap, by rw [List.length_append], hg, by rw [List.length_append]; exact hroom, fun j hj => ?_, fun j hj => ⟨?_, ?_⟩⟩, below_setCells g hg _ _ _ (Below.refl B w)⟩
    · rw [List.length_append] at hj
      rw [getD_append]
      by_cases e : j < l.length
      · rw [if_pos e, World.cell?_setCells_out _ _ _ _ _ (fun _ _ => Or.inl e)]; exact hcell j e
      · rw [if_neg e]
        have e1 := World.cell?_setCells_in g (m.map c8) l.length w (fun i hi => (hth (l.length + i) (by simp at hi; omega)).1) (j - l.length) (by simp; omega)
        rw [show l.length + (j - l.length) = j by omega] at e1
        rw [e1, ← List.getElem?_eq_getElem, map_c8 m _ (by omega)]
    · exact World.isSome_setCells g _ _ _ _ (hth j hj).1
    · rw [World.frozen?_setCells]; exact (hth j hj).2
  · have hold : (Builtin.firstCells i0.size l.length (.slice (some ⟨g, 0, none⟩) l.length cap)).run Tryz.prog w.drew = .ok (l.map c8).toArray w.drew :=
      run_firstCells_some w.drew i0.size l.length ⟨g, 0, none⟩ l.length cap (l.map c8) (by rw [hz1]; simp) (fun j x hj => by
        have hj' : j < l.length := by
          rcases Nat.lt_or_ge j l.length with g | g
          · exact g
          · rw [List.getElem?_eq_none (by simpa using g)] at hj; cases hj
        rw [map_c8 l j hj'] at hj
        rw [Addr.add_mid, Nat.zero_add, ← hj]; exact hcell j hj')
    have hfit : Builtin.nextslicecap (l.length + m.length) cap * i0.bytes ≤ 281474976710656 := by
      rw [hz2, Nat.mul_one]
      have := nextslicecap_le (need := l.length + m.length) (old := cap) (by omega)
      omega
    have hrun := run_append_grow_src (P := Tryz.prog) w 42 42 ty 5 i0 (.int .u8 0) Tryz.underlying42 hi hz0 (some ⟨g, 0, none⟩) l.length cap (l.map c8) hold (.slice (some ad) m.length c) m.length (m.map c8) hsrc' (by omega) (by omega) hfit
    have hge := grownCap_ge w (l.length + m.length) cap 5
    generalize grownCap w (l.length + m.length) cap 5 = K at *
    have esz : ((l.map c8 ++ m.map c8).toArray ++ Builtin.zeroCells (Value.int .u8 0).cells (K - (l.length + m.length))).size = K := by
      rw [Array.size_append, size_zeroCells, List.size_toArray, List.length_append, List.length_map, List.length_map]
      show l.length + m.length + (K - (l.length + m.length)) * 1 = K
      omega
    generalize hC : (l.map c8 ++ m.map c8).toArray ++ Builtin.zeroCells (Value.int .u8 0).cells (K - (l.length + m.length)) = C at *
    refine ⟨_, _, hrun, ⟨w.heap.size, K, by rw [List.length_append], hB, by rw [List.length_append]; exact hge, fun j hj => ?_, fun j hj => ⟨?_, ?_⟩⟩, (below_drew (Below.refl B w)).alloc hB _⟩
    · rw [List.length_append] at hj
      have e := cell_new w.drew C 5 j
      have e2 : C[j]? = some (c8 ((l ++ m).getD j 0)) := by
        rw [← hC, Array.getElem?_append_left (by simp; omega), List.getElem?_toArray, ← List.map_append, map_c8 (l ++ m) j (by rw [List.length_append]; exact hj)]
      rw [e2] at e
      exact e
    · have e := cell_new w.drew C 5 j
      show ((w.drew.alloc (.cells C 5)).cell? ⟨w.drew.heap.size, j, none⟩).isSome = true
      rw [e, Array.getElem?_eq_getElem (by omega)]; rfl
    · show (w.drew.alloc (.cells C 5)).frozen? ⟨w.drew.heap.size, j, none⟩ = false
      simp [go_sem]
theorem Pd.alloc {B : Nat} {w : World} {v : Value} {l : List UInt8} (h : Pd B w v l) (o : Obj) : Pd B (w.alloc o) v l := by
  obtain ⟨g, cap, rfl, hg, hl, hcell, hth⟩ := h
  have key : ∀ j, (w.cell? ⟨g, j, none⟩).isSome = true → (w.alloc o).cell? ⟨g, j, none⟩ = w.cell? ⟨g, j, none⟩ ∧ (w.alloc o).frozen? ⟨g, j, none⟩ = w.frozen? ⟨g, j, none⟩ := fun j hj => by
    obtain ⟨x, hx⟩ := Option.isSome_iff_exists.1 hj
    have hlt := lt_of_cell hx
    have b := (Below.refl w.heap.size w).alloc (Nat.le_refl _) o
    exact ⟨b.cell (p := ⟨g, j, none⟩) hlt, b.frozen (p := ⟨g, j, none⟩) hlt⟩
  exact ⟨g, cap, rfl, hg, hl, fun j hj => by rw [(key j (by rw [hcell j hj]; rfl)).1]; exact hcell j hj, fun j hj => by rw [(key j (hth j hj).1).1, (key j (hth j hj).1).2]; exact hth j hj⟩
theorem Pd.conv (w : World) (s : ByteArray) : ∃ (w' : World) (cap : Nat), (convert 9 42 (.string s)).run Tryz.prog w = .ok (.slice (some ⟨w.heap.size, 0, none⟩) s.size cap) w' ∧ Below w.heap.size w w' ∧ Pd w.heap.size w' (.slice (some ⟨w.heap.size, 0, none⟩) s.size cap) s.data.toList := by
  refine ⟨_, _, Lib.run_convert_string_bytes w 9 42 5 s Tryz.underlying9 Tryz.underlying42 Tryz.underlying5,
   Lib.below_freeze ((below_drew (Below.refl w.heap.size w)).alloc (Nat.le_refl _) _) (p := ⟨w.heap.size, _, none⟩) (Nat.le_refl _) 1, w.heap.size, _, by rw [← Lib.size_eq], Nat.le_refl _, ?_, ?_, ?_⟩
  · rw [← Lib.size_eq]; exact grownCap_ge w s.size 0 5
  · intro j hj
    rw [← Lib.size_eq] at hj
    exact Lib.bytesWorld_cell w 5 s j hj
  · intro j hj
    have hge := grownCap_ge w s.size 0 5
    have hb := Lib.bytesWorld_at_new w 5 s
    have hz : (Lib.bytesCells w 5 s).size = grownCap w s.size 0 5 := by
      have e : s.data.size = s.size := rfl
      simp [Lib.bytesCells, e]; omega
    refine ⟨?_, ?_⟩
    · rw [World.cell?, hb]
      simp [hz, hj]
    · simp [World.frozen?, hb, hz]
      omega
def lenV : Value → Nat
  | .slice _ n _ => n
  | _ => 0
theorem pad_more (n k : Nat) (h : k < zs n) : ((n : Int) + 1 + k) % 64 ≠ 56 := by unfold zs at h; omega
theorem pad_done (n k : Nat) (h : k = zs n) : ((n : Int) + 1 + k) % 64 = 56 := by unfold zs at h; omega
def pre (l : List UInt8) (k : Nat) : List UInt8 := l ++ (128 :: List.replicate k 0)
theorem pre_zero (l : List UInt8) : l ++ [128] = pre l 0 := rfl
theorem pre_succ (l : List UInt8) (k : Nat) : pre l k ++ [0] = pre l (k + 1) := by
  simp [pre, List.replicate_succ']
theorem pre_length (l : List UInt8) (k : Nat) : (pre l k).length = l.length + 1 + k := by simp [pre]; omega
theorem len8_next (n j : Nat) (h : j < 8) : (len8 n).take j ++ [UInt8.ofNat (n / 2 ^ (56 - 8 * j))] = (len8 n).take (j + 1) := by
  match j, h with
  | 0, _ => rfl
  | 1, _ => rfl
  | 2, _ => rfl
  | 3, _ => rfl
  | 4, _ => rfl
  | 5, _ => rfl
  | 6, _ => rfl
  | 7, _ => simp [len8]
theorem pre_all (l : List UInt8) : pre l (zs l.length) ++ (len8 (8 * l.length)).take 8 = l ++ ending l.length := by
  rw [List.take_of_length_le (by simp [len8]), pre, ending, List.append_assoc, List.cons_append]
def PadPost (w : World) (l : List UInt8) (e : Ending) (w' : World) : Prop := ∃ v, e = .returned v ∧ Pd w.heap.size w' v l ∧ Below w.heap.size w w'
attribute [local irreducible] ending pre len8
theorem wpList_append_pd (w : World) {ops : Array Oper} {rest : List Oper} {o : Oper} {a : Act} {Q : Exit → Act → World → Prop} (hgd : o.guard = none) (s x : Operand)
    (ho : o.op = .call { callee := .builtin .append, args := #[s, x], argTypes := #[42, 42] }) {B : Nat} {l : List UInt8} {v : Value} (hv : a.eval s = v) (h : Pd B w v l)
    (ad : Addr) (c : Nat) (m : List UInt8) (n : Nat) (hn : m.length = n) (hx : a.eval x = .slice (some ad) n c) (hm : 0 < n) (hc : ∀ j, j < n → w.cell? (ad.add j) = some (c8 (m.getD j 0))) (hle : l.length + n ≤ 140737488355328) (hB : B ≤ w.heap.size)
    (hK : ∀ v' w', Pd B w' v' (l ++ m) → Below B w w' → wpList Tryz.prog ops Q rest (a.put o.dst v') w') : wpList Tryz.prog ops Q (o :: rest) a w := by
  subst hn
  refine wpList_plain hgd fun K hK' => ?_
  obtain ⟨v', w', hrun, r1, r2⟩ := h.append ad c m hm hc hle hB o.type
  unfold Oper.wp
  simp [execOp, ho, resolve, invoke, builtin, hv, hx, hrun, Result.andThen]
  exact hK' _ _ (hK v' w' r1 r2)
set_option maxRecDepth 100000 in
set_option maxHeartbeats 1000000 in
theorem padded_calls (s : ByteArray) (hs : s.size ≤ 140737488351232) (w : World) :
    Calls Tryz.prog 73 #[.string s] w (PadPost w (s.data.toList ++ ending s.size)) := by
  have hzl : zs s.size < 64 := Nat.mod_lt _ (by decide)
  obtain ⟨w1, cap, hcv, b1, p1⟩ := Pd.conv w s
  have z1 := b1.size
  have hsl := Lib.hid (Lib.size_eq s)
  go_enter Tryz.func73, Tryz.ntmps73
  go_wp2_with (at_builtin; refine wpList_append_pd _ rfl _ _ rfl rfl (p1.alloc _) ⟨w1.heap.size, 0, none⟩ 1 [128] 1 rfl rfl (by decide) (fun j hj => by match j, hj with | 0, _ => simp [Addr.add, go_sem, c8]) (by rw [← hsl.out]; omega) (by simp; omega) ?_)
  intro v2 w2 p2 b2
  replace b2 := (b1.alloc z1 (.cells #[.int .u8 128] 5)).trans b2
  rw [pre_zero] at p2
  clear p1 b1 hcv z1
  go_wp2_with fail
  go_loopw [3] (fun v wr => ∃ k : Nat, k ≤ zs s.size ∧ Pd w.heap.size wr v (pre s.data.toList k) ∧ Below w.heap.size w wr) (fun v _ => s.size + 64 - lenV v)
  case atStart => exact ⟨0, Nat.zero_le _, p2, b2⟩
  case round =>
    clear p2 b2
    obtain ⟨k, hk, p, b⟩ := hrel
    have zb := b.size
    have p' := p
    obtain ⟨g, c, rfl, hg, hl, hcell, hth⟩ := p
    have hlen : (pre s.data.toList k).length = s.size + 1 + k := by rw [pre_length, ← hsl.out]
    rw [hlen] at p' hl ⊢
    clear hcell hth
    by_cases hlt : k < zs s.size
    · have hm : (((s.size : Int) + 1 + k) % 64 != 56) = true := by have := pad_more s.size k hlt; simp; omega
      replace hlen := Lib.hid hlen
      replace p' := Lib.hid p'
      go_wp2_with (at_builtin; refine wpList_append_pd _ rfl _ _ rfl rfl (p'.out.alloc _) ⟨wr.heap.size, 0, none⟩ 1 [0] 1 rfl rfl (by decide) (fun j hj => by match j, hj with | 0, _ => simp [Addr.add, go_sem, c8]) (by rw [hlen.out]; omega) (by simp; omega) ?_)
      intro v5 w5 p5 b5
      replace b5 := (b.alloc zb (.cells #[.int .u8 0] 5)).trans b5
      rw [pre_succ] at p5
      have hv5 : lenV v5 = s.size + 1 + (k + 1) := by
        obtain ⟨g5, c5, rfl, _⟩ := p5
        show (pre s.data.toList (k + 1)).length = _
        rw [pre_length, ← hsl.out]
      replace hv5 := Lib.hid hv5
      replace p5 := Lib.hid p5
      clear b p' hm
      go_wp2_with fail
      refine ⟨⟨k + 1, by omega, p5.out, b5⟩, ?_⟩
      rw [hv5.out]
      show s.size + 64 - (s.size + 1 + (k + 1)) < s.size + 64 - (s.size + 1 + k)
      omega
    · have hm : (((s.size : Int) + 1 + k) % 64 != 56) = false := by have := pad_done s.size k (by omega); simp; omega
      have hke : k = zs s.size := by omega
      subst hke
      clear hlt hlen
      replace p' := Lib.hid p'
      go_wp2_with fail
      have p3 := Lib.hid (show Pd w.heap.size wr (.slice (some ⟨g, 0, none⟩) (s.size + 1 + zs s.size) c) (pre s.data.toList (zs s.size) ++ (len8 (8 * s.size)).take 0) by rw [List.take_zero, List.append_nil]; exact p'.out)
      clear p' hm
      go_loopw [3, 5] (fun v i wr => ∃ j : Nat, j ≤ 8 ∧ i = .int .i64 (56 - 8 * (j : Int)) ∧ Pd w.heap.size wr v (pre s.data.toList (zs s.size) ++ (len8 (8 * s.size)).take j) ∧ Below w.heap.size w wr) (fun _ i _ => (intOf i + 8).toNat)
      case atStart => exact ⟨0, by omega, rfl, p3.out, b⟩
      case round =>
        clear p3 b hl hg zb
        obtain ⟨j, hj, rfl, p, b⟩ := hrel
        have zb := b.size
        have hpl : (pre s.data.toList (zs s.size) ++ (len8 (8 * s.size)).take j).length = s.size + 1 + zs s.size + j := by
          rw [List.length_append, pre_length, ← hsl.out, List.length_take]
          have : (len8 (8 * s.size)).length = 8 := by unfold len8; rfl
          omega
        by_cases hlt : j < 8
        · have i1 : 0 ≤ 56 - 8 * (j : Int) := by omega
          have i2 : 56 - 8 * (j : Int) ≤ 64 := by omega
          have i3 : (56 - 8 * (j : Int)).toNat = 56 - 8 * j := by omega
          have i4 : 8 * (j : Int) ≤ 56 := by omega
          have hnx := Lib.hid (len8_next (8 * s.size) j hlt)
          have hdv : ((s.size : Int) * 8) / 2 ^ (56 - 8 * j) % 256 = ((UInt8.ofNat (8 * s.size / 2 ^ (56 - 8 * j))).toNat : Int) := by
            rw [Int.mul_comm]
            have e : ((8 * s.size / 2 ^ (56 - 8 * j) : Nat) : Int) = (8 * (s.size : Int)) / 2 ^ (56 - 8 * j) := by simp
            rw [← e]; simp
          replace hdv := Lib.hid hdv
          replace p := Lib.hid p
          replace hpl := Lib.hid hpl
          go_wp2_with (at_builtin; refine wpList_append_pd _ rfl _ _ rfl rfl (p.out.alloc _) ⟨wr.heap.size, 0, none⟩ 1 [UInt8.ofNat (8 * s.size / 2 ^ (56 - 8 * j))] 1 rfl rfl (by decide) (fun j' hj' => by match j', hj' with | 0, _ => (rw [Addr.add_mid, Nat.zero_add, cell_new, hdv.out]; rfl)) (by rw [hpl.out]; omega) (by simp; omega) ?_)
          intro v5 w5 p5 b5
          replace b5 := (b.alloc zb _).trans b5
          rw [hnx.out] at p5
          replace p5 := Lib.hid p5
          clear b p i1 i2 i3 i4
          go_wp2_with fail
          refine ⟨⟨j + 1, by omega, by go_num, p5.out, b5⟩, ?_⟩
          simp [intOf]; omega
        · have h8 : j = 8 := by omega
          subst h8
          have hd : (56 - 8 * ((8 : Nat) : Int)) = -8 := by decide
          rw [hd]
          have e := Lib.hid (pre_all s.data.toList)
          rw [← hsl.out] at e
          rw [e.out] at p
          have pf := Lib.hid p
          obtain ⟨g6, c6, rfl, _⟩ := p
          clear hd e
          go_wp2
          go_ret
          exact ⟨_, rfl, pf.out, b⟩
end Go.Proofs.YtdmpkgdlelagjaaGreatDoor.Sha
