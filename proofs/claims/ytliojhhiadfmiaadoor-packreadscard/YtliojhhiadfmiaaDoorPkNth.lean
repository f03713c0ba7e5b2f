/-
  pack's count, nth, bytes, span and tell: what the index and the fan tell; old memory stays. Conditions: the parts are those of bytes that begin as a pack does.
-/
import Derived.Test.YtliojhhiadfmiaaDoorRows
import Derived.Test.YtliojhhiadfmiaaDoorPkOwn
import Derived.Test.YtliojhhiadfmiaaDoorPkSort
import Derived.Test.YtliojhhiadfmiaaDoorPkCut
import Derived.Test.YtliojhhiadfmiaaDoorOctCalls
import Derived.Test.YtliojhhiadfmiaaDoorOctKit
import Derived.WalkKit
import Derived.WalkSpells
import Derived.WalkLawsBesides
import Derived.ProofKit
import Derived.OpenShut
import Derived.Laws.BytesArg
import Derived.Laws.Externs
import Derived.Deep.QuietTactic
import Derived.BigQuiet
import Derived.BigRegion
import Derived.Lib.Hide
import Derived.IntWalk
import Derived.Deep.LoopGhost
import Derived.StillTailTactics
import Derived.Handy
namespace Go.Proofs.YtliojhhiadfmiaaDoor.Pk
open Go Go.RowKit
open Oct (empty num4 num4_size rd4 Only Rd)

theorem pidx_size {s : ByteArray} (h : Begins s) : (pidx s).size = 44 * num s := by
  have := h.room
  unfold pidx
  rw [piece_size s _ _ (by omega)]
  unfold start
  omega
theorem pdat_size {s : ByteArray} (_h : Begins s) : (pdat s).size = s.size - 32 - start s := by
  unfold pdat
  rw [piece_size s _ _ (by omega)]
theorem pfan_size {s : ByteArray} (h : Begins s) : (pfan s).size = 1024 := by
  have := h.room
  unfold pfan
  rw [piece_size s _ _ (by unfold start at this; omega)]
theorem num_le {s : ByteArray} (h : Begins s) : 1 ≤ num s ∧ num s ≤ 1024 := by
  have h1 := h.least
  have h2 := h.most
  rw [cnt_num] at h1 h2
  omega
set_option maxRecDepth 100000 in
theorem count_calls (f i d : ByteArray) (n : Nat) (w : World) (hi : i.size = 44 * n) (hn : n ≤ 1024) :
    Calls Tryd.prog 37 #[partsV f i d] w fun e w' => e = .returned (.int .i64 n) ∧ Below w.heap.size w w' := by
  have hB := Lib.hid (b_alloc w (.cells #[.string f, .string i, .string d] 53))
  have e1 : Int.tdiv (i.size : Int) 44 = n := by rw [hi, Int.tdiv_eq_ediv_of_nonneg (by omega)]; omega
  have hib : i.size ≤ 50000 := by omega
  replace hi := Lib.hid hi
  go_enter Tryd.func37, Tryd.ntmps37
  go_wp2
  go_ret
  exact ⟨rfl, hB.out⟩
theorem rd_to (s : ByteArray) (p e : Nat) (he : e ≤ s.size) (hp : p + 4 ≤ e) : rd4 (s.extract p e) = rdAt s p := by
  have := rd_piece s p e 0 he (by omega)
  rw [ext_ext s p e 0 _ he (by omega)] at this
  rw [Nat.add_zero, Nat.add_sub_cancel' (by omega)] at this
  exact this
theorem num_at (s : ByteArray) (p e : Nat) (he : e ≤ s.size) (hp : p + 4 ≤ e) : Oct.num ⟨s.extract p e, false⟩ = (rdAt s p, ⟨s.extract (p + 4) e, false⟩) := by
  have hz := piece_size s p e he
  rw [Oct.num_ok ⟨s.extract p e, false⟩ rfl (by show 4 ≤ (s.extract p e).size; omega)]
  dsimp only
  rw [rd_to s p e he hp, hz, ext_ext s p e 4 (e - p) he (by omega), Nat.add_sub_cancel' (by omega)]
theorem take_at (s : ByteArray) (p e n : Nat) (he : e ≤ s.size) (hp : p + n ≤ e) : Oct.take ⟨s.extract p e, false⟩ n = (s.extract p (p + n), ⟨s.extract (p + n) e, false⟩) := by
  have hz := piece_size s p e he
  rw [Oct.take_ok ⟨s.extract p e, false⟩ n rfl (by omega) (by show (n : Int) ≤ ((s.extract p e).size : Nat); omega)]
  dsimp only
  rw [Int.toNat_natCast, hz, ext_ext s p e 0 n he hp, ext_ext s p e n (e - p) he (by omega), Nat.add_zero, Nat.add_sub_cancel' (by omega)]
theorem Blk.only {w w' : World} {b k : Nat} {cs : Array Value} {T : TypeId} (h : Blk w b cs T) (o : Only k w w') (hk : b ≠ k) : Blk w' b cs T := (o.block b hk).trans h
theorem Blk.other {w : World} {b : Nat} {cs : Array Value} {T : TypeId} (h : Blk w b cs T) (k j : Nat) (v : Value) (hk : b ≠ k) : Blk (w.setCell ⟨k, j, none⟩ v) b cs T := (Below.heap_setCell _ _ _ _ hk).trans h
theorem set_only (w : World) (k j : Nat) (v : Value) : Only k w (w.setCell ⟨k, j, none⟩ v) := Only.setCell k j w v
abbrev entV (s : ByteArray) (k : Nat) : Value := .agg #[.string (idAt s k), .int .u32 (atAt s k), .int .u32 (szAt s k), .int .u32 (ckAt s k)]
theorem nth_piece {s : ByteArray} (h : Begins s) (k : Nat) (hk : k < num s) : ((pidx s).extract (k * 44) (pidx s).size).extract 0 44 = s.extract (1036 + 44 * k) (1036 + 44 * k + 44) := by
  have hr := h.room
  have hz := pidx_size h
  rw [hz, ext_ext _ _ _ _ _ (by omega) (by omega)]
  unfold pidx
  rw [ext_ext _ _ _ _ _ (by omega) (by unfold start; omega)]
  rw [show 1036 + (k * 44 + 0) = 1036 + 44 * k by omega, show 1036 + (k * 44 + 44) = 1036 + 44 * k + 44 by omega]
set_option maxRecDepth 100000 in
set_option maxHeartbeats 2000000 in
theorem nth_calls (s f d : ByteArray) (k : Nat) (w : World) (hg : Begins s) (hk : k < num s) :
    Calls Tryd.prog 38 #[partsV f (pidx s) d, .int .i64 k] w fun e w' => e = .returned (entV s k) ∧ Below w.heap.size w w' := by
  unfold entV
  have hr := hg.room
  have hn := num_le hg
  have hst : start s = 1036 + 44 * num s := rfl
  have hz := pidx_size hg
  have hpc := nth_piece hg k hk
  have e0 := take_at s (1036 + 44 * k) (1036 + 44 * k + 44) 32 (by omega) (by omega)
  have e1 := num_at s (1036 + 44 * k + 32) (1036 + 44 * k + 44) (by omega) (by omega)
  have e2 := num_at s (1036 + 44 * k + 32 + 4) (1036 + 44 * k + 44) (by omega) (by omega)
  have e3 := num_at s (1036 + 44 * k + 32 + 4 + 4) (1036 + 44 * k + 44) (by omega) (by omega)
  obtain ⟨I, hI⟩ : ∃ I, I = pidx s := ⟨_, rfl⟩
  obtain ⟨m, hm⟩ : ∃ m, m = k * 44 := ⟨_, rfl⟩
  have i1 : (k : Int) * 44 = (m : Nat) := by omega
  have i2 : (m : Int) ≤ I.size := by rw [hI]; omega
  have i0 : 0 ≤ (m : Int) := by omega
  rw [← hI, ← hm] at hpc
  rw [← hI]
  obtain ⟨J, hJ⟩ : ∃ J, J = I.extract m I.size := ⟨_, rfl⟩
  have hJs : (44 : Int) ≤ J.size := by
    have hz2 : I.size = 44 * num s := by rw [hI]; exact hz
    have := piece_size I m I.size (Nat.le_refl _)
    rw [← hJ] at this
    omega
  rw [← hJ] at hpc
  obtain ⟨T, hT⟩ : ∃ T, T = J.extract 0 44 := ⟨_, rfl⟩
  rw [← hT] at hpc
  rw [← hpc] at e0
  have hkb : k ≤ 1024 := by omega
  obtain ⟨T1, T2, T3, T4, e0', e1', e2', e3'⟩ : ∃ T1 T2 T3 T4, Hid (Oct.take ⟨T, false⟩ 32 = (idAt s k, ⟨T1, false⟩)) ∧ Hid (Oct.num ⟨T1, false⟩ = (atAt s k, ⟨T2, false⟩)) ∧ Hid (Oct.num ⟨T2, false⟩ = (szAt s k, ⟨T3, false⟩)) ∧ Hid (Oct.num ⟨T3, false⟩ = (ckAt s k, ⟨T4, false⟩)) :=
    ⟨_, _, _, _, Lib.hid e0, Lib.hid e1, Lib.hid e2, Lib.hid e3⟩
  generalize idAt s k = X at *
  generalize atAt s k = A at *
  generalize szAt s k = S at *
  generalize ckAt s k = C at *
  replace hI := Lib.hid hI
  replace hm := Lib.hid hm
  replace hJ := hJ.symm
  replace hT := hT.symm
  clear hr hn hst hz hpc e0 e1 e2 e3 hg hk
  have w3B := Lib.hid (below_next (below_next (b_alloc w (.cells #[.string f, .string I, .string d] 53)) (b_alloc _ (.cells #[.string empty, .int .u32 0, .int .u32 0, .int .u32 0] 65))) (b_alloc _ (.cells #[.string empty, .int .u32 0, .int .u32 0, .int .u32 0] 65)))
  have hX1 := Lib.hid ((Blk.new (w.alloc (.cells #[.string f, .string I, .string d] 53)) #[.string empty, .int .u32 0, .int .u32 0, .int .u32 0] 65).alloc (.cells #[.string empty, .int .u32 0, .int .u32 0, .int .u32 0] 65))
  have hX2 := Lib.hid (Blk.new ((w.alloc (.cells #[.string f, .string I, .string d] 53)).alloc (.cells #[.string empty, .int .u32 0, .int .u32 0, .int .u32 0] 65)) #[.string empty, .int .u32 0, .int .u32 0, .int .u32 0] 65)
  have hs3 : (((w.alloc (.cells #[.string f, .string I, .string d] 53)).alloc (.cells #[.string empty, .int .u32 0, .int .u32 0, .int .u32 0] 65)).alloc (.cells #[.string empty, .int .u32 0, .int .u32 0, .int .u32 0] 65)).heap.size = w.heap.size + 3 := by simp
  have hs1 : (w.alloc (.cells #[.string f, .string I, .string d] 53)).heap.size = w.heap.size + 1 := by simp
  have hs2 : ((w.alloc (.cells #[.string f, .string I, .string d] 53)).alloc (.cells #[.string empty, .int .u32 0, .int .u32 0, .int .u32 0] 65)).heap.size = w.heap.size + 2 := by simp
  rw [hs1] at hX1
  rw [hs2] at hX2
  replace hs3 := Lib.hid hs3
  clear hs1 hs2
  go_enter Tryd.func38, Tryd.ntmps38
  go_wp2_with fail
  generalize ((w.alloc (.cells #[.string f, .string I, .string d] 53)).alloc (.cells #[.string empty, .int .u32 0, .int .u32 0, .int .u32 0] 65)).alloc (.cells #[.string empty, .int .u32 0, .int .u32 0, .int .u32 0] 65) = w3 at *
  refine (Oct.New_calls T w3).mono ?_
  rintro e w4 ⟨rfl, rfl⟩
  have bb := b_alloc w3 (.cells #[.string T, .bool false] 117)
  have hR := Lib.hid (Rd.new T w3)
  replace hX1 := Lib.hid (hX1.out.next bb)
  replace hX2 := Lib.hid (hX2.out.next bb)
  replace w3B := Lib.hid (below_next w3B.out bb)
  clear bb
  rw [hs3.out] at hR ⊢
  generalize w3.alloc (.cells #[.string T, .bool false] 117) = w4 at *
  go_wp2_with fail
  refine (Oct.Take_calls (w.heap.size + 3) 32 ⟨T, false⟩ w4 hR.out).mono ?_
  rintro e w5 ⟨rfl, hR5, ho⟩
  rw [e0'.out] at hR5 ⊢
  dsimp only at hR5 ⊢
  have o1 := (set_only w5 (w.heap.size + 2) 0 (.string X))
  replace hX1 := Lib.hid ((hX1.out.only ho (by omega)).only o1 (by omega))
  replace hX2 := Lib.hid (hX2.out.only ho (by omega))
  replace w3B := Lib.hid ((w3B.out.trans (ho.below (by omega))).trans (o1.below (by omega)))
  replace hR := Lib.hid (hR5.only o1 (by omega))
  have c0 := hX2.out.cell 0 (v := .string empty) rfl
  have f0 := hX2.out.frozen 0
  replace hX2 := Lib.hid (show Blk (w5.setCell ⟨w.heap.size + 2, 0, none⟩ (.string X)) (w.heap.size + 2) #[.string X, .int .u32 0, .int .u32 0, .int .u32 0] 65 from hX2.out.set 0 _)
  clear ho hR5 o1
  go_upto_region 4 with (fail)
  generalize w5.setCell ⟨w.heap.size + 1 + 1, 0, none⟩ (.string X) = w6 at *
  clear c0 f0
  go_wp2_with fail
  refine (Oct.RNum_calls (w.heap.size + 3) ⟨T1, false⟩ w6 hR.out).mono ?_
  rintro e w7 ⟨rfl, hR7, ho⟩
  rw [e1'.out] at hR7 ⊢
  dsimp only at hR7 ⊢
  have o1 := (set_only w7 (w.heap.size + 2) 1 (.int .u32 A))
  replace hX1 := Lib.hid ((hX1.out.only ho (by omega)).only o1 (by omega))
  replace hX2 := Lib.hid (hX2.out.only ho (by omega))
  replace w3B := Lib.hid ((w3B.out.trans (ho.below (by omega))).trans (o1.below (by omega)))
  replace hR := Lib.hid (hR7.only o1 (by omega))
  have c1 := hX2.out.cell 1 (v := .int .u32 0) rfl
  have f1 := hX2.out.frozen 1
  replace hX2 := Lib.hid (show Blk (w7.setCell ⟨w.heap.size + 2, 1, none⟩ (.int .u32 A)) (w.heap.size + 2) #[.string X, .int .u32 A, .int .u32 0, .int .u32 0] 65 from hX2.out.set 1 _)
  clear ho hR7 o1
  go_upto_region 5 with (fail)
  generalize w7.setCell ⟨w.heap.size + 1 + 1, 1, none⟩ (.int .u32 A) = w8 at *
  clear c1 f1
  go_wp2_with fail
  refine (Oct.RNum_calls (w.heap.size + 3) ⟨T2, false⟩ w8 hR.out).mono ?_
  rintro e w9 ⟨rfl, hR9, ho⟩
  rw [e2'.out] at hR9 ⊢
  dsimp only at hR9 ⊢
  have o1 := (set_only w9 (w.heap.size + 2) 2 (.int .u32 S))
  replace hX1 := Lib.hid ((hX1.out.only ho (by omega)).only o1 (by omega))
  replace hX2 := Lib.hid (hX2.out.only ho (by omega))
  replace w3B := Lib.hid ((w3B.out.trans (ho.below (by omega))).trans (o1.below (by omega)))
  replace hR := Lib.hid (hR9.only o1 (by omega))
  have c2 := hX2.out.cell 2 (v := .int .u32 0) rfl
  have f2 := hX2.out.frozen 2
  replace hX2 := Lib.hid (show Blk (w9.setCell ⟨w.heap.size + 2, 2, none⟩ (.int .u32 S)) (w.heap.size + 2) #[.string X, .int .u32 A, .int .u32 S, .int .u32 0] 65 from hX2.out.set 2 _)
  clear ho hR9 o1
  go_upto_region 6 with (fail)
  generalize w9.setCell ⟨w.heap.size + 1 + 1, 2, none⟩ (.int .u32 S) = w10 at *
  clear c2 f2
  go_wp2_with fail
  refine (Oct.RNum_calls (w.heap.size + 3) ⟨T3, false⟩ w10 hR.out).mono ?_
  rintro e w11 ⟨rfl, hR11, ho⟩
  rw [e3'.out]
  dsimp only
  have o1 := (set_only w11 (w.heap.size + 2) 3 (.int .u32 C))
  replace hX1 := Lib.hid ((hX1.out.only ho (by omega)).only o1 (by omega))
  replace hX2 := Lib.hid (hX2.out.only ho (by omega))
  replace w3B := Lib.hid ((w3B.out.trans (ho.below (by omega))).trans (o1.below (by omega)))
  have c3 := hX2.out.cell 3 (v := .int .u32 0) rfl
  have f3 := hX2.out.frozen 3
  replace hX2 := Lib.hid (show Blk (w11.setCell ⟨w.heap.size + 2, 3, none⟩ (.int .u32 C)) (w.heap.size + 2) #[.string X, .int .u32 A, .int .u32 S, .int .u32 C] 65 from hX2.out.set 3 _)
  clear ho hR11 o1 hR
  go_upto_region 7 with (fail)
  generalize w11.setCell ⟨w.heap.size + 1 + 1, 3, none⟩ (.int .u32 C) = w12 at *
  clear c3 f3
  have c0 : w12.cell? ⟨w.heap.size + 1 + 1, 0, none⟩ = some (.string X) := hX2.out.cell 0 rfl
  have c1 : w12.cell? ⟨w.heap.size + 1 + 1, 1, none⟩ = some (.int .u32 A) := hX2.out.cell 1 rfl
  have c2 : w12.cell? ⟨w.heap.size + 1 + 1, 2, none⟩ = some (.int .u32 S) := hX2.out.cell 2 rfl
  have c3 : w12.cell? ⟨w.heap.size + 1 + 1, 3, none⟩ = some (.int .u32 C) := hX2.out.cell 3 rfl
  have d0 := hX1.out.cell 0 (v := .string empty) rfl
  have d1 := hX1.out.cell 1 (v := .int .u32 0) rfl
  have d2 := hX1.out.cell 2 (v := .int .u32 0) rfl
  have d3 := hX1.out.cell 3 (v := .int .u32 0) rfl
  have f0 := hX1.out.frozen 0
  have f1 := hX1.out.frozen 1
  have f2 := hX1.out.frozen 2
  have f3 := hX1.out.frozen 3
  have hbk := Lib.hid (show Blk ((((w12.setCell ⟨w.heap.size + 1, 0, none⟩ (.string X)).setCell ⟨w.heap.size + 1, 1, none⟩ (.int .u32 A)).setCell ⟨w.heap.size + 1, 2, none⟩ (.int .u32 S)).setCell ⟨w.heap.size + 1, 3, none⟩ (.int .u32 C)) (w.heap.size + 1) #[.string X, .int .u32 A, .int .u32 S, .int .u32 C] 65 from (((hX1.out.set 0 _).set 1 _).set 2 _).set 3 _)
  have hfin := Lib.hid ((((w3B.out.setCell (p := ⟨w.heap.size + 1, 0, none⟩) (Nat.le_succ _) (.string X)).setCell (p := ⟨w.heap.size + 1, 1, none⟩) (Nat.le_succ _) (.int .u32 A)).setCell (p := ⟨w.heap.size + 1, 2, none⟩) (Nat.le_succ _) (.int .u32 S)).setCell (p := ⟨w.heap.size + 1, 3, none⟩) (Nat.le_succ _) (.int .u32 C))
  clear hX1 hX2 w3B
  go_wp2
  (try simp only [Exit.inBlock, Exit.then])
  exact bodyPost_ret (Sha.results_cell Tryd.results38 rfl (Blk.range (cs := [_, _, _, _]) hbk.out) Tryd.underlying65 rfl (by kernel_rfl)) rfl ⟨rfl, hfin.out⟩
theorem fan_piece {s : ByteArray} (h : Begins s) (i : Nat) (hi : i < 256) : rdAt (pfan s) (4 * i) = fanAt s i := by
  have hr := h.room
  have hz := pfan_size h
  have hst : start s = 1036 + 44 * num s := rfl
  have := rd_piece s 12 1036 (4 * i) (by omega) (by omega)
  unfold rdAt
  rw [hz]
  exact this
/-- the number ahead -/
theorem lo_is (s id : ByteArray) (b : Nat) (hb : Oct.byteAt id 0 = (b : Nat)) : lo s id = if b = 0 then 0 else fanAt s (b - 1) := by
  unfold lo
  rw [hb]
  by_cases h : b = 0
  · rw [if_pos h, if_pos (by omega)]
  · rw [if_neg h, if_neg (by omega)]; rfl
set_option maxRecDepth 100000 in
set_option maxHeartbeats 1000000 in
theorem span_calls (s i d : ByteArray) (b : Nat) (w : World) (hg : Begins s) (hb : b < 256) (_hs : s.size ≤ 1000000000) :
    Calls Tryd.prog 36 #[partsV (pfan s) i d, .int .u8 b] w fun e w' => e = .returned (.tuple #[.int .u32 (if b = 0 then 0 else fanAt s (b - 1)), .int .u32 (fanAt s b)]) ∧ Below w.heap.size w w' := by
  have hz := pfan_size hg
  have hB := Lib.hid (b_alloc w (.cells #[.string (pfan s), .string i, .string d] 53))
  have hX := Lib.hid (Blk.new w #[.string (pfan s), .string i, .string d] 53)
  have hN := Lib.hid fun w => numAt_calls (pfan s) (4 * b) w (by omega) (by omega)
  rw [fan_piece hg b hb] at hN
  obtain ⟨m, hm⟩ : ∃ m, m = 4 * b := ⟨_, rfl⟩
  rw [← hm] at hN
  have i1 : (b : Int) * 4 = (m : Nat) := by omega
  have hmb : m ≤ 1024 := by omega
  by_cases h0 : b = 0
  · rw [if_pos h0]
    have j0 : decide (0 < (b : Int)) = false := decide_eq_false (by omega)
    have j1 : (b : Int) ≤ 0 := by omega
    replace h0 := Lib.hid h0
    replace hm := Lib.hid hm
    replace hz := Lib.hid hz
    generalize fanAt s b = F at *
    generalize pfan s = P at *
    go_enter Tryd.func36, Tryd.ntmps36
    go_wp2_with fail
    generalize w.alloc (.cells #[.string P, .string i, .string d] 53) = w1 at *
    refine (hN.out _).mono ?_
    rintro e w2 ⟨rfl, bb⟩
    replace hB := Lib.hid (below_next hB.out bb)
    clear bb
    go_wp2
    go_ret2
    exact ⟨rfl, hB.out⟩
  · rw [if_neg h0]
    have j0 : 0 < (b : Int) := by omega
    have hN1 := Lib.hid fun w => numAt_calls (pfan s) (4 * (b - 1)) w (by omega) (by omega)
    rw [fan_piece hg (b - 1) (by omega)] at hN1
    obtain ⟨m1, hm1⟩ : ∃ m1, m1 = 4 * (b - 1) := ⟨_, rfl⟩
    rw [← hm1] at hN1
    have i2 : IntKind.i64.wrap ((m : Int) - 4) = (m1 : Nat) := by simp [IntKind.wrap, IntKind.bits, IntKind.signed]; omega
    replace h0 := Lib.hid h0
    replace hm := Lib.hid hm
    replace hm1 := Lib.hid hm1
    replace hz := Lib.hid hz
    generalize fanAt s b = F at *
    generalize fanAt s (b - 1) = F1 at *
    generalize pfan s = P at *
    go_enter Tryd.func36, Tryd.ntmps36
    go_wp2_with fail
    generalize w.alloc (.cells #[.string P, .string i, .string d] 53) = w1 at *
    refine (hN1.out _).mono ?_
    rintro e w2 ⟨rfl, bb⟩
    replace hB := Lib.hid (below_next hB.out bb)
    replace hX := Lib.hid (hX.out.next bb)
    have c0 := hX.out.cell 0 (v := .string P) rfl
    clear bb
    go_wp2_with fail
    refine (hN.out _).mono ?_
    rintro e w3 ⟨rfl, bb⟩
    replace hB := Lib.hid (below_next hB.out bb)
    clear bb
    go_wp2
    go_ret2
    exact ⟨rfl, hB.out⟩
/-- what tell's bytes answers -/
theorem there_piece {s : ByteArray} (h : Begins s) (k : Nat) (hz : (s.size : Int) ≥ start s + atAt s k + szAt s k + 32) : ((pdat s).extract (atAt s k).toNat (pdat s).size).extract 0 (szAt s k).toNat = there s k := by
  have hr := h.room
  have hp := pdat_size h
  have h1 := (rdAt_range s (1036 + 44 * k + 32)).1
  have h2 := (rdAt_range s (1036 + 44 * k + 36)).1
  change 0 ≤ atAt s k at h1
  change 0 ≤ szAt s k at h2
  rw [hp, ext_ext _ _ _ _ _ (by omega) (by omega)]
  unfold pdat there
  rw [ext_ext _ _ _ _ _ (by omega) (by omega), Nat.add_zero, Nat.add_assoc]
set_option maxRecDepth 100000 in
set_option maxHeartbeats 2000000 in
theorem bytes_calls (s f i : ByteArray) (k : Nat) (w : World) (hg : Begins s) (hs : s.size ≤ 1000000000) :
    Calls Tryd.prog 68 #[partsV f i (pdat s), entV s k] w fun e w' => e = .returned (.tuple #[.string (if 131072 < szAt s k ∨ (s.size : Int) < start s + atAt s k + szAt s k + 32 then empty else there s k), .bool (!decide (131072 < szAt s k ∨ (s.size : Int) < start s + atAt s k + szAt s k + 32))]) ∧ Below w.heap.size w w' := by
  have hr := hg.room
  have hp := pdat_size hg
  have h1 := rdAt_range s (1036 + 44 * k + 32)
  have h2 := rdAt_range s (1036 + 44 * k + 36)
  change 0 ≤ atAt s k ∧ atAt s k < 4294967296 at h1
  change 0 ≤ szAt s k ∧ szAt s k < 4294967296 at h2
  have htp := there_piece hg k
  have hB := Lib.hid (below_next (b_alloc w (.cells #[.string f, .string i, .string (pdat s)] 53)) (b_alloc _ (.cells #[.string (idAt s k), .int .u32 (atAt s k), .int .u32 (szAt s k), .int .u32 (ckAt s k)] 65)))
  unfold entV
  have hiff : ((s.size : Int) < start s + atAt s k + szAt s k + 32) ↔ ((pdat s).size : Int) < atAt s k + szAt s k := by rw [hp]; omega
  generalize idAt s k = X at *
  generalize ckAt s k = C at *
  generalize szAt s k = S at *
  generalize atAt s k = A at *
  generalize there s k = th at *
  by_cases c1 : 131072 < S
  · rw [if_pos (Or.inl c1), decide_eq_true (Or.inl c1), Bool.not_true]
    replace hiff := Lib.hid hiff
    replace htp := Lib.hid htp
    go_enter Tryd.func68, Tryd.ntmps68
    go_wp2
    go_ret2
    exact ⟨rfl, hB.out⟩
  · have d1 : decide (131072 < S) = false := decide_eq_false c1
    have d2 : S ≤ 131072 := by omega
    by_cases c2 : (s.size : Int) < start s + A + S + 32
    · rw [if_pos (Or.inr c2), decide_eq_true (Or.inr c2), Bool.not_true]
      have c3 := hiff.1 c2
      replace hiff := Lib.hid hiff
      replace htp := Lib.hid htp
      replace c2 := Lib.hid c2
      replace hp := Lib.hid hp
      generalize pdat s = D at *
      go_enter Tryd.func68, Tryd.ntmps68
      go_wp2
      go_ret2
      exact ⟨rfl, hB.out⟩
    · rw [if_neg (fun h => h.elim c1 c2), decide_eq_false (fun h => h.elim c1 c2), Bool.not_false]
      have c3 : ¬ ((pdat s).size : Int) < A + S := fun h => c2 (hiff.2 h)
      have c4 := htp (by omega)
      have hDb : (pdat s).size ≤ 1000000000 := by omega
      obtain ⟨a, rfl⟩ : ∃ a : Nat, A = a := ⟨A.toNat, by omega⟩
      obtain ⟨z, rfl⟩ : ∃ z : Nat, S = z := ⟨S.toNat, by omega⟩
      rw [Int.toNat_natCast, Int.toNat_natCast] at c4
      replace hiff := Lib.hid hiff
      replace htp := Lib.hid htp
      replace c2 := Lib.hid c2
      replace hp := Lib.hid hp
      generalize pdat s = D at *
      have k1 : decide ((D.size : Int) < (a : Nat) + (z : Nat)) = false := decide_eq_false c3
      have k2 : ((a : Nat) : Int) + (z : Nat) ≤ D.size := by omega
      have k3 : ((a : Nat) : Int) ≤ D.size := by omega
      have hz1 := piece_size D a D.size (Nat.le_refl _)
      obtain ⟨D1, hD1⟩ : ∃ D1, D.extract a D.size = D1 := ⟨_, rfl⟩
      rw [hD1] at c4 hz1
      have k4 : ((z : Nat) : Int) ≤ D1.size := by omega
      replace hz1 := Lib.hid hz1
      replace hr := Lib.hid hr
      have hBe := Lib.hid fun n => below_next hB.out (b_drewN _ n)
      clear hB
      go_enter Tryd.func68, Tryd.ntmps68
      go_wp2_with fail
      go_quiet (fail)
      go_wp2
      go_ret2
      exact ⟨rfl, hBe.out _⟩
theorem quiet_drawn {P : Program} {f : FuncId} {args : Array Value} {w : World} {n : Nat} {v : Value}
    (h : Calls P f args (w.drewN n) fun e w' => e = .returned v ∧ ∃ m, w' = (w.drewN n).drewN m) :
    Calls P f args (w.drewN n) fun e w'' => e = .returned v ∧ ∃ m, w'' = w.drewN m := h.mono fun _ _ ⟨x, _, y⟩ => ⟨x, _, y.trans (World.drewN_drewN _ _ _)⟩
theorem Ev.drewN {w : World} (h : Ev w) (n : Nat) : Ev (w.drewN n) := h.next (b_drewN w n)
theorem ck_range (s : ByteArray) (k : Nat) : 0 ≤ ckAt s k ∧ ckAt s k < 4294967296 := rdAt_range _ _
theorem there_size (s : ByteArray) (k : Nat) : (there s k).size ≤ s.size := by unfold there; rw [ByteArray.size_extract]; omega
set_option maxRecDepth 100000 in
set_option maxHeartbeats 2000000 in
theorem tell_calls (s f i : ByteArray) (k : Nat) (w : World) (hg : Begins s) (hs : s.size ≤ 1000000000) (he : Ev w) :
    Calls Tryd.prog 39 #[partsV f i (pdat s), entV s k] w fun e w' => e = .returned (.tuple #[.string (tell s k).1, .bool (tell s k).2.1, .int .i64 (tell s k).2.2]) ∧ Below w.heap.size w w' := by
  have hb := Lib.hid fun w => bytes_calls s f i k w hg hs
  have hth := there_size s k
  have hC := Lib.hid fun w he => Chk_calls (there s k) w he (by omega)
  have hcl := Lib.hid fun w => Clone_calls (there s k) w (by omega)
  have hB := Lib.hid (below_next (b_alloc w (.cells #[.string f, .string i, .string (pdat s)] 53)) (b_alloc _ (.cells #[.string (idAt s k), .int .u32 (atAt s k), .int .u32 (szAt s k), .int .u32 (ckAt s k)] 65)))
  have hX := Lib.hid (Blk.new (w.alloc (.cells #[.string f, .string i, .string (pdat s)] 53)) #[.string (idAt s k), .int .u32 (atAt s k), .int .u32 (szAt s k), .int .u32 (ckAt s k)] 65)
  have hs1 : (w.alloc (.cells #[.string f, .string i, .string (pdat s)] 53)).heap.size = w.heap.size + 1 := by simp
  rw [hs1] at hX
  clear hs1
  replace he := Lib.hid he
  unfold entV at hb ⊢
  unfold tell
  by_cases c0 : 131072 < szAt s k ∨ (s.size : Int) < start s + atAt s k + szAt s k + 32
  · rw [if_pos c0] at hb ⊢
    rw [decide_eq_true c0, Bool.not_true] at hb
    replace c0 := Lib.hid c0
    generalize idAt s k = X at *
    generalize ckAt s k = C at *
    generalize szAt s k = S at *
    generalize atAt s k = A at *
    generalize pdat s = D at *
    clear hC hcl hX
    go_enter Tryd.func39, Tryd.ntmps39
    go_wp2_with fail
    generalize (w.alloc (.cells #[.string f, .string i, .string D] 53)).alloc (.cells #[.string X, .int .u32 A, .int .u32 S, .int .u32 C] 65) = w2 at *
    refine (hb.out _).mono ?_
    rintro e w3 ⟨rfl, bb⟩
    replace hB := Lib.hid (below_next hB.out bb)
    clear bb
    go_wp2
    go_ret3
    exact ⟨rfl, hB.out⟩
  · rw [if_neg c0] at hb ⊢
    rw [decide_eq_false c0, Bool.not_false] at hb
    replace c0 := Lib.hid c0
    generalize there s k = th at *
    generalize idAt s k = X at *
    generalize ckAt s k = C at *
    generalize szAt s k = S at *
    generalize atAt s k = A at *
    generalize pdat s = D at *
    by_cases c5 : chk th = C
    · rw [if_pos c5]
      have q1 : (chk th != C) = false := by simpa using c5
      replace c5 := Lib.hid c5
      go_enter Tryd.func39, Tryd.ntmps39
      go_wp2_with fail
      generalize (w.alloc (.cells #[.string f, .string i, .string D] 53)).alloc (.cells #[.string X, .int .u32 A, .int .u32 S, .int .u32 C] 65) = w2 at *
      refine (hb.out _).mono ?_
      rintro e w3 ⟨rfl, bb⟩
      replace hB := Lib.hid (below_next hB.out bb)
      replace hX := Lib.hid (hX.out.next bb)
      have c3 := hX.out.cell 3 (v := .int .u32 C) rfl
      have hev := Lib.hid (he.out.next hB.out)
      clear bb hb
      go_wp2_with fail
      go_quiet ((go_at_call 52; exact quiet_drawn (hC.out _ (hev.out.drewN _))))
      have bb := b_drewN w3 nq
      replace hB := Lib.hid (below_next hB.out bb)
      clear bb hev c3 hX
      generalize w3.drewN nq = w4 at *
      go_wp2_with fail
      refine (hcl.out _).mono ?_
      rintro e w5 ⟨rfl, bb⟩
      replace hB := Lib.hid (below_next hB.out bb)
      clear bb
      go_wp2
      go_ret3
      exact ⟨rfl, hB.out⟩
    · rw [if_neg c5]
      have q1 : (chk th != C) = true := by simpa using c5
      replace c5 := Lib.hid c5
      go_enter Tryd.func39, Tryd.ntmps39
      go_wp2_with fail
      generalize (w.alloc (.cells #[.string f, .string i, .string D] 53)).alloc (.cells #[.string X, .int .u32 A, .int .u32 S, .int .u32 C] 65) = w2 at *
      refine (hb.out _).mono ?_
      rintro e w3 ⟨rfl, bb⟩
      replace hB := Lib.hid (below_next hB.out bb)
      replace hX := Lib.hid (hX.out.next bb)
      have c3 := hX.out.cell 3 (v := .int .u32 C) rfl
      have hev := Lib.hid (he.out.next hB.out)
      clear bb hb
      go_wp2_with fail
      go_quiet ((go_at_call 52; exact quiet_drawn (hC.out _ (hev.out.drewN _))))
      have bb := b_drewN w3 nq
      replace hB := Lib.hid (below_next hB.out bb)
      clear bb hev c3 hX
      generalize w3.drewN nq = w4 at *
      go_wp2
      go_ret3
      exact ⟨rfl, hB.out⟩
end Go.Proofs.YtliojhhiadfmiaaDoor.Pk
