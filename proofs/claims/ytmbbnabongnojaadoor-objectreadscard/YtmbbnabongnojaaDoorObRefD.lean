/-
  The reference's commit reads as the plain function does, or goes wrong where that goes wrong. Conditions: texts of the form's reach.
-/
import Derived.Test.YtmbbnabongnojaaDoorRows
import Derived.Test.YtmbbnabongnojaaDoorObPlain
import Derived.Test.YtmbbnabongnojaaDoorObGood
import Derived.Test.YtmbbnabongnojaaDoorObWrite
import Derived.Test.YtmbbnabongnojaaDoorObOwn
import Derived.Test.YtmbbnabongnojaaDoorObRead
import Derived.Test.YtmbbnabongnojaaDoorObDec
import Derived.Test.YtmbbnabongnojaaDoorObHave
import Derived.Test.YtmbbnabongnojaaDoorObSame
import Derived.Test.YtmbbnabongnojaaDoorObRefC
import Derived.Test.YtmbbnabongnojaaDoorOctRefR
import Derived.Test.YtmbbnabongnojaaDoorOctKit
import Derived.WalkKit
import Derived.WalkSpells
import Derived.WalkLawsBesides
import Derived.ProofKit
import Derived.OpenShut
import Derived.Laws.BytesArg
import Derived.Laws.Externs
import Derived.Deep.QuietTactic
import Derived.BigQuiet
import Derived.BigRegion
import Derived.Lib.Hide
import Derived.IntWalk
import Derived.Deep.LoopGhost
import Derived.Laws.AppendOwn
import Derived.Deep.RegionLaw
namespace Go.Proofs.YtmbbnabongnojaaDoor.Ob
open Go Go.RowKit
open Oct (empty num4 St RR Only take num text byteAt)

/-- what the reference's commit read, against what the plain function reads -/
structure CommitEnd (q : St) (x : Obj) (q' : St) : Prop where
  yes : q'.bad = false → x.height ≤ 1073741824 → rdCommit q = (x, q')
  no : q'.bad = true ∨ 1073741824 < x.height → (rdCommit q).2.bad = true
theorem commit_rest (q : St) (t : ByteArray × St) (n : Int × St) (p : List ByteArray × St) (ht : take q 32 = t) (hn : rdUp t.2 8 = n) (hp : rdPars n.1.toNat n.2 = p) :
    rdCommit q = (⟨3, empty, [], t.1, p.1, (rdUp p.2 1073741824).1, (text (rdUp p.2 1073741824).2 1000).1⟩, (text (rdUp p.2 1073741824).2 1000).2) := by
  unfold rdCommit
  dsimp only
  rw [ht, hn, hp]
theorem commit_end {q q' q0 q1 q2 q3 : St} {tr nt : ByteArray} {M : List ByteArray} {n ht : Int} {k : Nat} (h0 : take q 32 = (tr, q0)) (hn : num q0 = (n, q1)) (hM : rdPars k q1 = (M, q2)) (hk : (k : Int) ≤ n) (hend : (k : Int) = n ∨ k = 9 ∨ q2.bad = true) (h8 : n ≤ 8) (hh : num q2 = (ht, q3)) (hx : text q3 1000 = (nt, q')) :
    CommitEnd q ⟨3, empty, [], tr, M, ht, nt⟩ q' := by
  have hup : rdUp q0 8 = (n, q1) := by unfold rdUp; rw [hn]; dsimp only; rw [if_neg (by omega)]
  have key := commit_rest q _ _ _ h0 hup rfl
  by_cases hkn : (k : Int) = n
  · rw [← hkn] at key
    dsimp only at key
    rw [Int.toNat_natCast, hM] at key
    dsimp only at key
    by_cases hbig : 1073741824 < ht
    · have hu : rdUp q2 1073741824 = (0, ⟨q3.rest, true⟩) := by unfold rdUp; rw [hh]; dsimp only; rw [if_pos hbig]
      rw [hu] at key
      dsimp only at key
      have hb : (rdCommit q).2.bad = true := by rw [key]; exact text_stays _ _ rfl
      exact ⟨fun _ h => absurd h (by show ¬ ht ≤ 1073741824; omega), fun _ => hb⟩
    · have hu : rdUp q2 1073741824 = (ht, q3) := by unfold rdUp; rw [hh]; dsimp only; rw [if_neg hbig]
      rw [hu] at key
      dsimp only at key
      rw [hx] at key
      dsimp only at key
      exact ⟨fun _ _ => key, fun h => by
        rw [key]
        rcases h with h | h
        · exact h
        · exact absurd h hbig⟩
  · have hb2 : q2.bad = true := by
      rcases hend with h | h | h
      · exact absurd h hkn
      · omega
      · exact h
    have hall : (rdPars n.toNat q1).2.bad = true := by
      have := rdPars_add k (n.toNat - k) q1 (by rw [hM]; exact hb2)
      rw [show k + (n.toNat - k) = n.toNat by omega] at this
      exact this
    have hb : (rdCommit q).2.bad = true := by rw [key]; exact text_stays _ _ (rdUp_stays _ _ hall)
    have hb3 : q3.bad = true := by have := num_stays q2 hb2; rw [hh] at this; exact this
    have hb' : q'.bad = true := by have := text_stays q3 1000 hb3; rw [hx] at this; exact this
    exact ⟨fun h => (by rw [hb'] at h; cases h), fun _ => hb⟩
theorem commit_over {q q' q0 q1 : St} {x : Obj} {tr : ByteArray} {n : Int} (h0 : take q 32 = (tr, q0)) (hn : num q0 = (n, q1)) (h8 : 8 < n) (hb : q'.bad = true) : CommitEnd q x q' := by
  have hup : rdUp q0 8 = (0, ⟨q1.rest, true⟩) := by unfold rdUp; rw [hn]; dsimp only; rw [if_pos h8]
  have key := commit_rest q _ _ _ h0 hup rfl
  refine ⟨fun h => (by rw [hb] at h; cases h), fun _ => ?_⟩
  rw [key]
  exact text_stays _ _ (rdUp_stays _ _ (rdPars_stays _ _ rfl))
/-- what the reference's commit answers -/
def Commits (b : Nat) (S : ByteArray) (q : St) (w : World) (e : Ending) (w' : World) : Prop :=
  ∃ (tr nt : ByteArray) (M : List ByteArray) (ht : Int) (q' : St) (pa : Option Addr) (pc pb po : Nat), e = .returned (val ⟨3, empty, [], tr, M, ht, nt⟩ none 0 pa pc) ∧ ParsAt w' pa pb po M ∧ M.length ≤ pc ∧ (0 < M.length → w.heap.size ≤ pb) ∧ RR w' b S q' ∧ CommitEnd q ⟨3, empty, [], tr, M, ht, nt⟩ q' ∧ M.length ≤ maxLen
theorem ends_commit {b : Nat} {S : ByteArray} {q q' : St} {w w4 w9 : World} {tmps : Array Value} {df : List Deferred} {tr nt : ByteArray} {M : List ByteArray} {ht : Int} {pa : Option Addr} {pc pb po : Nat} (hend : Blk w9 w.heap.size #[.int .i64 3, .string ⟨#[]⟩, .slice none 0 0, .string tr, .slice pa M.length pc, .int .i64 ht, .string nt] 25)
    (hE : ParsAt w4 pa pb po M) (hec : M.length ≤ pc) (heb : 0 < M.length → w.heap.size + 2 ≤ pb) (hq : RR w4 b S q') (hT : CommitEnd q ⟨3, empty, [], tr, M, ht, nt⟩ q') (h4 : But b w w4) (hb : b < w.heap.size) (ho : Only w.heap.size w4 w9) (hl : M.length ≤ maxLen)
    (hx : tmps.getD 2 undef = .pointer (some ⟨w.heap.size, 0, none⟩) := by rfl) (hdf : df = [] := by rfl) :
    bodyPost Tryd.prog Tryd.f54 (fun e w' => Commits b S q w e w' ∧ But b w w') .ret ⟨tmps, df⟩ w9 := by
  subst hdf
  exact bodyPost_ret (results_one Tryd.results54 hx (blk_range (cs := [.int .i64 3, .string ⟨#[]⟩, .slice none 0 0, .string tr, .slice pa M.length pc, .int .i64 ht, .string nt]) hend) Tryd.underlying25 rfl sizeObject) rfl
    ⟨⟨tr, nt, M, ht, q', pa, pc, pb, po, rfl, hE.only ho (fun h => by have := heb h; omega), hec, fun h => by have := heb h; omega, hq.only ho (by omega), hT, hl⟩, h4.only_new ho (Nat.le_refl _)⟩
set_option maxRecDepth 100000 in
set_option maxHeartbeats 4000000 in
theorem Rcommit_calls (b : Nat) (S : ByteArray) (q : St) (w : World) (hS : S.size ≤ 140737488351232) (hq : RR w b S q) :
    Calls Tryd.prog 54 #[.pointer (some ⟨b, 0, none⟩)] w fun e w' => Commits b S q w e w' ∧ But b w w' := by
  obtain ⟨i0, hi, hz0, hz1, hz2⟩ := info_parts infoStr
  have hbw := RR.lt hq
  have hr2 := Lib.hid (new_two w (.cells #[.int .i64 0, .string ⟨#[]⟩, .slice none 0 0, .string ⟨#[]⟩, .slice none 0 0, .int .i64 0, .string ⟨#[]⟩] 25) #[.int .i64 3, .string ⟨#[]⟩, .slice none 0 0, .string ⟨#[]⟩, .slice none 0 0, .int .i64 0, .string ⟨#[]⟩] 25)
  have hr1 := Lib.hid ((Blk.new w #[.int .i64 0, .string ⟨#[]⟩, .slice none 0 0, .string ⟨#[]⟩, .slice none 0 0, .int .i64 0, .string ⟨#[]⟩] 25).alloc (.cells #[.int .i64 3, .string ⟨#[]⟩, .slice none 0 0, .string ⟨#[]⟩, .slice none 0 0, .int .i64 0, .string ⟨#[]⟩] 25))
  have hB := Lib.hid (below_next (b_alloc w (.cells #[.int .i64 0, .string ⟨#[]⟩, .slice none 0 0, .string ⟨#[]⟩, .slice none 0 0, .int .i64 0, .string ⟨#[]⟩] 25)) (b_alloc _ (.cells #[.int .i64 3, .string ⟨#[]⟩, .slice none 0 0, .string ⟨#[]⟩, .slice none 0 0, .int .i64 0, .string ⟨#[]⟩] 25)))
  have hsz : Hid (((w.alloc (.cells #[.int .i64 0, .string ⟨#[]⟩, .slice none 0 0, .string ⟨#[]⟩, .slice none 0 0, .int .i64 0, .string ⟨#[]⟩] 25)).alloc (.cells #[.int .i64 3, .string ⟨#[]⟩, .slice none 0 0, .string ⟨#[]⟩, .slice none 0 0, .int .i64 0, .string ⟨#[]⟩] 25)).heap.size = w.heap.size + 2) := Lib.hid (by simp)
  have hq1 := Lib.hid (RR.below hq hB.out hbw)
  go_enter Tryd.func54, Tryd.ntmps54
  go_wp2_with fail
  generalize (w.alloc (.cells #[.int .i64 0, .string ⟨#[]⟩, .slice none 0 0, .string ⟨#[]⟩, .slice none 0 0, .int .i64 0, .string ⟨#[]⟩] 25)).alloc (.cells #[.int .i64 3, .string ⟨#[]⟩, .slice none 0 0, .string ⟨#[]⟩, .slice none 0 0, .int .i64 0, .string ⟨#[]⟩] 25) = w1 at *
  refine (Oct.RefTake_calls b 32 S q w1 hS hq1.out).mono ?_
  rintro e wa ⟨rfl, hqa, hoa⟩
  generalize h0 : take q 32 = rt at *
  obtain ⟨tr, q0⟩ := rt
  dsimp only at hqa ⊢
  replace h0 := Lib.hid h0
  have hra := Lib.hid (hr2.out.only hoa (by omega))
  have hsa : wa.heap.size = w.heap.size + 2 := by rw [hoa.size]; exact hsz.out
  have ca3 := hra.out.cell 3 (v := .string ⟨#[]⟩) rfl
  have fa3 := hra.out.frozen 3
  have hr3 := Lib.hid (hra.out.set 3 (.string tr))
  have hr13 := Lib.hid ((hr1.out.only hoa (by omega)).other (w.heap.size + 1) 3 (.string tr) (by omega))
  have hq3 := Lib.hid (RR.other hqa (w.heap.size + 1) 3 (.string tr) (by omega))
  have hB3 := Lib.hid (((But.below (b := b) hB.out).trans (But.only hoa)).set (k := w.heap.size + 1) (j := 3) (.string tr) (by omega))
  have hs3 : Hid ((wa.setCell ⟨w.heap.size + 1, 3, none⟩ (.string tr)).heap.size = w.heap.size + 2) := Lib.hid (by simp [World.setCell, hsa])
  replace hsa := Lib.hid hsa
  clear hq1 hB hsz hqa hoa hr1 hr2 hra hq
  go_wp2_with fail
  generalize wa.setCell ⟨w.heap.size + 1, 3, none⟩ (.string tr) = w1 at *
  refine (Oct.RefRNum_calls b S q0 w1 hS hq3.out).mono ?_
  rintro e w2 ⟨rfl, hq2, ho2⟩
  have hrange := Oct.num_range q0
  generalize hnum : num q0 = rn at *
  obtain ⟨n, q1⟩ := rn
  dsimp only at hq2 hrange ⊢
  replace hnum := Lib.hid hnum
  replace hq2 := Lib.hid hq2
  have hr2 : Hid (Blk w2 (w.heap.size + 1) #[.int .i64 3, .string ⟨#[]⟩, .slice none 0 0, .string tr, .slice none 0 0, .int .i64 0, .string ⟨#[]⟩] 25) := Lib.hid (hr3.out.only ho2 (by omega))
  have hr1 := Lib.hid (hr13.out.only ho2 (by omega))
  have hBt := Lib.hid (hB3.out.trans (But.only ho2))
  have hs2 : w2.heap.size = w.heap.size + 2 := by rw [ho2.size]; exact hs3.out
  obtain ⟨n, rfl⟩ := Int.eq_ofNat_of_zero_le hrange.1
  have hnw : wrap64 (n : Int) = n := IntWalk.wrap64_in _ ⟨by omega, by omega⟩
  replace hs2 := Lib.hid hs2
  clear ho2 hq3 hB3 hs3 hr3 hr13 ca3 fa3 hsa
  go_wp2
  go_loopw [5] (fun i wr => ∃ (k : Nat) (v : Value), k ≤ n ∧ k ≤ 9 ∧ i = .int .i64 k ∧ RR wr b S (rdPars k q1).2 ∧ Mid (w.heap.size + 2) b (w.heap.size + 1) w2 wr ∧ Blk wr (w.heap.size + 1) #[.int .i64 3, .string ⟨#[]⟩, .slice none 0 0, .string tr, v, .int .i64 0, .string ⟨#[]⟩] 25 ∧ wr.ownsRow (w.heap.size + 2) 9 1 v k ((rdPars k q1).1.map Value.string)) (fun i _ => 9 - (intOf i).toNat)
  case atStart => exact ⟨0, .slice none 0 0, by omega, by omega, rfl, hq2.out, Mid.refl _ _ _ _, hr2.out, World.ownsRow_nil _ _ _ _⟩
  case round =>
    clear hq2 hr2
    obtain ⟨k, v, hk, hk9, rfl, hq, hM, hx, hown⟩ := hrel
    have hsr := hM.size
    have hs2' := hs2.out
    have hLl := rdPars_len k q1
    have hnx : rdPars (k + 1) q1 = ((rdPars k q1).1 ++ [(take (rdPars k q1).2 32).1], (take (rdPars k q1).2 32).2) := rfl
    generalize hrd : rdPars k q1 = rl at *
    obtain ⟨M, q2⟩ := rl
    dsimp only at hq hown hnx hLl
    replace hrd := Lib.hid hrd
    replace hM := Lib.hid hM
    have cb := hq.c2
    by_cases hgo : k < n ∧ k < 9 ∧ q2.bad = false
    · obtain ⟨g1, g2, g3⟩ := hgo
      have i1 : (k : Int) < n := by omega
      have i2 : (k : Int) < 9 := by omega
      rw [g3] at cb
      have hT := Lib.hid (Oct.RefTake_calls b 32 S q2 wr.drew hS hq.drew)
      generalize take q2 32 = rt at *
      obtain ⟨ei, q5⟩ := rt
      dsimp only at hT hnx
      have hvR := Lib.hid (fun g hg => (hown.lt g hg).1)
      have hvx : Hid (some (w.heap.size + 1) ≠ v.ownBlock) := Lib.hid fun e => by have := hvR.out (w.heap.size + 1) e.symm; omega
      have cx := hx.cell 4 (v := v) rfl
      replace hq := Lib.hid hq
      replace hx := Lib.hid hx
      replace hown := Lib.hid hown
      replace hnx := Lib.hid hnx
      go_upto_region 7 with (fail)
      go_region_law (first
        | (refine step_append_own (by rfl) _ _ _ (by rfl) (w.heap.size + 2) 9 i0 _ 1 16 Tryd.underlying23 hi hz0 hz1 hz2 rfl (by decide) v k (M.map Value.string) (by rfl) (hownA.out) ⟨w5.heap.size, 0, none⟩ 1 1 [.string ei] (by rfl) rfl hnews.out hone.out (by unfold maxLen; omega) (by omega) hRA.out ?_; intro v' w10 ho' hg hn; obtain ⟨ao, cap', rfl⟩ := owns_slice ho'; have hx10 : Blk w10 (w.heap.size + 1) #[.int .i64 3, .string ⟨#[]⟩, .slice none 0 0, .string tr, v, .int .i64 0, .string ⟨#[]⟩] 25 := (hg.block (w.heap.size + 1) hxA.out.lt hvx.out).trans hxA.out; have cx10 := hx10.cell 4 (v := v) rfl; have fx10 := hx10.frozen 4; replace hx10 := Lib.hid hx10)
        | (go_simp; go_at_call 74; refine hT.out.mono ?_; rintro e w5 ⟨rfl, hq5, ho5⟩; have hx5 : Blk w5 (w.heap.size + 1) #[.int .i64 3, .string ⟨#[]⟩, .slice none 0 0, .string tr, v, .int .i64 0, .string ⟨#[]⟩] 25 := (ho5.block (w.heap.size + 1) (by omega)).trans hx.out; have cx5 := hx5.cell 4 (v := v) rfl; have hs5 : Hid (w5.heap.size = wr.heap.size) := Lib.hid ho5.size; have hownA := Lib.hid (World.ownsRow.alloc (owns_turn hown.out (w' := w5) fun g hg => ho5.block g (by have := hvR.out g hg; omega)) (.cells #[.string ei] 9)); have hxA := Lib.hid (Blk.alloc hx5 (.cells #[.string ei] 9)); have cxA := hxA.out.cell 4 (v := v) rfl; have hnews := Lib.hid (one_new w5 ei); have hone := Lib.hid (one_cell ei); have hRA := Lib.hid (show w.heap.size + 2 ≤ (w5.alloc (.cells #[.string ei] 9)).heap.size by have := hs5.out; simp; omega); replace hq5 := Lib.hid hq5; replace ho5 := Lib.hid ho5; replace hx5 := Lib.hid hx5))
      all_goals
        have hs5' := hs5.out
        have hq10 := Lib.hid (RR.mid hq5.out ((hg.block b (by show b < (w5.alloc _).heap.size; simp; omega) (fun e => by have := hvR.out b e.symm; omega)).trans (Lib.alloc_old w5 _ b (by omega))))
        have hB5 : But b wr w5 := ⟨ho5.out.os, ho5.out.tape, ho5.out.output, Nat.le_of_eq ho5.out.size.symm, fun k _ hb => ho5.out.block k hb⟩
        have hM10 := Lib.hid (((hM.out.trans (Mid.but hB5 (by omega))).trans (Mid.but (But.below (b_alloc w5 (.cells #[.string ei] 9))) (by omega))).trans (Mid.grown (R := w.heap.size + 2) (b := b) (x := w.heap.size + 1) hg hvR.out hRA.out))
        have hx11 := Lib.hid (hx10.out.set 4 (.slice ao (k + 1) cap'))
        have hq11 := Lib.hid (RR.other hq10.out (w.heap.size + 1) 4 (.slice ao (k + 1) cap') (by omega))
        have hM11 := Lib.hid (hM10.out.trans (Mid.set (w.heap.size + 2) b (w.heap.size + 1) 4 w10 (.slice ao (k + 1) cap')))
        have ho11 := Lib.hid (owns_turn (w' := w10.setCell ⟨w.heap.size + 1, 4, none⟩ (.slice ao (k + 1) cap')) ho' fun g hg => Below.heap_setCell _ _ _ _ (by show g ≠ w.heap.size + 1; have := (ho'.lt g hg).1; omega))
        clear hx10 hq10 hM10 ho' hg hn cx10 fx10 cxA hxA hnews hone hownA hvR hvx cx hx5 hq5 hB5 hown hx hM hq cx5 hRA ho5 hT hs5 hs5' cb
        generalize w10.setCell ⟨w.heap.size + 1, 4, none⟩ (.slice ao (k + 1) cap') = w11 at *
        go_wp2
        exact ⟨⟨k + 1, .slice ao (k + 1) cap', by omega, by omega, by go_num, by rw [hnx.out]; exact hq11.out, hM11.out, hx11.out, by rw [hnx.out, List.map_append]; exact ho11.out⟩, by simp [intOf]; omega⟩
    · replace hq := Lib.hid hq
      replace hx := Lib.hid hx
      replace hown := Lib.hid hown
      replace hnx := Lib.hid hnx
      have hend0 : Hid ((k : Int) = n ∨ k = 9 ∨ q2.bad = true) := Lib.hid (by
        by_cases a1 : k < n
        · by_cases a2 : k < 9
          · right; right
            cases hb : q2.bad with
            | true => rfl
            | false => exact absurd ⟨a1, a2, hb⟩ hgo
          · right; left; omega
        · left; omega)
      by_cases a1 : k < n
      · have i1 : (k : Int) < n := by omega
        by_cases a2 : k < 9
        · have i2 : (k : Int) < 9 := by omega
          have hb2 : q2.bad = true := by
            cases hb : q2.bad with
            | true => rfl
            | false => exact absurd ⟨a1, a2, hb⟩ hgo
          rw [hb2] at cb
          replace hb2 := Lib.hid hb2
          clear hgo
          obtain ⟨pa, pc, pb, po, hv, hE, hec, heb⟩ := pars_of_row' (L := M) (by rw [hLl]; exact hown.out)
          rw [hLl] at hv
          subst hv
          replace hE := Lib.hid hE
          replace heb := Lib.hid heb
          have hBr := Lib.hid (but_of hBt.out hM.out (by omega) (by omega))
          have hrr : Hid (Blk wr w.heap.size #[.int .i64 0, .string ⟨#[]⟩, .slice none 0 0, .string ⟨#[]⟩, .slice none 0 0, .int .i64 0, .string ⟨#[]⟩] 25) := Lib.hid ((hM.out.block w.heap.size (by omega) (by omega) (by omega)).trans hr1.out)
          clear hown hM hr1 hnx
          by_cases h8 : 8 < n
          · have g8 : (8 : Int) < n := by omega
            have c2 := hq.out.c2
            have f2 := hq.out.f2
            have hqz := Lib.hid (hq.out.spoil (q' := ⟨q2.rest, true⟩) rfl)
            have hxz := Lib.hid (hx.out.other b 2 (.bool true) (by omega))
            have hrz := Lib.hid (hrr.out.other b 2 (.bool true) (by omega))
            have hEz := Lib.hid (hE.out.only (Only.setCell b 2 wr (.bool true)) (fun h => by have := heb.out h; omega))
            have hBz := Lib.hid (hBr.out.set_b (j := 2) (.bool true))
            clear hq hx hrr hE hBr hrd hend0
            go_upto_region 10 with (fail)
            generalize wr.setCell ⟨b, 2, none⟩ (.bool true) = w4 at *
            clear c2 f2
            go_wp2_with fail
            refine (Oct.RefRNum_calls b S ⟨q2.rest, true⟩ w4 hS hqz.out).mono ?_
            rintro e w5 ⟨rfl, hq5, ho5⟩
            generalize hnh : num ⟨q2.rest, true⟩ = rh at *
            have hrh := Oct.num_range ⟨q2.rest, true⟩
            rw [hnh] at hrh
            obtain ⟨ht, q5⟩ := rh
            dsimp only at hq5 hrh ⊢
            have hhw : wrap64 ht = ht := IntWalk.wrap64_in _ ⟨by omega, by omega⟩
            have hxA := Lib.hid (hxz.out.only ho5 (by omega))
            have hrA := Lib.hid (hrz.out.only ho5 (by omega))
            have hEA := Lib.hid (hEz.out.only ho5 (fun h => by have := heb.out h; omega))
            have hBA := Lib.hid (hBz.out.trans (But.only ho5))
            have c55 := hxA.out.cell 5 (v := .int .i64 0) rfl
            have f55 := hxA.out.frozen 5
            have hx6 := Lib.hid (hxA.out.set 5 (.int .i64 ht))
            have hr6 := Lib.hid (hrA.out.other (w.heap.size + 1) 5 (.int .i64 ht) (by omega))
            have hE6 := Lib.hid (hEA.out.only (Only.setCell (w.heap.size + 1) 5 w5 (.int .i64 ht)) (fun h => by have := heb.out h; omega))
            have hB6 := Lib.hid (hBA.out.set (k := w.heap.size + 1) (j := 5) (.int .i64 ht) (by omega))
            have hq6 := Lib.hid (RR.other hq5 (w.heap.size + 1) 5 (.int .i64 ht) (by omega))
            replace hnh := Lib.hid hnh
            clear hxz hrz hEz hBz hqz hxA hrA hEA hBA hq5 ho5
            go_wp2_with fail
            generalize w5.setCell ⟨w.heap.size + 1, 5, none⟩ (.int .i64 ht) = w6 at *
            refine (Oct.RefRText_calls b 1000 S q5 w6 hS hq6.out).mono ?_
            rintro e w7 ⟨rfl, hq7, ho7⟩
            generalize hnt : text q5 1000 = rn at *
            obtain ⟨nt, q7⟩ := rn
            dsimp only at hq7 ⊢
            have hxA := Lib.hid (hx6.out.only ho7 (by omega))
            have hrA := Lib.hid (hr6.out.only ho7 (by omega))
            have hEA := Lib.hid (hE6.out.only ho7 (fun h => by have := heb.out h; omega))
            have hBA := Lib.hid (hB6.out.trans (But.only ho7))
            have c76 := hxA.out.cell 6 (v := .string ⟨#[]⟩) rfl
            have f76 := hxA.out.frozen 6
            have hx8 : Hid (Blk (w7.setCell ⟨w.heap.size + 1, 6, none⟩ (.string nt)) (w.heap.size + 1) #[.int .i64 3, .string ⟨#[]⟩, .slice none 0 0, .string tr, .slice pa k pc, .int .i64 ht, .string nt] 25) := Lib.hid (hxA.out.set 6 (.string nt))
            have hr8 := Lib.hid (hrA.out.other (w.heap.size + 1) 6 (.string nt) (by omega))
            have hE8 := Lib.hid (hEA.out.only (Only.setCell (w.heap.size + 1) 6 w7 (.string nt)) (fun h => by have := heb.out h; omega))
            have hB8 := Lib.hid (hBA.out.set (k := w.heap.size + 1) (j := 6) (.string nt) (by omega))
            have hq8 := Lib.hid (RR.other hq7 (w.heap.size + 1) 6 (.string nt) (by omega))
            replace hnt := Lib.hid hnt
            clear hx6 hr6 hE6 hB6 hq6 hxA hrA hEA hBA hq7 ho7 c55 f55
            go_upto_region 12 with (fail)
            generalize w7.setCell ⟨w.heap.size + 1, 6, none⟩ (.string nt) = w8 at *
            clear c76 f76
            have d0 := hr8.out.cell 0 (v := .int .i64 0) rfl
            have d1 := hr8.out.cell 1 (v := .string ⟨#[]⟩) rfl
            have d2 := hr8.out.cell 2 (v := .slice none 0 0) rfl
            have d3 := hr8.out.cell 3 (v := .string ⟨#[]⟩) rfl
            have d4 := hr8.out.cell 4 (v := .slice none 0 0) rfl
            have d5 := hr8.out.cell 5 (v := .int .i64 0) rfl
            have d6 := hr8.out.cell 6 (v := .string ⟨#[]⟩) rfl
            have e0 := hr8.out.frozen 0
            have e1 := hr8.out.frozen 1
            have e2 := hr8.out.frozen 2
            have e3 := hr8.out.frozen 3
            have e4 := hr8.out.frozen 4
            have e5 := hr8.out.frozen 5
            have e6 := hr8.out.frozen 6
            have x0 := hx8.out.cell 0 (v := .int .i64 3) rfl
            have x1 := hx8.out.cell 1 (v := .string ⟨#[]⟩) rfl
            have x2 := hx8.out.cell 2 (v := .slice none 0 0) rfl
            have x3 := hx8.out.cell 3 (v := .string tr) rfl
            have x4 := hx8.out.cell 4 (v := .slice pa k pc) rfl
            have x5 := hx8.out.cell 5 (v := .int .i64 ht) rfl
            have x6 := hx8.out.cell 6 (v := .string nt) rfl
            go_wp2
            have hend : Blk (((((((w8.setCell ⟨w.heap.size, 0, none⟩ (.int .i64 3)).setCell ⟨w.heap.size, 1, none⟩ (.string ⟨#[]⟩)).setCell ⟨w.heap.size, 2, none⟩ (.slice none 0 0)).setCell ⟨w.heap.size, 3, none⟩ (.string tr)).setCell ⟨w.heap.size, 4, none⟩ (.slice pa k pc)).setCell ⟨w.heap.size, 5, none⟩ (.int .i64 ht)).setCell ⟨w.heap.size, 6, none⟩ (.string nt)) w.heap.size #[.int .i64 3, .string ⟨#[]⟩, .slice none 0 0, .string tr, .slice pa k pc, .int .i64 ht, .string nt] 25 := (Blk.set (Blk.set (Blk.set (Blk.set (Blk.set (Blk.set (Blk.set hr8.out 0 (.int .i64 3)) 1 (.string ⟨#[]⟩)) 2 (.slice none 0 0)) 3 (.string tr)) 4 (.slice pa k pc)) 5 (.int .i64 ht)) 6 (.string nt))
            exact ends_commit (M := M) (by rw [hLl]; exact hend) hE8.out hec heb.out hq8.out (commit_over h0.out hnum.out (by omega) (by have h1 := num_stays ⟨q2.rest, true⟩ rfl; rw [hnh.out] at h1; have h2 := text_stays q5 1000 h1; rw [hnt.out] at h2; exact h2)) hB8.out hbw (only7 w.heap.size w8 _ _ _ _ _ _ _) (by rw [hLl]; unfold maxLen; omega)
          · have g8 : ¬ (8 : Int) < n := by omega
            have hqz := hq
            have hxz := hx
            have hrz := hrr
            have hEz := hE
            have hBz := hBr
            clear hq hx hrr hE hBr
            go_wp2_with fail
            refine (Oct.RefRNum_calls b S q2 wr hS hqz.out).mono ?_
            rintro e w5 ⟨rfl, hq5, ho5⟩
            generalize hnh : num q2 = rh at *
            have hrh := Oct.num_range q2
            rw [hnh] at hrh
            obtain ⟨ht, q5⟩ := rh
            dsimp only at hq5 hrh ⊢
            have hhw : wrap64 ht = ht := IntWalk.wrap64_in _ ⟨by omega, by omega⟩
            have hxA := Lib.hid (hxz.out.only ho5 (by omega))
            have hrA := Lib.hid (hrz.out.only ho5 (by omega))
            have hEA := Lib.hid (hEz.out.only ho5 (fun h => by have := heb.out h; omega))
            have hBA := Lib.hid (hBz.out.trans (But.only ho5))
            have c55 := hxA.out.cell 5 (v := .int .i64 0) rfl
            have f55 := hxA.out.frozen 5
            have hx6 := Lib.hid (hxA.out.set 5 (.int .i64 ht))
            have hr6 := Lib.hid (hrA.out.other (w.heap.size + 1) 5 (.int .i64 ht) (by omega))
            have hE6 := Lib.hid (hEA.out.only (Only.setCell (w.heap.size + 1) 5 w5 (.int .i64 ht)) (fun h => by have := heb.out h; omega))
            have hB6 := Lib.hid (hBA.out.set (k := w.heap.size + 1) (j := 5) (.int .i64 ht) (by omega))
            have hq6 := Lib.hid (RR.other hq5 (w.heap.size + 1) 5 (.int .i64 ht) (by omega))
            replace hnh := Lib.hid hnh
            clear hxz hrz hEz hBz hqz hxA hrA hEA hBA hq5 ho5
            go_wp2_with fail
            generalize w5.setCell ⟨w.heap.size + 1, 5, none⟩ (.int .i64 ht) = w6 at *
            refine (Oct.RefRText_calls b 1000 S q5 w6 hS hq6.out).mono ?_
            rintro e w7 ⟨rfl, hq7, ho7⟩
            generalize hnt : text q5 1000 = rn at *
            obtain ⟨nt, q7⟩ := rn
            dsimp only at hq7 ⊢
            have hxA := Lib.hid (hx6.out.only ho7 (by omega))
            have hrA := Lib.hid (hr6.out.only ho7 (by omega))
            have hEA := Lib.hid (hE6.out.only ho7 (fun h => by have := heb.out h; omega))
            have hBA := Lib.hid (hB6.out.trans (But.only ho7))
            have c76 := hxA.out.cell 6 (v := .string ⟨#[]⟩) rfl
            have f76 := hxA.out.frozen 6
            have hx8 : Hid (Blk (w7.setCell ⟨w.heap.size + 1, 6, none⟩ (.string nt)) (w.heap.size + 1) #[.int .i64 3, .string ⟨#[]⟩, .slice none 0 0, .string tr, .slice pa k pc, .int .i64 ht, .string nt] 25) := Lib.hid (hxA.out.set 6 (.string nt))
            have hr8 := Lib.hid (hrA.out.other (w.heap.size + 1) 6 (.string nt) (by omega))
            have hE8 := Lib.hid (hEA.out.only (Only.setCell (w.heap.size + 1) 6 w7 (.string nt)) (fun h => by have := heb.out h; omega))
            have hB8 := Lib.hid (hBA.out.set (k := w.heap.size + 1) (j := 6) (.string nt) (by omega))
            have hq8 := Lib.hid (RR.other hq7 (w.heap.size + 1) 6 (.string nt) (by omega))
            replace hnt := Lib.hid hnt
            clear hx6 hr6 hE6 hB6 hq6 hxA hrA hEA hBA hq7 ho7 c55 f55
            go_upto_region 12 with (fail)
            generalize w7.setCell ⟨w.heap.size + 1, 6, none⟩ (.string nt) = w8 at *
            clear c76 f76
            have d0 := hr8.out.cell 0 (v := .int .i64 0) rfl
            have d1 := hr8.out.cell 1 (v := .string ⟨#[]⟩) rfl
            have d2 := hr8.out.cell 2 (v := .slice none 0 0) rfl
            have d3 := hr8.out.cell 3 (v := .string ⟨#[]⟩) rfl
            have d4 := hr8.out.cell 4 (v := .slice none 0 0) rfl
            have d5 := hr8.out.cell 5 (v := .int .i64 0) rfl
            have d6 := hr8.out.cell 6 (v := .string ⟨#[]⟩) rfl
            have e0 := hr8.out.frozen 0
            have e1 := hr8.out.frozen 1
            have e2 := hr8.out.frozen 2
            have e3 := hr8.out.frozen 3
            have e4 := hr8.out.frozen 4
            have e5 := hr8.out.frozen 5
            have e6 := hr8.out.frozen 6
            have x0 := hx8.out.cell 0 (v := .int .i64 3) rfl
            have x1 := hx8.out.cell 1 (v := .string ⟨#[]⟩) rfl
            have x2 := hx8.out.cell 2 (v := .slice none 0 0) rfl
            have x3 := hx8.out.cell 3 (v := .string tr) rfl
            have x4 := hx8.out.cell 4 (v := .slice pa k pc) rfl
            have x5 := hx8.out.cell 5 (v := .int .i64 ht) rfl
            have x6 := hx8.out.cell 6 (v := .string nt) rfl
            go_wp2
            have hend : Blk (((((((w8.setCell ⟨w.heap.size, 0, none⟩ (.int .i64 3)).setCell ⟨w.heap.size, 1, none⟩ (.string ⟨#[]⟩)).setCell ⟨w.heap.size, 2, none⟩ (.slice none 0 0)).setCell ⟨w.heap.size, 3, none⟩ (.string tr)).setCell ⟨w.heap.size, 4, none⟩ (.slice pa k pc)).setCell ⟨w.heap.size, 5, none⟩ (.int .i64 ht)).setCell ⟨w.heap.size, 6, none⟩ (.string nt)) w.heap.size #[.int .i64 3, .string ⟨#[]⟩, .slice none 0 0, .string tr, .slice pa k pc, .int .i64 ht, .string nt] 25 := (Blk.set (Blk.set (Blk.set (Blk.set (Blk.set (Blk.set (Blk.set hr8.out 0 (.int .i64 3)) 1 (.string ⟨#[]⟩)) 2 (.slice none 0 0)) 3 (.string tr)) 4 (.slice pa k pc)) 5 (.int .i64 ht)) 6 (.string nt))
            exact ends_commit (M := M) (by rw [hLl]; exact hend) hE8.out hec heb.out hq8.out (commit_end h0.out hnum.out hrd.out (by omega) hend0.out (by omega) hnh.out hnt.out) hB8.out hbw (only7 w.heap.size w8 _ _ _ _ _ _ _) (by rw [hLl]; unfold maxLen; omega)
        · obtain rfl : k = 9 := by omega
          clear hgo
          obtain ⟨pa, pc, pb, po, hv, hE, hec, heb⟩ := pars_of_row' (L := M) (by rw [hLl]; exact hown.out)
          rw [hLl] at hv
          subst hv
          replace hE := Lib.hid hE
          replace heb := Lib.hid heb
          have hBr := Lib.hid (but_of hBt.out hM.out (by omega) (by omega))
          have hrr : Hid (Blk wr w.heap.size #[.int .i64 0, .string ⟨#[]⟩, .slice none 0 0, .string ⟨#[]⟩, .slice none 0 0, .int .i64 0, .string ⟨#[]⟩] 25) := Lib.hid ((hM.out.block w.heap.size (by omega) (by omega) (by omega)).trans hr1.out)
          clear hown hM hr1 hnx
          by_cases h8 : 8 < n
          · have g8 : (8 : Int) < n := by omega
            have c2 := hq.out.c2
            have f2 := hq.out.f2
            have hqz := Lib.hid (hq.out.spoil (q' := ⟨q2.rest, true⟩) rfl)
            have hxz := Lib.hid (hx.out.other b 2 (.bool true) (by omega))
            have hrz := Lib.hid (hrr.out.other b 2 (.bool true) (by omega))
            have hEz := Lib.hid (hE.out.only (Only.setCell b 2 wr (.bool true)) (fun h => by have := heb.out h; omega))
            have hBz := Lib.hid (hBr.out.set_b (j := 2) (.bool true))
            clear hq hx hrr hE hBr hrd hend0 cb
            go_upto_region 10 with (fail)
            generalize wr.setCell ⟨b, 2, none⟩ (.bool true) = w4 at *
            clear c2 f2
            go_wp2_with fail
            refine (Oct.RefRNum_calls b S ⟨q2.rest, true⟩ w4 hS hqz.out).mono ?_
            rintro e w5 ⟨rfl, hq5, ho5⟩
            generalize hnh : num ⟨q2.rest, true⟩ = rh at *
            have hrh := Oct.num_range ⟨q2.rest, true⟩
            rw [hnh] at hrh
            obtain ⟨ht, q5⟩ := rh
            dsimp only at hq5 hrh ⊢
            have hhw : wrap64 ht = ht := IntWalk.wrap64_in _ ⟨by omega, by omega⟩
            have hxA := Lib.hid (hxz.out.only ho5 (by omega))
            have hrA := Lib.hid (hrz.out.only ho5 (by omega))
            have hEA := Lib.hid (hEz.out.only ho5 (fun h => by have := heb.out h; omega))
            have hBA := Lib.hid (hBz.out.trans (But.only ho5))
            have c55 := hxA.out.cell 5 (v := .int .i64 0) rfl
            have f55 := hxA.out.frozen 5
            have hx6 := Lib.hid (hxA.out.set 5 (.int .i64 ht))
            have hr6 := Lib.hid (hrA.out.other (w.heap.size + 1) 5 (.int .i64 ht) (by omega))
            have hE6 := Lib.hid (hEA.out.only (Only.setCell (w.heap.size + 1) 5 w5 (.int .i64 ht)) (fun h => by have := heb.out h; omega))
            have hB6 := Lib.hid (hBA.out.set (k := w.heap.size + 1) (j := 5) (.int .i64 ht) (by omega))
            have hq6 := Lib.hid (RR.other hq5 (w.heap.size + 1) 5 (.int .i64 ht) (by omega))
            replace hnh := Lib.hid hnh
            clear hxz hrz hEz hBz hqz hxA hrA hEA hBA hq5 ho5
            go_wp2_with fail
            generalize w5.setCell ⟨w.heap.size + 1, 5, none⟩ (.int .i64 ht) = w6 at *
            refine (Oct.RefRText_calls b 1000 S q5 w6 hS hq6.out).mono ?_
            rintro e w7 ⟨rfl, hq7, ho7⟩
            generalize hnt : text q5 1000 = rn at *
            obtain ⟨nt, q7⟩ := rn
            dsimp only at hq7 ⊢
            have hxA := Lib.hid (hx6.out.only ho7 (by omega))
            have hrA := Lib.hid (hr6.out.only ho7 (by omega))
            have hEA := Lib.hid (hE6.out.only ho7 (fun h => by have := heb.out h; omega))
            have hBA := Lib.hid (hB6.out.trans (But.only ho7))
            have c76 := hxA.out.cell 6 (v := .string ⟨#[]⟩) rfl
            have f76 := hxA.out.frozen 6
            have hx8 : Hid (Blk (w7.setCell ⟨w.heap.size + 1, 6, none⟩ (.string nt)) (w.heap.size + 1) #[.int .i64 3, .string ⟨#[]⟩, .slice none 0 0, .string tr, .slice pa 9 pc, .int .i64 ht, .string nt] 25) := Lib.hid (hxA.out.set 6 (.string nt))
            have hr8 := Lib.hid (hrA.out.other (w.heap.size + 1) 6 (.string nt) (by omega))
            have hE8 := Lib.hid (hEA.out.only (Only.setCell (w.heap.size + 1) 6 w7 (.string nt)) (fun h => by have := heb.out h; omega))
            have hB8 := Lib.hid (hBA.out.set (k := w.heap.size + 1) (j := 6) (.string nt) (by omega))
            have hq8 := Lib.hid (RR.other hq7 (w.heap.size + 1) 6 (.string nt) (by omega))
            replace hnt := Lib.hid hnt
            clear hx6 hr6 hE6 hB6 hq6 hxA hrA hEA hBA hq7 ho7 c55 f55
            go_upto_region 12 with (fail)
            generalize w7.setCell ⟨w.heap.size + 1, 6, none⟩ (.string nt) = w8 at *
            clear c76 f76
            have d0 := hr8.out.cell 0 (v := .int .i64 0) rfl
            have d1 := hr8.out.cell 1 (v := .string ⟨#[]⟩) rfl
            have d2 := hr8.out.cell 2 (v := .slice none 0 0) rfl
            have d3 := hr8.out.cell 3 (v := .string ⟨#[]⟩) rfl
            have d4 := hr8.out.cell 4 (v := .slice none 0 0) rfl
            have d5 := hr8.out.cell 5 (v := .int .i64 0) rfl
            have d6 := hr8.out.cell 6 (v := .string ⟨#[]⟩) rfl
            have e0 := hr8.out.frozen 0
            have e1 := hr8.out.frozen 1
            have e2 := hr8.out.frozen 2
            have e3 := hr8.out.frozen 3
            have e4 := hr8.out.frozen 4
            have e5 := hr8.out.frozen 5
            have e6 := hr8.out.frozen 6
            have x0 := hx8.out.cell 0 (v := .int .i64 3) rfl
            have x1 := hx8.out.cell 1 (v := .string ⟨#[]⟩) rfl
            have x2 := hx8.out.cell 2 (v := .slice none 0 0) rfl
            have x3 := hx8.out.cell 3 (v := .string tr) rfl
            have x4 := hx8.out.cell 4 (v := .slice pa 9 pc) rfl
            have x5 := hx8.out.cell 5 (v := .int .i64 ht) rfl
            have x6 := hx8.out.cell 6 (v := .string nt) rfl
            go_wp2
            have hend : Blk (((((((w8.setCell ⟨w.heap.size, 0, none⟩ (.int .i64 3)).setCell ⟨w.heap.size, 1, none⟩ (.string ⟨#[]⟩)).setCell ⟨w.heap.size, 2, none⟩ (.slice none 0 0)).setCell ⟨w.heap.size, 3, none⟩ (.string tr)).setCell ⟨w.heap.size, 4, none⟩ (.slice pa 9 pc)).setCell ⟨w.heap.size, 5, none⟩ (.int .i64 ht)).setCell ⟨w.heap.size, 6, none⟩ (.string nt)) w.heap.size #[.int .i64 3, .string ⟨#[]⟩, .slice none 0 0, .string tr, .slice pa 9 pc, .int .i64 ht, .string nt] 25 := (Blk.set (Blk.set (Blk.set (Blk.set (Blk.set (Blk.set (Blk.set hr8.out 0 (.int .i64 3)) 1 (.string ⟨#[]⟩)) 2 (.slice none 0 0)) 3 (.string tr)) 4 (.slice pa 9 pc)) 5 (.int .i64 ht)) 6 (.string nt))
            exact ends_commit (M := M) (by rw [hLl]; exact hend) hE8.out hec heb.out hq8.out (commit_over h0.out hnum.out (by omega) (by have h1 := num_stays ⟨q2.rest, true⟩ rfl; rw [hnh.out] at h1; have h2 := text_stays q5 1000 h1; rw [hnt.out] at h2; exact h2)) hB8.out hbw (only7 w.heap.size w8 _ _ _ _ _ _ _) (by rw [hLl]; unfold maxLen; omega)
          · omega
      · have i1 : decide ((k : Int) < n) = false := decide_eq_false (by omega)
        have i2 : (n : Int) ≤ k := by omega
        clear hgo
        obtain ⟨pa, pc, pb, po, hv, hE, hec, heb⟩ := pars_of_row' (L := M) (by rw [hLl]; exact hown.out)
        rw [hLl] at hv
        subst hv
        replace hE := Lib.hid hE
        replace heb := Lib.hid heb
        have hBr := Lib.hid (but_of hBt.out hM.out (by omega) (by omega))
        have hrr : Hid (Blk wr w.heap.size #[.int .i64 0, .string ⟨#[]⟩, .slice none 0 0, .string ⟨#[]⟩, .slice none 0 0, .int .i64 0, .string ⟨#[]⟩] 25) := Lib.hid ((hM.out.block w.heap.size (by omega) (by omega) (by omega)).trans hr1.out)
        clear hown hM hr1 hnx
        by_cases h8 : 8 < n
        · have g8 : (8 : Int) < n := by omega
          have c2 := hq.out.c2
          have f2 := hq.out.f2
          have hqz := Lib.hid (hq.out.spoil (q' := ⟨q2.rest, true⟩) rfl)
          have hxz := Lib.hid (hx.out.other b 2 (.bool true) (by omega))
          have hrz := Lib.hid (hrr.out.other b 2 (.bool true) (by omega))
          have hEz := Lib.hid (hE.out.only (Only.setCell b 2 wr (.bool true)) (fun h => by have := heb.out h; omega))
          have hBz := Lib.hid (hBr.out.set_b (j := 2) (.bool true))
          clear hq hx hrr hE hBr hrd hend0 cb
          go_upto_region 10 with (fail)
          generalize wr.setCell ⟨b, 2, none⟩ (.bool true) = w4 at *
          clear c2 f2
          go_wp2_with fail
          refine (Oct.RefRNum_calls b S ⟨q2.rest, true⟩ w4 hS hqz.out).mono ?_
          rintro e w5 ⟨rfl, hq5, ho5⟩
          generalize hnh : num ⟨q2.rest, true⟩ = rh at *
          have hrh := Oct.num_range ⟨q2.rest, true⟩
          rw [hnh] at hrh
          obtain ⟨ht, q5⟩ := rh
          dsimp only at hq5 hrh ⊢
          have hhw : wrap64 ht = ht := IntWalk.wrap64_in _ ⟨by omega, by omega⟩
          have hxA := Lib.hid (hxz.out.only ho5 (by omega))
          have hrA := Lib.hid (hrz.out.only ho5 (by omega))
          have hEA := Lib.hid (hEz.out.only ho5 (fun h => by have := heb.out h; omega))
          have hBA := Lib.hid (hBz.out.trans (But.only ho5))
          have c55 := hxA.out.cell 5 (v := .int .i64 0) rfl
          have f55 := hxA.out.frozen 5
          have hx6 := Lib.hid (hxA.out.set 5 (.int .i64 ht))
          have hr6 := Lib.hid (hrA.out.other (w.heap.size + 1) 5 (.int .i64 ht) (by omega))
          have hE6 := Lib.hid (hEA.out.only (Only.setCell (w.heap.size + 1) 5 w5 (.int .i64 ht)) (fun h => by have := heb.out h; omega))
          have hB6 := Lib.hid (hBA.out.set (k := w.heap.size + 1) (j := 5) (.int .i64 ht) (by omega))
          have hq6 := Lib.hid (RR.other hq5 (w.heap.size + 1) 5 (.int .i64 ht) (by omega))
          replace hnh := Lib.hid hnh
          clear hxz hrz hEz hBz hqz hxA hrA hEA hBA hq5 ho5
          go_wp2_with fail
          generalize w5.setCell ⟨w.heap.size + 1, 5, none⟩ (.int .i64 ht) = w6 at *
          refine (Oct.RefRText_calls b 1000 S q5 w6 hS hq6.out).mono ?_
          rintro e w7 ⟨rfl, hq7, ho7⟩
          generalize hnt : text q5 1000 = rn at *
          obtain ⟨nt, q7⟩ := rn
          dsimp only at hq7 ⊢
          have hxA := Lib.hid (hx6.out.only ho7 (by omega))
          have hrA := Lib.hid (hr6.out.only ho7 (by omega))
          have hEA := Lib.hid (hE6.out.only ho7 (fun h => by have := heb.out h; omega))
          have hBA := Lib.hid (hB6.out.trans (But.only ho7))
          have c76 := hxA.out.cell 6 (v := .string ⟨#[]⟩) rfl
          have f76 := hxA.out.frozen 6
          have hx8 : Hid (Blk (w7.setCell ⟨w.heap.size + 1, 6, none⟩ (.string nt)) (w.heap.size + 1) #[.int .i64 3, .string ⟨#[]⟩, .slice none 0 0, .string tr, .slice pa k pc, .int .i64 ht, .string nt] 25) := Lib.hid (hxA.out.set 6 (.string nt))
          have hr8 := Lib.hid (hrA.out.other (w.heap.size + 1) 6 (.string nt) (by omega))
          have hE8 := Lib.hid (hEA.out.only (Only.setCell (w.heap.size + 1) 6 w7 (.string nt)) (fun h => by have := heb.out h; omega))
          have hB8 := Lib.hid (hBA.out.set (k := w.heap.size + 1) (j := 6) (.string nt) (by omega))
          have hq8 := Lib.hid (RR.other hq7 (w.heap.size + 1) 6 (.string nt) (by omega))
          replace hnt := Lib.hid hnt
          clear hx6 hr6 hE6 hB6 hq6 hxA hrA hEA hBA hq7 ho7 c55 f55
          go_upto_region 12 with (fail)
          generalize w7.setCell ⟨w.heap.size + 1, 6, none⟩ (.string nt) = w8 at *
          clear c76 f76
          have d0 := hr8.out.cell 0 (v := .int .i64 0) rfl
          have d1 := hr8.out.cell 1 (v := .string ⟨#[]⟩) rfl
          have d2 := hr8.out.cell 2 (v := .slice none 0 0) rfl
          have d3 := hr8.out.cell 3 (v := .string ⟨#[]⟩) rfl
          have d4 := hr8.out.cell 4 (v := .slice none 0 0) rfl
          have d5 := hr8.out.cell 5 (v := .int .i64 0) rfl
          have d6 := hr8.out.cell 6 (v := .string ⟨#[]⟩) rfl
          have e0 := hr8.out.frozen 0
          have e1 := hr8.out.frozen 1
          have e2 := hr8.out.frozen 2
          have e3 := hr8.out.frozen 3
          have e4 := hr8.out.frozen 4
          have e5 := hr8.out.frozen 5
          have e6 := hr8.out.frozen 6
          have x0 := hx8.out.cell 0 (v := .int .i64 3) rfl
          have x1 := hx8.out.cell 1 (v := .string ⟨#[]⟩) rfl
          have x2 := hx8.out.cell 2 (v := .slice none 0 0) rfl
          have x3 := hx8.out.cell 3 (v := .string tr) rfl
          have x4 := hx8.out.cell 4 (v := .slice pa k pc) rfl
          have x5 := hx8.out.cell 5 (v := .int .i64 ht) rfl
          have x6 := hx8.out.cell 6 (v := .string nt) rfl
          go_wp2
          have hend : Blk (((((((w8.setCell ⟨w.heap.size, 0, none⟩ (.int .i64 3)).setCell ⟨w.heap.size, 1, none⟩ (.string ⟨#[]⟩)).setCell ⟨w.heap.size, 2, none⟩ (.slice none 0 0)).setCell ⟨w.heap.size, 3, none⟩ (.string tr)).setCell ⟨w.heap.size, 4, none⟩ (.slice pa k pc)).setCell ⟨w.heap.size, 5, none⟩ (.int .i64 ht)).setCell ⟨w.heap.size, 6, none⟩ (.string nt)) w.heap.size #[.int .i64 3, .string ⟨#[]⟩, .slice none 0 0, .string tr, .slice pa k pc, .int .i64 ht, .string nt] 25 := (Blk.set (Blk.set (Blk.set (Blk.set (Blk.set (Blk.set (Blk.set hr8.out 0 (.int .i64 3)) 1 (.string ⟨#[]⟩)) 2 (.slice none 0 0)) 3 (.string tr)) 4 (.slice pa k pc)) 5 (.int .i64 ht)) 6 (.string nt))
          exact ends_commit (M := M) (by rw [hLl]; exact hend) hE8.out hec heb.out hq8.out (commit_over h0.out hnum.out (by omega) (by have h1 := num_stays ⟨q2.rest, true⟩ rfl; rw [hnh.out] at h1; have h2 := text_stays q5 1000 h1; rw [hnt.out] at h2; exact h2)) hB8.out hbw (only7 w.heap.size w8 _ _ _ _ _ _ _) (by rw [hLl]; unfold maxLen; omega)
        · have g8 : ¬ (8 : Int) < n := by omega
          have hqz := hq
          have hxz := hx
          have hrz := hrr
          have hEz := hE
          have hBz := hBr
          clear hq hx hrr hE hBr cb
          go_wp2_with fail
          refine (Oct.RefRNum_calls b S q2 wr hS hqz.out).mono ?_
          rintro e w5 ⟨rfl, hq5, ho5⟩
          generalize hnh : num q2 = rh at *
          have hrh := Oct.num_range q2
          rw [hnh] at hrh
          obtain ⟨ht, q5⟩ := rh
          dsimp only at hq5 hrh ⊢
          have hhw : wrap64 ht = ht := IntWalk.wrap64_in _ ⟨by omega, by omega⟩
          have hxA := Lib.hid (hxz.out.only ho5 (by omega))
          have hrA := Lib.hid (hrz.out.only ho5 (by omega))
          have hEA := Lib.hid (hEz.out.only ho5 (fun h => by have := heb.out h; omega))
          have hBA := Lib.hid (hBz.out.trans (But.only ho5))
          have c55 := hxA.out.cell 5 (v := .int .i64 0) rfl
          have f55 := hxA.out.frozen 5
          have hx6 := Lib.hid (hxA.out.set 5 (.int .i64 ht))
          have hr6 := Lib.hid (hrA.out.other (w.heap.size + 1) 5 (.int .i64 ht) (by omega))
          have hE6 := Lib.hid (hEA.out.only (Only.setCell (w.heap.size + 1) 5 w5 (.int .i64 ht)) (fun h => by have := heb.out h; omega))
          have hB6 := Lib.hid (hBA.out.set (k := w.heap.size + 1) (j := 5) (.int .i64 ht) (by omega))
          have hq6 := Lib.hid (RR.other hq5 (w.heap.size + 1) 5 (.int .i64 ht) (by omega))
          replace hnh := Lib.hid hnh
          clear hxz hrz hEz hBz hqz hxA hrA hEA hBA hq5 ho5
          go_wp2_with fail
          generalize w5.setCell ⟨w.heap.size + 1, 5, none⟩ (.int .i64 ht) = w6 at *
          refine (Oct.RefRText_calls b 1000 S q5 w6 hS hq6.out).mono ?_
          rintro e w7 ⟨rfl, hq7, ho7⟩
          generalize hnt : text q5 1000 = rn at *
          obtain ⟨nt, q7⟩ := rn
          dsimp only at hq7 ⊢
          have hxA := Lib.hid (hx6.out.only ho7 (by omega))
          have hrA := Lib.hid (hr6.out.only ho7 (by omega))
          have hEA := Lib.hid (hE6.out.only ho7 (fun h => by have := heb.out h; omega))
          have hBA := Lib.hid (hB6.out.trans (But.only ho7))
          have c76 := hxA.out.cell 6 (v := .string ⟨#[]⟩) rfl
          have f76 := hxA.out.frozen 6
          have hx8 : Hid (Blk (w7.setCell ⟨w.heap.size + 1, 6, none⟩ (.string nt)) (w.heap.size + 1) #[.int .i64 3, .string ⟨#[]⟩, .slice none 0 0, .string tr, .slice pa k pc, .int .i64 ht, .string nt] 25) := Lib.hid (hxA.out.set 6 (.string nt))
          have hr8 := Lib.hid (hrA.out.other (w.heap.size + 1) 6 (.string nt) (by omega))
          have hE8 := Lib.hid (hEA.out.only (Only.setCell (w.heap.size + 1) 6 w7 (.string nt)) (fun h => by have := heb.out h; omega))
          have hB8 := Lib.hid (hBA.out.set (k := w.heap.size + 1) (j := 6) (.string nt) (by omega))
          have hq8 := Lib.hid (RR.other hq7 (w.heap.size + 1) 6 (.string nt) (by omega))
          replace hnt := Lib.hid hnt
          clear hx6 hr6 hE6 hB6 hq6 hxA hrA hEA hBA hq7 ho7 c55 f55
          go_upto_region 12 with (fail)
          generalize w7.setCell ⟨w.heap.size + 1, 6, none⟩ (.string nt) = w8 at *
          clear c76 f76
          have d0 := hr8.out.cell 0 (v := .int .i64 0) rfl
          have d1 := hr8.out.cell 1 (v := .string ⟨#[]⟩) rfl
          have d2 := hr8.out.cell 2 (v := .slice none 0 0) rfl
          have d3 := hr8.out.cell 3 (v := .string ⟨#[]⟩) rfl
          have d4 := hr8.out.cell 4 (v := .slice none 0 0) rfl
          have d5 := hr8.out.cell 5 (v := .int .i64 0) rfl
          have d6 := hr8.out.cell 6 (v := .string ⟨#[]⟩) rfl
          have e0 := hr8.out.frozen 0
          have e1 := hr8.out.frozen 1
          have e2 := hr8.out.frozen 2
          have e3 := hr8.out.frozen 3
          have e4 := hr8.out.frozen 4
          have e5 := hr8.out.frozen 5
          have e6 := hr8.out.frozen 6
          have x0 := hx8.out.cell 0 (v := .int .i64 3) rfl
          have x1 := hx8.out.cell 1 (v := .string ⟨#[]⟩) rfl
          have x2 := hx8.out.cell 2 (v := .slice none 0 0) rfl
          have x3 := hx8.out.cell 3 (v := .string tr) rfl
          have x4 := hx8.out.cell 4 (v := .slice pa k pc) rfl
          have x5 := hx8.out.cell 5 (v := .int .i64 ht) rfl
          have x6 := hx8.out.cell 6 (v := .string nt) rfl
          go_wp2
          have hend : Blk (((((((w8.setCell ⟨w.heap.size, 0, none⟩ (.int .i64 3)).setCell ⟨w.heap.size, 1, none⟩ (.string ⟨#[]⟩)).setCell ⟨w.heap.size, 2, none⟩ (.slice none 0 0)).setCell ⟨w.heap.size, 3, none⟩ (.string tr)).setCell ⟨w.heap.size, 4, none⟩ (.slice pa k pc)).setCell ⟨w.heap.size, 5, none⟩ (.int .i64 ht)).setCell ⟨w.heap.size, 6, none⟩ (.string nt)) w.heap.size #[.int .i64 3, .string ⟨#[]⟩, .slice none 0 0, .string tr, .slice pa k pc, .int .i64 ht, .string nt] 25 := (Blk.set (Blk.set (Blk.set (Blk.set (Blk.set (Blk.set (Blk.set hr8.out 0 (.int .i64 3)) 1 (.string ⟨#[]⟩)) 2 (.slice none 0 0)) 3 (.string tr)) 4 (.slice pa k pc)) 5 (.int .i64 ht)) 6 (.string nt))
          exact ends_commit (M := M) (by rw [hLl]; exact hend) hE8.out hec heb.out hq8.out (commit_end h0.out hnum.out hrd.out (by omega) hend0.out (by omega) hnh.out hnt.out) hB8.out hbw (only7 w.heap.size w8 _ _ _ _ _ _ _) (by rw [hLl]; unfold maxLen; omega)
end Go.Proofs.YtmbbnabongnojaaDoor.Ob
