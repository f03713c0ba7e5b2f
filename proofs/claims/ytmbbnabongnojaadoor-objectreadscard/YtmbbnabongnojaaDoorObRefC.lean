/-
  The reference's tree and commit read as the plain functions do, or go wrong where those go wrong. Conditions: texts of the form's reach.
-/
import Derived.Test.YtmbbnabongnojaaDoorRows
import Derived.Test.YtmbbnabongnojaaDoorObPlain
import Derived.Test.YtmbbnabongnojaaDoorObGood
import Derived.Test.YtmbbnabongnojaaDoorObWrite
import Derived.Test.YtmbbnabongnojaaDoorObOwn
import Derived.Test.YtmbbnabongnojaaDoorObRead
import Derived.Test.YtmbbnabongnojaaDoorObDec
import Derived.Test.YtmbbnabongnojaaDoorObHave
import Derived.Test.YtmbbnabongnojaaDoorObSame
import Derived.Test.YtmbbnabongnojaaDoorOctRefR
import Derived.Test.YtmbbnabongnojaaDoorOctKit
import Derived.WalkKit
import Derived.WalkSpells
import Derived.WalkLawsBesides
import Derived.ProofKit
import Derived.OpenShut
import Derived.Laws.BytesArg
import Derived.Laws.Externs
import Derived.Deep.QuietTactic
import Derived.BigQuiet
import Derived.BigRegion
import Derived.Lib.Hide
import Derived.IntWalk
import Derived.Deep.LoopGhost
import Derived.Laws.AppendOwn
import Derived.Deep.RegionLaw
namespace Go.Proofs.YtmbbnabongnojaaDoor.Ob
open Go Go.RowKit
open Oct (empty num4 St RR Only take num text byteAt)

theorem RR.other {w : World} {b : Nat} {S : ByteArray} {q : St} (h : RR w b S q) (k j : Nat) (v : Value) (hk : b ≠ k) : RR (w.setCell ⟨k, j, none⟩ v) b S q := h.only (Only.setCell k j w v) hk
theorem RR.mid {w w' : World} {b : Nat} {S : ByteArray} {q : St} (h : RR w b S q) (e : w'.heap[b]? = w.heap[b]?) : RR w' b S q := by
  obtain ⟨c0, ⟨k, c1, hk⟩, c2, f1, f2⟩ := h
  exact ⟨(World.cell?_of_block (w := w) (a := ⟨b, 0, none⟩) e).trans c0, ⟨k, (World.cell?_of_block (w := w) (a := ⟨b, 1, none⟩) e).trans c1, hk⟩, (World.cell?_of_block (w := w) (a := ⟨b, 2, none⟩) e).trans c2, (World.frozen?_of_block (w := w) (a := ⟨b, 1, none⟩) e).trans f1, (World.frozen?_of_block (w := w) (a := ⟨b, 2, none⟩) e).trans f2⟩
theorem RR.lt {w : World} {b : Nat} {S : ByteArray} {q : St} (h : RR w b S q) : b < w.heap.size := Oct.lt_of_cell h.c0
theorem RR.below {w w' : World} {b B : Nat} {S : ByteArray} {q : St} (h : RR w b S q) (t : Below B w w') (hb : b < B) : RR w' b S q := RR.mid h (t.block b hb)
/-- what was read up to a point where the reader went wrong, or all -/
structure TreeEnd (q : St) (L : List Ent) (q' : St) : Prop where
  yes : q'.bad = false → L = (rdTree q).1.ents ∧ q' = (rdTree q).2
  no : q'.bad = true → (rdTree q).2.bad = true
theorem tree_end {q q' : St} {L : List Ent} {n : Int} {q1 : St} {k : Nat} (hn : num q = (n, q1)) (hL : rdEnts k q1 = (L, q')) (hk : (k : Int) ≤ n) (hend : (k : Int) = n ∨ k = 257 ∨ q'.bad = true) (h256 : n ≤ 256) : TreeEnd q L q' := by
  have hup : rdUp q 256 = (n, q1) := by unfold rdUp; rw [hn]; dsimp only; rw [if_neg (by omega)]
  have ht : (rdTree q).1.ents = (rdEnts n.toNat q1).1 ∧ (rdTree q).2 = (rdEnts n.toNat q1).2 := by unfold rdTree; rw [hup]; exact ⟨rfl, rfl⟩
  have hbad : q'.bad = true → (rdTree q).2.bad = true := fun hb => by
    rw [ht.2]
    have := rdEnts_add k (n.toNat - k) q1 (by rw [hL]; exact hb)
    rw [show k + (n.toNat - k) = n.toNat by omega] at this
    exact this
  refine ⟨fun hb => ?_, hbad⟩
  have hkn : (k : Int) = n := by
    rcases hend with h | h | h
    · exact h
    · omega
    · rw [h] at hb; cases hb
  rw [ht.1, ht.2, ← hkn, Int.toNat_natCast, hL]
  exact ⟨rfl, rfl⟩
theorem tree_over {q q' : St} {L : List Ent} {n : Int} {q1 : St} (hn : num q = (n, q1)) (hb : q'.bad = true) (h256 : 256 < n) : TreeEnd q L q' := by
  refine ⟨fun h => (by rw [hb] at h; cases h), fun _ => ?_⟩
  have hup : rdUp q 256 = (0, ⟨q1.rest, true⟩) := by unfold rdUp; rw [hn]; dsimp only; rw [if_pos h256]
  unfold rdTree
  rw [hup]
  rfl
/-- what the reference's tree answers -/
def Trees (b : Nat) (S : ByteArray) (q : St) (w : World) (e : Ending) (w' : World) : Prop :=
  ∃ (L : List Ent) (q' : St) (ea : Option Addr) (ec eb eo : Nat), e = .returned (val ⟨2, empty, L, empty, [], 0, empty⟩ ea ec none 0) ∧ EntsAt w' ea eb eo L ∧ L.length ≤ ec ∧ (0 < L.length → w.heap.size ≤ eb) ∧ RR w' b S q' ∧ TreeEnd q L q' ∧ L.length ≤ maxLen
theorem take1_size (q : St) : (take q 1).1.size = 0 ∨ (take q 1).1.size = 1 := by
  by_cases h : (take q 1).2.bad = true
  · cases hb : q.bad with
    | true => rw [Oct.take_bad q 1 hb]; exact Or.inl rfl
    | false =>
      by_cases hn : (1 : Int) < 0 ∨ (q.rest.size : Int) < 1
      · rw [Oct.take_over q 1 hb hn]; exact Or.inl rfl
      · rw [Oct.take_ok q 1 hb (by omega) (by omega)] at h; cases h
  · have := (take_read (q := q) (n := 1) (by simpa using h)).2.2
    right; omega
theorem but_of {R b x : Nat} {w w2 wr : World} (h : But b w w2) (m : Mid R b x w2 wr) (hx : w.heap.size ≤ x) (hR : w.heap.size ≤ R) : But b w wr :=
  ⟨m.os.trans h.os, m.tape.trans h.tape, m.output.trans h.output, Nat.le_trans h.size m.size, fun k hk hb => (m.block k (by omega) hb (by omega)).trans (h.block k hk hb)⟩
theorem But.only_new {b r : Nat} {w wr w' : World} (h : But b w wr) (o : Only r wr w') (hr : w.heap.size ≤ r) : But b w w' :=
  ⟨o.os.trans h.os, o.tape.trans h.tape, o.output.trans h.output, by rw [o.size]; exact h.size, fun k hk hb => (o.block k (by omega)).trans (h.block k hk hb)⟩
theorem But.set_b {b j : Nat} {w wr : World} (h : But b w wr) (v : Value) : But b w (wr.setCell ⟨b, j, none⟩ v) :=
  ⟨h.os, h.tape, h.output, by simpa [World.setCell] using h.size, fun k hk hb => (Below.heap_setCell _ _ _ _ hb).trans (h.block k hk hb)⟩
/-- the reference's tree ends -/
theorem ends_tree {b : Nat} {S : ByteArray} {q q' : St} {w w4 w9 : World} {tmps : Array Value} {df : List Deferred} {L : List Ent} {ea : Option Addr} {ec eb eo : Nat} (hend : Blk w9 w.heap.size #[.int .i64 2, .string ⟨#[]⟩, .slice ea L.length ec, .string ⟨#[]⟩, .slice none 0 0, .int .i64 0, .string ⟨#[]⟩] 25)
    (hE : EntsAt w4 ea eb eo L) (hec : L.length ≤ ec) (heb : 0 < L.length → w.heap.size + 2 ≤ eb) (hq : RR w4 b S q') (hT : TreeEnd q L q') (h4 : But b w w4) (hb : b < w.heap.size) (ho : Only w.heap.size w4 w9) (hl : L.length ≤ maxLen)
    (hx : tmps.getD 2 undef = .pointer (some ⟨w.heap.size, 0, none⟩) := by rfl) (hdf : df = [] := by rfl) :
    bodyPost Tryd.prog Tryd.f53 (fun e w' => Trees b S q w e w' ∧ But b w w') .ret ⟨tmps, df⟩ w9 := by
  subst hdf
  exact bodyPost_ret (results_one Tryd.results53 hx (blk_range (cs := [.int .i64 2, .string ⟨#[]⟩, .slice ea L.length ec, .string ⟨#[]⟩, .slice none 0 0, .int .i64 0, .string ⟨#[]⟩]) hend) Tryd.underlying25 rfl sizeObject) rfl
    ⟨⟨L, q', ea, ec, eb, eo, rfl, hE.only ho (fun h => by have := heb h; omega), hec, fun h => by have := heb h; omega, hq.only ho (by omega), hT, hl⟩, h4.only_new ho (Nat.le_refl _)⟩
set_option maxRecDepth 100000 in
set_option maxHeartbeats 4000000 in
theorem Rtree_calls (b : Nat) (S : ByteArray) (q : St) (w : World) (hS : S.size ≤ 140737488351232) (hq : RR w b S q) :
    Calls Tryd.prog 53 #[.pointer (some ⟨b, 0, none⟩)] w fun e w' => Trees b S q w e w' ∧ But b w w' := by
  obtain ⟨i0, hi, hz0, hz1, hz2⟩ := info_parts infoEnt
  have hbw := RR.lt hq
  have hr2 := Lib.hid (new_two w (.cells #[.int .i64 0, .string ⟨#[]⟩, .slice none 0 0, .string ⟨#[]⟩, .slice none 0 0, .int .i64 0, .string ⟨#[]⟩] 25) #[.int .i64 2, .string ⟨#[]⟩, .slice none 0 0, .string ⟨#[]⟩, .slice none 0 0, .int .i64 0, .string ⟨#[]⟩] 25)
  have hr1 := Lib.hid ((Blk.new w #[.int .i64 0, .string ⟨#[]⟩, .slice none 0 0, .string ⟨#[]⟩, .slice none 0 0, .int .i64 0, .string ⟨#[]⟩] 25).alloc (.cells #[.int .i64 2, .string ⟨#[]⟩, .slice none 0 0, .string ⟨#[]⟩, .slice none 0 0, .int .i64 0, .string ⟨#[]⟩] 25))
  have hB := Lib.hid (below_next (b_alloc w (.cells #[.int .i64 0, .string ⟨#[]⟩, .slice none 0 0, .string ⟨#[]⟩, .slice none 0 0, .int .i64 0, .string ⟨#[]⟩] 25)) (b_alloc _ (.cells #[.int .i64 2, .string ⟨#[]⟩, .slice none 0 0, .string ⟨#[]⟩, .slice none 0 0, .int .i64 0, .string ⟨#[]⟩] 25)))
  have hsz : Hid (((w.alloc (.cells #[.int .i64 0, .string ⟨#[]⟩, .slice none 0 0, .string ⟨#[]⟩, .slice none 0 0, .int .i64 0, .string ⟨#[]⟩] 25)).alloc (.cells #[.int .i64 2, .string ⟨#[]⟩, .slice none 0 0, .string ⟨#[]⟩, .slice none 0 0, .int .i64 0, .string ⟨#[]⟩] 25)).heap.size = w.heap.size + 2) := Lib.hid (by simp)
  have hq1 := Lib.hid (RR.below hq hB.out hbw)
  have hrange := Oct.num_range q
  go_enter Tryd.func53, Tryd.ntmps53
  go_wp2_with fail
  generalize (w.alloc (.cells #[.int .i64 0, .string ⟨#[]⟩, .slice none 0 0, .string ⟨#[]⟩, .slice none 0 0, .int .i64 0, .string ⟨#[]⟩] 25)).alloc (.cells #[.int .i64 2, .string ⟨#[]⟩, .slice none 0 0, .string ⟨#[]⟩, .slice none 0 0, .int .i64 0, .string ⟨#[]⟩] 25) = w1 at *
  refine (Oct.RefRNum_calls b S q w1 hS hq1.out).mono ?_
  rintro e w2 ⟨rfl, hq2, ho2⟩
  generalize hnum : num q = rn at *
  obtain ⟨n, q1⟩ := rn
  dsimp only at hq2 hrange ⊢
  replace hnum := Lib.hid hnum
  replace hq2 := Lib.hid hq2
  replace hr2 := Lib.hid (hr2.out.only ho2 (by omega))
  replace hr1 := Lib.hid (hr1.out.only ho2 (by omega))
  have hBt := Lib.hid ((But.below (b := b) hB.out).trans (But.only ho2))
  have hs2 : w2.heap.size = w.heap.size + 2 := by rw [ho2.size]; exact hsz.out
  obtain ⟨n, rfl⟩ := Int.eq_ofNat_of_zero_le hrange.1
  have hnw : wrap64 (n : Int) = n := IntWalk.wrap64_in _ ⟨by omega, by omega⟩
  replace hs2 := Lib.hid hs2
  clear ho2 hq1 hB hsz hq
  go_wp2
  go_loopw [5, 6, 7] (fun i _ _ wr => ∃ (k : Nat) (v : Value), k ≤ n ∧ k ≤ 257 ∧ i = .int .i64 k ∧ RR wr b S (rdEnts k q1).2 ∧ Mid (w.heap.size + 2) b (w.heap.size + 1) w2 wr ∧ Blk wr (w.heap.size + 1) #[.int .i64 2, .string ⟨#[]⟩, v, .string ⟨#[]⟩, .slice none 0 0, .int .i64 0, .string ⟨#[]⟩] 25 ∧ wr.ownsRow (w.heap.size + 2) 47 3 v k (entsCells (rdEnts k q1).1)) (fun i _ _ _ => 257 - (intOf i).toNat)
  case atStart => exact ⟨0, .slice none 0 0, by omega, by omega, rfl, hq2.out, Mid.refl _ _ _ _, hr2.out, World.ownsRow_nil _ _ _ _⟩
  case round =>
    clear hq2 hr2
    obtain ⟨k, v, hk, hk257, rfl, hq, hM, hx, hown⟩ := hrel
    have hsr := hM.size
    have hs2' := hs2.out
    have hLl := rdEnts_len k q1
    have hnx : rdEnts (k + 1) q1 = ((rdEnts k q1).1 ++ [(rdEnt (rdEnts k q1).2).1], (rdEnt (rdEnts k q1).2).2) := rfl
    generalize hrd : rdEnts k q1 = rl at *
    obtain ⟨L, q2⟩ := rl
    dsimp only at hq hown hnx hLl
    replace hrd := Lib.hid hrd
    replace hnx := Lib.hid hnx
    replace hM := Lib.hid hM
    replace hx := Lib.hid hx
    replace hown := Lib.hid hown
    have cb := hq.c2
    replace hq := Lib.hid hq
    by_cases hgo : k < n ∧ k < 257 ∧ q2.bad = false
    · obtain ⟨g1, g2, g3⟩ := hgo
      have i1 : (k : Int) < n := by omega
      have i2 : (k : Int) < 257 := by omega
      rw [g3] at cb
      have hrb : wr.heap.size ≠ b := by omega
      have hq3 := Lib.hid (RR.below hq.out (b_alloc wr (.cells #[.string ⟨#[]⟩, .int .i64 0, .string ⟨#[]⟩] 47)) (RR.lt hq.out))
      have he3 := Lib.hid (Blk.new wr #[.string ⟨#[]⟩, .int .i64 0, .string ⟨#[]⟩] 47)
      have hB3 := Lib.hid (But.below (b := b) (b_alloc wr (.cells #[.string ⟨#[]⟩, .int .i64 0, .string ⟨#[]⟩] 47)))
      have htk := take1_size q2
      go_wp2_with fail
      generalize wr.alloc (.cells #[.string ⟨#[]⟩, .int .i64 0, .string ⟨#[]⟩] 47) = w3 at *
      refine (Oct.RefTake_calls b 1 S q2 w3 hS hq3.out).mono ?_
      rintro e w4 ⟨rfl, hq4, ho4⟩
      have hrk : rdKind q2 = (if (take q2 1).1.size = 0 then 0 else byteAt (take q2 1).1 0, (take q2 1).2) := rfl
      generalize take q2 1 = rt1 at *
      obtain ⟨ks, q4⟩ := rt1
      dsimp only at hq4 htk hrk ⊢
      have he4 := Lib.hid (he3.out.only ho4 hrb)
      have hB4 := Lib.hid (hB3.out.trans (But.only ho4))
      replace hq4 := Lib.hid hq4
      clear hq3 he3 hB3 ho4 cb
      -- the kind
      obtain ⟨ek, w5, hek, he5, hB5, hq5, hgo5⟩ : ∃ (ek : Int) (w5 : World), Hid (rdKind q2 = (ek, q4)) ∧ Hid (Blk w5 wr.heap.size #[.string ⟨#[]⟩, .int .i64 ek, .string ⟨#[]⟩] 47) ∧ Hid (But b wr w5) ∧ Hid (RR w5 b S q4) ∧ ((ks.size = 0 ∧ w5 = w4) ∨ (ks.size = 1 ∧ w5 = w4.setCell ⟨wr.heap.size, 1, none⟩ (.int .i64 ek) ∧ ek = byteAt ks 0)) := by
        rcases htk with h0 | h0
        · exact ⟨0, w4, Lib.hid (by rw [hrk, if_pos h0]), he4, hB4, hq4, Or.inl ⟨h0, rfl⟩⟩
        · exact ⟨byteAt ks 0, w4.setCell ⟨wr.heap.size, 1, none⟩ (.int .i64 (byteAt ks 0)), Lib.hid (by rw [hrk, if_neg (by omega)]), Lib.hid (he4.out.set 1 _), Lib.hid (hB4.out.set _ (Nat.le_refl _)), Lib.hid (RR.other hq4.out _ _ _ (Ne.symm hrb)), Or.inr ⟨h0, rfl, rfl⟩⟩
      clear hrk htk
      rcases hgo5 with ⟨h0, hw5⟩ | ⟨h0, hw5, hb0⟩
      case' inl =>
        subst hw5
        have s0 : ((ks.size : Int) == 1) = false := by simp only [beq_eq_false_iff_ne]; omega
        go_upto_region 10 with (fail)
        clear s0
      case' inr =>
        have s0 : ((ks.size : Int) == 1) = true := by simp only [beq_iff_eq]; omega
        have s1 : (0 : Int) < ks.size := by omega
        have i2' : 0 < ks.size := by omega
        have hwr : wrap64 ((ks[0]'i2').toNat : Int) = ek := by
          rw [IntWalk.wrap64_in _ ⟨by have := (ks[0]'i2').toNat_lt; omega, by have := (ks[0]'i2').toNat_lt; omega⟩, hb0]
          unfold Oct.byteAt
          have h2 : 0 < ks.data.toList.length := by rw [Oct.size_toList]; exact i2'
          rw [List.getD_eq_getElem?_getD, List.getElem?_eq_getElem h2]
          rfl
        have c41 := he4.out.cell 1 (v := .int .i64 0) rfl
        have f41 := he4.out.frozen 1
        replace hw5 := Lib.hid hw5
        replace hb0 := Lib.hid hb0
        replace hwr := Lib.hid hwr
        go_upto_region 10 with (fail)
        rw [hwr.out, ← hw5.out]
        clear s0 s1 hwr hw5 hb0 c41 f41
      all_goals
        clear he4 hB4 hq4
        go_wp2_with fail
        refine (Oct.RefRText_calls b 255 S q4 w5 hS hq5.out).mono ?_
        rintro e w6 ⟨rfl, hq6, ho6⟩
        generalize hrt : text q4 255 = rt at *
        obtain ⟨en, q6⟩ := rt
        dsimp only at hq6 ⊢
        have he6 := Lib.hid (he5.out.only ho6 hrb)
        have hB6 := Lib.hid (hB5.out.trans (But.only ho6))
        have c60 := he6.out.cell 0 (v := .string ⟨#[]⟩) rfl
        have f60 := he6.out.frozen 0
        have he7 := Lib.hid (he6.out.set 0 (.string en))
        have hB7 := Lib.hid (hB6.out.set (k := wr.heap.size) (j := 0) (.string en) (Nat.le_refl _))
        have hq7 := Lib.hid (RR.other hq6 wr.heap.size 0 (.string en) (Ne.symm hrb))
        clear he5 hB5 he6 hB6 ho6 hq6 hq5
        go_wp2_with fail
        generalize w6.setCell ⟨wr.heap.size, 0, none⟩ (.string en) = w7 at *
        refine (Oct.RefTake_calls b 32 S q6 w7 hS hq7.out).mono ?_
        rintro e w8 ⟨rfl, hq8, ho8⟩
        generalize hri : take q6 32 = ri at *
        obtain ⟨ei, q8⟩ := ri
        dsimp only at hq8 ⊢
        have he8 := Lib.hid (he7.out.only ho8 hrb)
        have hB8 := Lib.hid (hB7.out.trans (But.only ho8))
        have c82 := he8.out.cell 2 (v := .string ⟨#[]⟩) rfl
        have f82 := he8.out.frozen 2
        have he9 : Hid (Blk (w8.setCell ⟨wr.heap.size, 2, none⟩ (.string ei)) wr.heap.size #[.string en, .int .i64 ek, .string ei] 47) := Lib.hid (he8.out.set 2 (.string ei))
        have hB9 := Lib.hid (hB8.out.set (k := wr.heap.size) (j := 2) (.string ei) (Nat.le_refl _))
        have hq9 := Lib.hid (RR.other hq8 wr.heap.size 2 (.string ei) (Ne.symm hrb))
        replace hnx : Hid (rdEnts (k + 1) q1 = (L ++ [⟨en, ek, ei⟩], q8)) := Lib.hid (by
          rw [hnx.out]; unfold rdEnt; rw [hek.out]; dsimp only; rw [hrt]; dsimp only; rw [hri])
        clear he7 hB7 he8 hB8 ho8 hq8 hq7 c60 f60 hrt hri hek
        go_upto_region 12 with (fail)
        generalize w8.setCell ⟨wr.heap.size, 2, none⟩ (.string ei) = w9 at *
        clear c82 f82
        have ce0 := he9.out.cell 0 (v := .string en) rfl
        have ce1 := he9.out.cell 1 (v := .int .i64 ek) rfl
        have ce2 := he9.out.cell 2 (v := .string ei) rfl
        have hx9 : Hid (Blk w9 (w.heap.size + 1) #[.int .i64 2, .string ⟨#[]⟩, v, .string ⟨#[]⟩, .slice none 0 0, .int .i64 0, .string ⟨#[]⟩] 25) := Lib.hid ((hB9.out.block (w.heap.size + 1) hx.out.lt (by omega)).trans hx.out)
        have cx := hx9.out.cell 2 (v := v) rfl
        have hown9 := Lib.hid (owns_but hown.out hB9.out (by omega))
        have hs9 := hB9.out.size
        have hvR := Lib.hid (fun g hg => (hown9.out.lt g hg).1)
        have hvx : Hid (some (w.heap.size + 1) ≠ v.ownBlock) := Lib.hid fun e => by have := hvR.out (w.heap.size + 1) e.symm; omega
        have hnews : Hid (∀ (j : Nat) (u : Value), (entCells ⟨en, ek, ei⟩)[j]? = some u → (w9.alloc (.cells #[.string en, .int .i64 ek, .string ei] 47)).cell? ((⟨w9.heap.size, 0, none⟩ : Addr).add j) = some u) := Lib.hid fun j u hj => by
          rw [Addr.add_mid, Nat.zero_add]
          exact (Blk.new w9 _ _).cell j (by simpa [entCells] using hj)
        have hone : Hid (∀ u ∈ entCells ⟨en, ek, ei⟩, u.oneCell' = true) := Lib.hid fun u hu => by
          simp only [entCells, List.mem_cons, List.not_mem_nil, or_false] at hu
          rcases hu with rfl | rfl | rfl <;> rfl
        have hxA := Lib.hid (hx9.out.alloc (.cells #[.string en, .int .i64 ek, .string ei] 47))
        have hownA := hown9.out.alloc (.cells #[.string en, .int .i64 ek, .string ei] 47)
        have hRA : Hid (w.heap.size + 2 ≤ (w9.alloc (.cells #[.string en, .int .i64 ek, .string ei] 47)).heap.size) := Lib.hid (by simp; omega)
        clear he9
        go_wp2_with (at_builtin; refine wpList_append_own _ rfl _ _ 22 rfl (w.heap.size + 2) 47 i0 _ 3 40 Tryd.underlying22 hi hz0 hz1 hz2 rfl (by decide) v k (entsCells L) rfl hownA ⟨w9.heap.size, 0, none⟩ 1 1 (entCells ⟨en, ek, ei⟩) rfl rfl hnews.out hone.out ?c3 ?c4 hRA.out ?_)
        case c3 => unfold maxLen; omega
        case c4 => omega
        intro v' w10 ho' hg hn
        obtain ⟨ao, cap', rfl⟩ := owns_slice ho'
        have hx10 : Blk w10 (w.heap.size + 1) #[.int .i64 2, .string ⟨#[]⟩, v, .string ⟨#[]⟩, .slice none 0 0, .int .i64 0, .string ⟨#[]⟩] 25 := (hg.block (w.heap.size + 1) hxA.out.lt hvx.out).trans hxA.out
        have cx10 := hx10.cell 2 (v := v) rfl
        have fx10 := hx10.frozen 2
        have hq10 := Lib.hid (RR.mid hq9.out ((hg.block b (by show b < (w9.alloc _).heap.size; simp; omega) (fun e => by have := hvR.out b e.symm; omega)).trans (Lib.alloc_old w9 _ b (by omega))))
        have hM10 := Lib.hid (((hM.out.trans (Mid.but hB9.out (by omega))).trans (Mid.but (But.below (b_alloc w9 (.cells #[.string en, .int .i64 ek, .string ei] 47))) (by omega))).trans (Mid.grown (R := w.heap.size + 2) (b := b) (x := w.heap.size + 1) hg hvR.out hRA.out))
        have hx11 := Lib.hid (Blk.set hx10 2 (.slice ao (k + 1) cap'))
        have hq11 := Lib.hid (RR.other hq10.out (w.heap.size + 1) 2 (.slice ao (k + 1) cap') (by omega))
        have hM11 := Lib.hid (hM10.out.trans (Mid.set (w.heap.size + 2) b (w.heap.size + 1) 2 w10 (.slice ao (k + 1) cap')))
        rw [entsCells_snoc] at ho'
        have ho11 := Lib.hid (owns_turn (w' := w10.setCell ⟨w.heap.size + 1, 2, none⟩ (.slice ao (k + 1) cap')) ho' fun g hg => Below.heap_setCell _ _ _ _ (by show g ≠ w.heap.size + 1; have := (ho'.lt g hg).1; omega))
        clear hx10 hq10 hM10 ho' hg hn hxA hnews hone hown9 hvR hvx cx ce0 ce1 ce2 hx9 hq9 hB9 hown hx hM hq hownA
        go_wp2
        exact ⟨⟨k + 1, .slice ao (k + 1) cap', by omega, by omega, by go_num, by rw [hnx.out]; exact hq11.out, hM11.out, hx11.out, by rw [hnx.out]; exact ho11.out⟩, by simp [intOf]; omega⟩
    · have hend0 : Hid ((k : Int) = n ∨ k = 257 ∨ q2.bad = true) := Lib.hid (by
        by_cases a1 : k < n
        · by_cases a2 : k < 257
          · right; right
            cases hb : q2.bad with
            | true => rfl
            | false => exact absurd ⟨a1, a2, hb⟩ hgo
          · right; left; omega
        · left; omega)
      by_cases a1 : k < n
      · have i1 : (k : Int) < n := by omega
        by_cases a2 : k < 257
        · have i2 : (k : Int) < 257 := by omega
          have hb2 : q2.bad = true := by
            cases hb : q2.bad with
            | true => rfl
            | false => exact absurd ⟨a1, a2, hb⟩ hgo
          rw [hb2] at cb
          replace hb2 := Lib.hid hb2
          clear hgo
          obtain ⟨ea, ec, eb, eo, hv, hE, hec, heb⟩ := ents_of_row' (L := L) (by rw [hLl]; exact hown.out)
          rw [hLl] at hv
          subst hv
          replace hE := Lib.hid hE
          replace heb := Lib.hid heb
          have hBr := Lib.hid (but_of hBt.out hM.out (by omega) (by omega))
          have hrr : Hid (Blk wr w.heap.size #[.int .i64 0, .string ⟨#[]⟩, .slice none 0 0, .string ⟨#[]⟩, .slice none 0 0, .int .i64 0, .string ⟨#[]⟩] 25) := Lib.hid ((hM.out.block w.heap.size (by omega) (by omega) (by omega)).trans hr1.out)
          clear hown hM hr1 hnx
          by_cases h256 : 256 < n
          · have g256 : (256 : Int) < n := by omega
            have c2 := hq.out.c2
            have f2 := hq.out.f2
            have hqz := Lib.hid (hq.out.spoil (q' := ⟨q2.rest, true⟩) rfl)
            have hxz := Lib.hid (hx.out.other b 2 (.bool true) (by omega))
            have hrz := Lib.hid (hrr.out.other b 2 (.bool true) (by omega))
            have hEz := Lib.hid (hE.out.only (Only.setCell b 2 wr (.bool true)) (fun h => by have := heb.out h; omega))
            have hBz := Lib.hid (hBr.out.set_b (j := 2) (.bool true))
            have hT := Lib.hid (tree_over (L := L) (q' := ⟨q2.rest, true⟩) hnum.out rfl (by omega))
            clear hq hx hrr hE hBr hrd hend0 hnum
            go_upto_region 15 with (fail)
            generalize wr.setCell ⟨b, 2, none⟩ (.bool true) = w4 at *
            clear c2 f2
            have d0 := hrz.out.cell 0 (v := .int .i64 0) rfl
            have d1 := hrz.out.cell 1 (v := .string ⟨#[]⟩) rfl
            have d2 := hrz.out.cell 2 (v := .slice none 0 0) rfl
            have d3 := hrz.out.cell 3 (v := .string ⟨#[]⟩) rfl
            have d4 := hrz.out.cell 4 (v := .slice none 0 0) rfl
            have d5 := hrz.out.cell 5 (v := .int .i64 0) rfl
            have d6 := hrz.out.cell 6 (v := .string ⟨#[]⟩) rfl
            have e0 := hrz.out.frozen 0
            have e1 := hrz.out.frozen 1
            have e2 := hrz.out.frozen 2
            have e3 := hrz.out.frozen 3
            have e4 := hrz.out.frozen 4
            have e5 := hrz.out.frozen 5
            have e6 := hrz.out.frozen 6
            have x0 := hxz.out.cell 0 (v := .int .i64 2) rfl
            have x1 := hxz.out.cell 1 (v := .string ⟨#[]⟩) rfl
            have x2 := hxz.out.cell 2 (v := .slice ea k ec) rfl
            have x3 := hxz.out.cell 3 (v := .string ⟨#[]⟩) rfl
            have x4 := hxz.out.cell 4 (v := .slice none 0 0) rfl
            have x5 := hxz.out.cell 5 (v := .int .i64 0) rfl
            have x6 := hxz.out.cell 6 (v := .string ⟨#[]⟩) rfl
            go_wp2
            have hend : Blk (((((((w4.setCell ⟨w.heap.size, 0, none⟩ (.int .i64 2)).setCell ⟨w.heap.size, 1, none⟩ (.string ⟨#[]⟩)).setCell ⟨w.heap.size, 2, none⟩ (.slice ea k ec)).setCell ⟨w.heap.size, 3, none⟩ (.string ⟨#[]⟩)).setCell ⟨w.heap.size, 4, none⟩ (.slice none 0 0)).setCell ⟨w.heap.size, 5, none⟩ (.int .i64 0)).setCell ⟨w.heap.size, 6, none⟩ (.string ⟨#[]⟩)) w.heap.size #[.int .i64 2, .string ⟨#[]⟩, .slice ea k ec, .string ⟨#[]⟩, .slice none 0 0, .int .i64 0, .string ⟨#[]⟩] 25 := (Blk.set (Blk.set (Blk.set (Blk.set (Blk.set (Blk.set (Blk.set hrz.out 0 (.int .i64 2)) 1 (.string ⟨#[]⟩)) 2 (.slice ea k ec)) 3 (.string ⟨#[]⟩)) 4 (.slice none 0 0)) 5 (.int .i64 0)) 6 (.string ⟨#[]⟩))
            exact ends_tree (L := L) (by rw [hLl]; exact hend) hEz.out hec heb.out hqz.out hT.out hBz.out hbw (only7 w.heap.size w4 _ _ _ _ _ _ _) (by rw [hLl]; unfold maxLen; omega)
          · have g256 : ¬ (256 : Int) < n := by omega
            have hT := Lib.hid (tree_end hnum.out hrd.out (by omega) hend0.out (by omega))
            have hxz := hx
            have hrz := hrr
            clear hrd hend0 hnum hx hrr
            have d0 := hrz.out.cell 0 (v := .int .i64 0) rfl
            have d1 := hrz.out.cell 1 (v := .string ⟨#[]⟩) rfl
            have d2 := hrz.out.cell 2 (v := .slice none 0 0) rfl
            have d3 := hrz.out.cell 3 (v := .string ⟨#[]⟩) rfl
            have d4 := hrz.out.cell 4 (v := .slice none 0 0) rfl
            have d5 := hrz.out.cell 5 (v := .int .i64 0) rfl
            have d6 := hrz.out.cell 6 (v := .string ⟨#[]⟩) rfl
            have e0 := hrz.out.frozen 0
            have e1 := hrz.out.frozen 1
            have e2 := hrz.out.frozen 2
            have e3 := hrz.out.frozen 3
            have e4 := hrz.out.frozen 4
            have e5 := hrz.out.frozen 5
            have e6 := hrz.out.frozen 6
            have x0 := hxz.out.cell 0 (v := .int .i64 2) rfl
            have x1 := hxz.out.cell 1 (v := .string ⟨#[]⟩) rfl
            have x2 := hxz.out.cell 2 (v := .slice ea k ec) rfl
            have x3 := hxz.out.cell 3 (v := .string ⟨#[]⟩) rfl
            have x4 := hxz.out.cell 4 (v := .slice none 0 0) rfl
            have x5 := hxz.out.cell 5 (v := .int .i64 0) rfl
            have x6 := hxz.out.cell 6 (v := .string ⟨#[]⟩) rfl
            go_wp2
            have hend : Blk (((((((wr.setCell ⟨w.heap.size, 0, none⟩ (.int .i64 2)).setCell ⟨w.heap.size, 1, none⟩ (.string ⟨#[]⟩)).setCell ⟨w.heap.size, 2, none⟩ (.slice ea k ec)).setCell ⟨w.heap.size, 3, none⟩ (.string ⟨#[]⟩)).setCell ⟨w.heap.size, 4, none⟩ (.slice none 0 0)).setCell ⟨w.heap.size, 5, none⟩ (.int .i64 0)).setCell ⟨w.heap.size, 6, none⟩ (.string ⟨#[]⟩)) w.heap.size #[.int .i64 2, .string ⟨#[]⟩, .slice ea k ec, .string ⟨#[]⟩, .slice none 0 0, .int .i64 0, .string ⟨#[]⟩] 25 := (Blk.set (Blk.set (Blk.set (Blk.set (Blk.set (Blk.set (Blk.set hrz.out 0 (.int .i64 2)) 1 (.string ⟨#[]⟩)) 2 (.slice ea k ec)) 3 (.string ⟨#[]⟩)) 4 (.slice none 0 0)) 5 (.int .i64 0)) 6 (.string ⟨#[]⟩))
            exact ends_tree (L := L) (by rw [hLl]; exact hend) hE.out hec heb.out hq.out hT.out hBr.out hbw (only7 w.heap.size wr _ _ _ _ _ _ _) (by rw [hLl]; unfold maxLen; omega)
        · obtain rfl : k = 257 := by omega
          clear hgo
          obtain ⟨ea, ec, eb, eo, hv, hE, hec, heb⟩ := ents_of_row' (L := L) (by rw [hLl]; exact hown.out)
          rw [hLl] at hv
          subst hv
          replace hE := Lib.hid hE
          replace heb := Lib.hid heb
          have hBr := Lib.hid (but_of hBt.out hM.out (by omega) (by omega))
          have hrr : Hid (Blk wr w.heap.size #[.int .i64 0, .string ⟨#[]⟩, .slice none 0 0, .string ⟨#[]⟩, .slice none 0 0, .int .i64 0, .string ⟨#[]⟩] 25) := Lib.hid ((hM.out.block w.heap.size (by omega) (by omega) (by omega)).trans hr1.out)
          clear hown hM hr1 hnx
          by_cases h256 : 256 < n
          · have g256 : (256 : Int) < n := by omega
            have c2 := hq.out.c2
            have f2 := hq.out.f2
            have hqz := Lib.hid (hq.out.spoil (q' := ⟨q2.rest, true⟩) rfl)
            have hxz := Lib.hid (hx.out.other b 2 (.bool true) (by omega))
            have hrz := Lib.hid (hrr.out.other b 2 (.bool true) (by omega))
            have hEz := Lib.hid (hE.out.only (Only.setCell b 2 wr (.bool true)) (fun h => by have := heb.out h; omega))
            have hBz := Lib.hid (hBr.out.set_b (j := 2) (.bool true))
            have hT := Lib.hid (tree_over (L := L) (q' := ⟨q2.rest, true⟩) hnum.out rfl (by omega))
            clear hq hx hrr hE hBr hrd hend0 cb hnum
            go_upto_region 15 with (fail)
            generalize wr.setCell ⟨b, 2, none⟩ (.bool true) = w4 at *
            clear c2 f2
            have d0 := hrz.out.cell 0 (v := .int .i64 0) rfl
            have d1 := hrz.out.cell 1 (v := .string ⟨#[]⟩) rfl
            have d2 := hrz.out.cell 2 (v := .slice none 0 0) rfl
            have d3 := hrz.out.cell 3 (v := .string ⟨#[]⟩) rfl
            have d4 := hrz.out.cell 4 (v := .slice none 0 0) rfl
            have d5 := hrz.out.cell 5 (v := .int .i64 0) rfl
            have d6 := hrz.out.cell 6 (v := .string ⟨#[]⟩) rfl
            have e0 := hrz.out.frozen 0
            have e1 := hrz.out.frozen 1
            have e2 := hrz.out.frozen 2
            have e3 := hrz.out.frozen 3
            have e4 := hrz.out.frozen 4
            have e5 := hrz.out.frozen 5
            have e6 := hrz.out.frozen 6
            have x0 := hxz.out.cell 0 (v := .int .i64 2) rfl
            have x1 := hxz.out.cell 1 (v := .string ⟨#[]⟩) rfl
            have x2 := hxz.out.cell 2 (v := .slice ea 257 ec) rfl
            have x3 := hxz.out.cell 3 (v := .string ⟨#[]⟩) rfl
            have x4 := hxz.out.cell 4 (v := .slice none 0 0) rfl
            have x5 := hxz.out.cell 5 (v := .int .i64 0) rfl
            have x6 := hxz.out.cell 6 (v := .string ⟨#[]⟩) rfl
            go_wp2
            have hend : Blk (((((((w4.setCell ⟨w.heap.size, 0, none⟩ (.int .i64 2)).setCell ⟨w.heap.size, 1, none⟩ (.string ⟨#[]⟩)).setCell ⟨w.heap.size, 2, none⟩ (.slice ea 257 ec)).setCell ⟨w.heap.size, 3, none⟩ (.string ⟨#[]⟩)).setCell ⟨w.heap.size, 4, none⟩ (.slice none 0 0)).setCell ⟨w.heap.size, 5, none⟩ (.int .i64 0)).setCell ⟨w.heap.size, 6, none⟩ (.string ⟨#[]⟩)) w.heap.size #[.int .i64 2, .string ⟨#[]⟩, .slice ea 257 ec, .string ⟨#[]⟩, .slice none 0 0, .int .i64 0, .string ⟨#[]⟩] 25 := (Blk.set (Blk.set (Blk.set (Blk.set (Blk.set (Blk.set (Blk.set hrz.out 0 (.int .i64 2)) 1 (.string ⟨#[]⟩)) 2 (.slice ea 257 ec)) 3 (.string ⟨#[]⟩)) 4 (.slice none 0 0)) 5 (.int .i64 0)) 6 (.string ⟨#[]⟩))
            exact ends_tree (L := L) (by rw [hLl]; exact hend) hEz.out hec heb.out hqz.out hT.out hBz.out hbw (only7 w.heap.size w4 _ _ _ _ _ _ _) (by rw [hLl]; unfold maxLen; omega)
          · omega
      · have i1 : decide ((k : Int) < n) = false := decide_eq_false (by omega)
        have i2 : (n : Int) ≤ k := by omega
        clear hgo
        obtain ⟨ea, ec, eb, eo, hv, hE, hec, heb⟩ := ents_of_row' (L := L) (by rw [hLl]; exact hown.out)
        rw [hLl] at hv
        subst hv
        replace hE := Lib.hid hE
        replace heb := Lib.hid heb
        have hBr := Lib.hid (but_of hBt.out hM.out (by omega) (by omega))
        have hrr : Hid (Blk wr w.heap.size #[.int .i64 0, .string ⟨#[]⟩, .slice none 0 0, .string ⟨#[]⟩, .slice none 0 0, .int .i64 0, .string ⟨#[]⟩] 25) := Lib.hid ((hM.out.block w.heap.size (by omega) (by omega) (by omega)).trans hr1.out)
        clear hown hM hr1 hnx
        by_cases h256 : 256 < n
        · have g256 : (256 : Int) < n := by omega
          have c2 := hq.out.c2
          have f2 := hq.out.f2
          have hqz := Lib.hid (hq.out.spoil (q' := ⟨q2.rest, true⟩) rfl)
          have hxz := Lib.hid (hx.out.other b 2 (.bool true) (by omega))
          have hrz := Lib.hid (hrr.out.other b 2 (.bool true) (by omega))
          have hEz := Lib.hid (hE.out.only (Only.setCell b 2 wr (.bool true)) (fun h => by have := heb.out h; omega))
          have hBz := Lib.hid (hBr.out.set_b (j := 2) (.bool true))
          have hT := Lib.hid (tree_over (L := L) (q' := ⟨q2.rest, true⟩) hnum.out rfl (by omega))
          clear hq hx hrr hE hBr hrd hend0 cb hnum
          go_upto_region 15 with (fail)
          generalize wr.setCell ⟨b, 2, none⟩ (.bool true) = w4 at *
          clear c2 f2
          have d0 := hrz.out.cell 0 (v := .int .i64 0) rfl
          have d1 := hrz.out.cell 1 (v := .string ⟨#[]⟩) rfl
          have d2 := hrz.out.cell 2 (v := .slice none 0 0) rfl
          have d3 := hrz.out.cell 3 (v := .string ⟨#[]⟩) rfl
          have d4 := hrz.out.cell 4 (v := .slice none 0 0) rfl
          have d5 := hrz.out.cell 5 (v := .int .i64 0) rfl
          have d6 := hrz.out.cell 6 (v := .string ⟨#[]⟩) rfl
          have e0 := hrz.out.frozen 0
          have e1 := hrz.out.frozen 1
          have e2 := hrz.out.frozen 2
          have e3 := hrz.out.frozen 3
          have e4 := hrz.out.frozen 4
          have e5 := hrz.out.frozen 5
          have e6 := hrz.out.frozen 6
          have x0 := hxz.out.cell 0 (v := .int .i64 2) rfl
          have x1 := hxz.out.cell 1 (v := .string ⟨#[]⟩) rfl
          have x2 := hxz.out.cell 2 (v := .slice ea k ec) rfl
          have x3 := hxz.out.cell 3 (v := .string ⟨#[]⟩) rfl
          have x4 := hxz.out.cell 4 (v := .slice none 0 0) rfl
          have x5 := hxz.out.cell 5 (v := .int .i64 0) rfl
          have x6 := hxz.out.cell 6 (v := .string ⟨#[]⟩) rfl
          go_wp2
          have hend : Blk (((((((w4.setCell ⟨w.heap.size, 0, none⟩ (.int .i64 2)).setCell ⟨w.heap.size, 1, none⟩ (.string ⟨#[]⟩)).setCell ⟨w.heap.size, 2, none⟩ (.slice ea k ec)).setCell ⟨w.heap.size, 3, none⟩ (.string ⟨#[]⟩)).setCell ⟨w.heap.size, 4, none⟩ (.slice none 0 0)).setCell ⟨w.heap.size, 5, none⟩ (.int .i64 0)).setCell ⟨w.heap.size, 6, none⟩ (.string ⟨#[]⟩)) w.heap.size #[.int .i64 2, .string ⟨#[]⟩, .slice ea k ec, .string ⟨#[]⟩, .slice none 0 0, .int .i64 0, .string ⟨#[]⟩] 25 := (Blk.set (Blk.set (Blk.set (Blk.set (Blk.set (Blk.set (Blk.set hrz.out 0 (.int .i64 2)) 1 (.string ⟨#[]⟩)) 2 (.slice ea k ec)) 3 (.string ⟨#[]⟩)) 4 (.slice none 0 0)) 5 (.int .i64 0)) 6 (.string ⟨#[]⟩))
          exact ends_tree (L := L) (by rw [hLl]; exact hend) hEz.out hec heb.out hqz.out hT.out hBz.out hbw (only7 w.heap.size w4 _ _ _ _ _ _ _) (by rw [hLl]; unfold maxLen; omega)
        · have g256 : ¬ (256 : Int) < n := by omega
          have hT := Lib.hid (tree_end hnum.out hrd.out (by omega) hend0.out (by omega))
          have hxz := hx
          have hrz := hrr
          clear hrd hend0 cb hnum hx hrr
          have d0 := hrz.out.cell 0 (v := .int .i64 0) rfl
          have d1 := hrz.out.cell 1 (v := .string ⟨#[]⟩) rfl
          have d2 := hrz.out.cell 2 (v := .slice none 0 0) rfl
          have d3 := hrz.out.cell 3 (v := .string ⟨#[]⟩) rfl
          have d4 := hrz.out.cell 4 (v := .slice none 0 0) rfl
          have d5 := hrz.out.cell 5 (v := .int .i64 0) rfl
          have d6 := hrz.out.cell 6 (v := .string ⟨#[]⟩) rfl
          have e0 := hrz.out.frozen 0
          have e1 := hrz.out.frozen 1
          have e2 := hrz.out.frozen 2
          have e3 := hrz.out.frozen 3
          have e4 := hrz.out.frozen 4
          have e5 := hrz.out.frozen 5
          have e6 := hrz.out.frozen 6
          have x0 := hxz.out.cell 0 (v := .int .i64 2) rfl
          have x1 := hxz.out.cell 1 (v := .string ⟨#[]⟩) rfl
          have x2 := hxz.out.cell 2 (v := .slice ea k ec) rfl
          have x3 := hxz.out.cell 3 (v := .string ⟨#[]⟩) rfl
          have x4 := hxz.out.cell 4 (v := .slice none 0 0) rfl
          have x5 := hxz.out.cell 5 (v := .int .i64 0) rfl
          have x6 := hxz.out.cell 6 (v := .string ⟨#[]⟩) rfl
          go_wp2
          have hend : Blk (((((((wr.setCell ⟨w.heap.size, 0, none⟩ (.int .i64 2)).setCell ⟨w.heap.size, 1, none⟩ (.string ⟨#[]⟩)).setCell ⟨w.heap.size, 2, none⟩ (.slice ea k ec)).setCell ⟨w.heap.size, 3, none⟩ (.string ⟨#[]⟩)).setCell ⟨w.heap.size, 4, none⟩ (.slice none 0 0)).setCell ⟨w.heap.size, 5, none⟩ (.int .i64 0)).setCell ⟨w.heap.size, 6, none⟩ (.string ⟨#[]⟩)) w.heap.size #[.int .i64 2, .string ⟨#[]⟩, .slice ea k ec, .string ⟨#[]⟩, .slice none 0 0, .int .i64 0, .string ⟨#[]⟩] 25 := (Blk.set (Blk.set (Blk.set (Blk.set (Blk.set (Blk.set (Blk.set hrz.out 0 (.int .i64 2)) 1 (.string ⟨#[]⟩)) 2 (.slice ea k ec)) 3 (.string ⟨#[]⟩)) 4 (.slice none 0 0)) 5 (.int .i64 0)) 6 (.string ⟨#[]⟩))
          exact ends_tree (L := L) (by rw [hLl]; exact hend) hE.out hec heb.out hq.out hT.out hBr.out hbw (only7 w.heap.size wr _ _ _ _ _ _ _) (by rw [hLl]; unfold maxLen; omega)
end Go.Proofs.YtmbbnabongnojaaDoor.Ob
