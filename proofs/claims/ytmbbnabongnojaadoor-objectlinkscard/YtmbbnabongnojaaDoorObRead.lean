/-
  What Decode reads part by part: readKind, readUpTo, readTree and readCommit. Conditions: the reader and the object lie in memory of the call's own.
-/
import Derived.Test.YtmbbnabongnojaaDoorRows
import Derived.Test.YtmbbnabongnojaaDoorObPlain
import Derived.Test.YtmbbnabongnojaaDoorObGood
import Derived.Test.YtmbbnabongnojaaDoorObWrite
import Derived.Test.YtmbbnabongnojaaDoorObOwn
import Derived.Test.YtmbbnabongnojaaDoorOctCalls
import Derived.Test.YtmbbnabongnojaaDoorOctKit
import Derived.WalkKit
import Derived.WalkSpells
import Derived.WalkLawsBesides
import Derived.ProofKit
import Derived.OpenShut
import Derived.Laws.BytesArg
import Derived.Laws.Externs
import Derived.Deep.QuietTactic
import Derived.BigQuiet
import Derived.BigRegion
import Derived.Lib.Hide
import Derived.Lib.Bytealg
import Derived.IntWalk
import Derived.Deep.LoopGhost
import Derived.Laws.OwnMore
import Derived.Deep.OwnRows
import Derived.Deep.Draws
import Derived.Deep.MidRow
import Derived.Laws.AppendOwn
import Derived.Deep.RegionHeld3
import Derived.Deep.RegionLaw
namespace Go.Proofs.YtmbbnabongnojaaDoor.Ob
open Go Go.RowKit
open Oct (empty num4 St Rd Only take num text byteAt)

set_option maxRecDepth 100000 in
theorem readKind_calls (b : Nat) (q : St) (w : World) (h : Rd w b q) :
    Calls Tryd.prog 46 #[.pointer (some ⟨b, 0, none⟩)] w fun e w' => e = .returned (.int .i64 (rdKind q).1) ∧ Rd w' b (rdKind q).2 ∧ Only b w w' := by
  have hT := Lib.hid (Oct.Take_calls b 1 q w h)
  have hr : rdKind q = (if (take q 1).1.size = 0 then 0 else byteAt (take q 1).1 0, (take q 1).2) := rfl
  rw [hr]
  clear hr
  generalize take q 1 = r at *
  obtain ⟨s, q'⟩ := r
  dsimp only at hT ⊢
  by_cases hs : s.size = 0
  · rw [if_pos hs]
    have he : s = empty := Oct.ext_toList (List.length_eq_zero_iff.1 (by rw [Oct.size_toList]; exact hs))
    subst he
    go_enter Tryd.func46, Tryd.ntmps46
    go_wp2_with fail
    refine hT.out.mono ?_
    rintro e w1 ⟨rfl, h1, ho⟩
    replace h1 := Lib.hid h1
    replace ho := Lib.hid ho
    go_wp2
    go_ret
    exact ⟨rfl, h1.out, ho.out⟩
  · rw [if_neg hs]
    have he : s.toList.isEmpty = false := by
      rw [ByteArray.toList_eq]
      cases hl : s.data.toList with
      | nil => exact absurd (by rw [← Oct.size_toList, hl]; rfl) hs
      | cons a l => rfl
    have i1 : (0 : Int) < s.size := by omega
    have i2 : 0 < s.size := by omega
    have hwr : wrap64 ((s[0]'i2).toNat : Int) = ((s[0]'i2).toNat : Int) := IntWalk.wrap64_in _ ⟨by have := (s[0]'i2).toNat_lt; omega, by have := (s[0]'i2).toNat_lt; omega⟩
    have hby : Hid (((s[0]'i2).toNat : Int) = byteAt s 0) := Lib.hid (by
      unfold Oct.byteAt
      have h2 : 0 < s.data.toList.length := by rw [Oct.size_toList]; exact i2
      rw [List.getD_eq_getElem?_getD, List.getElem?_eq_getElem h2]
      rfl)
    replace hs := Lib.hid hs
    go_enter Tryd.func46, Tryd.ntmps46
    go_wp2_with fail
    refine hT.out.mono ?_
    rintro e w1 ⟨rfl, h1, ho⟩
    replace h1 := Lib.hid h1
    replace ho := Lib.hid ho
    go_wp2
    go_ret
    exact ⟨congrArg (fun z => Ending.returned (Value.int .i64 z)) (hwr.trans hby.out), h1.out, ho.out⟩
set_option maxRecDepth 100000 in
theorem readUpTo_calls (b : Nat) (most : Int) (q : St) (w : World) (h : Rd w b q) :
    Calls Tryd.prog 71 #[.pointer (some ⟨b, 0, none⟩), .int .u32 most] w fun e w' => e = .returned (.int .i64 (rdUp q most).1) ∧ Rd w' b (rdUp q most).2 ∧ Only b w w' := by
  have hT := Lib.hid (Oct.RNum_calls b q w h)
  have hr : rdUp q most = if most < (num q).1 then (0, ⟨(num q).2.rest, true⟩) else num q := rfl
  have hrange := Oct.num_range q
  rw [hr]
  clear hr
  generalize num q = r at *
  obtain ⟨n, q'⟩ := r
  dsimp only at hT hrange ⊢
  by_cases hs : most < n
  · rw [if_pos hs]
    go_enter Tryd.func71, Tryd.ntmps71
    go_wp2_with fail
    refine hT.out.mono ?_
    rintro e w1 ⟨rfl, h1, ho⟩
    replace h1 := Lib.hid h1
    replace ho := Lib.hid ho
    go_wp2_with fail
    refine (Oct.Spoil_calls b q' w1 h1.out).mono ?_
    rintro e w2 ⟨rfl, rfl⟩
    go_wp2
    go_ret
    exact ⟨rfl, h1.out.set1 true, ho.out.trans (Only.setCell _ _ _ _)⟩
  · rw [if_neg hs]
    go_enter Tryd.func71, Tryd.ntmps71
    go_wp2_with fail
    refine hT.out.mono ?_
    rintro e w1 ⟨rfl, h1, ho⟩
    replace h1 := Lib.hid h1
    replace ho := Lib.hid ho
    go_wp2
    go_ret
    exact ⟨rfl, h1.out, ho.out⟩
theorem rdEnts_len (n : Nat) (q : St) : (rdEnts n q).1.length = n := by
  induction n with
  | zero => rfl
  | succ n ih => rw [rdEnts]; simp [ih]
theorem rdPars_len (n : Nat) (q : St) : (rdPars n q).1.length = n := by
  induction n with
  | zero => rfl
  | succ n ih => rw [rdPars]; simp [ih]
theorem rdUp_range (q : St) (most : Int) (h : 0 ≤ most) : 0 ≤ (rdUp q most).1 ∧ (rdUp q most).1 ≤ most := by
  have := Oct.num_range q
  unfold rdUp
  split
  · exact ⟨Int.le_refl _, h⟩
  · exact ⟨this.1, by omega⟩
theorem Rd.other {w : World} {b : Nat} {q : St} (h : Rd w b q) (k j : Nat) (v : Value) (hk : b ≠ k) : Rd (w.setCell ⟨k, j, none⟩ v) b q := h.only (Only.setCell k j w v) hk
theorem Rd.mid {w w' : World} {b : Nat} {q : St} (h : Rd w b q) (e : w'.heap[b]? = w.heap[b]?) : Rd w' b q :=
  ⟨(World.cell?_of_block (w := w) (a := ⟨b, 0, none⟩) e).trans h.c0, (World.cell?_of_block (w := w) (a := ⟨b, 1, none⟩) e).trans h.c1, (World.frozen?_of_block (w := w) (a := ⟨b, 0, none⟩) e).trans h.f0, (World.frozen?_of_block (w := w) (a := ⟨b, 1, none⟩) e).trans h.f1⟩
theorem Rd.lt {w : World} {b : Nat} {q : St} (h : Rd w b q) : b < w.heap.size := Oct.lt_of_cell h.c0
theorem grown_undrew {w w' : World} {row : Option Nat} (h : w.drew.grownBy w' row) : w.grownBy w' row := ⟨h.os, h.tape, h.output, h.size, h.block⟩
theorem owns_slice {w : World} {base : Nat} {e : TypeId} {size n : Nat} {v : Value} {xs : List Value} (h : w.ownsRow base e size v n xs) : ∃ a cap, v = .slice a n cap := by
  rcases h.2 with ⟨hv, h0⟩ | ⟨g, cap, cur, hv, _⟩
  · exact ⟨none, 0, by rw [hv, h0]⟩
  · exact ⟨_, _, hv⟩
set_option maxRecDepth 100000 in
set_option maxHeartbeats 2000000 in
theorem readTree_calls (R b x : Nat) (q : St) (kd h : Int) (d t n : ByteArray) (vp : Value) (w : World) (hq : Rd w b q) (hx : Blk w x #[.int .i64 kd, .string d, .slice none 0 0, .string t, vp, .int .i64 h, .string n] 25) (hbR : b < R) (hxR : x < R) (hbx : b ≠ x) (hR : R ≤ w.heap.size) :
    Calls Tryd.prog 49 #[.pointer (some ⟨b, 0, none⟩), .pointer (some ⟨x, 0, none⟩)] w fun e w' => e = .returned (.tuple #[]) ∧ Rd w' b (rdEnts (rdUp q 256).1.toNat (rdUp q 256).2).2 ∧ Mid R b x w w' ∧
      ∃ v, Blk w' x #[.int .i64 kd, .string d, v, .string t, vp, .int .i64 h, .string n] 25 ∧ w'.ownsRow R 47 3 v (rdEnts (rdUp q 256).1.toNat (rdUp q 256).2).1.length (entsCells (rdEnts (rdUp q 256).1.toNat (rdUp q 256).2).1) := by
  obtain ⟨i0, hi, hz0, hz1, hz2⟩ := info_parts infoEnt
  have hU := Lib.hid (readUpTo_calls b 256 q w hq)
  have hrange := rdUp_range q 256 (by decide)
  generalize rdUp q 256 = r at *
  obtain ⟨m, q1⟩ := r
  dsimp only at hU hrange ⊢
  obtain ⟨m, rfl⟩ := Int.eq_ofNat_of_zero_le hrange.1
  have hm : m ≤ 256 := by omega
  clear hrange hq
  rw [Int.toNat_natCast]
  replace hx := Lib.hid hx
  go_enter Tryd.func49, Tryd.ntmps49
  go_wp2_with fail
  refine hU.out.mono ?_
  rintro e w1 ⟨rfl, hq1, ho⟩
  have hx1 := Lib.hid (hx.out.only ho (Ne.symm hbx))
  have hM1 := Lib.hid (Mid.but (R := R) (x := x) (But.only ho) hR)
  replace hq1 := Lib.hid hq1
  have hs1 := ho.size
  clear hU hx ho
  go_wp2
  go_loopw [4, 7] (fun _ i wr => ∃ (k : Nat) (v : Value), k ≤ m ∧ i = .int .i64 k ∧ Rd wr b (rdEnts k q1).2 ∧ Mid R b x w wr ∧ Blk wr x #[.int .i64 kd, .string d, v, .string t, vp, .int .i64 h, .string n] 25 ∧ wr.ownsRow R 47 3 v k (entsCells (rdEnts k q1).1)) (fun _ i _ => m - (intOf i).toNat)
  case atStart => exact ⟨0, .slice none 0 0, by omega, rfl, hq1.out, hM1.out, hx1.out, World.ownsRow_nil _ _ _ _⟩
  case round =>
    clear hq1 hM1 hx1
    obtain ⟨k, v, hk, rfl, hq, hM, hx, hown⟩ := hrel
    by_cases hlt : k < m
    · have i1 : (k : Int) < m := by omega
      have i0' : 0 ≤ (k : Int) := by omega
      have hnx : rdEnts (k + 1) q1 = ((rdEnts k q1).1 ++ [(rdEnt (rdEnts k q1).2).1], (rdEnt (rdEnts k q1).2).2) := rfl
      generalize rdEnts k q1 = L at *
      obtain ⟨L, q2⟩ := L
      dsimp only at hq hown hnx
      have hsr := hM.size
      have hRr : R ≤ wr.heap.size := by omega
      have hrb : wr.heap.size ≠ b := by omega
      -- the entry's block
      have hq3 := Lib.hid (hq.below (b_alloc wr (.cells #[.string ⟨#[]⟩, .int .i64 0, .string ⟨#[]⟩] 47)) (by omega))
      have he3 := Lib.hid (Blk.new wr #[.string ⟨#[]⟩, .int .i64 0, .string ⟨#[]⟩] 47)
      have hB3 := Lib.hid (But.below (b := b) (b_alloc wr (.cells #[.string ⟨#[]⟩, .int .i64 0, .string ⟨#[]⟩] 47)))
      replace hq := Lib.hid hq
      replace hM := Lib.hid hM
      replace hx := Lib.hid hx
      replace hown := Lib.hid hown
      replace hnx := Lib.hid hnx
      go_wp2_with fail
      generalize wr.alloc (.cells #[.string ⟨#[]⟩, .int .i64 0, .string ⟨#[]⟩] 47) = w3 at *
      refine (readKind_calls b q2 w3 hq3.out).mono ?_
      rintro e w4 ⟨rfl, hq4, ho4⟩
      generalize hrk : rdKind q2 = rk at *
      obtain ⟨ek, q4⟩ := rk
      dsimp only at hq4 ⊢
      have he4 := Lib.hid (he3.out.only ho4 hrb)
      have hB4 := Lib.hid (hB3.out.trans (But.only ho4))
      have c41 := he4.out.cell 1 (v := .int .i64 0) rfl
      have f41 := he4.out.frozen 1
      have he5 := Lib.hid (he4.out.set 1 (.int .i64 ek))
      have hB5 := Lib.hid (hB4.out.set (k := wr.heap.size) (j := 1) (.int .i64 ek) (Nat.le_refl _))
      have hq5 := Lib.hid (Rd.other hq4 wr.heap.size 1 (.int .i64 ek) (Ne.symm hrb))
      clear hq3 he3 hB3 he4 hB4 ho4 hq4
      go_wp2_with fail
      generalize w4.setCell ⟨wr.heap.size, 1, none⟩ (.int .i64 ek) = w5 at *
      refine (Oct.RText_calls b 255 q4 w5 hq5.out).mono ?_
      rintro e w6 ⟨rfl, hq6, ho6⟩
      generalize hrt : Oct.text q4 255 = rt at *
      obtain ⟨en, q6⟩ := rt
      dsimp only at hq6 ⊢
      have he6 := Lib.hid (he5.out.only ho6 hrb)
      have hB6 := Lib.hid (hB5.out.trans (But.only ho6))
      have c60 := he6.out.cell 0 (v := .string ⟨#[]⟩) rfl
      have f60 := he6.out.frozen 0
      have he7 := Lib.hid (he6.out.set 0 (.string en))
      have hB7 := Lib.hid (hB6.out.set (k := wr.heap.size) (j := 0) (.string en) (Nat.le_refl _))
      have hq7 := Lib.hid (Rd.other hq6 wr.heap.size 0 (.string en) (Ne.symm hrb))
      clear he5 hB5 he6 hB6 ho6 hq6 hq5 c41 f41
      go_wp2_with fail
      generalize w6.setCell ⟨wr.heap.size, 0, none⟩ (.string en) = w7 at *
      refine (Oct.Take_calls b 32 q6 w7 hq7.out).mono ?_
      rintro e w8 ⟨rfl, hq8, ho8⟩
      generalize hri : Oct.take q6 32 = ri at *
      obtain ⟨ei, q8⟩ := ri
      dsimp only at hq8 ⊢
      have he8 := Lib.hid (he7.out.only ho8 hrb)
      have hB8 := Lib.hid (hB7.out.trans (But.only ho8))
      have c82 := he8.out.cell 2 (v := .string ⟨#[]⟩) rfl
      have f82 := he8.out.frozen 2
      have he9 := Lib.hid (he8.out.set 2 (.string ei))
      have hB9 := Lib.hid (hB8.out.set (k := wr.heap.size) (j := 2) (.string ei) (Nat.le_refl _))
      have hq9 := Lib.hid (Rd.other hq8 wr.heap.size 2 (.string ei) (Ne.symm hrb))
      replace hnx : Hid (rdEnts (k + 1) q1 = (L ++ [⟨en, ek, ei⟩], q8)) := Lib.hid (by
        rw [hnx.out]; unfold rdEnt; rw [hrk]; dsimp only; rw [hrt]; dsimp only; rw [hri])
      clear he7 hB7 he8 hB8 ho8 hq8 hq7 c60 f60 hrk hrt hri
      go_upto_region 6 with (fail)
      generalize w8.setCell ⟨wr.heap.size, 2, none⟩ (.string ei) = w9 at *
      clear c82 f82
      have ce0 := he9.out.cell 0 (v := .string en) rfl
      have ce1 := he9.out.cell 1 (v := .int .i64 ek) rfl
      have ce2 := he9.out.cell 2 (v := .string ei) rfl
      have hxl := hx.out.lt
      have hx9 : Hid (Blk w9 x #[.int .i64 kd, .string d, v, .string t, vp, .int .i64 h, .string n] 25) := Lib.hid ((hB9.out.block x hxl (Ne.symm hbx)).trans hx.out)
      have cx := hx9.out.cell 2 (v := v) rfl
      have hown9 := Lib.hid (owns_but hown.out hB9.out hbR)
      have hs9 := hB9.out.size
      have hvR := Lib.hid (fun g hg => (hown9.out.lt g hg).1)
      have hvx : Hid (some x ≠ v.ownBlock) := Lib.hid fun e => by have := hvR.out x e.symm; omega
      have hnews : Hid (∀ (j : Nat) (u : Value), (entCells ⟨en, ek, ei⟩)[j]? = some u → (w9.alloc (.cells #[.string en, .int .i64 ek, .string ei] 47)).cell? ((⟨w9.heap.size, 0, none⟩ : Addr).add j) = some u) := Lib.hid fun j u hj => by
        rw [Addr.add_mid, Nat.zero_add]
        exact (Blk.new w9 _ _).cell j (by simpa [entCells] using hj)
      have hone : Hid (∀ u ∈ entCells ⟨en, ek, ei⟩, u.oneCell' = true) := Lib.hid fun u hu => by
        simp only [entCells, List.mem_cons, List.not_mem_nil, or_false] at hu
        rcases hu with rfl | rfl | rfl <;> rfl
      have hxA := Lib.hid (hx9.out.alloc (.cells #[.string en, .int .i64 ek, .string ei] 47))
      have cxA := hxA.out.cell 2 (v := v) rfl
      clear he9
      go_region_law (refine step_append_own (by rfl) _ _ _ (by rfl) R 47 i0 _ 3 40 Tryd.underlying22 hi hz0 hz1 hz2 rfl (by decide) v k (entsCells L) (by rfl) (hown9.out.alloc _) ⟨w9.heap.size, 0, none⟩ 1 1 (entCells ⟨en, ek, ei⟩) (by rfl) rfl hnews.out hone.out (by unfold maxLen; omega) (by omega) (by show R ≤ (w9.alloc _).heap.size; simp; omega) ?_; intro v' w10 ho' hg hn; obtain ⟨ao, cap', rfl⟩ := owns_slice ho'; have hx10 : Blk w10 x #[.int .i64 kd, .string d, v, .string t, vp, .int .i64 h, .string n] 25 := (hg.block x hxA.out.lt hvx.out).trans hxA.out; have cx10 := hx10.cell 2 (v := v) rfl; have fx10 := hx10.frozen 2; replace hx10 := Lib.hid hx10)
      all_goals
        replace hg := grown_undrew hg
        have hq10 := Lib.hid (Rd.mid hq9.out ((hg.block b (by show b < (w9.alloc _).heap.size; simp; omega) (fun e => by have := hvR.out b e.symm; omega)).trans (Lib.alloc_old w9 _ b (by omega))))
        have hM10 := Lib.hid (((hM.out.trans (Mid.but hB9.out hRr)).trans (Mid.but (But.below (b_alloc w9 (.cells #[.string en, .int .i64 ek, .string ei] 47))) (by omega))).trans (Mid.grown (R := R) (b := b) (x := x) hg hvR.out (by show R ≤ (w9.alloc _).heap.size; simp; omega)))
        have hx11 := Lib.hid (hx10.out.set 2 (.slice ao (k + 1) cap'))
        have hq11 := Lib.hid (Rd.other hq10.out x 2 (.slice ao (k + 1) cap') hbx)
        have hM11 := Lib.hid (hM10.out.trans (Mid.set R b x 2 w10 (.slice ao (k + 1) cap')))
        rw [entsCells_snoc] at ho'
        have ho11 := Lib.hid (owns_turn (w' := w10.setCell ⟨x, 2, none⟩ (.slice ao (k + 1) cap')) ho' fun g hg => Below.heap_setCell _ _ _ _ (by show g ≠ x; have := (ho'.lt g hg).1; omega))
        clear hx10 hq10 hM10 ho' hg hn cx10 fx10 cxA hxA hnews hone hown9 hvR hvx cx ce0 ce1 ce2 hx9 hq9 hB9 hown hx hM hq
        generalize w10.setCell ⟨x, 2, none⟩ (.slice ao (k + 1) cap') = w11 at *
        go_wp2
        exact ⟨⟨k + 1, .slice ao (k + 1) cap', by omega, by go_num, by rw [hnx.out]; exact hq11.out, hM11.out, hx11.out, by rw [hnx.out]; exact ho11.out⟩, by simp [intOf]; omega⟩
    · have d0 : decide ((k : Int) < m) = false := decide_eq_false (by omega)
      have d1 : (m : Int) ≤ k := by omega
      obtain rfl : k = m := by omega
      have fin := Lib.hid (And.intro hq (And.intro hM (show ∃ v, Blk wr x #[.int .i64 kd, .string d, v, .string t, vp, .int .i64 h, .string n] 25 ∧ wr.ownsRow R 47 3 v (rdEnts k q1).1.length (entsCells (rdEnts k q1).1) from ⟨v, hx, by rw [rdEnts_len]; exact hown⟩)))
      clear hq hM hx hown
      go_wp2
      go_end0
      exact ⟨rfl, fin.out⟩
theorem one_new (w : World) (s : ByteArray) : ∀ (j : Nat) (u : Value), ([.string s] : List Value)[j]? = some u → (w.alloc (.cells #[.string s] 9)).cell? ((⟨w.heap.size, 0, none⟩ : Addr).add j) = some u := fun j u hj => by
  rw [Addr.add_mid, Nat.zero_add]
  exact (Blk.new w _ _).cell j (by simpa using hj)
theorem one_cell (s : ByteArray) : ∀ u ∈ ([.string s] : List Value), u.oneCell' = true := fun u hu => by
  rw [List.mem_singleton] at hu; subst hu; rfl
set_option maxRecDepth 100000 in
set_option maxHeartbeats 2000000 in
theorem readCommit_calls (R b x : Nat) (q : St) (kd : Int) (d : ByteArray) (ve : Value) (w : World) (hq : Rd w b q) (hx : Blk w x #[.int .i64 kd, .string d, ve, .string ⟨#[]⟩, .slice none 0 0, .int .i64 0, .string ⟨#[]⟩] 25) (hbR : b < R) (hxR : x < R) (hbx : b ≠ x) (hR : R ≤ w.heap.size) :
    Calls Tryd.prog 50 #[.pointer (some ⟨b, 0, none⟩), .pointer (some ⟨x, 0, none⟩)] w fun e w' => e = .returned (.tuple #[]) ∧ Rd w' b (rdCommit q).2 ∧ Mid R b x w w' ∧
      ∃ v, Blk w' x #[.int .i64 kd, .string d, ve, .string (rdCommit q).1.tree, v, .int .i64 (rdCommit q).1.height, .string (rdCommit q).1.note] 25 ∧ w'.ownsRow R 9 1 v (rdCommit q).1.pars.length ((rdCommit q).1.pars.map Value.string) := by
  obtain ⟨i0, hi, hz0, hz1, hz2⟩ := info_parts infoStr
  have hrc : rdCommit q = (⟨3, empty, [], (take q 32).1, (rdPars (rdUp (take q 32).2 8).1.toNat (rdUp (take q 32).2 8).2).1, (rdUp (rdPars (rdUp (take q 32).2 8).1.toNat (rdUp (take q 32).2 8).2).2 1073741824).1, (text (rdUp (rdPars (rdUp (take q 32).2 8).1.toNat (rdUp (take q 32).2 8).2).2 1073741824).2 1000).1⟩, (text (rdUp (rdPars (rdUp (take q 32).2 8).1.toNat (rdUp (take q 32).2 8).2).2 1073741824).2 1000).2) := rfl
  rw [hrc]
  clear hrc
  dsimp only
  have hT0 := Lib.hid (Oct.Take_calls b 32 q w hq)
  generalize take q 32 = rt at *
  obtain ⟨tr, q0⟩ := rt
  dsimp only at hT0 ⊢
  have hrange := rdUp_range q0 8 (by decide)
  have hU0 := Lib.hid (fun w hq => readUpTo_calls b 8 q0 w hq)
  generalize rdUp q0 8 = r at *
  obtain ⟨m, q1⟩ := r
  dsimp only at hU0 hrange ⊢
  obtain ⟨m, rfl⟩ := Int.eq_ofNat_of_zero_le hrange.1
  have hm : m ≤ 8 := by omega
  clear hrange hq
  rw [Int.toNat_natCast]
  replace hx := Lib.hid hx
  go_enter Tryd.func50, Tryd.ntmps50
  go_wp2_with fail
  refine hT0.out.mono ?_
  rintro e w1 ⟨rfl, hq1, ho⟩
  have hx1 := Lib.hid (hx.out.only ho (Ne.symm hbx))
  have hM1 := Lib.hid (Mid.but (R := R) (x := x) (But.only ho) hR)
  have hs1 := ho.size
  have c13 := hx1.out.cell 3 (v := .string ⟨#[]⟩) rfl
  have f13 := hx1.out.frozen 3
  have hx2 := Lib.hid (hx1.out.set 3 (.string tr))
  have hq2 := Lib.hid (Rd.other hq1 x 3 (.string tr) hbx)
  have hM2 := Lib.hid (hM1.out.trans (Mid.set R b x 3 w1 (.string tr)))
  clear hT0 hx ho hx1 hM1 hq1
  go_wp2_with fail
  generalize w1.setCell ⟨x, 3, none⟩ (.string tr) = w2 at *
  refine (hU0.out w2 hq2.out).mono ?_
  rintro e w3 ⟨rfl, hq3, ho3⟩
  have hx3 : Hid (Blk w3 x #[.int .i64 kd, .string d, ve, .string tr, .slice none 0 0, .int .i64 0, .string ⟨#[]⟩] 25) := Lib.hid (hx2.out.only ho3 (Ne.symm hbx))
  have hM3 := Lib.hid (hM2.out.trans (Mid.but (R := R) (x := x) (But.only ho3) (by have := hM2.out.size; omega)))
  replace hq3 := Lib.hid hq3
  clear hU0 hx2 hM2 hq2 ho3 c13 f13
  go_wp2
  go_loopw [11] (fun i wr => ∃ (k : Nat) (v : Value), k ≤ m ∧ i = .int .i64 k ∧ Rd wr b (rdPars k q1).2 ∧ Mid R b x w wr ∧ Blk wr x #[.int .i64 kd, .string d, ve, .string tr, v, .int .i64 0, .string ⟨#[]⟩] 25 ∧ wr.ownsRow R 9 1 v k ((rdPars k q1).1.map Value.string)) (fun i _ => m - (intOf i).toNat)
  case atStart => exact ⟨0, .slice none 0 0, by omega, rfl, hq3.out, hM3.out, hx3.out, World.ownsRow_nil _ _ _ _⟩
  case round =>
    clear hq3 hM3 hx3
    obtain ⟨k, v, hk, rfl, hq, hM, hx, hown⟩ := hrel
    have hsr := hM.size
    have hRr : R ≤ wr.heap.size := by omega
    by_cases hlt : k < m
    · have i1 : (k : Int) < m := by omega
      have i0' : 0 ≤ (k : Int) := by omega
      have hnx : rdPars (k + 1) q1 = ((rdPars k q1).1 ++ [(take (rdPars k q1).2 32).1], (take (rdPars k q1).2 32).2) := rfl
      generalize rdPars k q1 = L at *
      obtain ⟨L, q4⟩ := L
      dsimp only at hq hown hnx
      have hT := Lib.hid (Oct.Take_calls b 32 q4 wr.drew hq.drew)
      generalize take q4 32 = rt at *
      obtain ⟨ei, q5⟩ := rt
      dsimp only at hT hnx
      have hvR := Lib.hid (fun g hg => (hown.lt g hg).1)
      have hvx : Hid (some x ≠ v.ownBlock) := Lib.hid fun e => by have := hvR.out x e.symm; omega
      have cx := hx.cell 4 (v := v) rfl
      replace hq := Lib.hid hq
      replace hM := Lib.hid hM
      replace hx := Lib.hid hx
      replace hown := Lib.hid hown
      replace hnx := Lib.hid hnx
      go_upto_region 3 with (fail)
      go_region_law (first
        | (refine step_append_own (by rfl) _ _ _ (by rfl) R 9 i0 _ 1 16 Tryd.underlying23 hi hz0 hz1 hz2 rfl (by decide) v k (L.map Value.string) (by rfl) (hownA.out) ⟨w5.heap.size, 0, none⟩ 1 1 [.string ei] (by rfl) rfl hnews.out hone.out (by unfold maxLen; omega) (by omega) hRA.out ?_; intro v' w10 ho' hg hn; obtain ⟨ao, cap', rfl⟩ := owns_slice ho'; have hx10 : Blk w10 x #[.int .i64 kd, .string d, ve, .string tr, v, .int .i64 0, .string ⟨#[]⟩] 25 := (hg.block x hxA.out.lt hvx.out).trans hxA.out; have cx10 := hx10.cell 4 (v := v) rfl; have fx10 := hx10.frozen 4; replace hx10 := Lib.hid hx10)
        | (go_simp; go_at_call 47; refine hT.out.mono ?_; rintro e w5 ⟨rfl, hq5, ho5⟩; have hx5 : Blk w5 x #[.int .i64 kd, .string d, ve, .string tr, v, .int .i64 0, .string ⟨#[]⟩] 25 := (ho5.block x (Ne.symm hbx)).trans hx.out; have cx5 := hx5.cell 4 (v := v) rfl; have hs5 : Hid (w5.heap.size = wr.heap.size) := Lib.hid ho5.size; have hownA := Lib.hid (World.ownsRow.alloc (owns_turn hown.out (w' := w5) fun g hg => ho5.block g (by have := hvR.out g hg; omega)) (.cells #[.string ei] 9)); have hxA := Lib.hid (Blk.alloc hx5 (.cells #[.string ei] 9)); have cxA := hxA.out.cell 4 (v := v) rfl; have hnews := Lib.hid (one_new w5 ei); have hone := Lib.hid (one_cell ei); have hRA := Lib.hid (show R ≤ (w5.alloc (.cells #[.string ei] 9)).heap.size by have := hs5.out; simp; omega); replace hq5 := Lib.hid hq5; replace ho5 := Lib.hid ho5; replace hx5 := Lib.hid hx5))
      all_goals
        have hs5' := hs5.out
        have hq10 := Lib.hid (Rd.mid hq5.out ((hg.block b (by show b < (w5.alloc _).heap.size; simp; omega) (fun e => by have := hvR.out b e.symm; omega)).trans (Lib.alloc_old w5 _ b (by omega))))
        have hB5 : But b wr w5 := ⟨ho5.out.os, ho5.out.tape, ho5.out.output, Nat.le_of_eq ho5.out.size.symm, fun k _ hb => ho5.out.block k hb⟩
        have hM10 := Lib.hid (((hM.out.trans (Mid.but hB5 hRr)).trans (Mid.but (But.below (b_alloc w5 (.cells #[.string ei] 9))) (by omega))).trans (Mid.grown (R := R) (b := b) (x := x) hg hvR.out hRA.out))
        have hx11 := Lib.hid (hx10.out.set 4 (.slice ao (k + 1) cap'))
        have hq11 := Lib.hid (Rd.other hq10.out x 4 (.slice ao (k + 1) cap') hbx)
        have hM11 := Lib.hid (hM10.out.trans (Mid.set R b x 4 w10 (.slice ao (k + 1) cap')))
        have ho11 := Lib.hid (owns_turn (w' := w10.setCell ⟨x, 4, none⟩ (.slice ao (k + 1) cap')) ho' fun g hg => Below.heap_setCell _ _ _ _ (by show g ≠ x; have := (ho'.lt g hg).1; omega))
        clear hx10 hq10 hM10 ho' hg hn cx10 fx10 cxA hxA hnews hone hownA hvR hvx cx hx5 hq5 hB5 hown hx hM hq cx5 hRA ho5 hT hs5 hs5'
        generalize w10.setCell ⟨x, 4, none⟩ (.slice ao (k + 1) cap') = w11 at *
        go_wp2
        exact ⟨⟨k + 1, .slice ao (k + 1) cap', by omega, by go_num, by rw [hnx.out]; exact hq11.out, hM11.out, hx11.out, by rw [hnx.out, List.map_append]; exact ho11.out⟩, by simp [intOf]; omega⟩
    · have d0 : decide ((k : Int) < m) = false := decide_eq_false (by omega)
      have d1 : (m : Int) ≤ k := by omega
      obtain rfl : k = m := by omega
      have hlen := rdPars_len k q1
      generalize hL1 : rdPars k q1 = L at *
      obtain ⟨L, q4⟩ := L
      dsimp only at hq hown hlen ⊢
      have hU := Lib.hid (fun w hq => readUpTo_calls b 1073741824 q4 w hq)
      generalize hL2 : rdUp q4 1073741824 = rh at *
      obtain ⟨ht, q5⟩ := rh
      dsimp only at hU ⊢
      have hT := Lib.hid (fun w hq => Oct.RText_calls b 1000 q5 w hq)
      generalize hL3 : text q5 1000 = rn at *
      obtain ⟨nt, q6⟩ := rn
      dsimp only at hT ⊢
      replace hL1 := Lib.hid hL1
      replace hL2 := Lib.hid hL2
      replace hL3 := Lib.hid hL3
      replace hx := Lib.hid hx
      replace hq := Lib.hid hq
      replace hM := Lib.hid hM
      replace hown := Lib.hid hown
      go_wp2_with fail
      refine (hU.out _ hq.out).mono ?_
      rintro e w5 ⟨rfl, hq5, ho5⟩
      have hx5 := Lib.hid (hx.out.only ho5 (Ne.symm hbx))
      have c55 := hx5.out.cell 5 (v := .int .i64 0) rfl
      have f55 := hx5.out.frozen 5
      have hx6 := Lib.hid (hx5.out.set 5 (.int .i64 ht))
      have hq6 := Lib.hid (Rd.other hq5 x 5 (.int .i64 ht) hbx)
      have hM6 := Lib.hid ((hM.out.trans (Mid.but (But.only ho5) hRr)).trans (Mid.set R b x 5 w5 (.int .i64 ht)))
      have hown6 := Lib.hid (owns_turn (w' := w5.setCell ⟨x, 5, none⟩ (.int .i64 ht)) (owns_but hown.out (But.only ho5) hbR) fun g hg => Below.heap_setCell _ _ _ _ (by show g ≠ x; have := (hown.out.lt g hg).1; omega))
      clear hx hq hM hown hU hx5 ho5 hq5
      go_wp2_with fail
      generalize w5.setCell ⟨x, 5, none⟩ (.int .i64 ht) = w6 at *
      refine (hT.out _ hq6.out).mono ?_
      rintro e w7 ⟨rfl, hq7, ho7⟩
      have hx7 := Lib.hid (hx6.out.only ho7 (Ne.symm hbx))
      have c76 := hx7.out.cell 6 (v := .string ⟨#[]⟩) rfl
      have f76 := hx7.out.frozen 6
      have hx8 := Lib.hid (hx7.out.set 6 (.string nt))
      have hq8 := Lib.hid (Rd.other hq7 x 6 (.string nt) hbx)
      have hM8 := Lib.hid ((hM6.out.trans (Mid.but (But.only ho7) (by have := hM6.out.size; omega))).trans (Mid.set R b x 6 w7 (.string nt)))
      have hown8 := Lib.hid (owns_turn (w' := w7.setCell ⟨x, 6, none⟩ (.string nt)) (owns_but hown6.out (But.only ho7) hbR) fun g hg => Below.heap_setCell _ _ _ _ (by show g ≠ x; have := (hown6.out.lt g hg).1; omega))
      clear hx6 hq6 hM6 hown6 hT hx7 ho7 hq7 c55 f55
      go_wp2_with fail
      generalize w7.setCell ⟨x, 6, none⟩ (.string nt) = w8 at *
      clear c76 f76
      go_wp2
      go_end0
      rw [hL1.out]
      dsimp only
      rw [hL2.out]
      dsimp only
      rw [hL3.out]
      exact ⟨rfl, hq8.out, hM8.out, v, hx8.out, by rw [hlen]; exact hown8.out⟩
end Go.Proofs.YtmbbnabongnojaaDoor.Ob
