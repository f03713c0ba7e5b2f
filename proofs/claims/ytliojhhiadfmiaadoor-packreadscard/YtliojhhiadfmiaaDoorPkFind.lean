/-
  pack's Find answers what the plain function does; old memory stays. Conditions: bytes of a size that the form's numbers bear; the tables lie where the program's variables are.
-/
import Derived.Test.YtliojhhiadfmiaaDoorRows
import Derived.Test.YtliojhhiadfmiaaDoorPkOwn
import Derived.Test.YtliojhhiadfmiaaDoorPkSort
import Derived.Test.YtliojhhiadfmiaaDoorPkCut
import Derived.Test.YtliojhhiadfmiaaDoorPkNth
import Derived.Test.YtliojhhiadfmiaaDoorPkFan
import Derived.Test.YtliojhhiadfmiaaDoorOctCalls
import Derived.Test.YtliojhhiadfmiaaDoorOctKit
import Derived.WalkKit
import Derived.WalkSpells
import Derived.WalkLawsBesides
import Derived.ProofKit
import Derived.OpenShut
import Derived.Laws.BytesArg
import Derived.Laws.Externs
import Derived.Deep.QuietTactic
import Derived.BigQuiet
import Derived.BigRegion
import Derived.Lib.Hide
import Derived.IntWalk
import Derived.Deep.LoopGhost
import Derived.StillTailTactics
import Derived.Handy
import Derived.Deep.RegionHeld3
namespace Go.Proofs.YtliojhhiadfmiaaDoor.Pk
open Go Go.RowKit
open Oct (empty num4 num4_size rd4 Only Rd)

theorem IdGood_calls (x : ByteArray) (w : World) : Calls Tryd.prog 35 #[.string x] w fun e w' => e = .returned (.bool ((x.size : Int) == 32)) ∧ w = w' := by
  go_enter Tryd.func35, Tryd.ntmps35
  go_wp2
  go_ret
  exact ⟨rfl, rfl⟩
theorem fnd_short (s id : ByteArray) (h : id.size = 32) (h2 : s.size < 1112) : fnd s id = (empty, false, 3) := by
  unfold fnd; rw [if_neg (fun g => g h), if_pos h2]
theorem fnd_form (s id : ByteArray) (h : id.size = 32) (h2 : ¬ s.size < 1112) (h3 : ¬ Begins s) : fnd s id = (empty, false, 4) := by
  unfold fnd; rw [if_neg (fun g => g h), if_neg h2, if_pos h3]
theorem fnd_range (s id : ByteArray) (h : id.size = 32) (h2 : ¬ s.size < 1112) (h3 : Begins s) (h4 : ¬ (lo s id ≤ hi s id ∧ hi s id ≤ cnt s)) : fnd s id = (empty, false, 4) := by
  unfold fnd; rw [if_neg (fun g => g h), if_neg h2, if_neg (fun g => g h3), if_neg h4]
abbrev fndV (r : ByteArray × Bool × Int) : Value := .tuple #[.string r.1, .bool r.2.1, .int .i64 r.2.2]
set_option maxRecDepth 100000 in
set_option maxHeartbeats 4000000 in
theorem Find_begun (s id : ByteArray) (w : World) (he : Ev w) (hs : s.size ≤ 1000000000) (hid : id.size = 32) (hs2 : ¬ s.size < 1112) (hg : Begins s) :
    Calls Tryd.prog 17 #[.string s, .string id] w fun e w' => e = .returned (fndV (fnd s id)) ∧ Below w.heap.size w w' := by
  have hG := Lib.hid fun w => IdGood_calls id w
  have q0 : ((id.size : Int) == 32) = true := by rw [hid]; rfl
  rw [q0] at hG
  have hC0 := Lib.hid fun w => cut_calls s w (by omega) hs
  rw [if_pos hg, decide_eq_true hg] at hC0
  have hC : Hid (∀ w : World, Calls Tryd.prog 29 #[.string s] w fun e w' => e = .returned (.tuple #[.agg #[.string (pfan s), .string (pidx s), .string (pdat s)], .bool true]) ∧ Below w.heap.size w w') := hC0
  clear hC0
  have d0 : decide ((s.size : Int) < 1112) = false := decide_eq_false (by omega)
  have d1 : (1112 : Int) ≤ s.size := by omega
  have hn := num_le hg
  have hcn := Lib.hid (cnt_num (s := s))
  have h0i : 0 < id.size := by omega
  have hby := byte_at id h0i
  obtain ⟨c, hc⟩ : ∃ c, id[0]'h0i = c := ⟨_, rfl⟩
  rw [hc] at hby
  have hcb := c.toNat_lt
  have hsp := Lib.hid fun i d w => span_calls s i d c.toNat w hg hcb hs
  have hlo := lo_is s id c.toNat hby.symm
  have hhi : hi s id = fanAt s c.toNat := by unfold hi; rw [← hby]; rfl
  rw [← hlo, ← hhi] at hsp
  have hcnt := Lib.hid fun w => count_calls (pfan s) (pidx s) (pdat s) (num s) w (pidx_size hg) hn.2
  have hnth : Hid (∀ (k : Nat) (w : World), k < num s → Calls Tryd.prog 38 #[.agg #[.string (pfan s), .string (pidx s), .string (pdat s)], .int .i64 k] w fun e w' => e = .returned (.agg #[.string (idAt s k), .int .u32 (atAt s k), .int .u32 (szAt s k), .int .u32 (ckAt s k)]) ∧ Below w.heap.size w w') := Lib.hid fun k w hk => nth_calls s (pfan s) (pdat s) k w hg hk
  have htell : Hid (∀ (k : Nat) (w : World), Ev w → Calls Tryd.prog 39 #[.agg #[.string (pfan s), .string (pidx s), .string (pdat s)], .agg #[.string (idAt s k), .int .u32 (atAt s k), .int .u32 (szAt s k), .int .u32 (ckAt s k)]] w fun e w' => e = .returned (.tuple #[.string (tell s k).1, .bool (tell s k).2.1, .int .i64 (tell s k).2.2]) ∧ Below w.heap.size w w') := Lib.hid fun k w he => tell_calls s (pfan s) (pidx s) k w hg hs he
  have hr1 := rdAt_range s (12 + 4 * c.toNat)
  have hr2 := rdAt_range s (12 + 4 * (c.toNat - 1))
  change 0 ≤ fanAt s c.toNat ∧ fanAt s c.toNat < 4294967296 at hr1
  change 0 ≤ fanAt s (c.toNat - 1) ∧ fanAt s (c.toNat - 1) < 4294967296 at hr2
  rw [← hhi] at hr1
  have hr3 : 0 ≤ lo s id ∧ lo s id < 4294967296 := by
    rw [hlo]
    by_cases g : c.toNat = 0
    · rw [if_pos g]; exact ⟨Int.le_refl 0, by decide⟩
    · rw [if_neg g]; exact hr2
  obtain ⟨L, hL⟩ : ∃ L : Nat, lo s id = L := Int.eq_ofNat_of_zero_le hr3.1
  obtain ⟨H, hH⟩ : ∃ H : Nat, hi s id = H := Int.eq_ofNat_of_zero_le hr1.1
  have hfr := Lib.hid (fnd_range s id hid hs2 hg)
  have hfo := Lib.hid (fnd_open hid hs2 hg)
  rw [hcn.out, hL, hH] at hfr hfo
  rw [hL, hH] at hsp
  rw [hL] at hr3
  rw [hH] at hr1
  clear hlo hhi hr2 hL hH
  replace he := Lib.hid he
  replace hg := Lib.hid hg
  replace hid := Lib.hid hid
  generalize num s = n at *
  have hm := mod_u32 n (by omega)
  have hX := Lib.hid fun (w : World) => Blk.new w #[.string (pfan s), .string (pidx s), .string (pdat s)] 53
  generalize pfan s = F at *
  generalize pidx s = I at *
  generalize pdat s = D at *
  clear hs2 hby
  go_enter Tryd.func17, Tryd.ntmps17
  go_wp2_with fail
  refine (hG.out _).mono ?_
  rintro e w1 ⟨rfl, rfl⟩
  go_wp2_with fail
  refine (hC.out _).mono ?_
  rintro e w2 ⟨rfl, bb⟩
  have hB := Lib.hid (below_next bb (b_alloc w2 (.cells #[.string F, .string I, .string D] 53)))
  have hXw := Lib.hid (hX.out w2)
  have hrw := Lib.hid bb.size
  clear bb hG hC hX
  go_upto_region 8 with (fail)
  generalize hrr : w2.heap.size = r at *
  replace hrr := Lib.hid hrr
  generalize w2.alloc (.cells #[.string F, .string I, .string D] 53) = w3 at *
  have bc : Below w3.heap.size w3 w3.drew := b_drew w3
  have hkeep : Hid (∀ w', Below w3.heap.size w3 w' → (w'.cell? ⟨r, 0, none⟩ = some (.string F) ∧ w'.cell? ⟨r, 1, none⟩ = some (.string I) ∧ w'.cell? ⟨r, 2, none⟩ = some (.string D))) :=
    Lib.hid fun w' b => ⟨(hXw.out.next b).cell 0 rfl, (hXw.out.next b).cell 1 rfl, (hXw.out.next b).cell 2 rfl⟩
  have hk0 := hkeep.out _ bc
  go_region_held3 (fun w' => w'.cell? ⟨r, 0, none⟩ = some (.string F) ∧ w'.cell? ⟨r, 1, none⟩ = some (.string I) ∧ w'.cell? ⟨r, 2, none⟩ = some (.string D))
    (exact hkeep.out _ bc)
    (first
      | (go_at_call 36; refine (hsp.out _ _ _).mono ?_; rintro e w4 ⟨rfl, bb⟩; replace bc := below_next bc bb; clear bb))
  replace hB := Lib.hid (below_next hB.out bc)
  replace hXw := Lib.hid (hXw.out.next bc)
  clear bc hkeep hk0 hsp
  rename_i hHe
  clear hHe
  have c0 := hXw.out.cell 0 (v := .string F) rfl
  have c1 := hXw.out.cell 1 (v := .string I) rfl
  have c2 := hXw.out.cell 2 (v := .string D) rfl
  by_cases k1 : H < L
  · have j1 : (H : Int) < L := by omega
    have hf := Lib.hid (hfr.out (by omega))
    replace k1 := Lib.hid k1
    clear hfr hfo
    go_wp2
    go_ret3
    exact ⟨by rw [hf.out]; rfl, hB.out⟩
  · have j1 : decide ((H : Int) < L) = false := decide_eq_false (by omega)
    have j2 : (L : Int) ≤ H := by omega
    have jn1 : decide (H < L) = false := decide_eq_false (by omega)
    by_cases k2 : n < H
    · have j3 : (n : Int) < H := by omega
      have hf := Lib.hid (hfr.out (by omega))
      replace k1 := Lib.hid k1
      replace k2 := Lib.hid k2
      clear hfr hfo
      go_wp2_with fail
      refine (hcnt.out _).mono ?_
      rintro e w5 ⟨rfl, bb⟩
      replace hB := Lib.hid (below_next hB.out bb)
      clear bb
      go_wp2
      go_ret3
      exact ⟨by rw [hf.out]; rfl, hB.out⟩
    · have j3 : decide ((n : Int) < H) = false := decide_eq_false (by omega)
      have j4 : (H : Int) ≤ n := by omega
      have jn2 : decide (n < H) = false := decide_eq_false (by omega)
      have hf := Lib.hid (hfo.out ⟨by omega, by omega⟩)
      rw [Int.toNat_natCast, Int.toNat_natCast] at hf
      replace k1 := Lib.hid k1
      replace k2 := Lib.hid k2
      clear hfr hfo
      go_wp2_with fail
      refine (hcnt.out _).mono ?_
      rintro e w5 ⟨rfl, bb⟩
      replace hB := Lib.hid (below_next hB.out bb)
      replace hXw := Lib.hid (hXw.out.next bb)
      clear bb c0 c1 c2
      go_wp2
      go_loopw [11, 12] (fun i _ wr => ∃ j : Nat, L ≤ j ∧ j ≤ H ∧ i = .int .u32 j ∧ Hid (seek s id (H - L) L = seek s id (H - j) j) ∧ Hid (Below w.heap.size w wr) ∧ Hid (Blk wr r #[.string F, .string I, .string D] 53)) (fun i _ _ => H - (intOf i).toNat)
      case atStart => exact ⟨L, Nat.le_refl _, by omega, rfl, Lib.hid rfl, hB, hXw⟩
      case round =>
        clear hB hXw
        obtain ⟨j, hj1, hj2, rfl, hsk, hB, hXw⟩ := hrel
        by_cases hlt : j < H
        · have i1 : (j : Int) < H := by omega
          have hsq : Hid (seek s id (H - j) j = if idAt s j = id then some j else seek s id (H - (j + 1)) (j + 1)) := Lib.hid (by
            obtain ⟨f, hf⟩ : ∃ f, H - j = f + 1 := ⟨H - j - 1, by omega⟩
            rw [hf, seek, show H - (j + 1) = f by omega])
          have hN := Lib.hid fun w => hnth.out j w (by omega)
          have hT := Lib.hid fun w he => htell.out j w he
          have hJn : j ≤ 1024 := by omega
          have c0 := hXw.out.cell 0 (v := .string F) rfl
          have c1 := hXw.out.cell 1 (v := .string I) rfl
          have c2 := hXw.out.cell 2 (v := .string D) rfl
          clear hnth htell
          go_wp2_with fail
          refine (hN.out _).mono ?_
          rintro e w6 ⟨rfl, bb⟩
          replace hB := Lib.hid (below_next hB.out bb)
          replace hXw := Lib.hid (hXw.out.next bb)
          clear bb c0 c1 c2 hN
          have hsz := Lib.hid hXw.out.lt
          replace hB := Lib.hid (below_next hB.out (b_alloc w6 (.cells #[.string (idAt s j), .int .u32 (atAt s j), .int .u32 (szAt s j), .int .u32 (ckAt s j)] 65)))
          replace hXw := Lib.hid (hXw.out.next (b_alloc w6 (.cells #[.string (idAt s j), .int .u32 (atAt s j), .int .u32 (szAt s j), .int .u32 (ckAt s j)] 65)))
          have hE := Lib.hid (Blk.new w6 #[.string (idAt s j), .int .u32 (atAt s j), .int .u32 (szAt s j), .int .u32 (ckAt s j)] 65)
          generalize idAt s j = X at *
          generalize atAt s j = A at *
          generalize szAt s j = S at *
          generalize ckAt s j = C at *
          go_upto_region 15 with (fail)
          generalize w6.alloc (.cells #[.string X, .int .u32 A, .int .u32 S, .int .u32 C] 65) = w7 at *
          generalize w6.heap.size = r2 at *
          have e0 := hE.out.cell 0 (v := .string X) rfl
          by_cases hx : X = id
          · have q1 := str_eq hx
            have hs2 : Hid (fnd s id = tell s j) := Lib.hid (by rw [hf.out, hsk.out, hsq.out, if_pos hx]; rfl)
            generalize tell s j = tt at *
            replace hx := Lib.hid hx
            have e1 := hE.out.cell 1 (v := .int .u32 A) rfl
            have e2 := hE.out.cell 2 (v := .int .u32 S) rfl
            have e3 := hE.out.cell 3 (v := .int .u32 C) rfl
            have c0 := hXw.out.cell 0 (v := .string F) rfl
            have c1 := hXw.out.cell 1 (v := .string I) rfl
            have c2 := hXw.out.cell 2 (v := .string D) rfl
            have hev := Lib.hid (he.out.next hB.out)
            go_wp2_with fail
            refine (hT.out _ hev.out).mono ?_
            rintro e w8 ⟨rfl, bb⟩
            replace hB := Lib.hid (below_next hB.out bb)
            clear bb hev c0 c1 c2 e0 e1 e2 e3
            go_wp2
            go_ret3
            exact ⟨by rw [hs2.out]; rfl, hB.out⟩
          · have q1 := str_ne hx
            have hs2 : Hid (seek s id (H - j) j = seek s id (H - (j + 1)) (j + 1)) := Lib.hid (by rw [hsq.out, if_neg hx])
            replace hx := Lib.hid hx
            go_wp2
            exact ⟨⟨j + 1, by omega, by omega, by go_num, Lib.hid (hsk.out.trans hs2.out), hB, hXw⟩, by simp [intOf]; omega⟩
        · have j5 : decide ((j : Int) < H) = false := decide_eq_false (by omega)
          have j6 : (H : Int) ≤ j := by omega
          obtain rfl : j = H := by omega
          have hs2 : Hid (seek s id (j - L) L = none) := Lib.hid (by rw [hsk.out, Nat.sub_self]; rfl)
          go_wp2
          go_ret3
          exact ⟨by rw [hf.out, hs2.out]; rfl, hB.out⟩
set_option maxRecDepth 100000 in
set_option maxHeartbeats 1000000 in
theorem Find_calls (s id : ByteArray) (w : World) (he : Ev w) (hs : s.size ≤ 1000000000) :
    Calls Tryd.prog 17 #[.string s, .string id] w fun e w' => e = .returned (fndV (fnd s id)) ∧ Below w.heap.size w w' := by
  by_cases hid : id.size = 32
  · by_cases hs2 : s.size < 1112
    · rw [fnd_short s id hid hs2]
      have hG := Lib.hid fun w => IdGood_calls id w
      have q0 : ((id.size : Int) == 32) = true := by rw [hid]; rfl
      rw [q0] at hG
      have d1 : (s.size : Int) < 1112 := by omega
      replace hid := Lib.hid hid
      go_enter Tryd.func17, Tryd.ntmps17
      go_wp2_with fail
      refine (hG.out _).mono ?_
      rintro e w1 ⟨rfl, rfl⟩
      go_wp2
      go_ret3
      exact ⟨rfl, Below.refl _ _⟩
    · by_cases hg : Begins s
      · exact Find_begun s id w he hs hid hs2 hg
      · rw [fnd_form s id hid hs2 hg]
        have hG := Lib.hid fun w => IdGood_calls id w
        have q0 : ((id.size : Int) == 32) = true := by rw [hid]; rfl
        rw [q0] at hG
        have d0 : decide ((s.size : Int) < 1112) = false := decide_eq_false (by omega)
        have d1 : (1112 : Int) ≤ s.size := by omega
        have hC := Lib.hid fun w => cut_calls s w (by omega) hs
        rw [if_neg hg, decide_eq_false hg] at hC
        replace hid := Lib.hid hid
        go_enter Tryd.func17, Tryd.ntmps17
        go_wp2_with fail
        refine (hG.out _).mono ?_
        rintro e w1 ⟨rfl, rfl⟩
        go_wp2_with fail
        refine (hC.out _).mono ?_
        rintro e w2 ⟨rfl, bb⟩
        have hB := Lib.hid (below_next bb (b_alloc w2 (.cells #[.string empty, .string empty, .string empty] 53)))
        clear bb
        go_wp2
        go_ret3
        exact ⟨rfl, hB.out⟩
  · rw [fnd_arg s id hid]
    have hG := Lib.hid fun w => IdGood_calls id w
    have q0 : ((id.size : Int) == 32) = false := by rw [beq_eq_false_iff_ne]; omega
    rw [q0] at hG
    go_enter Tryd.func17, Tryd.ntmps17
    go_wp2_with fail
    refine (hG.out _).mono ?_
    rintro e w1 ⟨rfl, rfl⟩
    go_wp2
    go_ret3
    exact ⟨rfl, Below.refl _ _⟩
end Go.Proofs.YtliojhhiadfmiaaDoor.Pk
