/-
  The reference's num and Find answer what the plain functions do; old memory stays. Conditions: bytes of a size that the form's numbers bear.
-/
import Derived.Test.YtliojhhiadfmiaaDoorRows
import Derived.Test.YtliojhhiadfmiaaDoorPkOwn
import Derived.Test.YtliojhhiadfmiaaDoorPkForm
import Derived.Test.YtliojhhiadfmiaaDoorPkFan
import Derived.Test.YtliojhhiadfmiaaDoorPkNth
import Derived.Test.YtliojhhiadfmiaaDoorPkFind
import Derived.Test.YtliojhhiadfmiaaDoorPkRefA
import Derived.Test.YtliojhhiadfmiaaDoorOctRefR
import Derived.Test.YtliojhhiadfmiaaDoorOctKit
import Derived.WalkKit
import Derived.WalkSpells
import Derived.WalkLawsBesides
import Derived.ProofKit
import Derived.OpenShut
import Derived.Laws.BytesArg
import Derived.Laws.Externs
import Derived.Deep.QuietTactic
import Derived.BigQuiet
import Derived.BigRegion
import Derived.Lib.Hide
import Derived.IntWalk
import Derived.Deep.LoopGhost
import Derived.Handy
import Derived.Deep.RegionHeld3
namespace Go.Proofs.YtliojhhiadfmiaaDoor.Pk
open Go Go.RowKit
open Oct (empty num4 num4_size Only RR)

set_option maxRecDepth 100000 in
theorem num_calls (s : ByteArray) (i : Int) (p : Nat) (hi : i = p) (w : World) (hp : p + 4 ≤ s.size) (hs : s.size ≤ 1000000000) :
    Calls Tryd.prog 34 #[.string s, .int .i64 i] w fun e w' => e = .returned (.int .i64 (rdAt s p)) ∧ Below w.heap.size w w' := by
  subst hi
  have i0 : 0 ≤ (p : Int) := by omega
  have i1 : (p : Int) ≤ s.size := by omega
  obtain ⟨q, hq⟩ : ∃ q, q = p + 4 := ⟨_, rfl⟩
  have e1 : (p : Int) + 4 = (q : Nat) := by omega
  have i2 : (q : Int) ≤ s.size := by omega
  have i3 : (p : Int) ≤ q := by omega
  have hpb : p ≤ 1000000000 := by omega
  have hn := num_at s p (p + 4) (by omega) (Nat.le_refl _)
  have hz := piece_size s p q (by omega)
  have hr := rdAt_range s p
  obtain ⟨n, hnn⟩ := Int.eq_ofNat_of_zero_le hr.1
  rw [hnn] at hn hr ⊢
  rw [← hq] at hn
  replace hn := Lib.hid hn
  have hw64 : wrap64 (n : Int) = n := by unfold wrap64; omega
  clear hnn
  replace hq := Lib.hid hq
  obtain ⟨T, hT⟩ : ∃ T, s.extract p q = T := ⟨_, rfl⟩
  rw [hT] at hn hz
  have hTs : T.size ≤ 1000 := by have := hq.out; omega
  clear hz
  go_enter Tryd.func34, Tryd.ntmps34
  go_wp2_with fail
  refine (Oct.RefNew_calls T w).mono ?_
  rintro e w1 ⟨rfl, rfl⟩
  have hB := Lib.hid (b_alloc w (.cells #[.string T, .int .i64 0, .bool false] 115))
  have hR := Lib.hid (RR.new T w)
  generalize w.alloc (.cells #[.string T, .int .i64 0, .bool false] 115) = w1 at *
  go_wp2_with fail
  refine (Oct.RefRNum_calls w.heap.size T ⟨T, false⟩ w1 (by omega) hR.out).mono ?_
  rintro e w2 ⟨rfl, _, ho⟩
  rw [hn.out]
  replace hB := Lib.hid (only_below hB.out ho (Nat.le_refl _))
  clear ho
  go_wp2
  go_ret
  exact ⟨rfl, hB.out⟩

theorem begins_iff {s : ByteArray} (hs : 1112 ≤ s.size) : Begins s ↔ s.extract 0 8 = title ∧ 1 ≤ num s ∧ num s ≤ 1024 ∧ 1036 + 44 * num s ≤ s.size - 32 := by
  constructor
  · intro h
    have h1 := num_le h
    have h2 := h.room
    unfold start at h2
    exact ⟨h.title, h1.1, h1.2, by omega⟩
  · rintro ⟨h1, h2, h3, h4⟩
    exact ⟨h1, by rw [cnt_num]; omega, by rw [cnt_num]; omega, by unfold start; omega⟩
theorem title_list : title.toList = [114, 101, 108, 105, 99, 48, 48, 49] := by rw [ByteArray.toList_eq]; rfl
theorem seek_succ (s id : ByteArray) (f k : Nat) : seek s id (f + 1) k = if idAt s k = id then some k else seek s id f (k + 1) := by rw [seek]
theorem seek_zero (s id : ByteArray) (k : Nat) : seek s id 0 k = none := by rw [seek]
attribute [local irreducible] fnd seek rdAt
set_option maxRecDepth 100000 in
set_option maxHeartbeats 4000000 in
theorem RFind_form (s id : ByteArray) (w : World) (hs : s.size ≤ 1000000000) (hid : id.size = 32) (hs2 : 1112 ≤ s.size) (hg : ¬ Begins s) :
    Calls Tryd.prog 18 #[.string s, .string id] w fun e w' => e = .returned (fndV (empty, false, 4)) ∧ Below w.heap.size w w' := by
  have hN := Lib.hid fun w => num_calls s 8 8 rfl w (by omega) hs
  rw [show rdAt s 8 = (num s : Nat) from cnt_num] at hN
  have q0 : ((id.size : Int) != 32) = false := by rw [hid]; rfl
  have d0 : decide ((s.size : Int) < 1112) = false := decide_eq_false (by omega)
  have d1 : (1112 : Int) ≤ s.size := by omega
  have d2 : (8 : Int) ≤ s.size := by omega
  obtain ⟨E, hE⟩ : ∃ E, s.size - 32 = E := ⟨_, rfl⟩
  have e1 : IntKind.i64.wrap ((s.size : Int) - 32) = (E : Nat) := by simp [IntKind.wrap, IntKind.bits, IntKind.signed]; omega
  have hbi := begins_iff hs2
  rw [hE] at hbi
  have hnr : num s < 4294967296 := by
    have := rdAt_range s 8
    have h2 : rdAt s 8 = (num s : Nat) := cnt_num
    rw [h2] at this
    omega
  have hcase : s.extract 0 8 ≠ title ∨ (s.extract 0 8 = title ∧ num s < 1) ∨ (s.extract 0 8 = title ∧ 1 ≤ num s ∧ 1024 < num s) ∨ (s.extract 0 8 = title ∧ 1 ≤ num s ∧ num s ≤ 1024 ∧ E < 1036 + 44 * num s) := by
    by_cases h1 : s.extract 0 8 = title
    · by_cases h2 : num s < 1
      · exact Or.inr (Or.inl ⟨h1, h2⟩)
      · by_cases h3 : 1024 < num s
        · exact Or.inr (Or.inr (Or.inl ⟨h1, by omega, h3⟩))
        · refine Or.inr (Or.inr (Or.inr ⟨h1, by omega, by omega, ?_⟩))
          apply Nat.lt_of_not_le
          intro h4
          exact hg (hbi.2 ⟨h1, by omega, by omega, h4⟩)
    · exact Or.inl h1
  replace hbi := Lib.hid hbi
  replace hg := Lib.hid hg
  replace hid := Lib.hid hid
  replace hE := Lib.hid hE
  have htl := title_list
  generalize num s = n at *
  obtain ⟨T8, hT8⟩ : ∃ T8, s.extract 0 8 = T8 := ⟨_, rfl⟩
  rw [hT8] at hcase
  rcases hcase with h1 | ⟨h1, h2⟩ | ⟨h1, h2, h3⟩ | ⟨h1, h2, h3, h4⟩
  · have t1 := str_ne h1
    rw [htl] at t1
    have t2 : (T8.toList != [114, 101, 108, 105, 99, 48, 48, 49]) = true := by rw [bne, t1]; rfl
    have t3 : ¬ T8.toList = [114, 101, 108, 105, 99, 48, 48, 49] := by simpa using t1
    replace h1 := Lib.hid h1
    go_enter Tryd.func18, Tryd.ntmps18
    go_wp2_with fail
    refine (hN.out _).mono ?_
    rintro e w1 ⟨rfl, bb⟩
    replace bb := Lib.hid bb
    go_wp2
    go_ret3
    exact ⟨rfl, bb.out⟩
  all_goals
    rw [h1] at hT8
    replace h1 := Lib.hid h1
  · have j0 : (n : Int) < 1 := by omega
    go_enter Tryd.func18, Tryd.ntmps18
    go_wp2_with fail
    refine (hN.out _).mono ?_
    rintro e w1 ⟨rfl, bb⟩
    replace bb := Lib.hid bb
    go_wp2
    go_ret3
    exact ⟨rfl, bb.out⟩
  · have j0 : decide ((n : Int) < 1) = false := decide_eq_false (by omega)
    have j1 : (1 : Int) ≤ n := by omega
    have j2 : (1024 : Int) < n := by omega
    go_enter Tryd.func18, Tryd.ntmps18
    go_wp2_with fail
    refine (hN.out _).mono ?_
    rintro e w1 ⟨rfl, bb⟩
    replace bb := Lib.hid bb
    go_wp2
    go_ret3
    exact ⟨rfl, bb.out⟩
  · have j0 : decide ((n : Int) < 1) = false := decide_eq_false (by omega)
    have j1 : (1 : Int) ≤ n := by omega
    have j2 : decide ((1024 : Int) < n) = false := decide_eq_false (by omega)
    have j3 : (n : Int) ≤ 1024 := by omega
    have j4 : (E : Int) < 1036 + 44 * n := by omega
    go_enter Tryd.func18, Tryd.ntmps18
    go_wp2_with fail
    refine (hN.out _).mono ?_
    rintro e w1 ⟨rfl, bb⟩
    replace bb := Lib.hid bb
    go_wp2
    go_ret3
    exact ⟨rfl, bb.out⟩
set_option maxRecDepth 100000 in
set_option maxHeartbeats 8000000 in
theorem RFind_begun (s id : ByteArray) (w : World) (hs : s.size ≤ 1000000000) (hid : id.size = 32) (hs2 : 1112 ≤ s.size) (hg : Begins s) :
    Calls Tryd.prog 18 #[.string s, .string id] w fun e w' => e = .returned (fndV (fnd s id)) ∧ Below w.heap.size w w' := by
  have hN := Lib.hid fun w => num_calls s 8 8 rfl w (by omega) hs
  rw [show rdAt s 8 = (num s : Nat) from cnt_num] at hN
  have hNm := Lib.hid fun (i : Int) (p : Nat) (hi : i = p) (w : World) (hp : p + 4 ≤ s.size) => num_calls s i p hi w hp hs
  have q0 : ((id.size : Int) != 32) = false := by rw [hid]; rfl
  have d0 : decide ((s.size : Int) < 1112) = false := decide_eq_false (by omega)
  have d1 : (1112 : Int) ≤ s.size := by omega
  have d2 : (8 : Int) ≤ s.size := by omega
  obtain ⟨E, hE⟩ : ∃ E, s.size - 32 = E := ⟨_, rfl⟩
  have e1 : IntKind.i64.wrap ((s.size : Int) - 32) = (E : Nat) := by simp [IntKind.wrap, IntKind.bits, IntKind.signed]; omega
  obtain ⟨b1, b2, b3, b4⟩ := (begins_iff hs2).1 hg
  have h0i : 0 < id.size := by omega
  have hby := byte_at id h0i
  obtain ⟨c, hc⟩ : ∃ c, id[0]'h0i = c := ⟨_, rfl⟩
  rw [hc] at hby
  have hcb : c.toNat < 256 := c.toNat_lt
  have hwb := wrap_byte c
  have hlo := lo_is s id c.toNat hby.symm
  have hhi : hi s id = fanAt s c.toNat := by unfold hi; rw [← hby]; rfl
  have hr1 : 0 ≤ fanAt s c.toNat ∧ fanAt s c.toNat < 4294967296 := rdAt_range _ _
  have hr2 : 0 ≤ fanAt s (c.toNat - 1) ∧ fanAt s (c.toNat - 1) < 4294967296 := rdAt_range _ _
  have hF1 : Hid (∀ (i : Int) (w : World), i = (12 + 4 * c.toNat : Nat) → Calls Tryd.prog 34 #[.string s, .int .i64 i] w fun e w' => e = .returned (.int .i64 (fanAt s c.toNat)) ∧ Below w.heap.size w w') := Lib.hid fun i w h => num_calls s i _ h w (by omega) hs
  have hF0 : Hid (∀ (i : Int) (w : World), i = (12 + 4 * (c.toNat - 1) : Nat) → Calls Tryd.prog 34 #[.string s, .int .i64 i] w fun e w' => e = .returned (.int .i64 (fanAt s (c.toNat - 1))) ∧ Below w.heap.size w w') := Lib.hid fun i w h => num_calls s i _ h w (by omega) hs
  obtain ⟨H, hH⟩ := Int.eq_ofNat_of_zero_le hr1.1
  obtain ⟨L1, hL1⟩ := Int.eq_ofNat_of_zero_le hr2.1
  rw [hH] at hF1 hr1 hhi
  rw [hL1] at hF0 hr2 hlo
  have hfr := Lib.hid (fnd_range s id hid (by omega) hg)
  have hfo := Lib.hid (fnd_open hid (show ¬ s.size < 1112 by omega) hg)
  rw [cnt_num, hhi] at hfr hfo
  have htl := title_list
  have hst : Hid (start s = 1036 + 44 * num s) := Lib.hid rfl
  obtain ⟨T8, hT8⟩ : ∃ T8, s.extract 0 8 = T8 := ⟨_, rfl⟩
  rw [hT8] at b1
  rw [b1] at hT8
  replace b1 := Lib.hid b1
  obtain ⟨St, hSt⟩ : ∃ St, St = start s := ⟨_, rfl⟩
  have eSt : (1036 : Int) + 44 * (num s : Nat) = (St : Nat) := by rw [hSt, hst.out]; omega
  have j4 : (St : Int) ≤ E := by omega
  have j5 : decide ((E : Int) < St) = false := decide_eq_false (by omega)
  have j0 : decide ((num s : Int) < 1) = false := decide_eq_false (by omega)
  have j1 : (1 : Int) ≤ num s := by omega
  have j2 : decide ((1024 : Int) < num s) = false := decide_eq_false (by omega)
  have j3 : (num s : Int) ≤ 1024 := by omega
  have hStb : St ≤ 50000 := by omega
  have hnb := Lib.hid b3
  replace hg := Lib.hid hg
  replace hid := Lib.hid hid
  replace hSt := Lib.hid hSt
  clear hhi hH hL1 hby b2 b3 b4
  obtain ⟨n, hnn⟩ : ∃ n, num s = n := ⟨_, rfl⟩
  rw [hnn] at hN hfr hfo eSt j0 j1 j2 j3 hnb
  replace hnn := Lib.hid hnn
  have hnth : Hid (∀ j, j < n → 1036 + 44 * j + 44 ≤ s.size) := Lib.hid fun j hj => by
    have h1 := hg.out.room
    rw [hst.out, hnn.out] at h1
    omega
  replace hE := Lib.hid hE
  have hmain : ∀ (L : Nat), Hid (lo s id = (L : Nat)) → ∀ (wz : World), Hid (Below w.heap.size w wz) → True := fun _ _ _ _ => trivial
  clear hmain
  by_cases hc0 : c.toNat = 0
  · rw [if_pos hc0] at hlo
    rw [hlo] at hfr hfo
    have k0 : decide (0 < (c.toNat : Int)) = false := decide_eq_false (by omega)
    have k1 : (c.toNat : Int) ≤ 0 := by omega
    have k3 : ¬ 0 < c.toNat := by omega
    replace hlo := Lib.hid hlo
    replace hc0 := Lib.hid hc0
    go_enter Tryd.func18, Tryd.ntmps18
    go_wp2_with fail
    refine (hN.out _).mono ?_
    rintro e w1 ⟨rfl, bb⟩
    have hB := Lib.hid bb
    clear bb
    go_wp2_with fail
    refine (hF1.out _ _ (by omega)).mono ?_
    rintro e w3 ⟨rfl, bb⟩
    replace hB := Lib.hid (below_next hB.out bb)
    clear bb
    have n1 : decide ((H : Int) < 0) = false := decide_eq_false (by omega)
    have n2 : (0 : Int) ≤ H := by omega
    have m1 : True := trivial
    · have n5 : True := trivial
      by_cases m2 : n < H
      · have n3 : (n : Int) < H := by omega
        have hf := Lib.hid (hfr.out (by omega))
        replace m2 := Lib.hid m2
        replace m1 := Lib.hid m1
        go_wp2
        go_ret3
        exact ⟨by rw [hf.out]; rfl, hB.out⟩
      · have n3 : decide ((n : Int) < H) = false := decide_eq_false (by omega)
        have n4 : (H : Int) ≤ n := by omega
        have n3' : decide (n < H) = false := decide_eq_false m2
        have hf := Lib.hid (hfo.out ⟨by omega, by omega⟩)
        rw [Int.toNat_natCast, show (0 : Int).toNat = 0 from rfl] at hf
        replace m1 := Lib.hid m1
        replace m2 := Lib.hid m2
        clear hfr hfo hF0 hF1 hN
        go_wp2
        go_loopw [13, 14, 15, 16, 17] (fun i _ _ _ _ wr => ∃ j : Nat, 0 ≤ j ∧ j ≤ H ∧ i = .int .i64 j ∧ Hid (seek s id (H - 0) 0 = seek s id (H - j) j) ∧ Hid (Below w.heap.size w wr)) (fun i _ _ _ _ _ => H - (intOf i).toNat)
        case atStart => exact ⟨0, Nat.le_refl _, by omega, rfl, Lib.hid rfl, hB⟩
        case round =>
          clear hB
          obtain ⟨j, hj1, hj2, rfl, hsk, hB⟩ := hrel
          by_cases hlt : j < H
          · have i1 : (j : Int) < H := by omega
            have i1' : j < H := hlt
            have hsq : Hid (seek s id (H - j) j = if idAt s j = id then some j else seek s id (H - (j + 1)) (j + 1)) := Lib.hid (by
              obtain ⟨f, hf⟩ : ∃ f, H - j = f + 1 := ⟨H - j - 1, by omega⟩
              rw [hf, seek_succ, show H - (j + 1) = f by omega])
            have hrm := hnth.out j (by omega)
            have hJn : j ≤ 1024 := by omega
            obtain ⟨K, hK⟩ : ∃ K, K = 1036 + 44 * j := ⟨_, rfl⟩
            obtain ⟨K2, hK2⟩ : ∃ K2, K2 = K + 32 := ⟨_, rfl⟩
            have eK : (1036 : Int) + 44 * (j : Nat) = (K : Nat) := by omega
            have eK2 : (K : Int) + 32 = (K2 : Nat) := by omega
            have u1 : (K2 : Int) ≤ s.size := by omega
            have u2 : (K : Int) ≤ K2 := by omega
            have hKb : K ≤ 50000 := by omega
            have hKb2 : K2 ≤ 50000 := by omega
            have hX : s.extract K K2 = idAt s j := by rw [hK2, hK]; rfl
            have hA : Hid (∀ (i : Int) (w : World), i = (K + 32 : Nat) → Calls Tryd.prog 34 #[.string s, .int .i64 i] w fun e w' => e = .returned (.int .i64 (atAt s j)) ∧ Below w.heap.size w w') := Lib.hid fun i w h => by
              have := hNm.out i (K + 32) h w (by omega)
              rw [hK] at this
              exact this
            have hS : Hid (∀ (i : Int) (w : World), i = (K + 36 : Nat) → Calls Tryd.prog 34 #[.string s, .int .i64 i] w fun e w' => e = .returned (.int .i64 (szAt s j)) ∧ Below w.heap.size w w') := Lib.hid fun i w h => by
              have := hNm.out i (K + 36) h w (by omega)
              rw [hK] at this
              exact this
            have hCk : Hid (∀ (i : Int) (w : World), i = (K + 40 : Nat) → Calls Tryd.prog 34 #[.string s, .int .i64 i] w fun e w' => e = .returned (.int .i64 (ckAt s j)) ∧ Below w.heap.size w w') := Lib.hid fun i w h => by
              have := hNm.out i (K + 40) h w (by omega)
              rw [hK] at this
              exact this
            have hK' : Hid (K = 1036 + 44 * j) := Lib.hid hK
            have hK2' : Hid (K2 = K + 32) := Lib.hid hK2
            clear hK hK2
            by_cases hx : idAt s j = id
            · have q1 := str_eq hx
              have q2 : ((idAt s j).toList != id.toList) = false := by rw [bne, q1]; rfl
              have hs3 : Hid (fnd s id = tell s j) := Lib.hid (by rw [hf.out, hsk.out, hsq.out, if_pos hx]; rfl)
              have htl2 : Hid (tell s j = if 131072 < szAt s j ∨ (s.size : Int) < start s + atAt s j + szAt s j + 32 then (empty, false, 4) else if chk (there s j) = ckAt s j then (there s j, true, 0) else (empty, false, 20)) := Lib.hid rfl
              have hth : Hid (there s j = s.extract (start s + (atAt s j).toNat) (start s + (atAt s j).toNat + (szAt s j).toNat)) := Lib.hid rfl
              have ra : 0 ≤ atAt s j ∧ atAt s j < 4294967296 := rdAt_range _ _
              have rz : 0 ≤ szAt s j ∧ szAt s j < 4294967296 := rdAt_range _ _
              obtain ⟨a, ha⟩ := Int.eq_ofNat_of_zero_le ra.1
              obtain ⟨z, hz⟩ := Int.eq_ofNat_of_zero_le rz.1
              rw [ha] at ra htl2 hth hA
              rw [hz] at rz htl2 hth hS
              rw [Int.toNat_natCast, Int.toNat_natCast, ← hSt.out] at hth
              rw [← hSt.out] at htl2
              replace hx := Lib.hid hx
              replace ha := Lib.hid ha
              replace hz := Lib.hid hz
              generalize idAt s j = X at *
              generalize ckAt s j = C at *
              generalize tell s j = R at *
              generalize there s j = th at *
              have hab : a < 4294967296 := by omega
              have hzb : z < 4294967296 := by omega
              go_wp2_with fail
              refine (hA.out _ _ (by have := hK2'.out; omega)).mono ?_
              rintro e w4 ⟨rfl, bb⟩
              replace hB := Lib.hid (below_next hB.out bb)
              clear bb
              go_wp2_with fail
              refine (hS.out _ _ (by omega)).mono ?_
              rintro e w5 ⟨rfl, bb⟩
              replace hB := Lib.hid (below_next hB.out bb)
              clear bb
              by_cases c1 : 131072 < z
              · have v1 : (131072 : Int) < z := by omega
                have hR : Hid (R = (empty, false, 4)) := Lib.hid (by rw [htl2.out, if_pos (Or.inl v1)])
                go_wp2
                go_ret3
                exact ⟨by rw [hs3.out, hR.out]; rfl, hB.out⟩
              · have v1 : decide ((131072 : Int) < z) = false := decide_eq_false (by omega)
                have v2 : (z : Int) ≤ 131072 := by omega
                have v1' : decide (131072 < z) = false := decide_eq_false c1
                by_cases c2 : E < St + a + z
                · have v3 : (E : Int) < St + a + z := by omega
                  have hR : Hid (R = (empty, false, 4)) := Lib.hid (by rw [htl2.out, if_pos (Or.inr (by have := hE.out; omega))])
                  replace c2 := Lib.hid c2
                  go_wp2
                  go_ret3
                  exact ⟨by rw [hs3.out, hR.out]; rfl, hB.out⟩
                · have v3 : decide ((E : Int) < St + a + z) = false := decide_eq_false (by omega)
                  have v4 : (St : Int) + a + z ≤ E := by omega
                  obtain ⟨P1, hP1⟩ : ∃ P1, P1 = St + a := ⟨_, rfl⟩
                  obtain ⟨P2, hP2⟩ : ∃ P2, P2 = P1 + z := ⟨_, rfl⟩
                  have eP1 : (St : Int) + a = (P1 : Nat) := by omega
                  have eP2 : (P1 : Int) + z = (P2 : Nat) := by omega
                  have hEE := hE.out
                  have y1 : (P2 : Int) ≤ s.size := by omega
                  have y2 : (P1 : Int) ≤ P2 := by omega
                  have y3 : (P2 : Int) ≤ E := by omega
                  have y4 : decide ((E : Int) < P2) = false := decide_eq_false (by omega)
                  have hPb : P1 ≤ 1000000000 := by omega
                  have hPb2 : P2 ≤ 1000000000 := by omega
                  have hTh : s.extract P1 P2 = th := by rw [hth.out, hP2, hP1]
                  have hths : th.size ≤ 1000000000 := by rw [← hTh, ByteArray.size_extract]; omega
                  have hSum := Lib.hid fun w => RChk_b th w (by omega)
                  have hcr := chk_range th
                  have hR : Hid (R = if chk th = C then (th, true, 0) else (empty, false, 20)) := Lib.hid (by rw [htl2.out, if_neg (by omega)])
                  have hwc : wrap64 (chk th) = chk th := by unfold wrap64; omega
                  clear hEE v3 v4 hP1 hP2 c2
                  generalize chk th = ch at *
                  go_wp2_with fail
                  refine (hSum.out _).mono ?_
                  rintro e w6 ⟨rfl, bb⟩
                  replace hB := Lib.hid (below_next hB.out bb)
                  clear bb
                  go_wp2_with fail
                  refine (hCk.out _ _ (by omega)).mono ?_
                  rintro e w7 ⟨rfl, bb⟩
                  replace hB := Lib.hid (below_next hB.out bb)
                  clear bb
                  by_cases c3 : ch = C
                  · have q3 : (ch != C) = false := by simpa using c3
                    rw [if_pos c3] at hR
                    replace c3 := Lib.hid c3
                    go_wp2
                    go_ret3
                    exact ⟨by rw [hs3.out, hR.out]; rfl, hB.out⟩
                  · have q3 : (ch != C) = true := by simpa using c3
                    rw [if_neg c3] at hR
                    replace c3 := Lib.hid c3
                    go_wp2
                    go_ret3
                    exact ⟨by rw [hs3.out, hR.out]; rfl, hB.out⟩
            · have q1 := str_ne hx
              have q2 : ((idAt s j).toList != id.toList) = true := by rw [bne, q1]; rfl
              have hs3 : Hid (seek s id (H - j) j = seek s id (H - (j + 1)) (j + 1)) := Lib.hid (by rw [hsq.out, if_neg hx])
              replace hx := Lib.hid hx
              clear hA hS hCk
              generalize idAt s j = X at *
              go_wp2
              exact ⟨⟨j + 1, by omega, by omega, by go_num, Lib.hid (hsk.out.trans hs3.out), hB⟩, by simp [intOf]; omega⟩
          · have j5 : decide ((j : Int) < H) = false := decide_eq_false (by omega)
            have j6 : (H : Int) ≤ j := by omega
            obtain rfl : j = H := by omega
            have hs3 : Hid (seek s id (j - 0) 0 = none) := Lib.hid (by rw [hsk.out, Nat.sub_self]; exact seek_zero s id j)
            go_wp2
            go_ret3
            exact ⟨by rw [hf.out, hs3.out]; rfl, hB.out⟩
  · rw [if_neg hc0] at hlo
    rw [hlo] at hfr hfo
    have k0 : 0 < (c.toNat : Int) := by omega
    have k2 : 0 < c.toNat := by omega
    replace hlo := Lib.hid hlo
    go_enter Tryd.func18, Tryd.ntmps18
    go_wp2_with fail
    refine (hN.out _).mono ?_
    rintro e w1 ⟨rfl, bb⟩
    have hB := Lib.hid bb
    clear bb
    go_wp2_with fail
    refine (hF0.out _ _ (by omega)).mono ?_
    rintro e w2 ⟨rfl, bb⟩
    replace hB := Lib.hid (below_next hB.out bb)
    clear bb
    go_wp2_with fail
    refine (hF1.out _ _ (by omega)).mono ?_
    rintro e w3 ⟨rfl, bb⟩
    replace hB := Lib.hid (below_next hB.out bb)
    clear bb
    by_cases m1 : H < L1
    · have n1 : (H : Int) < L1 := by omega
      have hf := Lib.hid (hfr.out (by omega))
      replace m1 := Lib.hid m1
      go_wp2
      go_ret3
      exact ⟨by rw [hf.out]; rfl, hB.out⟩
    · have n1 : decide ((H : Int) < L1) = false := decide_eq_false (by omega)
      have n2 : (L1 : Int) ≤ H := by omega
      have n1' : decide (H < L1) = false := decide_eq_false m1
      by_cases m2 : n < H
      · have n3 : (n : Int) < H := by omega
        have hf := Lib.hid (hfr.out (by omega))
        replace m2 := Lib.hid m2
        replace m1 := Lib.hid m1
        go_wp2
        go_ret3
        exact ⟨by rw [hf.out]; rfl, hB.out⟩
      · have n3 : decide ((n : Int) < H) = false := decide_eq_false (by omega)
        have n4 : (H : Int) ≤ n := by omega
        have n3' : decide (n < H) = false := decide_eq_false m2
        have hf := Lib.hid (hfo.out ⟨by omega, by omega⟩)
        rw [Int.toNat_natCast, Int.toNat_natCast] at hf
        replace m1 := Lib.hid m1
        replace m2 := Lib.hid m2
        clear hfr hfo hF0 hF1 hN
        go_wp2
        generalize L1 = L at *
        go_loopw [13, 14, 15, 16, 17] (fun i _ _ _ _ wr => ∃ j : Nat, L ≤ j ∧ j ≤ H ∧ i = .int .i64 j ∧ Hid (seek s id (H - L) L = seek s id (H - j) j) ∧ Hid (Below w.heap.size w wr)) (fun i _ _ _ _ _ => H - (intOf i).toNat)
        case atStart => exact ⟨L, Nat.le_refl _, by omega, rfl, Lib.hid rfl, hB⟩
        case round =>
          clear hB
          obtain ⟨j, hj1, hj2, rfl, hsk, hB⟩ := hrel
          by_cases hlt : j < H
          · have i1 : (j : Int) < H := by omega
            have i1' : j < H := hlt
            have hsq : Hid (seek s id (H - j) j = if idAt s j = id then some j else seek s id (H - (j + 1)) (j + 1)) := Lib.hid (by
              obtain ⟨f, hf⟩ : ∃ f, H - j = f + 1 := ⟨H - j - 1, by omega⟩
              rw [hf, seek_succ, show H - (j + 1) = f by omega])
            have hrm := hnth.out j (by omega)
            have hJn : j ≤ 1024 := by omega
            obtain ⟨K, hK⟩ : ∃ K, K = 1036 + 44 * j := ⟨_, rfl⟩
            obtain ⟨K2, hK2⟩ : ∃ K2, K2 = K + 32 := ⟨_, rfl⟩
            have eK : (1036 : Int) + 44 * (j : Nat) = (K : Nat) := by omega
            have eK2 : (K : Int) + 32 = (K2 : Nat) := by omega
            have u1 : (K2 : Int) ≤ s.size := by omega
            have u2 : (K : Int) ≤ K2 := by omega
            have hKb : K ≤ 50000 := by omega
            have hKb2 : K2 ≤ 50000 := by omega
            have hX : s.extract K K2 = idAt s j := by rw [hK2, hK]; rfl
            have hA : Hid (∀ (i : Int) (w : World), i = (K + 32 : Nat) → Calls Tryd.prog 34 #[.string s, .int .i64 i] w fun e w' => e = .returned (.int .i64 (atAt s j)) ∧ Below w.heap.size w w') := Lib.hid fun i w h => by
              have := hNm.out i (K + 32) h w (by omega)
              rw [hK] at this
              exact this
            have hS : Hid (∀ (i : Int) (w : World), i = (K + 36 : Nat) → Calls Tryd.prog 34 #[.string s, .int .i64 i] w fun e w' => e = .returned (.int .i64 (szAt s j)) ∧ Below w.heap.size w w') := Lib.hid fun i w h => by
              have := hNm.out i (K + 36) h w (by omega)
              rw [hK] at this
              exact this
            have hCk : Hid (∀ (i : Int) (w : World), i = (K + 40 : Nat) → Calls Tryd.prog 34 #[.string s, .int .i64 i] w fun e w' => e = .returned (.int .i64 (ckAt s j)) ∧ Below w.heap.size w w') := Lib.hid fun i w h => by
              have := hNm.out i (K + 40) h w (by omega)
              rw [hK] at this
              exact this
            have hK' : Hid (K = 1036 + 44 * j) := Lib.hid hK
            have hK2' : Hid (K2 = K + 32) := Lib.hid hK2
            clear hK hK2
            by_cases hx : idAt s j = id
            · have q1 := str_eq hx
              have q2 : ((idAt s j).toList != id.toList) = false := by rw [bne, q1]; rfl
              have hs3 : Hid (fnd s id = tell s j) := Lib.hid (by rw [hf.out, hsk.out, hsq.out, if_pos hx]; rfl)
              have htl2 : Hid (tell s j = if 131072 < szAt s j ∨ (s.size : Int) < start s + atAt s j + szAt s j + 32 then (empty, false, 4) else if chk (there s j) = ckAt s j then (there s j, true, 0) else (empty, false, 20)) := Lib.hid rfl
              have hth : Hid (there s j = s.extract (start s + (atAt s j).toNat) (start s + (atAt s j).toNat + (szAt s j).toNat)) := Lib.hid rfl
              have ra : 0 ≤ atAt s j ∧ atAt s j < 4294967296 := rdAt_range _ _
              have rz : 0 ≤ szAt s j ∧ szAt s j < 4294967296 := rdAt_range _ _
              obtain ⟨a, ha⟩ := Int.eq_ofNat_of_zero_le ra.1
              obtain ⟨z, hz⟩ := Int.eq_ofNat_of_zero_le rz.1
              rw [ha] at ra htl2 hth hA
              rw [hz] at rz htl2 hth hS
              rw [Int.toNat_natCast, Int.toNat_natCast, ← hSt.out] at hth
              rw [← hSt.out] at htl2
              replace hx := Lib.hid hx
              replace ha := Lib.hid ha
              replace hz := Lib.hid hz
              generalize idAt s j = X at *
              generalize ckAt s j = C at *
              generalize tell s j = R at *
              generalize there s j = th at *
              have hab : a < 4294967296 := by omega
              have hzb : z < 4294967296 := by omega
              go_wp2_with fail
              refine (hA.out _ _ (by have := hK2'.out; omega)).mono ?_
              rintro e w4 ⟨rfl, bb⟩
              replace hB := Lib.hid (below_next hB.out bb)
              clear bb
              go_wp2_with fail
              refine (hS.out _ _ (by omega)).mono ?_
              rintro e w5 ⟨rfl, bb⟩
              replace hB := Lib.hid (below_next hB.out bb)
              clear bb
              by_cases c1 : 131072 < z
              · have v1 : (131072 : Int) < z := by omega
                have hR : Hid (R = (empty, false, 4)) := Lib.hid (by rw [htl2.out, if_pos (Or.inl v1)])
                go_wp2
                go_ret3
                exact ⟨by rw [hs3.out, hR.out]; rfl, hB.out⟩
              · have v1 : decide ((131072 : Int) < z) = false := decide_eq_false (by omega)
                have v2 : (z : Int) ≤ 131072 := by omega
                have v1' : decide (131072 < z) = false := decide_eq_false c1
                by_cases c2 : E < St + a + z
                · have v3 : (E : Int) < St + a + z := by omega
                  have hR : Hid (R = (empty, false, 4)) := Lib.hid (by rw [htl2.out, if_pos (Or.inr (by have := hE.out; omega))])
                  replace c2 := Lib.hid c2
                  go_wp2
                  go_ret3
                  exact ⟨by rw [hs3.out, hR.out]; rfl, hB.out⟩
                · have v3 : decide ((E : Int) < St + a + z) = false := decide_eq_false (by omega)
                  have v4 : (St : Int) + a + z ≤ E := by omega
                  obtain ⟨P1, hP1⟩ : ∃ P1, P1 = St + a := ⟨_, rfl⟩
                  obtain ⟨P2, hP2⟩ : ∃ P2, P2 = P1 + z := ⟨_, rfl⟩
                  have eP1 : (St : Int) + a = (P1 : Nat) := by omega
                  have eP2 : (P1 : Int) + z = (P2 : Nat) := by omega
                  have hEE := hE.out
                  have y1 : (P2 : Int) ≤ s.size := by omega
                  have y2 : (P1 : Int) ≤ P2 := by omega
                  have y3 : (P2 : Int) ≤ E := by omega
                  have y4 : decide ((E : Int) < P2) = false := decide_eq_false (by omega)
                  have hPb : P1 ≤ 1000000000 := by omega
                  have hPb2 : P2 ≤ 1000000000 := by omega
                  have hTh : s.extract P1 P2 = th := by rw [hth.out, hP2, hP1]
                  have hths : th.size ≤ 1000000000 := by rw [← hTh, ByteArray.size_extract]; omega
                  have hSum := Lib.hid fun w => RChk_b th w (by omega)
                  have hcr := chk_range th
                  have hR : Hid (R = if chk th = C then (th, true, 0) else (empty, false, 20)) := Lib.hid (by rw [htl2.out, if_neg (by omega)])
                  have hwc : wrap64 (chk th) = chk th := by unfold wrap64; omega
                  clear hEE v3 v4 hP1 hP2 c2
                  generalize chk th = ch at *
                  go_wp2_with fail
                  refine (hSum.out _).mono ?_
                  rintro e w6 ⟨rfl, bb⟩
                  replace hB := Lib.hid (below_next hB.out bb)
                  clear bb
                  go_wp2_with fail
                  refine (hCk.out _ _ (by omega)).mono ?_
                  rintro e w7 ⟨rfl, bb⟩
                  replace hB := Lib.hid (below_next hB.out bb)
                  clear bb
                  by_cases c3 : ch = C
                  · have q3 : (ch != C) = false := by simpa using c3
                    rw [if_pos c3] at hR
                    replace c3 := Lib.hid c3
                    go_wp2
                    go_ret3
                    exact ⟨by rw [hs3.out, hR.out]; rfl, hB.out⟩
                  · have q3 : (ch != C) = true := by simpa using c3
                    rw [if_neg c3] at hR
                    replace c3 := Lib.hid c3
                    go_wp2
                    go_ret3
                    exact ⟨by rw [hs3.out, hR.out]; rfl, hB.out⟩
            · have q1 := str_ne hx
              have q2 : ((idAt s j).toList != id.toList) = true := by rw [bne, q1]; rfl
              have hs3 : Hid (seek s id (H - j) j = seek s id (H - (j + 1)) (j + 1)) := Lib.hid (by rw [hsq.out, if_neg hx])
              replace hx := Lib.hid hx
              clear hA hS hCk
              generalize idAt s j = X at *
              go_wp2
              exact ⟨⟨j + 1, by omega, by omega, by go_num, Lib.hid (hsk.out.trans hs3.out), hB⟩, by simp [intOf]; omega⟩
          · have j5 : decide ((j : Int) < H) = false := decide_eq_false (by omega)
            have j6 : (H : Int) ≤ j := by omega
            obtain rfl : j = H := by omega
            have hs3 : Hid (seek s id (j - L) L = none) := Lib.hid (by rw [hsk.out, Nat.sub_self]; exact seek_zero s id j)
            go_wp2
            go_ret3
            exact ⟨by rw [hf.out, hs3.out]; rfl, hB.out⟩
set_option maxRecDepth 100000 in
set_option maxHeartbeats 1000000 in
theorem RFind_calls (s id : ByteArray) (w : World) (hs : s.size ≤ 1000000000) :
    Calls Tryd.prog 18 #[.string s, .string id] w fun e w' => e = .returned (fndV (fnd s id)) ∧ Below w.heap.size w w' := by
  by_cases hid : id.size = 32
  · by_cases hs2 : s.size < 1112
    · rw [fnd_short s id hid hs2]
      have q0 : ((id.size : Int) != 32) = false := by rw [hid]; rfl
      have d1 : (s.size : Int) < 1112 := by omega
      replace hid := Lib.hid hid
      go_enter Tryd.func18, Tryd.ntmps18
      go_wp2
      go_ret3
      exact ⟨rfl, Below.refl _ _⟩
    · by_cases hg : Begins s
      · exact RFind_begun s id w hs hid (by omega) hg
      · rw [fnd_form s id hid hs2 hg]
        exact RFind_form s id w hs hid (by omega) hg
  · rw [fnd_arg s id hid]
    have q0 : ((id.size : Int) != 32) = true := by rw [bne_iff_ne]; omega
    go_enter Tryd.func18, Tryd.ntmps18
    go_wp2
    go_ret3
    exact ⟨rfl, Below.refl _ _⟩
end Go.Proofs.YtliojhhiadfmiaaDoor.Pk
