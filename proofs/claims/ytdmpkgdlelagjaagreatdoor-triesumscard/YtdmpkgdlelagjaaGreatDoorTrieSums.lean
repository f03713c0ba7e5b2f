/-
  Proved: for every list of ids, every three bytes and every number, TrieSums returns true and turns nothing of what it was given. Conditions: none beyond the form's own (the digest's constants are what the program's text lays: the card ties them).
-/
import Derived.Test.YtdmpkgdlelagjaaGreatDoorRows
import Derived.Test.YtdmpkgdlelagjaaGreatDoorCards
import Derived.Test.YtdmpkgdlelagjaaGreatDoorTie
import Derived.Test.YtdmpkgdlelagjaaGreatDoorOctKit
import Derived.SevenTiedAt
import Derived.Test.YtdmpkgdlelagjaaGreatDoorTrThree
import Derived.Test.YtdmpkgdlelagjaaGreatDoorTrTails
import Derived.Test.YtdmpkgdlelagjaaGreatDoorRelReg
import Derived.ProofKit
import Derived.OpenShut
import Derived.Stop.Joined
import Derived.LaidMore
import Derived.MakeChecks
import Derived.Deep.DeepCutAuto
import Derived.Deep.CutRange
import Derived.Deep.RegionHeld3
namespace Go.Proofs.YtdmpkgdlelagjaaGreatDoor.trieSums
open Go Go.ChangeShapes Go.WideShapes Go.ChangeAt Go.RowKit Tr
open Ident (by_ RowsAt open_rows hex hex_size has dg)
open Sh (b_alloc b_drew b_drewN b_next b_then Rises)

theorem rem7 (c : Int) : ∃ k : Nat, k < 7 ∧ (IntKind.u64.wrap c).tmod 7 = (k : Int) := by
  rw [IntKind.wrap_u64, Int.tmod_eq_emod_of_nonneg (by omega)]
  have a := Int.emod_nonneg (c % 18446744073709551616) (show (7 : Int) ≠ 0 by omega)
  have b := Int.emod_lt_of_pos (c % 18446744073709551616) (show (0 : Int) < 7 by omega)
  exact ⟨(c % 18446744073709551616 % 7).toNat, by omega, by omega⟩
set_option maxRecDepth 100000 in
set_option maxHeartbeats 8000000 in
theorem walk (a : Option Addr) (n cap b off : Nat) (F : Nat → Nat → UInt8) (x y z : UInt8) (lg : Int) (w : World) (hR : RowsAt w a b off n F) (hK : Sha.Kc w) :
    Calls Tryz.prog 6 #[.slice a n cap, .agg #[.int .u8 (x.toNat : Int), .int .u8 (y.toNat : Int), .int .u8 (z.toNat : Int)], .int .i64 lg] w fun e w' => e = .returned (.bool true) ∧ Below w.heap.size w w' := by
  have bX := b_alloc w (.cells #[.int .u8 (x.toNat : Int), .int .u8 (y.toNat : Int), .int .u8 (z.toNat : Int)] 47)
  have tX := ThreeAt.new w x y z 47
  have hAw := Lib.hid (awake_calls _ (kc_below hK bX))
  replace hR := Lib.hid hR
  replace hK := Lib.hid hK
  replace bX := Lib.hid bX
  replace tX := Lib.hid tX
  go_enter Tryz.func6, Tryz.ntmps6
  go_wp2_with fail
  refine hAw.out.mono ?_
  rintro e w1 ⟨rfl, b1⟩
  have tX1 := Lib.hid (tX.out.next b1)
  have bw1 := Lib.hid (b_then bX.out b1)
  clear hAw tX bX b1
  by_cases h80 : 80 < n
  · have l0 : (80 : Int) < n := by omega
    go_wp2
    go_ret
    exact ⟨rfl, bw1.out⟩
  have l0 : ¬ (80 : Int) < n := by omega
  have hSo := Lib.hid (sorted_calls a cap b off n F w1 (rows_next hR.out bw1.out) (by omega))
  have hSet := Lib.hid (ids_set F n)
  have hle : (ids F n).length ≤ 80 := by have := ids_len F n; omega
  obtain ⟨A, hA⟩ : ∃ L, ids F n = L := ⟨_, rfl⟩
  rw [hA] at hSo hSet hle
  clear hA hR
  go_wp2_with fail
  refine hSo.out.mono ?_
  rintro e w3 ⟨v2, rfl, hO2, p2⟩
  have bw3 := Lib.hid (b_then bw1.out p2)
  have tX3 := Lib.hid (tX1.out.next p2)
  obtain ⟨aA, cA, bA, oA, rfl, hTA, hcA, -⟩ := hO2.at_
  replace hTA := Lib.hid hTA
  obtain ⟨na, hna⟩ : ∃ na, A.length = na := ⟨_, rfl⟩
  rw [hna] at hcA ⊢
  clear hSo tX1 bw1 hO2 p2
  obtain ⟨k, hk5, hk3⟩ := rem7 lg
  have hk64 : k ≤ 64 := Nat.le_trans (Nat.le_of_lt hk5) (by decide)
  have hk0 : IntKind.i64.wrap (k : Int) = (k : Int) := IntWalk.i64_in _ (by omega)
  have hk1 : wrap64 (k : Int) = (k : Int) := IntWalk.wrap64_in _ ⟨by omega, by omega⟩
  have q1 : (k : Int) ≤ 64 := Int.ofNat_le.2 hk64
  have q2 : (0 : Int) ≤ k := Int.natCast_nonneg k
  have hz32 := three_size x y z
  have hIp := Lib.hid (hex_pre hz32 k hk64)
  have hhs := hex_size hz32
  have hps := Lib.hid (Ident.size_extract (hex (th x y z ++ zs 29)) k (by rw [hhs]; exact hk64))
  have hHe := Lib.hid fun w' => Ident.Hex_calls (th x y z ++ zs 29) w'
  have hcv1 := (tX3.out.next (b_drew _)).conv
  have bZ := b_then (b_alloc w3 (.cells (Array.replicate 29 (.int .u8 0)) 5)) (b_drew _)
  have hcv2 := (tX3.out.next bZ).conv
  have hcv3 := zs_conv w3 29
  have hmk := make_zs 29 29 rfl (by decide)
  have q0 : ¬ 9223372036854775807 < (th x y z).size + (zs 29).size := by rw [zs_size]; show ¬ _ < 3 + 29; decide
  obtain ⟨T, hT⟩ : ∃ T, th x y z = T := ⟨_, rfl⟩
  obtain ⟨Z, hZ⟩ : ∃ Z, zs 29 = Z := ⟨_, rfl⟩
  rw [hT] at hcv1 hcv2
  rw [hT, hZ] at hHe q0 hhs hIp hps
  rw [hZ] at hcv3
  clear hT hz32 hZ
  obtain ⟨H, hH⟩ : ∃ H, hex (T ++ Z) = H := ⟨_, rfl⟩
  rw [hH] at hHe hhs hIp hps
  clear hH
  replace bZ := Lib.hid bZ
  go_upto_region 6 with (fail)
  go_cut [8] from 26 to 36 (fun p wx => p = .string (H.extract 0 k) ∧ Hid (Below w3.heap.size w3 wx))
  case first =>
    go_region_law ((go_simp; go_at_call 21; refine (hHe.out _).mono ?_; rintro e w4 ⟨rfl, b4⟩; have bE := Lib.hid (b_then bZ.out b4)))
    all_goals
      go_wp2
      go_meet
      exact ⟨rfl, bE⟩
  case rest =>
    obtain ⟨rfl, hb4⟩ := hcut
    have bw4 := Lib.hid (b_then bw3.out hb4.out)
    replace hTA := Lib.hid (hTA.out.next hb4.out)
    have hp7 : (H.extract 0 k).size < 64 := by rw [hps.out]; omega
    obtain ⟨p, hp⟩ : ∃ p, H.extract 0 k = p := ⟨_, rfl⟩
    rw [hp] at hIp hp7 ⊢
    have hKc := Lib.hid (kc_below hK.out bw4.out)
    clear hp hb4 bZ hk0 hk1 hk3 hk64 hk5 hhs hHe hcv1 hcv2 hcv3 hmk q0 q1 q2 tX3 bw3 hps
    have hLk := Lib.hid (Look_ok aA cA bA oA A p wc hTA.out (by omega) hSet.out hIp.out hKc.out)
    have hchk : IsCheck (cellOf A p) 0 := check_cellOf hSet.out (by omega) hIp.out
    have hbl : (below A p).length ≤ A.length := List.length_filter_le _ _
    have hil : (cellOf A p).ids.length ≤ 30000 := by
      rw [cell_ids']
      split
      · omega
      · exact Nat.zero_le _
    have hkl : (cellOf A p).kds.length ≤ 140737488351232 := by
      rw [cell_kds']
      split
      · exact Nat.zero_le _
      · rw [kids_length]; omega
    have hCh := Lib.hid fun vi vk w' (hb : Below wc.heap.size wc w') (h1 : Lst w' vi (cellOf A p).ids) (h2 : Lst w' vk (cellOf A p).kds) =>
      Check_ok (cellOf A p) vi vk w' h1 h2 (kc_below hKc.out hb) hil hkl (by show p.size ≤ _; omega) 0 hchk
    have hIK : Hid (((below A p).length ≤ 8 ∧ (cellOf A p).ids = below A p ∧ (cellOf A p).kds = []) ∨ (8 < (below A p).length ∧ (cellOf A p).ids = [] ∧ (cellOf A p).kds = kids p.size (below A p))) := Lib.hid (by
      rw [cell_ids', cell_kds']
      by_cases h : (below A p).length ≤ 8
      · rw [if_pos h, if_pos h]; exact Or.inl ⟨h, rfl, rfl⟩
      · rw [if_neg h, if_neg h]; exact Or.inr ⟨by omega, rfl, rfl⟩)
    unfold LookIs at hLk
    simp only [cellV_of] at hLk hCh
    obtain ⟨R, hRs⟩ : ∃ R, Hid (sumAt p.size (below A p) = R) := ⟨_, Lib.hid rfl⟩
    rw [hRs.out] at hLk hCh
    obtain ⟨q, hq⟩ : ∃ q, Hid ((below A p).length = q) := ⟨_, Lib.hid rfl⟩
    rw [hq.out] at hLk hCh hIK hbl
    obtain ⟨I, hI⟩ : ∃ I, (cellOf A p).ids = I := ⟨_, rfl⟩
    obtain ⟨K, hKd⟩ : ∃ K, (cellOf A p).kds = K := ⟨_, rfl⟩
    rw [hI] at hLk hCh hIK hil
    rw [hKd] at hLk hCh hIK hkl
    clear hI hKd hchk hil hkl
    rw [hna] at hLk
    go_wp2_with fail
    refine hLk.out.mono ?_
    rintro e w5 ⟨vi, vk, rfl, hi5, hk5, p5⟩
    obtain ⟨ai, ci, bi, oi, rfl, hci, hTi⟩ := hi5
    obtain ⟨ak, ck, bk, ok, rfl, hck, hTk⟩ := hk5
    obtain ⟨ni, hni⟩ : ∃ ni, Hid (I.length = ni) := ⟨_, Lib.hid rfl⟩
    obtain ⟨nk, hnk⟩ : ∃ nk, Hid (K.length = nk) := ⟨_, Lib.hid rfl⟩
    have bA := b_alloc w5 (.cells #[.string p, .int .i64 (q : Int), .string R, .slice ai I.length ci, .slice ak K.length ck] 25)
    have hCh1 := hCh.out _ _ _ (b_then p5 bA) ⟨ai, ci, bi, oi, rfl, hci, hTi.next bA⟩ ⟨ak, ck, bk, ok, rfl, hck, hTk.next bA⟩
    have cA5 := CellAt.new w5 (.string p) (.int .i64 (q : Int)) (.string R) (.slice ai I.length ci) (.slice ak K.length ck) 25
    have bw5 := b_then p5 bA
    rw [hni.out, hnk.out] at hCh1 cA5 bw5 ⊢
    rw [hni.out, hnk.out] at bA
    replace hTi := Lib.hid (hTi.next bA)
    replace hTk := Lib.hid (hTk.next bA)
    replace hCh1 := Lib.hid hCh1
    replace bw5 := Lib.hid bw5
    have cA5' := Lib.hid cA5
    obtain ⟨d0, d1, d2, d3, d4⟩ := cA5
    clear hci hck hCh hLk bA p5
    go_wp2_with fail
    refine hCh1.out.mono ?_
    rintro e w6 ⟨rfl, p6⟩
    have cA6 := Lib.hid (cA5'.out.next p6)
    have bw6 := Lib.hid (b_then bw5.out p6)
    replace hTi := Lib.hid (hTi.out.next p6)
    replace hTk := Lib.hid (hTk.out.next p6)
    clear d0 d1 d2 d3 d4 hCh1 cA5' bw5 p6
    obtain ⟨d0, d1, d2, d3, d4⟩ := cA6.out
    have pe : (p.toList != p.toList) = false := by simp
    go_wp2_with fail
    go_loopw [11, 12] (fun c i wr => ∃ k : Nat, k ≤ na ∧ i = .int .i64 (k : Int) ∧ c = .int .i64 ((below (A.take k) p).length : Int) ∧ w6 = wr) (fun _ i _ => na - (intOf i).toNat)
    case atStart => exact ⟨0, by omega, rfl, rfl, rfl⟩
    case round =>
      obtain ⟨k, hk, rfl, rfl, rfl⟩ := hrel
      by_cases hlt : k < na
      · have i1 : (k : Int) < na := by omega
        have i0 : 0 ≤ (k : Int) := by omega
        have hkl : k < A.length := by omega
        have ha := hTA.out.addr (by omega)
        subst ha
        have c0 := (hTA.out.next bw6.out).cell k _ (List.getElem?_eq_getElem hkl)
        obtain ⟨s, hs⟩ : ∃ s, Hid (A[k] = s) := ⟨_, Lib.hid rfl⟩
        rw [hs.out] at c0
        have hml : (below (A.take k) p).length ≤ 80 := by
          have h1 : (below (A.take k) p).length ≤ (A.take k).length := List.length_filter_le _ _
          have h2 : (A.take k).length ≤ A.length := List.length_take_le' _ _
          omega
        go_wp2_with fail
        refine (Ident.Has_calls s p w6).mono ?_
        rintro e w' ⟨rfl, rfl⟩
        by_cases hh : has s p
        · have hh' : decide (has s p) = true := decide_eq_true hh
          have hnx : (((below (A.take (k + 1)) p).length : Nat) : Int) = ((below (A.take k) p).length : Int) + 1 := by
            rw [← below_snoc_yes hkl hs.out hh, List.length_append]; rfl
          replace hnx := Lib.hid hnx
          replace hh := Lib.hid hh
          rw [hh']
          generalize (below (A.take k) p).length = m at *
          go_wp2
          exact ⟨⟨k + 1, by omega, by go_num, by rw [hnx.out], trivial⟩, by simp [intOf]; omega⟩
        · have hh' : decide (has s p) = false := decide_eq_false hh
          have hnx : below (A.take k) p = below (A.take (k + 1)) p := below_snoc_no hkl hs.out hh
          replace hh := Lib.hid hh
          rw [hh']
          rw [hnx]
          go_wp2
          exact ⟨⟨k + 1, by omega, by go_num, rfl, trivial⟩, by simp [intOf]; omega⟩
      · obtain rfl : k = na := by omega
        have hcnt : (below (A.take k) p).length = q := by rw [List.take_of_length_le (by omega)]; exact hq.out
        rw [hcnt]
        have f0 : ((q : Int) != q) = false := by simp
        have dd : decide ((k : Int) < k) = false := decide_eq_false (by omega)
        clear hcnt hlt hk
        rcases hIK.out with ⟨g8, gI, gK⟩ | ⟨g8, gI, gK⟩
        · have e1 : ni = q := by rw [← hni.out, gI]; exact hq.out
          have e2 : nk = 0 := by rw [← hnk.out, gK]; rfl
          subst e1
          subst e2
          have f1 : decide ((ni : Int) ≤ 8) = true := decide_eq_true (by omega)
          subst gI
          subst gK
          have f2 := Lib.hid (show ∀ x ∈ below A p, x.size = 32 from (below_set hSet.out p).1)
          have hSu := Lib.hid fun w' (hb : Below wc.heap.size wc w') => acc_few (below A p) f2.out (by have := hq.out; omega) w' (kc_below hKc.out hb)
          have hfe : few (below A p) = R := by rw [← hRs.out]; exact (sumAt_few (by have := hq.out; omega)).symm
          rw [hfe] at hSu
          clear hfe hRs
          go_wp2
          go_loopw [15] (fun i wr => i = .int .i64 0 ∧ w6 = wr) (fun _ _ => 0)
          case atStart => exact ⟨rfl, rfl⟩
          case round =>
            obtain ⟨rfl, rfl⟩ := hrel
            go_wp2
            go_loopw [13, 18] (fun t i wr => ∃ j : Nat, j ≤ ni ∧ i = .int .i64 (j : Int) ∧ t = .string (acc 108 ((below A p).take j)) ∧ w6 = wr) (fun _ i _ => ni - (intOf i).toNat)
            case atStart => exact ⟨0, by omega, rfl, rfl, rfl⟩
            case round =>
              obtain ⟨j, hj, rfl, rfl, rfl⟩ := hrel
              by_cases hlt : j < ni
              · have i1 : (j : Int) < ni := by omega
                have i0 : 0 ≤ (j : Int) := by omega
                have hjl : j < (below A p).length := by rw [hq.out]; exact hlt
                have ha := hTi.out.addr (by omega)
                subst ha
                have c0 := hTi.out.cell j _ (List.getElem?_eq_getElem hjl)
                have z2 := acc_size 108 ((below A p).take j) (fun x hx => f2.out x (List.mem_of_mem_take hx))
                have z3 : ((below A p).take j).length ≤ 80 := by
                  have h2 := List.length_take_le' j (below A p)
                  have h3 := hq.out
                  omega
                have z4 := f2.out _ (List.getElem_mem hjl)
                have hnx : acc 108 ((below A p).take j) ++ (below A p)[j] = acc 108 ((below A p).take (j + 1)) := by rw [acc_snoc, take_next' hjl]
                obtain ⟨s, hs⟩ : ∃ s, (below A p)[j] = s := ⟨_, rfl⟩
                rw [hs] at c0 hnx z4
                have g1 : ¬ 9223372036854775807 < (acc 108 ((below A p).take j)).size + s.size := by omega
                replace hnx := Lib.hid hnx
                clear hs z2 z3 z4
                generalize acc 108 ((below A p).take j) = S at *
                go_wp2
                exact ⟨⟨j + 1, by omega, by go_num, by rw [hnx.out], trivial⟩, by simp [intOf]; omega⟩
              · obtain rfl : j = ni := by omega
                have dj : decide ((j : Int) < j) = false := decide_eq_false (by omega)
                rw [List.take_of_length_le (by have := hq.out; omega)]
                have hSu1 := Lib.hid (hSu.out _ (b_then bw6.out (b_drew _)))
                have g9 := str_eq (rfl : R = R)
                have hS2 : Hid (∀ w', Below w6.heap.size w6 w' → w'.cell? ⟨w5.heap.size, 2, none⟩ = some (.string R) ∧ w'.cell? ⟨w5.heap.size, 3, none⟩ = some (.slice ai j ci)) := Lib.hid fun w' hb => by
                  obtain ⟨_, _, h2, h3, _⟩ := cA6.out.next hb
                  exact ⟨h2, h3⟩
                have hE := Lib.hid fun w' (hb : Below w6.drew.heap.size w6.drew w') => b_then bw4.out (b_then bw6.out (b_then (b_drew _) hb))
                generalize acc 108 (below A p) = S at *
                clear hSu hTi hTk hTA f0 dd hIK hni hnk f2 hbl pe
                go_wp2_with fail
                have bW := Lib.hid (b_drew w6)
                clear d0 d1 d2 d3 d4 dj
                go_region_held3 (fun w' : World => w'.cell? ⟨w5.heap.size, 2, none⟩ = some (.string R) ∧ w'.cell? ⟨w5.heap.size, 3, none⟩ = some (.slice ai j ci))
                  (first | exact hS2.out _ (b_then bW.out b8) | exact hS2.out _ bW.out)
                  (first
                    | (go_at_call 22; refine hSu1.out.mono ?_; rintro e w8 ⟨rfl, b8⟩))
                go_wp2
                go_ret
                exact ⟨rfl, hE.out _ b8⟩
        · have e1 : ni = 0 := by rw [← hni.out, gI]; rfl
          have e2 : nk = 16 := by rw [← hnk.out, gK]; exact kids_length _ _
          subst e1
          subst e2
          have f1 : decide ((q : Int) ≤ 8) = false := decide_eq_false (by omega)
          subst gI
          subst gK
          have f2 := Lib.hid (show ∀ x ∈ kids p.size (below A p), x.size = 32 from kids_size)
          have hSu := Lib.hid fun w' (hb : Below wc.heap.size wc w') => acc_many (kids p.size (below A p)) f2.out (by rw [kids_length]; omega) w' (kc_below hKc.out hb)
          have hfe : many (kids p.size (below A p)) = R := by rw [← hRs.out]; exact (sumAt_many (by rw [hq.out]; exact g8) hp7).symm
          rw [hfe] at hSu
          clear hfe hRs
          go_wp2
          go_loopw [13, 14, 15] (fun t m i wr => ∃ d : Nat, d ≤ 16 ∧ i = .int .i64 (d : Int) ∧ t = .string (acc 107 ((kids p.size (below A p)).take d)) ∧ m = .int .i64 ((upto (below A p) p.size d : Nat) : Int) ∧ Hid (Below w6.heap.size w6 wr)) (fun _ _ i _ => 16 - (intOf i).toNat)
          case atStart => exact ⟨0, by omega, rfl, rfl, by rw [upto_zero]; rfl, Lib.hid (Below.refl _ _)⟩
          case round =>
            obtain ⟨d, hd, rfl, rfl, rfl, hB⟩ := hrel
            obtain ⟨d0, d1, d2, d3, d4⟩ := cA6.out.next hB.out
            by_cases hlt : d < 16
            · have i1 : (d : Int) < 16 := by omega
              have i0 : 0 ≤ (d : Int) := by omega
              have iw : IntKind.u8.wrap (d : Int) = (d : Int) := by simp [IntKind.wrap, IntKind.bits, IntKind.signed]; omega
              have ha := hTk.out.addr (by rw [kids_length]; omega)
              subst ha
              have c0 := (hTk.out.next hB.out).cell d _ (kids_at _ _ hlt)
              have hpL := longer_pre hIp.out hp7 hlt
              have hLo := Lib.hid fun w' (hb : Below wr.heap.size wr w') => Look_ok aA cA bA oA A (longer p d) w' (hTA.out.next (b_then bw6.out (b_then hB.out hb))) (by omega) hSet.out hpL (kc_below hKc.out (b_then bw6.out (b_then hB.out hb)))
              unfold LookIs at hLo
              simp only [cellV_of] at hLo
              rw [← kid_below hp7 hlt, below_longer hp7 hlt, hna] at hLo
              have hlo := longer_of p d
              have hHe := Lib.hid fun w' => Ident.Hex_calls (zs 31 ++ (⟨#[UInt8.ofNat d]⟩ : ByteArray)) w'
              have hzx := hex_size (tail_size d)
              have htd := tail_digit d hlt
              have hcz := fun (w : World) (b : Nat) (h : ZAt w b) => conv_zs (w := w) (b := b) 31 h.cell
              have hco := fun (w : World) (b : Nat) (h : OAt w b d) => conv_one (w := w) (b := b) d (by omega) h.cell
              have k7 := make31
              have q0 : ¬ 9223372036854775807 < (zs 31).size + (⟨#[UInt8.ofNat d]⟩ : ByteArray).size := by rw [zs_size]; show ¬ _ < 31 + 1; decide
              have q3 : ¬ 9223372036854775807 < p.size + (⟨#[dg d]⟩ : ByteArray).size := by show ¬ _ < p.size + 1; omega
              obtain ⟨Z, hZ⟩ : ∃ Z, zs 31 = Z := ⟨_, rfl⟩
              rw [hZ] at hHe hzx htd q0 hcz
              obtain ⟨O, hO⟩ : ∃ O, (⟨#[UInt8.ofNat d]⟩ : ByteArray) = O := ⟨_, rfl⟩
              rw [hO] at hHe hzx htd q0 hco
              obtain ⟨H, hH⟩ : ∃ H, hex (Z ++ O) = H := ⟨_, rfl⟩
              rw [hH] at hHe hzx htd
              obtain ⟨q2, hq2⟩ : ∃ q2, longer p d = q2 := ⟨_, rfl⟩
              rw [hq2] at hlo hLo
              obtain ⟨D, hD⟩ : ∃ D, (⟨#[dg d]⟩ : ByteArray) = D := ⟨_, rfl⟩
              rw [hD] at hlo htd q3
              clear hZ hO hH hq2 hD hpL
              go_upto_region 23 with (fail)
              go_cut [16, 17] from 83 to 125 (fun t e wx => ∃ (bb : Nat) (v3 v4 : Value), t = .pointer (some ⟨bb, 0, none⟩) ∧ e = .int .i64 0 ∧ Hid (CellAt wx bb (.string q2) (.int .i64 ((Tr.part (below A p) p.size d).length : Int)) (.string (kid p.size (below A p) d)) v3 v4) ∧ Hid (Below wr.heap.size wr wx))
              case first =>
                refine Rr.region_rel (l := [some 91, some 92, some 93, some 94, some 95, some 96, some 97, some 98, some 99, some 100, some 101, some 102, some 103, some 90, some 104, some 105, some 16, none, some 17]) (aux := [0, 1, 2, 3, 4, 5, 6, 7, 8, 9, 10, 11, 12, 13, 14, 15, 16, 16, 18]) (need := [[], [], [], [2], [], [4], [5], [6], [3, 7], [8], [9], [1, 10], [0, 11], [12], [13], [13], [], [14, 16], [15]]) (live := [17, 18]) (W := fun rw : World => Below wr.heap.size wr rw) (R := fun (rk : Nat) (rv ru : Value) (rw : World) => match rk with | 0 => rv = .slice aA k cA | 1 => rv = .string p | 2 => ∃ b, rv = .slice (some ⟨b, 0, none⟩) 31 31 ∧ ZAt rw b | 3 => rv = .string Z | 4 => rv = .int .i64 (d : Int) | 5 => rv = .int .u8 (d : Int) | 6 => ∃ b, rv = .slice (some ⟨b, 0, none⟩) 1 1 ∧ OAt rw b d | 7 => rv = .string O | 8 => rv = .string (Z ++ O) | 9 => rv = .string H | 10 => rv = .string D | 11 => rv = .string q2 | 12 => ∃ i1 i2 i3 k1 k2 k3, rv = .tuple #[.agg #[.string q2, .int .i64 ((Tr.part (below A p) p.size d).length : Int), .string (kid p.size (below A p) d), .slice i1 i2 i3, .slice k1 k2 k3], .int .i64 0] | 13 => ∃ i1 i2 i3 k1 k2 k3, rv = .tuple #[.agg #[.string q2, .int .i64 ((Tr.part (below A p) p.size d).length : Int), .string (kid p.size (below A p) d), .slice i1 i2 i3, .slice k1 k2 k3], .int .i64 0] | 14 => ∃ i1 i2 i3 k1 k2 k3, rv = .agg #[.string q2, .int .i64 ((Tr.part (below A p) p.size d).length : Int), .string (kid p.size (below A p) d), .slice i1 i2 i3, .slice k1 k2 k3] | 15 => rv = .int .i64 0 | 16 => ∃ b, rv = .pointer (some ⟨b, 0, none⟩) ∧ wr.heap.size ≤ b ∧ Blank rw b | 17 => ∃ b vi vk, ru = .pointer (some ⟨b, 0, none⟩) ∧ CellAt rw b (.string q2) (.int .i64 ((Tr.part (below A p) p.size d).length : Int)) (.string (kid p.size (below A p) d)) vi vk | 18 => rv = .int .i64 0 | _ => True) (E := fun (rk : Nat) (rw1 rw2 : World) => if rk = 17 then True else Below rw1.heap.size rw1 rw2) (G := ?relG) (by kernel_rfl) (by kernel_rfl) ?relhG (b_drew wr) ?relkeep ?relsteps ?relfin
                case relhG => intro xx; simp only [Rr.fill, Act.put, List.setIfInBounds_toArray, List.set_cons_zero, List.set_cons_succ, Nat.zero_add, Nat.reduceAdd]; exact rfl
                case relkeep =>
                  intro ri rj rv ru rw1 rw2 hi hj hne hon hlost hW hR hE
                  clear hi
                  match rj, hj, hne, hon, hlost, hR with
                  | 0, _, _, _, _, hR => exact hR
                  | 1, _, _, _, _, hR => exact hR
                  | 2, _, hne, hon, hlost, hR =>
                    replace hR : ∃ b, rv = .slice (some ⟨b, 0, none⟩) 31 31 ∧ ZAt rw1 b := hR
                    show ∃ b, rv = .slice (some ⟨b, 0, none⟩) 31 31 ∧ ZAt rw2 b
                    by_cases hq17 : ri = 17
                    · subst hq17; exact (Rr.no_lost hlost (by kernel_rfl)).elim
                    replace hE := Eq.mp (if_neg hq17) hE
                    obtain ⟨b, e, h⟩ := hR; exact ⟨b, e, h.next hE⟩
                  | 3, _, _, _, _, hR => exact hR
                  | 4, _, _, _, _, hR => exact hR
                  | 5, _, _, _, _, hR => exact hR
                  | 6, _, hne, hon, hlost, hR =>
                    replace hR : ∃ b, rv = .slice (some ⟨b, 0, none⟩) 1 1 ∧ OAt rw1 b d := hR
                    show ∃ b, rv = .slice (some ⟨b, 0, none⟩) 1 1 ∧ OAt rw2 b d
                    by_cases hq17 : ri = 17
                    · subst hq17; exact (Rr.no_lost hlost (by kernel_rfl)).elim
                    replace hE := Eq.mp (if_neg hq17) hE
                    obtain ⟨b, e, h⟩ := hR; exact ⟨b, e, h.next hE⟩
                  | 7, _, _, _, _, hR => exact hR
                  | 8, _, _, _, _, hR => exact hR
                  | 9, _, _, _, _, hR => exact hR
                  | 10, _, _, _, _, hR => exact hR
                  | 11, _, _, _, _, hR => exact hR
                  | 12, _, hne, hon, hlost, hR =>
                    replace hR : ∃ i1 i2 i3 k1 k2 k3, rv = .tuple #[.agg #[.string q2, .int .i64 ((Tr.part (below A p) p.size d).length : Int), .string (kid p.size (below A p) d), .slice i1 i2 i3, .slice k1 k2 k3], .int .i64 0] := hR
                    show ∃ i1 i2 i3 k1 k2 k3, rv = .tuple #[.agg #[.string q2, .int .i64 ((Tr.part (below A p) p.size d).length : Int), .string (kid p.size (below A p) d), .slice i1 i2 i3, .slice k1 k2 k3], .int .i64 0]
                    by_cases hq17 : ri = 17
                    · subst hq17; exact (Rr.no_lost hlost (by kernel_rfl)).elim
                    replace hE := Eq.mp (if_neg hq17) hE
                    exact hR
                  | 13, _, hne, hon, hlost, hR =>
                    replace hR : ∃ i1 i2 i3 k1 k2 k3, rv = .tuple #[.agg #[.string q2, .int .i64 ((Tr.part (below A p) p.size d).length : Int), .string (kid p.size (below A p) d), .slice i1 i2 i3, .slice k1 k2 k3], .int .i64 0] := hR
                    show ∃ i1 i2 i3 k1 k2 k3, rv = .tuple #[.agg #[.string q2, .int .i64 ((Tr.part (below A p) p.size d).length : Int), .string (kid p.size (below A p) d), .slice i1 i2 i3, .slice k1 k2 k3], .int .i64 0]
                    by_cases hq17 : ri = 17
                    · replace hE := Eq.mp (if_pos hq17) hE; exact hR
                    replace hE := Eq.mp (if_neg hq17) hE
                    exact hR
                  | 14, _, hne, hon, hlost, hR =>
                    replace hR : ∃ i1 i2 i3 k1 k2 k3, rv = .agg #[.string q2, .int .i64 ((Tr.part (below A p) p.size d).length : Int), .string (kid p.size (below A p) d), .slice i1 i2 i3, .slice k1 k2 k3] := hR
                    show ∃ i1 i2 i3 k1 k2 k3, rv = .agg #[.string q2, .int .i64 ((Tr.part (below A p) p.size d).length : Int), .string (kid p.size (below A p) d), .slice i1 i2 i3, .slice k1 k2 k3]
                    by_cases hq17 : ri = 17
                    · subst hq17; exact (Rr.no_lost hlost (by kernel_rfl)).elim
                    replace hE := Eq.mp (if_neg hq17) hE
                    exact hR
                  | 15, _, _, _, _, hR => exact hR
                  | 16, _, hne, hon, hlost, hR =>
                    replace hR : ∃ b, rv = .pointer (some ⟨b, 0, none⟩) ∧ wr.heap.size ≤ b ∧ Blank rw1 b := hR
                    show ∃ b, rv = .pointer (some ⟨b, 0, none⟩) ∧ wr.heap.size ≤ b ∧ Blank rw2 b
                    by_cases hq17 : ri = 17
                    · subst hq17; exact (Rr.no_lost hlost (by kernel_rfl)).elim
                    replace hE := Eq.mp (if_neg hq17) hE
                    obtain ⟨b, e, s, h⟩ := hR; exact ⟨b, e, s, h.next hE⟩
                  | 17, _, hne, hon, hlost, hR =>
                    replace hR : ∃ b vi vk, ru = .pointer (some ⟨b, 0, none⟩) ∧ CellAt rw1 b (.string q2) (.int .i64 ((Tr.part (below A p) p.size d).length : Int)) (.string (kid p.size (below A p) d)) vi vk := hR
                    show ∃ b vi vk, ru = .pointer (some ⟨b, 0, none⟩) ∧ CellAt rw2 b (.string q2) (.int .i64 ((Tr.part (below A p) p.size d).length : Int)) (.string (kid p.size (below A p) d)) vi vk
                    replace hE := Eq.mp (if_neg (show ¬ ri = 17 from fun g => hne g.symm)) hE
                    obtain ⟨b, vi, vk, e, h⟩ := hR; exact ⟨b, vi, vk, e, h.next hE⟩
                  | 18, _, _, _, _, hR => exact hR
                  | rj + 19, hj, _, _, _, _ => exact absurd (show rj + 19 < 19 from hj) (by omega)
                case relsteps =>
                  refine (Rr.RunSteps.cons (o := { dst := some 91, op := _, type := _, pos := _, after := _, guard := none }) rfl ?rs0 (Rr.RunSteps.cons (o := { dst := some 92, op := _, type := _, pos := _, after := _, guard := none }) rfl ?rs1 (Rr.RunSteps.cons (o := { dst := some 93, op := _, type := _, pos := _, after := _, guard := none }) rfl ?rs2 (Rr.RunSteps.cons (o := { dst := some 94, op := _, type := _, pos := _, after := _, guard := none }) rfl ?rs3 (Rr.RunSteps.cons (o := { dst := some 95, op := _, type := _, pos := _, after := _, guard := none }) rfl ?rs4 (Rr.RunSteps.cons (o := { dst := some 96, op := _, type := _, pos := _, after := _, guard := none }) rfl ?rs5 (Rr.RunSteps.cons (o := { dst := some 97, op := _, type := _, pos := _, after := _, guard := none }) rfl ?rs6 (Rr.RunSteps.cons (o := { dst := some 98, op := _, type := _, pos := _, after := _, guard := none }) rfl ?rs7 (Rr.RunSteps.cons (o := { dst := some 99, op := _, type := _, pos := _, after := _, guard := none }) rfl ?rs8 (Rr.RunSteps.cons (o := { dst := some 100, op := _, type := _, pos := _, after := _, guard := none }) rfl ?rs9 (Rr.RunSteps.cons (o := { dst := some 101, op := _, type := _, pos := _, after := _, guard := none }) rfl ?rs10 (Rr.RunSteps.cons (o := { dst := some 102, op := _, type := _, pos := _, after := _, guard := none }) rfl ?rs11 (Rr.RunSteps.cons (o := { dst := some 103, op := _, type := _, pos := _, after := _, guard := none }) rfl ?rs12 (Rr.RunSteps.cons (o := { dst := some 90, op := _, type := _, pos := _, after := _, guard := none }) rfl ?rs13 (Rr.RunSteps.cons (o := { dst := some 104, op := _, type := _, pos := _, after := _, guard := none }) rfl ?rs14 (Rr.RunSteps.cons (o := { dst := some 105, op := _, type := _, pos := _, after := _, guard := none }) rfl ?rs15 (Rr.RunSteps.cons (o := { dst := some 16, op := _, type := _, pos := _, after := _, guard := none }) rfl ?rs16 (Rr.RunSteps.cons (o := { dst := none, op := _, type := _, pos := _, after := _, guard := none }) rfl ?rs17 (Rr.RunSteps.cons (o := { dst := some 17, op := _, type := _, pos := _, after := _, guard := none }) rfl ?rs18 (Rr.RunSteps.nil rfl))))))))))))))))))))
                  case rs0 =>
                    intro xx ww hW hd K hK
                    replace hW : Below wr.heap.size wr ww := hW
                    dsimp only at hK
                    replace hK : Shut (∀ (ra : Act) (rv : Value) (rw : World), ra = _ → Below wr.heap.size wr rw → Below ww.heap.size ww rw → (rv = .slice aA k cA) → K ra rw) := hK
                    clear hd
                    go_simp
                    exact hK.out _ _ _ rfl hW (Below.refl _ _) rfl
                  case rs1 =>
                    intro xx ww hW hd K hK
                    replace hW : Below wr.heap.size wr ww := hW
                    dsimp only at hK
                    replace hK : Shut (∀ (ra : Act) (rv : Value) (rw : World), ra = _ → Below wr.heap.size wr rw → Below ww.heap.size ww rw → (rv = .string p) → K ra rw) := hK
                    clear hd
                    go_simp
                    exact hK.out _ _ _ rfl hW (Below.refl _ _) rfl
                  case rs2 =>
                    intro xx ww hW hd K hK
                    replace hW : Below wr.heap.size wr ww := hW
                    dsimp only at hK
                    replace hK : Shut (∀ (ra : Act) (rv : Value) (rw : World), ra = _ → Below wr.heap.size wr rw → Below ww.heap.size ww rw → (∃ b, rv = .slice (some ⟨b, 0, none⟩) 31 31 ∧ ZAt rw b) → K ra rw) := hK
                    clear hd
                    (go_simp; exact hK.out _ _ _ rfl (b_then hW (b_alloc _ _)) (b_alloc _ _) ⟨_, rfl, ZAt.new _⟩)
                  case rs3 =>
                    intro xx ww hW hd K hK
                    replace hW : Below wr.heap.size wr ww := hW
                    dsimp only at hK
                    replace hK : Shut (∀ (ra : Act) (rv : Value) (rw : World), ra = _ → Below wr.heap.size wr rw → Below ww.heap.size ww rw → (rv = .string Z) → K ra rw) := hK
                    have r93 : ∃ b, (xx 2) = .slice (some ⟨b, 0, none⟩) 31 31 ∧ ZAt ww b := hd 2 (by kernel_rfl)
                    obtain ⟨b93, e93, z93⟩ := r93
                    rw [e93] at hK; (try rw [e93])
                    clear hd
                    (have c94 := hcz ww b93 z93; go_simp; exact hK.out _ _ _ rfl hW (Below.refl _ _) rfl)
                  case rs4 =>
                    intro xx ww hW hd K hK
                    replace hW : Below wr.heap.size wr ww := hW
                    dsimp only at hK
                    replace hK : Shut (∀ (ra : Act) (rv : Value) (rw : World), ra = _ → Below wr.heap.size wr rw → Below ww.heap.size ww rw → (rv = .int .i64 (d : Int)) → K ra rw) := hK
                    clear hd
                    go_simp
                    exact hK.out _ _ _ rfl hW (Below.refl _ _) rfl
                  case rs5 =>
                    intro xx ww hW hd K hK
                    replace hW : Below wr.heap.size wr ww := hW
                    dsimp only at hK
                    replace hK : Shut (∀ (ra : Act) (rv : Value) (rw : World), ra = _ → Below wr.heap.size wr rw → Below ww.heap.size ww rw → (rv = .int .u8 (d : Int)) → K ra rw) := hK
                    have r95 : (xx 4) = .int .i64 (d : Int) := hd 4 (by kernel_rfl)
                    rw [r95] at hK; (try rw [r95])
                    clear hd
                    go_simp
                    exact hK.out _ _ _ rfl hW (Below.refl _ _) rfl
                  case rs6 =>
                    intro xx ww hW hd K hK
                    replace hW : Below wr.heap.size wr ww := hW
                    dsimp only at hK
                    replace hK : Shut (∀ (ra : Act) (rv : Value) (rw : World), ra = _ → Below wr.heap.size wr rw → Below ww.heap.size ww rw → (∃ b, rv = .slice (some ⟨b, 0, none⟩) 1 1 ∧ OAt rw b d) → K ra rw) := hK
                    have r96 : (xx 5) = .int .u8 (d : Int) := hd 5 (by kernel_rfl)
                    rw [r96] at hK; (try rw [r96])
                    clear hd
                    (go_simp; exact hK.out _ _ _ rfl (b_then hW (b_alloc _ _)) (b_alloc _ _) ⟨_, rfl, OAt.new _ _⟩)
                  case rs7 =>
                    intro xx ww hW hd K hK
                    replace hW : Below wr.heap.size wr ww := hW
                    dsimp only at hK
                    replace hK : Shut (∀ (ra : Act) (rv : Value) (rw : World), ra = _ → Below wr.heap.size wr rw → Below ww.heap.size ww rw → (rv = .string O) → K ra rw) := hK
                    have r97 : ∃ b, (xx 6) = .slice (some ⟨b, 0, none⟩) 1 1 ∧ OAt ww b d := hd 6 (by kernel_rfl)
                    obtain ⟨b97, e97, z97⟩ := r97
                    rw [e97] at hK; (try rw [e97])
                    clear hd
                    (have c98 := hco ww b97 z97; go_simp; exact hK.out _ _ _ rfl hW (Below.refl _ _) rfl)
                  case rs8 =>
                    intro xx ww hW hd K hK
                    replace hW : Below wr.heap.size wr ww := hW
                    dsimp only at hK
                    replace hK : Shut (∀ (ra : Act) (rv : Value) (rw : World), ra = _ → Below wr.heap.size wr rw → Below ww.heap.size ww rw → (rv = .string (Z ++ O)) → K ra rw) := hK
                    have r94 : (xx 3) = .string Z := hd 3 (by kernel_rfl)
                    have r98 : (xx 7) = .string O := hd 7 (by kernel_rfl)
                    rw [r94] at hK; (try rw [r94])
                    rw [r98] at hK; (try rw [r98])
                    clear hd
                    go_simp
                    exact hK.out _ _ _ rfl hW (Below.refl _ _) rfl
                  case rs9 =>
                    intro xx ww hW hd K hK
                    replace hW : Below wr.heap.size wr ww := hW
                    dsimp only at hK
                    replace hK : Shut (∀ (ra : Act) (rv : Value) (rw : World), ra = _ → Below wr.heap.size wr rw → Below ww.heap.size ww rw → (rv = .string H) → K ra rw) := hK
                    have r99 : (xx 8) = .string (Z ++ O) := hd 8 (by kernel_rfl)
                    rw [r99] at hK; (try rw [r99])
                    clear hd
                    (go_simp; go_at_call 21; refine (hHe.out _).mono ?_; rintro e w7 ⟨rfl, b7⟩; go_simp; exact hK.out _ _ _ rfl (b_then hW b7) b7 rfl)
                  case rs10 =>
                    intro xx ww hW hd K hK
                    replace hW : Below wr.heap.size wr ww := hW
                    dsimp only at hK
                    replace hK : Shut (∀ (ra : Act) (rv : Value) (rw : World), ra = _ → Below wr.heap.size wr rw → Below ww.heap.size ww rw → (rv = .string D) → K ra rw) := hK
                    have r100 : (xx 9) = .string H := hd 9 (by kernel_rfl)
                    rw [r100] at hK; (try rw [r100])
                    clear hd
                    go_simp
                    exact hK.out _ _ _ rfl hW (Below.refl _ _) rfl
                  case rs11 =>
                    intro xx ww hW hd K hK
                    replace hW : Below wr.heap.size wr ww := hW
                    dsimp only at hK
                    replace hK : Shut (∀ (ra : Act) (rv : Value) (rw : World), ra = _ → Below wr.heap.size wr rw → Below ww.heap.size ww rw → (rv = .string q2) → K ra rw) := hK
                    have r92 : (xx 1) = .string p := hd 1 (by kernel_rfl)
                    have r101 : (xx 10) = .string D := hd 10 (by kernel_rfl)
                    rw [r92] at hK; (try rw [r92])
                    rw [r101] at hK; (try rw [r101])
                    clear hd
                    go_simp
                    exact hK.out _ _ _ rfl hW (Below.refl _ _) rfl
                  case rs12 =>
                    intro xx ww hW hd K hK
                    replace hW : Below wr.heap.size wr ww := hW
                    dsimp only at hK
                    replace hK : Shut (∀ (ra : Act) (rv : Value) (rw : World), ra = _ → Below wr.heap.size wr rw → Below ww.heap.size ww rw → (∃ i1 i2 i3 k1 k2 k3, rv = .tuple #[.agg #[.string q2, .int .i64 ((Tr.part (below A p) p.size d).length : Int), .string (kid p.size (below A p) d), .slice i1 i2 i3, .slice k1 k2 k3], .int .i64 0]) → K ra rw) := hK
                    have r91 : (xx 0) = .slice aA k cA := hd 0 (by kernel_rfl)
                    have r102 : (xx 11) = .string q2 := hd 11 (by kernel_rfl)
                    rw [r91] at hK; (try rw [r91])
                    rw [r102] at hK; (try rw [r102])
                    clear hd
                    (go_simp; go_at_call 10; refine (hLo.out _ hW).mono ?_; rintro e w8 ⟨vi, vk, rfl, ⟨i1, i3, -, -, rfl, -, -⟩, ⟨k1, k3, -, -, rfl, -, -⟩, b8⟩; go_simp; exact hK.out _ _ _ rfl (b_then hW b8) b8 ⟨_, _, _, _, _, _, rfl⟩)
                  case rs13 =>
                    intro xx ww hW hd K hK
                    replace hW : Below wr.heap.size wr ww := hW
                    dsimp only at hK
                    replace hK : Shut (∀ (ra : Act) (rv : Value) (rw : World), ra = _ → Below wr.heap.size wr rw → Below ww.heap.size ww rw → (∃ i1 i2 i3 k1 k2 k3, rv = .tuple #[.agg #[.string q2, .int .i64 ((Tr.part (below A p) p.size d).length : Int), .string (kid p.size (below A p) d), .slice i1 i2 i3, .slice k1 k2 k3], .int .i64 0]) → K ra rw) := hK
                    have r103 : ∃ i1 i2 i3 k1 k2 k3, (xx 12) = .tuple #[.agg #[.string q2, .int .i64 ((Tr.part (below A p) p.size d).length : Int), .string (kid p.size (below A p) d), .slice i1 i2 i3, .slice k1 k2 k3], .int .i64 0] := hd 12 (by kernel_rfl)
                    obtain ⟨i1, i2, i3, k1, k2, k3, e103⟩ := r103
                    rw [e103] at hK; (try rw [e103])
                    clear hd
                    (go_simp; exact hK.out _ _ _ rfl hW (Below.refl _ _) ⟨_, _, _, _, _, _, rfl⟩)
                  case rs14 =>
                    intro xx ww hW hd K hK
                    replace hW : Below wr.heap.size wr ww := hW
                    dsimp only at hK
                    replace hK : Shut (∀ (ra : Act) (rv : Value) (rw : World), ra = _ → Below wr.heap.size wr rw → Below ww.heap.size ww rw → (∃ i1 i2 i3 k1 k2 k3, rv = .agg #[.string q2, .int .i64 ((Tr.part (below A p) p.size d).length : Int), .string (kid p.size (below A p) d), .slice i1 i2 i3, .slice k1 k2 k3]) → K ra rw) := hK
                    have r90 : ∃ i1 i2 i3 k1 k2 k3, (xx 13) = .tuple #[.agg #[.string q2, .int .i64 ((Tr.part (below A p) p.size d).length : Int), .string (kid p.size (below A p) d), .slice i1 i2 i3, .slice k1 k2 k3], .int .i64 0] := hd 13 (by kernel_rfl)
                    obtain ⟨i1, i2, i3, k1, k2, k3, e90⟩ := r90
                    rw [e90] at hK; (try rw [e90])
                    clear hd
                    (go_simp; exact hK.out _ _ _ rfl hW (Below.refl _ _) ⟨_, _, _, _, _, _, rfl⟩)
                  case rs15 =>
                    intro xx ww hW hd K hK
                    replace hW : Below wr.heap.size wr ww := hW
                    dsimp only at hK
                    replace hK : Shut (∀ (ra : Act) (rv : Value) (rw : World), ra = _ → Below wr.heap.size wr rw → Below ww.heap.size ww rw → (rv = .int .i64 0) → K ra rw) := hK
                    have r90 : ∃ i1 i2 i3 k1 k2 k3, (xx 13) = .tuple #[.agg #[.string q2, .int .i64 ((Tr.part (below A p) p.size d).length : Int), .string (kid p.size (below A p) d), .slice i1 i2 i3, .slice k1 k2 k3], .int .i64 0] := hd 13 (by kernel_rfl)
                    obtain ⟨i1, i2, i3, k1, k2, k3, e90⟩ := r90
                    rw [e90] at hK; (try rw [e90])
                    clear hd
                    go_simp
                    exact hK.out _ _ _ rfl hW (Below.refl _ _) rfl
                  case rs16 =>
                    intro xx ww hW hd K hK
                    replace hW : Below wr.heap.size wr ww := hW
                    dsimp only at hK
                    replace hK : Shut (∀ (ra : Act) (rv : Value) (rw : World), ra = _ → Below wr.heap.size wr rw → Below ww.heap.size ww rw → (∃ b, rv = .pointer (some ⟨b, 0, none⟩) ∧ wr.heap.size ≤ b ∧ Blank rw b) → K ra rw) := hK
                    clear hd
                    (have hsz := hW.size; go_simp; exact hK.out _ _ _ rfl (b_then hW (b_alloc _ _)) (b_alloc _ _) ⟨_, rfl, hsz, Blank.new _⟩)
                  case rs17 =>
                    intro xx ww hW hd K hK
                    replace hW : Below wr.heap.size wr ww := hW
                    dsimp only at hK
                    replace hK : Shut (∀ (ra : Act) (rv : Value) (rw : World), ra = _ → Below wr.heap.size wr rw → True → (∃ b vi vk, (xx 16) = .pointer (some ⟨b, 0, none⟩) ∧ CellAt rw b (.string q2) (.int .i64 ((Tr.part (below A p) p.size d).length : Int)) (.string (kid p.size (below A p) d)) vi vk) → K ra rw) := hK
                    have r104 : ∃ i1 i2 i3 k1 k2 k3, (xx 14) = .agg #[.string q2, .int .i64 ((Tr.part (below A p) p.size d).length : Int), .string (kid p.size (below A p) d), .slice i1 i2 i3, .slice k1 k2 k3] := hd 14 (by kernel_rfl)
                    have r16 : ∃ b, (xx 16) = .pointer (some ⟨b, 0, none⟩) ∧ wr.heap.size ≤ b ∧ Blank ww b := hd 16 (by kernel_rfl)
                    obtain ⟨i1, i2, i3, k1, k2, k3, e104⟩ := r104
                    rw [e104] at hK; (try rw [e104])
                    obtain ⟨b16, e16, s16, c16⟩ := r16
                    rw [e16] at hK; (try rw [e16])
                    clear hd
                    (obtain ⟨⟨z0, z1, z2, z3, z4⟩, fz⟩ := c16; go_simp; exact hK.out _ undef _ rfl (below_over hW s16 _ _ _ _ _) trivial ⟨b16, _, _, rfl, CellAt.over ⟨z0, z1, z2, z3, z4⟩ _ _ _ _ _⟩)
                  case rs18 =>
                    intro xx ww hW hd K hK
                    replace hW : Below wr.heap.size wr ww := hW
                    dsimp only at hK
                    replace hK : Shut (∀ (ra : Act) (rv : Value) (rw : World), ra = _ → Below wr.heap.size wr rw → Below ww.heap.size ww rw → (rv = .int .i64 0) → K ra rw) := hK
                    have r105 : (xx 15) = .int .i64 0 := hd 15 (by kernel_rfl)
                    rw [r105] at hK; (try rw [r105])
                    clear hd
                    go_simp
                    exact hK.out _ _ _ rfl hW (Below.refl _ _) rfl
                intro xx ww hW hx
                replace hW : Below wr.heap.size wr ww := hW
                have rs17 : ∃ b vi vk, (xx 16) = .pointer (some ⟨b, 0, none⟩) ∧ CellAt ww b (.string q2) (.int .i64 ((Tr.part (below A p) p.size d).length : Int)) (.string (kid p.size (below A p) d)) vi vk := hx 17 (show 17 < 19 by omega) (by kernel_rfl)
                have r17 : (xx 18) = .int .i64 0 := hx 18 (show 18 < 19 by omega) (by kernel_rfl)
                obtain ⟨bb, v3, v4, e16, cX⟩ := rs17
                try rw [e16]
                try rw [r17]
                clear hx
                go_wp2
                go_meet
                exact ⟨_, _, _, rfl, rfl, Lib.hid cX, Lib.hid hW⟩
              case rest =>
                obtain ⟨bb, v3, v4, rfl, rfl, cX, hB2⟩ := hcut
                have bwc := b_then hB.out hB2.out
                clear hLo hHe hzx htd k7 q0 q3 iw hlo d0 d1 d2 d3 d4 c0 hcz hco
                obtain ⟨d0, d1, d2, d3, d4⟩ := cA6.out.next bwc
                have c0 := (hTk.out.next bwc).cell d _ (kids_at _ _ hlt)
                obtain ⟨x0, x1, x2, x3, x4⟩ := cX.out
                have hkdl : d < (kids p.size (below A p)).length := by rw [kids_length]; exact hlt
                have hkz := f2.out _ (List.getElem_mem hkdl)
                have hke : (kids p.size (below A p))[d] = kid p.size (below A p) d := by
                  have h1 := kids_at p.size (below A p) hlt
                  rw [List.getElem?_eq_getElem hkdl] at h1
                  exact Option.some.inj h1
                have hnx1 : acc 107 ((kids p.size (below A p)).take d) ++ kid p.size (below A p) d = acc 107 ((kids p.size (below A p)).take (d + 1)) := by rw [acc_snoc, take_next' hkdl, hke]
                have z2 := acc_size 107 ((kids p.size (below A p)).take d) (fun x hx => f2.out x (List.mem_of_mem_take hx))
                have z3 := List.length_take_le' d (kids p.size (below A p))
                rw [kids_length] at z3
                rw [hke] at hkz
                have hnx2 : ((upto (below A p) p.size d : Nat) : Int) + ((Tr.part (below A p) p.size d).length : Int) = ((upto (below A p) p.size (d + 1) : Nat) : Int) := by rw [upto_next]; omega
                have y1 := upto_le (below A p) p.size d
                have y2 : (Tr.part (below A p) p.size d).length ≤ (below A p).length := List.length_filter_le _ _
                have y3 := hq.out
                have y4 : upto (below A p) p.size d ≤ 80 := by omega
                have y5 : (Tr.part (below A p) p.size d).length ≤ 80 := by omega
                have g1 : ¬ 9223372036854775807 < (acc 107 ((kids p.size (below A p)).take d)).size + (kid p.size (below A p) d).size := by omega
                have pe2 : ((kid p.size (below A p) d).toList != (kid p.size (below A p) d).toList) = false := by simp
                clear y1 y2 y3 z2 z3 hkz hke hkdl
                replace hnx1 := Lib.hid hnx1
                replace hnx2 := Lib.hid hnx2
                generalize upto (below A p) p.size d = m at *
                generalize (Tr.part (below A p) p.size d).length = r at *
                generalize acc 107 ((kids p.size (below A p)).take d) = S at *
                obtain ⟨kd, hkd⟩ : ∃ kd, kid p.size (below A p) d = kd := ⟨_, rfl⟩
                rw [hkd] at c0 x2 hnx1 g1 pe2
                clear hkd cX
                replace bwc := Lib.hid bwc
                go_upto_region 24 with (fail)
                go_quiet (fail)
                go_wp2
                exact ⟨⟨d + 1, by omega, by go_num, by rw [hnx1.out], by rw [← hnx2.out], Lib.hid (b_then bwc.out (b_drewN _ _))⟩, by simp [intOf]; omega⟩
            · have dj : decide ((d : Int) < 16) = false := decide_eq_false (by omega)
              have e16 : (kids p.size (below A p)).take d = kids p.size (below A p) := List.take_of_length_le (by rw [kids_length]; omega)
              have eu : upto (below A p) p.size d = q := by
                have h1 : d = 16 := by omega
                rw [h1, upto_all]
                exact hq.out
              rw [e16, eu]
              clear e16 eu
              have hSu1 := Lib.hid (hSu.out _ (b_then bw6.out (b_then hB.out (b_drew _))))
              have g9 := str_eq (rfl : R = R)
              have hS2 : Hid (∀ w', Below wr.heap.size wr w' → w'.cell? ⟨w5.heap.size, 2, none⟩ = some (.string R)) := Lib.hid fun w' hb => by
                obtain ⟨_, _, h2, _, _⟩ := cA6.out.next (b_then hB.out hb)
                exact h2
              have hE := Lib.hid fun w' (hb : Below wr.drew.heap.size wr.drew w') => b_then bw4.out (b_then bw6.out (b_then hB.out (b_then (b_drew _) hb)))
              generalize acc 107 (kids p.size (below A p)) = S at *
              clear hSu hTi hTk hTA f0 dd f1 hIK hni hnk f2 hbl pe
              go_wp2_with fail
              have bW := Lib.hid (b_drew wr)
              clear d0 d1 d2 d3 d4 dj
              go_region_held3 (fun w' : World => w'.cell? ⟨w5.heap.size, 2, none⟩ = some (.string R))
                (first | exact hS2.out _ (b_then bW.out b8) | exact hS2.out _ bW.out)
                (first
                  | (go_at_call 22; refine hSu1.out.mono ?_; rintro e w8 ⟨rfl, b8⟩))
              go_wp2
              go_ret
              exact ⟨rfl, hE.out _ b8⟩

theorem own : ownKnob Tryz.prog.godebug = none := by kernel_rfl
theorem laidOut : laidOutB Tryz.prog = true := by kernel_rfl
set_option maxRecDepth 100000 in
theorem lifted (os : Os) (started : os.Started) (H : Type) (enc : TypeId × Value → H) :
    ReturnsInHanded {} Tryz.checked os 6 .any (fun w args => (Rows.trieSumsSpec.pre enc Tryz.prog Tryz.f6 [] false w args ∧ laidMetH Tryz.prog Rows.trieSumsRow.laid w) ∧ sizedMet enc Tryz.prog Tryz.f6 (OpenSpec.ofChange Rows.trieSumsSpec) false w args) (Rows.trieSumsSpec.post enc Tryz.prog Tryz.f6 false true false false) := by
  refine returnsInHanded_of_change_and (C := Tryz.checked) (X := (fun w _ => laidMetH Tryz.prog Rows.trieSumsRow.laid w)) (fun _ _ _ hh h => h.of_heap hh) own started (by kernel_rfl) Tryz.func6
    (ChangeSpec.witness_shaped (enc := enc) (C := Tryz.checked) (os := os) (X := (fun w _ => laidMetH Tryz.prog Rows.trieSumsRow.laid w)) false (World.doorLaid Tryz.prog 14 os) #[.slice none 0 0, .agg #[.int .u8 0, .int .u8 0, .int .u8 0], .int .i64 0] 8 rfl (World.shaped_of_RefB (by kernel_rfl) (by kernel_rfl)) (by kernel_rfl) (by kernel_rfl) (by kernel_rfl) (Sha.door_met os _)) ?_
  intro W base args ds gs before hval0 hW hcnd hsz0 hL _
  have hval : ∀ (j : Nat) t v, Tryz.f6.params[j]? = some t → args[j]? = some v → Value.okWide Tryz.prog W .any base t v := hval0
  have hsz : (DataW.weightsEach Tryz.prog (Tryz.f6.params.toList ++ Rows.trieSumsSpec.plain.varTypes Tryz.prog) (ds ++ gs)).all (· ≤ reachBytes) = true := hsz0
  have hW' := hW
  obtain ⟨p, q, hA0, hV, rfl, hfz, hnd⟩ := hW
  have hA : DataW.TrodAll enc Tryz.prog W 0 (fun _ => true) true Tryz.f6.params.toList args.toList ds p := hA0
  rw [Tryz.params6] at hA hval hsz
  obtain ⟨v0, vs0, d0, ds0, p0, q0, hargs, rfl, rfl, h0, r0⟩ := trodAll_cons hA
  obtain ⟨v1, vs1, d1, ds1, p1, q1, rfl, rfl, rfl, h1, r1⟩ := trodAll_cons r0
  obtain ⟨v2, vs2, d2, ds2, p2, q2, rfl, rfl, rfl, h2, r2⟩ := trodAll_cons r1
  obtain ⟨rfl, rfl, rfl⟩ := trodAll_nil r2
  obtain rfl : args = #[v0, v1, v2] := by cases args; simp_all
  obtain ⟨rfl, rfl⟩ := trodVars_none hV
  have k0 := h0
  have lt0 : ∀ x ∈ p0, x.block < W.heap.size := by obtain ⟨m, hm⟩ := k0; exact DataW.trod_lt m _ _ _ hm
  have ok0 := hval 0 36 v0 rfl rfl
  have k1 := h1
  have lt1 : ∀ x ∈ p1, x.block < W.heap.size := by obtain ⟨m, hm⟩ := k1; exact DataW.trod_lt m _ _ _ hm
  have ok1 := hval 1 47 v1 rfl rfl
  have k2 := h2
  have lt2 : ∀ x ∈ p2, x.block < W.heap.size := by obtain ⟨m, hm⟩ := k2; exact DataW.trod_lt m _ _ _ hm
  have ok2 := hval 2 3 v2 rfl rfl
  clear hA0 hval0 hsz0
  obtain ⟨a0, len, cap, b, off, F, rfl, hF, hl⟩ := open_rows Tryz.underlying36 Tryz.underlying54 Tryz.underlying5 (by kernel_rfl) (by kernel_rfl) (of_decide_eq_true (by kernel_rfl)) ok0 h0 (Oct.arg_weights hsz (j := 0) (t := 36) rfl rfl)
  obtain ⟨x, y, z, rfl⟩ := open_three Tryz.underlying47 Tryz.underlying5 (by kernel_rfl) (by kernel_rfl) ok1 h1
  obtain ⟨a2, rfl, rfl, rfl, w2⟩ := open_int Tryz.underlying3 ok2 h2
  refine (walk a0 len cap b off F x y z a2 W hF (Sha.kc_of_laid hL)).mono fun e W' ⟨he, bel⟩ => ?_
  subst he
  exact ⟨_, rfl, _, _, _, [], _, [], hW', trodAll_mk1 (shut_bool Tryz.underlying4 _), (trodAll_cons_mk (Below.trod laidOut (by kernel_rfl) (of_decide_eq_true (by kernel_rfl)) k0 bel lt0) (trodAll_cons_mk (Below.trod laidOut (by kernel_rfl) (of_decide_eq_true (by kernel_rfl)) k1 bel lt1) (trodAll_cons_mk (Below.trod laidOut (by kernel_rfl) (of_decide_eq_true (by kernel_rfl)) k2 bel lt2) trodAll_mk0))), rfl, bel.frame _, fun h => by cases h⟩

/-- the row -/
theorem row_proved : Rows.TrieSumsSaid :=
  OpenClaim.holds_of_wide 6 Tryz.f6 rfl rfl rfl rfl rfl rfl rfl ⟨rfl, rfl, rfl, rfl, rfl⟩ rfl rfl rfl rfl rfl (by kernel_rfl) Tryz.func6 (by kernel_rfl)
    (of_decide_eq_true (by kernel_rfl)) (by unfold Func.isWrapper; first | (rw [if_pos (by decide +kernel)]; kernel_rfl) | (rw [if_neg (by decide +kernel)]; exact ⟨rfl, rfl⟩))
    (fun os started H enc _ => lifted os started H enc)
/-- the statement: the tied card -/
theorem proved : Rows.TrieSumsCardSaid :=
  Claim7.holds_tied_plain_at .later [] Rows.trieSumsCard.laidKinds true Rows.trieSumsCard.stood.harness Rows.trieSumsCard.stood.looks row_proved (fun _ h => by cases h) (by kernel_rfl) (fun _ h => by cases h) trieSums_row_tie rfl ⟨rfl, rfl⟩ (by kernel_rfl) rfl
    (fun f fn hf hfn => by
      obtain rfl : f = 6 := Option.some.inj ((show Tryz.prog.funcNamed Rows.trieSumsRow.func = some 6 by kernel_rfl).symm.trans hf) |>.symm
      obtain rfl : fn = Tryz.f6 := (Option.some.inj (Tryz.func6.symm.trans hfn)).symm
      exact ⟨by kernel_rfl, fun j t ht => by
        rw [Tryz.params6] at ht
        have hm : t ∈ [36, 47, 3] := by simpa using Array.mem_of_getElem? ht
        have hall : ([36, 47, 3].all fun u => !Tryz.prog.wantsStandIn u) = true := by kernel_rfl
        exact (show Tryz.prog.wantsStandIn t = false by simpa using List.all_eq_true.1 hall t hm)⟩)
    (by kernel_rfl)
end Go.Proofs.YtdmpkgdlelagjaaGreatDoor.trieSums
