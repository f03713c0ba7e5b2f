/-
  Proved: for all lists of ids and every three bytes, TrieSelf returns true and turns nothing of what it was given. Conditions: none beyond the form's own (the digest's constants are what the program's text lays: the card ties them).
-/
import Derived.Test.YtdmpkgdlelagjaaGreatDoorRows
import Derived.Test.YtdmpkgdlelagjaaGreatDoorCards
import Derived.Test.YtdmpkgdlelagjaaGreatDoorTie
import Derived.Test.YtdmpkgdlelagjaaGreatDoorOctKit
import Derived.SevenTiedAt
import Derived.Test.YtdmpkgdlelagjaaGreatDoorTrThree
import Derived.Test.YtdmpkgdlelagjaaGreatDoorTrSets
import Derived.Test.YtdmpkgdlelagjaaGreatDoorShJoin
import Derived.ProofKit
import Derived.OpenShut
import Derived.Stop.Joined
import Derived.LaidMore
import Derived.MakeChecks
import Derived.Deep.DeepCutAuto
import Derived.Deep.CutRange
import Derived.Deep.RegionHeld3
namespace Go.Proofs.YtdmpkgdlelagjaaGreatDoor.trieSelf
open Go Go.ChangeShapes Go.WideShapes Go.ChangeAt Go.RowKit Tr
open Ident (by_ RowsAt open_rows hex hex_size)
open Sh (b_alloc b_drew b_drewN b_next b_then Rises)

theorem third (z : UInt8) : ∃ k : Nat, k < 5 ∧ IntKind.i64.wrap (((z.toNat : Int)).tmod 5) = (k : Int) ∧ wrap64 (((z.toNat : Int)).tmod 5) = (k : Int) ∧ ((z.toNat : Int)).tmod 5 = (k : Int) ∧ ((z.toNat : Int)) % 5 = (k : Int) := by
  have h := z.toNat_lt
  refine ⟨z.toNat % 5, by omega, ?_, ?_, ?_, by omega⟩
  · rw [Int.tmod_eq_emod_of_nonneg (by omega)]
    rw [IntWalk.i64_in _ (by omega)]; omega
  · rw [Int.tmod_eq_emod_of_nonneg (by omega)]
    rw [IntWalk.wrap64_in _ ⟨by omega, by omega⟩]; omega
  · rw [Int.tmod_eq_emod_of_nonneg (by omega)]; omega
set_option maxRecDepth 100000 in
set_option maxHeartbeats 8000000 in
theorem walk (a : Option Addr) (n cap b off : Nat) (F : Nat → Nat → UInt8) (a2 : Option Addr) (n2 cap2 b2 off2 : Nat) (G : Nat → Nat → UInt8) (x y z : UInt8) (w : World) (hR : RowsAt w a b off n F) (hR2 : RowsAt w a2 b2 off2 n2 G) (hK : Sha.Kc w) :
    Calls Tryz.prog 8 #[.slice a n cap, .slice a2 n2 cap2, .agg #[.int .u8 (x.toNat : Int), .int .u8 (y.toNat : Int), .int .u8 (z.toNat : Int)]] w fun e w' => e = .returned (.bool true) ∧ Below w.heap.size w w' := by
  have bX := b_alloc w (.cells #[.int .u8 (x.toNat : Int), .int .u8 (y.toNat : Int), .int .u8 (z.toNat : Int)] 47)
  have tX := ThreeAt.new w x y z 47
  have hAw := Lib.hid (awake_calls _ (kc_below hK bX))
  replace hR := Lib.hid hR
  replace hR2 := Lib.hid hR2
  replace hK := Lib.hid hK
  replace bX := Lib.hid bX
  replace tX := Lib.hid tX
  go_enter Tryz.func8, Tryz.ntmps8
  go_wp2_with fail
  refine hAw.out.mono ?_
  rintro e w1 ⟨rfl, b1⟩
  have tX1 := Lib.hid (tX.out.next b1)
  have bw1 := Lib.hid (b_then bX.out b1)
  clear hAw tX bX b1
  by_cases h80 : 80 < n
  · have l0 : decide ((80 : Int) < n) = true := decide_eq_true (by omega)
    go_wp2
    go_ret
    exact ⟨rfl, bw1.out⟩
  by_cases h8 : 8 < n2
  · have l0 : decide ((80 : Int) < n) = false := decide_eq_false (by omega)
    have l1 : decide ((8 : Int) < n2) = true := decide_eq_true (by omega)
    go_wp2
    go_ret
    exact ⟨rfl, bw1.out⟩
  have l0 : decide ((80 : Int) < n) = false := decide_eq_false (by omega)
  have l1 : decide ((8 : Int) < n2) = false := decide_eq_false (by omega)
  have hSo := Lib.hid (sorted_calls a cap b off n F w1 (rows_next hR.out bw1.out) (by omega))
  have hSet := Lib.hid (ids_set F n)
  have hle : (ids F n).length ≤ 80 := by have := ids_len F n; omega
  obtain ⟨A, hA⟩ : ∃ L, ids F n = L := ⟨_, rfl⟩
  rw [hA] at hSo hSet hle
  clear hA hR
  go_wp2_with fail
  refine hSo.out.mono ?_
  rintro e w2 ⟨v2, rfl, hO2, p2⟩
  have bw2 := Lib.hid (b_then bw1.out p2)
  have tX2 := Lib.hid (tX1.out.next p2)
  obtain ⟨aA, cA, bA, oA, rfl, hTA, hcA, -⟩ := hO2.at_
  have hSo2 := Lib.hid (sorted_calls a2 cap2 b2 off2 n2 G w2 (rows_next hR2.out bw2.out) (by omega))
  have hSet2 := Lib.hid (ids_set G n2)
  have hle2 : (ids G n2).length ≤ 8 := by have := ids_len G n2; omega
  obtain ⟨B, hB⟩ : ∃ L, ids G n2 = L := ⟨_, rfl⟩
  rw [hB] at hSo2 hSet2 hle2
  obtain ⟨na, hna⟩ : ∃ na, A.length = na := ⟨_, rfl⟩
  rw [hna] at hcA ⊢
  clear hB hR2 hSo tX1 bw1
  go_wp2_with fail
  refine hSo2.out.mono ?_
  rintro e w3 ⟨v3, rfl, hO3, p3⟩
  have bw3 := Lib.hid (b_then bw2.out p3)
  have tX3 := Lib.hid (tX2.out.next p3)
  replace hTA := Lib.hid (hTA.next p3)
  obtain ⟨aB, cB, bB, oB, rfl, hTB, hcB, -⟩ := hO3.at_
  replace hTB := Lib.hid hTB
  obtain ⟨nb, hnb⟩ : ∃ nb, B.length = nb := ⟨_, rfl⟩
  rw [hnb] at hcB ⊢
  clear hSo2 hO2 hO3 p2 p3 tX2 bw2
  obtain ⟨k, hk5, hk1, hk2, hk3, hk4⟩ := third z
  have hk0 : IntKind.i64.wrap (z.toNat : Int) = (z.toNat : Int) := IntWalk.i64_in _ (by have := z.toNat_lt; omega)
  have hk64 : k ≤ 64 := Nat.le_trans (Nat.le_of_lt hk5) (by decide)
  have q1 : (k : Int) ≤ 64 := Int.ofNat_le.2 hk64
  have q2 : (0 : Int) ≤ k := Int.natCast_nonneg k
  have hz32 := three_size x y z
  have hIp := Lib.hid (hex_pre hz32 k hk64)
  have hhs := hex_size hz32
  have hHe := Lib.hid fun w' => Ident.Hex_calls (th x y z ++ zs 29) w'
  have hcv1 := (tX3.out.next (b_drew _)).conv
  have bZ := b_then (b_alloc w3 (.cells (Array.replicate 29 (.int .u8 0)) 5)) (b_drew _)
  have hcv2 := (tX3.out.next bZ).conv
  have hcv3 := zs_conv w3 29
  have hmk := make_zs 29 29 rfl (by decide)
  obtain ⟨t0, t1, t2⟩ := tX3.out.next (b_drew _)
  obtain ⟨s0, s1, s2⟩ := tX3.out.next bZ
  have q0 : ¬ 9223372036854775807 < (th x y z).size + (zs 29).size := by rw [zs_size]; show ¬ _ < 3 + 29; decide
  have hX3 : Hid (∀ w', Below (w3.alloc (.cells (Array.replicate 29 (.int .u8 0)) 5)).drew.heap.size (w3.alloc (.cells (Array.replicate 29 (.int .u8 0)) 5)).drew w' → ThreeAt w' w.heap.size x y z ∧ Below w3.heap.size w3 w') := Lib.hid fun w' hb => ⟨(tX3.out.next bZ).next hb, b_then bZ hb⟩
  obtain ⟨T, hT⟩ : ∃ T, th x y z = T := ⟨_, rfl⟩
  obtain ⟨Z, hZ⟩ : ∃ Z, zs 29 = Z := ⟨_, rfl⟩
  rw [hT] at hcv1 hcv2
  rw [hT, hZ] at hHe q0 hhs hIp
  rw [hZ] at hcv3
  clear hT hz32 hZ
  obtain ⟨H, hH⟩ : ∃ H, hex (T ++ Z) = H := ⟨_, rfl⟩
  rw [hH] at hHe hhs hIp
  clear hH
  replace bZ := Lib.hid bZ
  go_upto_region 7 with (fail)
  go_cut [9] from 31 to 41 (fun p wx => p = .string (H.extract 0 k) ∧ Hid (Below w3.heap.size w3 wx))
  case first =>
    go_region_law ((go_simp; go_at_call 21; refine (hHe.out _).mono ?_; rintro e w4 ⟨rfl, b4⟩; obtain ⟨⟨u0, u1, u2⟩, bE⟩ := hX3.out _ b4; replace bE := Lib.hid bE))
    all_goals
      go_wp2
      go_meet
      exact ⟨rfl, bE⟩
  case rest =>
    obtain ⟨rfl, hb4⟩ := hcut
    have bw4 := Lib.hid (b_then bw3.out hb4.out)
    replace hTA := Lib.hid (hTA.out.next hb4.out)
    replace hTB := Lib.hid (hTB.out.next hb4.out)
    obtain ⟨p, hp⟩ : ∃ p, H.extract 0 k = p := ⟨_, rfl⟩
    rw [hp] at hIp ⊢
    have hKc := Lib.hid (kc_below hK.out bw4.out)
    clear hp hb4 hX3 bZ hk0 hk1 hk2 hk3 hk4 hk64 hk5 hhs hHe hcv1 hcv2 hcv3 hmk t0 t1 t2 s0 s1 s2 q0 q1 q2 tX3 bw3
    have hLk := Lib.hid (Look_ok aA cA bA oA A p wc hTA.out (by omega) hSet.out hIp.out hKc.out)
    have hchk : IsCheck (cellOf A p) 0 := check_cellOf hSet.out (by omega) hIp.out
    have hil : (cellOf A p).ids.length ≤ 30000 := by
      rw [cell_ids']
      split
      · omega
      · exact Nat.zero_le _
    have hkl : (cellOf A p).kds.length ≤ 140737488351232 := by
      rw [cell_kds']
      split
      · exact Nat.zero_le _
      · rw [kids_length]; omega
    have hDr := Lib.hid fun vi vk w' (hb : Below wc.heap.size wc w') (h1 : Lst w' vi (cellOf A p).ids) (h2 : Lst w' vk (cellOf A p).kds) =>
      Draw_ok aA cA bA oA A (cellOf A p) vi vk w' (hTA.out.next hb) (by omega) h1 h2 hSet.out (kc_below hKc.out hb) hil hkl (by show p.size ≤ _; have := hIp.out.1; omega) hchk
    rw [lacks_self, asks_self] at hDr
    clear hil hkl hchk
    generalize cellOf A p = c at *
    obtain ⟨p', q, s, I, K⟩ := c
    unfold LookIs at hLk
    unfold cellV at hLk hDr
    dsimp only at hLk hDr
    rw [hna] at hLk hDr
    go_wp2_with fail
    refine hLk.out.mono ?_
    rintro e w5 ⟨vi, vk, rfl, hi5, hk5, p5⟩
    obtain ⟨ai, ci, bi, oi, rfl, hci, hTi⟩ := hi5
    obtain ⟨ak, ck, bk, ok, rfl, hck, hTk⟩ := hk5
    obtain ⟨ni, hni⟩ : ∃ ni, I.length = ni := ⟨_, rfl⟩
    obtain ⟨nk, hnk⟩ : ∃ nk, K.length = nk := ⟨_, rfl⟩
    have bA := b_alloc w5 (.cells #[.string p', .int .i64 q, .string s, .slice ai I.length ci, .slice ak K.length ck] 25)
    have hDr1 := Lib.hid (hDr.out _ _ _ (b_then p5 bA) ⟨ai, ci, bi, oi, rfl, hci, hTi.next bA⟩ ⟨ak, ck, bk, ok, rfl, hck, hTk.next bA⟩)
    have cA5 := CellAt.new w5 (.string p') (.int .i64 q) (.string s) (.slice ai I.length ci) (.slice ak K.length ck) 25
    have fA5 : ∀ o, (w5.alloc (.cells #[.string p', .int .i64 q, .string s, .slice ai I.length ci, .slice ak K.length ck] 25)).frozen? ⟨w5.heap.size, o, none⟩ = false := fun o => by simp [go_sem]
    have bw5 := b_then p5 bA
    have szw : wc.heap.size ≤ w5.heap.size := p5.size
    rw [hni, hnk] at hDr1 cA5 fA5 bw5 ⊢
    replace bw5 := Lib.hid bw5
    replace cA5 := Lib.hid cA5
    replace fA5 := Lib.hid fA5
    clear hTi hTk hci hck hDr hLk bA p5
    unfold DrawIs at hDr1
    go_wp2_with fail
    refine hDr1.out.mono ?_
    rintro e w7 ⟨v1, v2, rfl, hm7, hk7, p7⟩
    obtain ⟨am, cm, bm, om, rfl, -, -⟩ := hm7
    obtain ⟨aq, cq, bq, oq, rfl, -, -⟩ := hk7
    have cA7 := Lib.hid (cA5.out.next p7)
    have fA7 := Lib.hid fun o => (show w7.frozen? ⟨w5.heap.size, o, none⟩ = false from (p7.frozen (p := ⟨w5.heap.size, o, none⟩) cA5.out.lt).trans (fA5.out o))
    have bw7 := Lib.hid (b_then bw5.out p7)
    have sz7 : w5.heap.size < w7.heap.size := cA7.out.lt
    have hLk2 := Lib.hid (Look_own aB cB bB oB B ⟨#[]⟩ w7 (hTB.out.next bw7.out) (by omega) hSet2.out pre_none (kc_below hKc.out bw7.out))
    rw [cell_own_few hSet2.out hle2] at hLk2
    unfold LookOwn at hLk2
    unfold cellV fewCell at hLk2
    dsimp only at hLk2
    rw [hnb] at hLk2
    obtain ⟨S, hS⟩ : ∃ S, few B = S := ⟨_, rfl⟩
    rw [hS] at hLk2
    have z0 : (((0 : Nat) : Int) == 0) = true := by decide
    clear hDr1 p7 fA5 cA5 bw5
    go_wp2_with fail
    refine hLk2.out.mono ?_
    rintro e w8 ⟨vi, vk, rfl, hi8, hk8, p8⟩
    obtain ⟨a8, c8, -, -, rfl, -⟩ := hi8.at_
    obtain ⟨a9, c9, -, -, rfl, -⟩ := hk8.at_
    rw [hnb] at hi8 ⊢
    have hO5 := (((((Off.refl w5.heap.size w5.heap.size w8).setx 0 (.string ⟨#[]⟩)).setx 1 (.int .i64 (nb : Int))).setx 2 (.string S)).setx 3 (.slice a8 nb c8)).setx 4 (.slice a9 0 c9)
    have hB9 := (((((b_then bw7.out p8).setCell (p := ⟨w5.heap.size, 0, none⟩) szw (.string ⟨#[]⟩)).setCell (p := ⟨w5.heap.size, 1, none⟩) szw (.int .i64 (nb : Int))).setCell (p := ⟨w5.heap.size, 2, none⟩) szw (.string S)).setCell (p := ⟨w5.heap.size, 3, none⟩) szw (.slice a8 nb c8)).setCell (p := ⟨w5.heap.size, 4, none⟩) szw (.slice a9 0 c9)
    have hi9 := (hi8.past sz7 fun g hg => hO5.block g hg hg).lst
    have hk9 := (hk8.past sz7 fun g hg => hO5.block g hg hg).lst
    have hck2 : IsCheck (fewCell B) 0 := by rw [← cell_own_few hSet2.out hle2]; exact check_cellOf hSet2.out (by omega) pre_none
    have hDr2 := Draw_ok aA cA bA oA A (fewCell B) _ _ _ (hTA.out.next hB9) (by omega) hi9 hk9 hSet.out (kc_below hKc.out hB9) (by show B.length ≤ _; omega) (Nat.zero_le _) (Nat.zero_le _) hck2
    rw [asks_none A (show (fewCell B).kds.length = 0 from rfl)] at hDr2
    have hM : lacks A (fewCell B) = B.filter fun x => !Sh.has x A := rfl
    have hMr : Rises (lacks A (fewCell B)) := List.Pairwise.filter _ hSet2.out.2
    have hMn : (lacks A (fewCell B)).length ≤ 8 := Nat.le_trans (List.length_filter_le _ _) hle2
    obtain ⟨M, hMe⟩ : ∃ M, lacks A (fewCell B) = M := ⟨_, rfl⟩
    rw [hMe] at hDr2 hM hMr hMn
    clear hMe
    unfold DrawIs at hDr2
    unfold cellV fewCell at hDr2
    dsimp only at hDr2
    rw [hnb, hS, hna] at hDr2
    obtain ⟨d0, d1, d2, d3, d4⟩ := cA7.out.next p8
    have fr := fun o => (show w8.frozen? ⟨w5.heap.size, o, none⟩ = false from (p8.frozen (p := ⟨w5.heap.size, o, none⟩) cA7.out.lt).trans (fA7.out o))
    replace hDr2 := Lib.hid hDr2
    replace hB9 := Lib.hid hB9
    replace hM := Lib.hid hM
    replace hMr := Lib.hid hMr
    clear hi9 hk9 hi8 hk8 hO5 p8 hLk2 cA7 fA7 bw7 hck2 hS
    go_wp2_with fail
    refine hDr2.out.mono ?_
    rintro e w10 ⟨v1, v2, rfl, hm10, hk10, p10⟩
    obtain ⟨am, cm, bm, om, rfl, hcm, hTm⟩ := hm10
    obtain ⟨aq, cq, bq, oq, rfl, -, -⟩ := hk10
    have bw10 := Lib.hid (b_then hB9.out p10)
    clear d0 d1 d2 d3 d4 fr hDr2 hB9 p10
    have hOf1 := Lib.hid (OfSet_calls aB cB bB oB B w10 (hTB.out.next bw10.out) hSet2.out.2 (by omega))
    rw [hnb] at hOf1
    have hOf2 := Lib.hid fun w' (hb : Below w10.heap.size w10 w') => OfSet_calls aA cA bA oA A w' (hTA.out.next (b_then bw10.out hb)) hSet.out.2 (by omega)
    rw [hna] at hOf2
    have hOf3 := Lib.hid fun w' (hb : Below w10.heap.size w10 w') => OfSet_calls am cm bm om M w' (hTm.next hb) hMr.out (by omega)
    obtain ⟨nm, hnm⟩ : ∃ nm, M.length = nm := ⟨_, rfl⟩
    rw [hnm] at hOf3 ⊢
    clear hTm hcm
    go_wp2_with fail
    refine hOf1.out.mono ?_
    rintro e w11 ⟨f1, rfl, -, hF1, p11⟩
    have hOf2' := Lib.hid (hOf2.out w11 p11)
    replace hF1 := Lib.hid hF1
    replace p11 := Lib.hid p11
    clear hOf1 hOf2
    go_wp2_with fail
    refine hOf2'.out.mono ?_
    rintro e w12 ⟨f2, rfl, -, hF2, p12⟩
    have hMi := Ts.Minus_calls w12 _ _ B A (hF1.out.next p12) hF2 hSet2.out.2 hSet.out.2 (by omega)
    rw [← hM.out] at hMi
    have p12' := Lib.hid (b_then p11.out p12)
    replace hMi := Lib.hid hMi
    clear hOf2' hF1 hF2 p11 p12
    go_wp2_with fail
    refine hMi.out.mono ?_
    rintro e w13 ⟨f3, rfl, -, hF3, p13⟩
    have p13' := Lib.hid (b_then p12'.out p13)
    have hOf3' := Lib.hid (hOf3.out w13 p13'.out)
    replace hF3 := Lib.hid hF3
    clear hMi p13 p12' hOf3
    go_wp2_with fail
    refine hOf3'.out.mono ?_
    rintro e w14 ⟨f4, rfl, -, hF4, p14⟩
    have p14' := Lib.hid (b_then p13'.out p14)
    have hF3' := hF3.out.next p14
    have hLe := Lib.hid (Ts.SetLen_calls w14 _ M hF3')
    have hWi := Ts.Within_calls w14 _ _ M M hF4 hF3' hMr.out
    rw [all_own] at hWi
    rw [hnm] at hLe
    replace hWi := Lib.hid hWi
    clear hF3 hF4 hF3' p14 p13' hOf3'
    have z1 : ((nm : Int) == nm) = true := by simp
    go_wp2_with fail
    refine hLe.out.mono ?_
    rintro e w' ⟨rfl, hw'⟩
    obtain rfl := hw'.symm
    clear hw' hLe
    go_wp2_with fail
    refine hWi.out.mono ?_
    rintro e w15 ⟨rfl, p15⟩
    have hE := Lib.hid (b_then bw4.out (b_then bw10.out (b_then p14'.out p15)))
    clear p15 p14' bw10 bw4 hWi
    go_wp2
    go_ret
    exact ⟨rfl, hE.out⟩

theorem own : ownKnob Tryz.prog.godebug = none := by kernel_rfl
theorem laidOut : laidOutB Tryz.prog = true := by kernel_rfl
set_option maxRecDepth 100000 in
theorem lifted (os : Os) (started : os.Started) (H : Type) (enc : TypeId × Value → H) :
    ReturnsInHanded {} Tryz.checked os 8 .any (fun w args => (Rows.trieSelfSpec.pre enc Tryz.prog Tryz.f8 [] false w args ∧ laidMetH Tryz.prog Rows.trieSelfRow.laid w) ∧ sizedMet enc Tryz.prog Tryz.f8 (OpenSpec.ofChange Rows.trieSelfSpec) false w args) (Rows.trieSelfSpec.post enc Tryz.prog Tryz.f8 false true false false) := by
  refine returnsInHanded_of_change_and (C := Tryz.checked) (X := (fun w _ => laidMetH Tryz.prog Rows.trieSelfRow.laid w)) (fun _ _ _ hh h => h.of_heap hh) own started (by kernel_rfl) Tryz.func8
    (ChangeSpec.witness_shaped (enc := enc) (C := Tryz.checked) (os := os) (X := (fun w _ => laidMetH Tryz.prog Rows.trieSelfRow.laid w)) false (World.doorLaid Tryz.prog 14 os) #[.slice none 0 0, .slice none 0 0, .agg #[.int .u8 0, .int .u8 0, .int .u8 0]] 8 rfl (World.shaped_of_RefB (by kernel_rfl) (by kernel_rfl)) (by kernel_rfl) (by kernel_rfl) (by kernel_rfl) (Sha.door_met os _)) ?_
  intro W base args ds gs before hval0 hW hcnd hsz0 hL _
  have hval : ∀ (j : Nat) t v, Tryz.f8.params[j]? = some t → args[j]? = some v → Value.okWide Tryz.prog W .any base t v := hval0
  have hsz : (DataW.weightsEach Tryz.prog (Tryz.f8.params.toList ++ Rows.trieSelfSpec.plain.varTypes Tryz.prog) (ds ++ gs)).all (· ≤ reachBytes) = true := hsz0
  have hW' := hW
  obtain ⟨p, q, hA0, hV, rfl, hfz, hnd⟩ := hW
  have hA : DataW.TrodAll enc Tryz.prog W 0 (fun _ => true) true Tryz.f8.params.toList args.toList ds p := hA0
  rw [Tryz.params8] at hA hval hsz
  obtain ⟨v0, vs0, d0, ds0, p0, q0, hargs, rfl, rfl, h0, r0⟩ := trodAll_cons hA
  obtain ⟨v1, vs1, d1, ds1, p1, q1, rfl, rfl, rfl, h1, r1⟩ := trodAll_cons r0
  obtain ⟨v2, vs2, d2, ds2, p2, q2, rfl, rfl, rfl, h2, r2⟩ := trodAll_cons r1
  obtain ⟨rfl, rfl, rfl⟩ := trodAll_nil r2
  obtain rfl : args = #[v0, v1, v2] := by cases args; simp_all
  obtain ⟨rfl, rfl⟩ := trodVars_none hV
  have k0 := h0
  have lt0 : ∀ x ∈ p0, x.block < W.heap.size := by obtain ⟨m, hm⟩ := k0; exact DataW.trod_lt m _ _ _ hm
  have ok0 := hval 0 36 v0 rfl rfl
  have k1 := h1
  have lt1 : ∀ x ∈ p1, x.block < W.heap.size := by obtain ⟨m, hm⟩ := k1; exact DataW.trod_lt m _ _ _ hm
  have ok1 := hval 1 36 v1 rfl rfl
  have k2 := h2
  have lt2 : ∀ x ∈ p2, x.block < W.heap.size := by obtain ⟨m, hm⟩ := k2; exact DataW.trod_lt m _ _ _ hm
  have ok2 := hval 2 47 v2 rfl rfl
  clear hA0 hval0 hsz0
  obtain ⟨a0, len, cap, b, off, F, rfl, hF, hl⟩ := open_rows Tryz.underlying36 Tryz.underlying54 Tryz.underlying5 (by kernel_rfl) (by kernel_rfl) (of_decide_eq_true (by kernel_rfl)) ok0 h0 (Oct.arg_weights hsz (j := 0) (t := 36) rfl rfl)
  obtain ⟨a1, len1, cap1, b1, off1, G, rfl, hG, hl1⟩ := open_rows Tryz.underlying36 Tryz.underlying54 Tryz.underlying5 (by kernel_rfl) (by kernel_rfl) (of_decide_eq_true (by kernel_rfl)) ok1 h1 (Oct.arg_weights hsz (j := 1) (t := 36) rfl rfl)
  obtain ⟨x, y, z, rfl⟩ := open_three Tryz.underlying47 Tryz.underlying5 (by kernel_rfl) (by kernel_rfl) ok2 h2
  refine (walk a0 len cap b off F a1 len1 cap1 b1 off1 G x y z W hF hG (Sha.kc_of_laid hL)).mono fun e W' ⟨he, bel⟩ => ?_
  subst he
  exact ⟨_, rfl, _, _, _, [], _, [], hW', trodAll_mk1 (shut_bool Tryz.underlying4 _), (trodAll_cons_mk (Below.trod laidOut (by kernel_rfl) (of_decide_eq_true (by kernel_rfl)) k0 bel lt0) (trodAll_cons_mk (Below.trod laidOut (by kernel_rfl) (of_decide_eq_true (by kernel_rfl)) k1 bel lt1) (trodAll_cons_mk (Below.trod laidOut (by kernel_rfl) (of_decide_eq_true (by kernel_rfl)) k2 bel lt2) trodAll_mk0))), rfl, bel.frame _, fun h => by cases h⟩

/-- the row -/
theorem row_proved : Rows.TrieSelfSaid :=
  OpenClaim.holds_of_wide 8 Tryz.f8 rfl rfl rfl rfl rfl rfl rfl ⟨rfl, rfl, rfl, rfl, rfl⟩ rfl rfl rfl rfl rfl (by kernel_rfl) Tryz.func8 (by kernel_rfl)
    (of_decide_eq_true (by kernel_rfl)) (by unfold Func.isWrapper; first | (rw [if_pos (by decide +kernel)]; kernel_rfl) | (rw [if_neg (by decide +kernel)]; exact ⟨rfl, rfl⟩))
    (fun os started H enc _ => lifted os started H enc)
/-- the statement: the tied card -/
theorem proved : Rows.TrieSelfCardSaid :=
  Claim7.holds_tied_plain_at .later [] Rows.trieSelfCard.laidKinds true Rows.trieSelfCard.stood.harness Rows.trieSelfCard.stood.looks row_proved (fun _ h => by cases h) (by kernel_rfl) (fun _ h => by cases h) trieSelf_row_tie rfl ⟨rfl, rfl⟩ (by kernel_rfl) rfl
    (fun f fn hf hfn => by
      obtain rfl : f = 8 := Option.some.inj ((show Tryz.prog.funcNamed Rows.trieSelfRow.func = some 8 by kernel_rfl).symm.trans hf) |>.symm
      obtain rfl : fn = Tryz.f8 := (Option.some.inj (Tryz.func8.symm.trans hfn)).symm
      exact ⟨by kernel_rfl, fun j t ht => by
        rw [Tryz.params8] at ht
        have hm : t ∈ [36, 36, 47] := by simpa using Array.mem_of_getElem? ht
        have hall : ([36, 36, 47].all fun u => !Tryz.prog.wantsStandIn u) = true := by kernel_rfl
        exact (show Tryz.prog.wantsStandIn t = false by simpa using List.all_eq_true.1 hall t hm)⟩)
    (by kernel_rfl)
end Go.Proofs.YtdmpkgdlelagjaaGreatDoor.trieSelf
