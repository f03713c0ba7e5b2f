/-
  Proved: for all lists of ids, TrieFinds returns true and turns nothing of what it was given. Conditions: none beyond the form's own (the digest's constants are what the program's text lays: the card ties them).
-/
import Derived.Test.YtdmpkgdlelagjaaGreatDoorRows
import Derived.Test.YtdmpkgdlelagjaaGreatDoorCards
import Derived.Test.YtdmpkgdlelagjaaGreatDoorTie
import Derived.Test.YtdmpkgdlelagjaaGreatDoorOctKit
import Derived.SevenTiedAt
import Derived.Test.YtdmpkgdlelagjaaGreatDoorTrTails
import Derived.Test.YtdmpkgdlelagjaaGreatDoorTrFresh
import Derived.Test.YtdmpkgdlelagjaaGreatDoorRelReg
import Derived.Test.YtdmpkgdlelagjaaGreatDoorShJoin
import Derived.ProofKit
import Derived.OpenShut
import Derived.Stop.Joined
import Derived.LaidMore
import Derived.MakeChecks
import Derived.Deep.DeepCutAuto
import Derived.Deep.CutRange
import Derived.Deep.RegionHeld3
namespace Go.Proofs.YtdmpkgdlelagjaaGreatDoor.trieFinds
open Go Go.ChangeShapes Go.WideShapes Go.ChangeAt Go.RowKit Tr
open Ident (by_ RowsAt open_rows hex hex_size has dg)
open Sh (b_alloc b_drew b_drewN b_next b_then Rises)

set_option maxRecDepth 100000 in
set_option maxHeartbeats 8000000 in
theorem walk (a : Option Addr) (n cap b off : Nat) (F : Nat → Nat → UInt8) (a2 : Option Addr) (n2 cap2 b2 off2 : Nat) (G : Nat → Nat → UInt8) (w : World) (hR : RowsAt w a b off n F) (hR2 : RowsAt w a2 b2 off2 n2 G) (hK : Sha.Kc w) :
    Calls Tryz.prog 5 #[.slice a n cap, .slice a2 n2 cap2] w fun e w' => e = .returned (.bool true) ∧ Below w.heap.size w w' := by
  have hAw := Lib.hid (awake_calls w hK)
  replace hR := Lib.hid hR
  replace hR2 := Lib.hid hR2
  replace hK := Lib.hid hK
  go_enter Tryz.func5, Tryz.ntmps5
  go_wp2_with fail
  refine hAw.out.mono ?_
  rintro e w1 ⟨rfl, b1⟩
  have bw1 := Lib.hid b1
  clear hAw b1
  by_cases h80 : 80 < n
  · have l0 : decide ((80 : Int) < n) = true := decide_eq_true (by omega)
    go_wp2
    go_ret
    exact ⟨rfl, bw1.out⟩
  by_cases h8 : 80 < n2
  · have l0 : decide ((80 : Int) < n) = false := decide_eq_false (by omega)
    have l1 : decide ((80 : Int) < n2) = true := decide_eq_true (by omega)
    go_wp2
    go_ret
    exact ⟨rfl, bw1.out⟩
  have l0 : decide ((80 : Int) < n) = false := decide_eq_false (by omega)
  have l1 : decide ((80 : Int) < n2) = false := decide_eq_false (by omega)
  have hSo := Lib.hid (sorted_calls a cap b off n F w1 (rows_next hR.out bw1.out) (by omega))
  have hSet := Lib.hid (ids_set F n)
  have hle : (ids F n).length ≤ 80 := by have := ids_len F n; omega
  obtain ⟨A, hA⟩ : ∃ L, ids F n = L := ⟨_, rfl⟩
  rw [hA] at hSo hSet hle
  clear hA hR
  go_wp2_with fail
  refine hSo.out.mono ?_
  rintro e w2 ⟨v2, rfl, hO2, p2⟩
  have bw2 := Lib.hid (b_then bw1.out p2)
  obtain ⟨aA, cA, bA, oA, rfl, hTA, hcA, -⟩ := hO2.at_
  have hSo2 := Lib.hid (sorted_calls a2 cap2 b2 off2 n2 G w2 (rows_next hR2.out bw2.out) (by omega))
  have hSet2 := Lib.hid (ids_set G n2)
  have hle2 : (ids G n2).length ≤ 80 := by have := ids_len G n2; omega
  obtain ⟨B, hB⟩ : ∃ L, ids G n2 = L := ⟨_, rfl⟩
  rw [hB] at hSo2 hSet2 hle2
  obtain ⟨na, hna⟩ : ∃ na, Hid (A.length = na) := ⟨_, Lib.hid rfl⟩
  rw [hna.out] at hcA ⊢
  clear hB hR2 hSo bw1
  go_wp2_with fail
  refine hSo2.out.mono ?_
  rintro e w3 ⟨v3, rfl, hO3, p3⟩
  have bw3 := Lib.hid (b_then bw2.out p3)
  replace hTA := Lib.hid (hTA.next p3)
  obtain ⟨aB, cB, bB, oB, rfl, hTB, hcB, -⟩ := hO3.at_
  replace hTB := Lib.hid hTB
  obtain ⟨nb, hnb⟩ : ∃ nb, Hid (B.length = nb) := ⟨_, Lib.hid rfl⟩
  rw [hnb.out] at hcB ⊢
  clear hSo2 hO2 hO3 p2 p3 bw2
  have hKc := Lib.hid (kc_below hK.out bw3.out)
  have hO4 := OwnT.one w3 w3.heap.size ⟨#[]⟩ (Nat.le_refl _)
  have p4 := b_alloc w3 (.cells #[.string ⟨#[]⟩] 9)
  have hOf := Lib.hid (Of_nil (w3.alloc (.cells #[.string ⟨#[]⟩] 9)))
  clear hcA hcB hK
  go_wp2_with fail
  refine hOf.out.mono ?_
  rintro e w5 ⟨fb, rfl, hfb, hF5, p5⟩
  have hfb3 : w3.heap.size ≤ fb := by have := p4.size; omega
  have hO5 := Lib.hid (hO4.next p5)
  have p35 := Lib.hid (b_then p4 p5)
  replace hF5 := Lib.hid hF5
  have hH5 := Lib.hid (Hunt.start (A := A) hSet2.out)
  have hb5 := Lib.hid (busy_start hle2 hSet2.out.1)
  clear hOf hO4 p4 p5 hfb
  go_wp2
  go_loopw [7, 9, 10] (fun v z i wr => ∃ (todo found : List ByteArray) (cl : Bool) (k g cp : Nat), v = .slice (some ⟨g, 0, none⟩) todo.length cp ∧ z = .bool cl ∧ i = .int .i64 (k : Int) ∧ Hid (OwnT w3.heap.size wr (.slice (some ⟨g, 0, none⟩) todo.length cp) todo) ∧ Hid (Below w3.heap.size w3 wr) ∧ Hid (Ts.SetAt wr (some ⟨fb, 0, none⟩) found) ∧ Hid (Rises found) ∧ Hid (found.length ≤ 8 * k) ∧ Hid (Hunt A B todo found cl) ∧ Hid (k + busyAll B todo ≤ 10241)) (fun _ _ i _ => 20000 - (intOf i).toNat)
  case atStart => exact ⟨[⟨#[]⟩], [], false, 0, w3.heap.size, 1, rfl, rfl, rfl, hO5, p35, hF5, Lib.hid List.Pairwise.nil, Lib.hid (Nat.zero_le _), hH5, Lib.hid (by have := hb5.out; rw [Nat.zero_add]; exact this)⟩
  case round =>
    clear hO5 p35 hF5 hH5 hb5
    obtain ⟨todo, found, cl, k, g, cp, rfl, rfl, rfl, hO, hB, hF, hRi, hln, hHu, hbu⟩ := hrel
    have hk : k ≤ 10241 := by have := hbu.out; omega
    cases todo with
    | nil =>
      have hMw := hF.out
      have hTA1 := hTA.out.next hB.out
      have hTB1 := hTB.out.next hB.out
      have hOf1 := Lib.hid (OfSet_calls aB cB bB oB B wr hTB1 hSet2.out.2 (by omega))
      have hOf2 := Lib.hid fun w' (hb : Below wr.heap.size wr w') => OfSet_calls aA cA bA oA A w' (hTA1.next hb) hSet.out.2 (by omega)
      rw [hnb.out] at hOf1
      rw [hna.out] at hOf2
      have hE := Lib.hid (b_then bw3.out hB.out)
      have hdn := Lib.hid fun (h : cl = false) => (h ▸ hHu.out).done
      clear hO hHu hbu hln hTA1 hTB1 hMw hTA hTB
      simp only [List.length_nil] at *
      go_wp2_with fail
      refine hOf1.out.mono ?_
      rintro e w11 ⟨f1, rfl, -, hF1, p11⟩
      have hOf2' := Lib.hid (hOf2.out w11 p11)
      replace hF1 := Lib.hid hF1
      have hF' := Lib.hid (hF.out.next p11)
      have hE1 := Lib.hid (b_then hE.out p11)
      clear hOf1 hOf2 p11 hF hE
      go_wp2_with fail
      refine hOf2'.out.mono ?_
      rintro e w12 ⟨f2, rfl, -, hF2, p12⟩
      have hMi := Lib.hid (Ts.Minus_calls w12 _ _ B A (hF1.out.next p12) hF2 hSet2.out.2 hSet.out.2 (by omega))
      have hF'' := Lib.hid (hF'.out.next p12)
      have hE2 := Lib.hid (b_then hE1.out p12)
      clear hOf2' hF1 hF2 p12 hF' hE1
      obtain ⟨M, hM⟩ : ∃ M, Hid ((B.filter fun x => !Sh.has x A) = M) := ⟨_, Lib.hid rfl⟩
      rw [hM.out] at hMi
      have hMR : Rises M := by rw [← hM.out]; exact List.Pairwise.filter _ hSet2.out.2
      have hMm : Hid (∀ x, x ∈ M ↔ x ∈ B ∧ x ∉ A) := Lib.hid fun x => by
        rw [← hM.out, List.mem_filter, Bool.not_eq_true', Bool.eq_false_iff, ne_eq, has_mem]
      replace hMR := Lib.hid hMR
      go_wp2_with fail
      refine hMi.out.mono ?_
      rintro e w13 ⟨f3, rfl, -, hF3, p13⟩
      have hF4 := hF''.out.next p13
      have hE3 := Lib.hid (b_then hE2.out p13)
      clear hMi hF'' hE2 p13
      cases cl with
      | true =>
        clear hF3 hF4
        go_wp2
        go_ret
        exact ⟨rfl, hE3.out⟩
      | false =>
        have hd := hdn.out rfl
        have hW1 := Ts.Within_calls w13 _ _ found M hF4 hF3 hMR.out
        have hW2 := Lib.hid fun w' (hb : Below w13.heap.size w13 w') => Ts.Within_calls w' _ _ M found (hF3.next hb) (hF4.next hb) hRi.out
        have t1 : (found.all fun x => Sh.has x M) = true := all_within.2 fun x hx => (hMm.out x).2 ((hd x).1 hx)
        have t2 : (M.all fun x => Sh.has x found) = true := all_within.2 fun x hx => (hd x).2 ((hMm.out x).1 hx)
        rw [t1] at hW1
        rw [t2] at hW2
        replace hW1 := Lib.hid hW1
        clear hF3 hF4 t1 t2 hd hdn
        go_wp2_with fail
        refine hW1.out.mono ?_
        rintro e w14 ⟨rfl, p14⟩
        have hW3 := Lib.hid (hW2.out w14 p14)
        have hE4 := Lib.hid (b_then hE3.out p14)
        clear hW1 hW2 p14 hE3
        go_wp2_with fail
        refine hW3.out.mono ?_
        rintro e w15 ⟨rfl, p15⟩
        have hE5 := Lib.hid (b_then hE4.out p15)
        clear hW3 p15 hE4
        go_wp2
        go_ret
        exact ⟨rfl, hE5.out⟩
    | cons p r =>
      have hpre := Lib.hid (hHu.out.pre p (by simp))
      obtain ⟨hT0, hnt, hcp, hg⟩ := own_tx hO.out
      have c0 : wr.cell? ⟨g, 0, none⟩ = some (.string p) := hT0.cell 0 p rfl
      obtain ⟨nr, hnr⟩ : ∃ nr, Hid (r.length = nr) := ⟨_, Lib.hid rfl⟩
      have hlen : (p :: r).length = nr + 1 := by rw [List.length_cons, hnr.out]
      rw [hlen] at hcp ⊢
      have hR1 := Lib.hid (lst_rest hT0 hnr.out hcp)
      have hnr8 : nr ≤ 100000 := by
        have h1 := hbu.out
        have h2 : ∀ L : List ByteArray, L.length ≤ busyAll B L := fun L => by
          induction L with
          | nil => exact Nat.zero_le _
          | cons x L ih => rw [busyAll_cons, List.length_cons]; have := busy_pos B x; omega
        have := h2 (p :: r)
        rw [hlen] at this
        omega
      have i1 : (k : Int) < 20000 := by have := hbu.out; rw [busyAll_cons] at this; have := busy_pos B p; omega
      have i2 : decide ((k : Int) < 20000) = true := decide_eq_true i1
      have i3 : (0 : Int) < ((nr + 1 : Nat) : Int) := by omega
      have i4 : decide ((0 : Int) < ((nr + 1 : Nat) : Int)) = true := decide_eq_true i3
      have i5 : decide (0 < nr + 1) = true := decide_eq_true (by omega)
      have hO0 := Lib.hid (OwnT.new wr w3.heap.size hB.out.size)
      have pO := Lib.hid (b_alloc wr (.cells #[] 9))
      have hsz := hB.out.size
      clear hO hT0 hnt hlen
      go_upto_region 14 with (fail)
      go_cut [7] from 39 to 169 (fun v wx => ∃ g' cp', v = .slice (some ⟨g', 0, none⟩) nr cp' ∧ Hid (OwnT w3.heap.size wx (.slice (some ⟨g', 0, none⟩) nr cp') r) ∧ Hid (Below wr.heap.size wr wx))
      case first =>
        by_cases hc1 : cp = 1
        · subst hc1
          obtain rfl : nr = 0 := by omega
          obtain rfl := List.length_eq_zero_iff.1 hnr.out
          have hL := Lib.hid (lst_bare (wr.alloc (.cells #[] 9)) g 0)
          go_wp2_with (at_builtin; refine wpl_append_tx rfl _ _ rfl w3.heap.size wr.heap.size 0 0 [] [] _ rfl rfl rfl hO0.out hL.out (by simp) (Nat.le_trans hsz (by simp)) ?_)
          intro g' cap' w' h1 h2
          have h3 := Lib.hid h1
          have h4 := Lib.hid (pO.out.grown h2 (by simp) (fun j e => by cases e; exact Nat.le_refl _))
          clear h1 h2
          go_wp2
          go_meet
          exact ⟨_, _, rfl, h3, h4⟩
        · have j1 : ¬ (cp : Int) = 1 := by omega
          have j2 : (1 : Int) ≤ (cp : Int) := by omega
          have hL := Lib.hid (hR1.out.next pO.out)
          go_wp2_with (at_builtin; refine wpl_append_tx rfl _ _ rfl w3.heap.size wr.heap.size 0 0 [] r _ rfl rfl rfl hO0.out hL.out (by rw [hnr.out]; simp; omega) (Nat.le_trans hsz (by simp)) ?_)
          intro g' cap' w' h1 h2
          rw [hnr.out] at h1 ⊢
          have h3 := Lib.hid h1
          have h4 := Lib.hid (pO.out.grown h2 (by simp) (fun j e => by cases e; exact Nat.le_refl _))
          clear h1 h2
          go_wp2
          go_meet
          exact ⟨_, _, rfl, h3, h4⟩
      case rest =>
        obtain ⟨g', cp', rfl, hO1, pa⟩ := hcut
        have hB1 := Lib.hid (b_then hB.out pa.out)
        have hFa := Lib.hid (hF.out.next pa.out)
        have hTA1 := Lib.hid (hTA.out.next hB1.out)
        have hTB1 := Lib.hid (hTB.out.next hB1.out)
        have hK1 := Lib.hid (kc_below hKc.out hB1.out)
        clear hB hF pO hO0 hR1 hcp hg c0 i1 i2 i3 i4 i5 hsz hTA hTB hKc pa
        have hLk := Lib.hid (Look_ok aB cB bB oB B p wc hTB1.out (by omega) hSet2.out hpre.out hK1.out)
        have hLk2 := Lib.hid fun w' (hb : Below wc.heap.size wc w') => Look_ok aA cA bA oA A p w' (hTA1.out.next hb) (by omega) hSet.out hpre.out (kc_below hK1.out hb)
        have hAl := Lib.hid fun w' (hb : Below wc.heap.size wc w') => alike_calls aA cA bA oA A aB cB bB oB B p w' (hTA1.out.next hb) (hTB1.out.next hb) (by omega) (by omega)
        have hchk : IsCheck (cellOf B p) 0 := check_cellOf hSet2.out (by omega) hpre.out
        have hil : (cellOf B p).ids.length ≤ 30000 := by
          rw [cell_ids']
          split
          · have : (below B p).length ≤ B.length := List.length_filter_le _ _
            omega
          · exact Nat.zero_le _
        have hkl : (cellOf B p).kds.length ≤ 140737488351232 := by
          rw [cell_kds']
          split
          · exact Nat.zero_le _
          · rw [kids_length]; omega
        have hDr := Lib.hid fun vi vk w' (hb : Below wc.heap.size wc w') (h1 : Lst w' vi (cellOf B p).ids) (h2 : Lst w' vk (cellOf B p).kds) =>
          Draw_ok aA cA bA oA A (cellOf B p) vi vk w' (hTA1.out.next hb) (by omega) h1 h2 hSet.out (kc_below hK1.out hb) hil hkl (by show p.size ≤ _; have := hpre.out.1; omega) hchk
        have hIK : Hid ((cellOf B p).kds = if (below B p).length ≤ 8 then [] else kids p.size (below B p)) := Lib.hid (cell_kds' B p)
        have hLn : Hid ((lacks A (cellOf B p)).length ≤ 8) := Lib.hid (lacks_len A B p)
        have hAn : Hid ((asks A (cellOf B p)).length ≤ 16) := Lib.hid (asks_len A B p)
        have hLr : Hid (Rises (lacks A (cellOf B p))) := Lib.hid (lacks_rise hSet2.out p)
        have hfr := Lib.hid fun x => hHu.out.fresh (x := x)
        unfold LookIs at hLk hLk2
        unfold DrawIs at hDr
        simp only [cellV_of] at hLk hLk2 hDr
        obtain ⟨RB, hRB⟩ : ∃ R, Hid (sumAt p.size (below B p) = R) := ⟨_, Lib.hid rfl⟩
        rw [hRB.out] at hLk hDr
        obtain ⟨RA, hRA⟩ : ∃ R, Hid (sumAt p.size (below A p) = R) := ⟨_, Lib.hid rfl⟩
        rw [hRA.out] at hLk2
        obtain ⟨q, hq⟩ : ∃ q, Hid ((below B p).length = q) := ⟨_, Lib.hid rfl⟩
        rw [hq.out] at hLk hDr hIK
        obtain ⟨qa, hqa⟩ : ∃ q, Hid ((below A p).length = q) := ⟨_, Lib.hid rfl⟩
        rw [hqa.out] at hLk2
        obtain ⟨I, hI⟩ : ∃ I, (cellOf B p).ids = I := ⟨_, rfl⟩
        obtain ⟨K, hKd⟩ : ∃ K, (cellOf B p).kds = K := ⟨_, rfl⟩
        rw [hI] at hLk hDr hil
        rw [hKd] at hLk hDr hkl hIK
        clear hI hKd hchk hil hkl
        obtain ⟨IA, hIA⟩ : ∃ I, (cellOf A p).ids = I := ⟨_, rfl⟩
        obtain ⟨KA, hKA⟩ : ∃ K, (cellOf A p).kds = K := ⟨_, rfl⟩
        rw [hIA, hKA] at hLk2
        clear hIA hKA
        obtain ⟨M, hM⟩ : ∃ M, Hid (lacks A (cellOf B p) = M) := ⟨_, Lib.hid rfl⟩
        obtain ⟨S, hS⟩ : ∃ S, Hid (asks A (cellOf B p) = S) := ⟨_, Lib.hid rfl⟩
        rw [hM.out] at hDr hLn hLr hfr
        rw [hS.out] at hDr hAn
        rw [hnb.out] at hLk
        rw [hna.out] at hLk2 hDr
        rw [hna.out, hnb.out] at hAl
        go_wp2_with fail
        refine hLk.out.mono ?_
        rintro e w6 ⟨vi, vk, rfl, hi6, hk6, p6⟩
        obtain ⟨ai, ci, bi, oi, rfl, hci, hTi⟩ := hi6
        obtain ⟨ak, ck, bk, ok, rfl, hck, hTk⟩ := hk6
        obtain ⟨ni, hni⟩ : ∃ ni, Hid (I.length = ni) := ⟨_, Lib.hid rfl⟩
        obtain ⟨nk, hnk⟩ : ∃ nk, Hid (K.length = nk) := ⟨_, Lib.hid rfl⟩
        rw [hni.out] at hci ⊢
        rw [hnk.out] at hck ⊢
        have bX := b_alloc w6 (.cells #[.string p, .int .i64 (q : Int), .string RB, .slice ai ni ci, .slice ak nk ck] 25)
        have cX := CellAt.new w6 (.string p) (.int .i64 (q : Int)) (.string RB) (.slice ai ni ci) (.slice ak nk ck) 25
        have bw6 := Lib.hid (b_then p6 bX)
        have hLk3 := Lib.hid (hLk2.out _ bw6.out)
        replace hTi := Lib.hid (hTi.next bX)
        replace hTk := Lib.hid (hTk.next bX)
        replace cX := Lib.hid cX
        clear bX p6 hLk hLk2
        go_wp2_with fail
        refine hLk3.out.mono ?_
        rintro e w7 ⟨vi2, vk2, rfl, ⟨ai2, ci2, -, -, rfl, -, -⟩, ⟨ak2, ck2, -, -, rfl, -, -⟩, p7⟩
        have bY := b_alloc w7 (.cells #[.string p, .int .i64 (qa : Int), .string RA, .slice ai2 IA.length ci2, .slice ak2 KA.length ck2] 25)
        have cY := CellAt.new w7 (.string p) (.int .i64 (qa : Int)) (.string RA) (.slice ai2 IA.length ci2) (.slice ak2 KA.length ck2) 25
        have bw8 := Lib.hid (b_then bw6.out (b_then p7 bY))
        have cX8 := Lib.hid ((cX.out.next p7).next bY)
        replace hTi := Lib.hid ((hTi.out.next p7).next bY)
        replace hTk := Lib.hid ((hTk.out.next p7).next bY)
        have hAl1 := Lib.hid (hAl.out _ bw8.out)
        obtain ⟨x0, x1, x2, x3, x4⟩ := cX8.out
        obtain ⟨y0, y1, y2, y3, y4⟩ := cY
        clear bY p7 bw6 hLk3 hAl cX
        go_upto_region 19 with (fail)
        generalize (w7.alloc (.cells #[.string p, .int .i64 (qa : Int), .string RA, .slice ai2 IA.length ci2, .slice ak2 KA.length ck2] 25)) = W8 at *
        go_cut [9] from 39 to 169 (fun z wx => ∃ y, z = .bool y ∧ Hid (y = false → cl = false) ∧ Hid (Below W8.heap.size W8 wx))
        case first =>
          cases cl with
          | true =>
            go_wp2
            go_meet
            exact ⟨true, rfl, Lib.hid (fun h => by cases h), Lib.hid (Below.refl _ _)⟩
          | false =>
            obtain ⟨y, hy⟩ : ∃ y, (RB.toList == RA.toList) = y := ⟨_, rfl⟩
            cases y with
            | false =>
              go_wp2
              go_meet
              exact ⟨false, rfl, Lib.hid (by first | trivial | (intro _; trivial) | (intro _; rfl)), Lib.hid (Below.refl _ _)⟩
            | true =>
              go_wp2_with fail
              refine hAl1.out.mono ?_
              rintro e w9 ⟨⟨z, rfl, hz⟩, p9⟩
              clear hz
              cases z <;>
              · go_wp2
                go_meet
                exact ⟨_, rfl, Lib.hid (by first | trivial | (intro _; trivial) | (intro _; rfl)), Lib.hid p9⟩
        case rest =>
          obtain ⟨y, rfl, hy, pb⟩ := hcut
          clear x0 x1 x2 x3 x4 y0 y1 y2 y3 y4 hAl1
          have bw9 := Lib.hid (b_then bw8.out pb.out)
          have cX9 := Lib.hid (cX8.out.next pb.out)
          replace hTi := Lib.hid (hTi.out.next pb.out)
          replace hTk := Lib.hid (hTk.out.next pb.out)
          clear cX8 bw8 pb hRB hRA hqa
          obtain ⟨x0, x1, x2, x3, x4⟩ := cX9.out
          have hp64 := Lib.hid fun (h : 8 < q) => alike_lt (below_set hSet2.out p) alike_below (by rw [hq.out]; exact h)
          have hnk2 : Hid (8 < q → nk = 16) := Lib.hid fun h => by rw [← hnk.out, hIK.out, if_neg (by omega), kids_length]
          have hnk3 : Hid (0 < nk → 8 < q) := Lib.hid fun h => by
            by_cases g : q ≤ 8
            · rw [← hnk.out, hIK.out, if_pos g] at h; exact absurd h (Nat.lt_irrefl _)
            · omega
          have hLx := Lib.hid fun (d : Nat) (hpL : IsPre (longer p d)) w' (hb : Below wc.heap.size wc w') => Look_ok aA cA bA oA A (longer p d) w' (hTA1.out.next (b_then bw9.out hb)) (by omega) hSet.out hpL (kc_below hK1.out (b_then bw9.out hb))
          have hAx := Lib.hid fun (d : Nat) w' (hb : Below wc.heap.size wc w') => alike_calls aA cA bA oA A aB cB bB oB B (longer p d) w' (hTA1.out.next (b_then bw9.out hb)) (hTB1.out.next (b_then bw9.out hb)) (by omega) (by omega)
          have hNx := Lib.hid fun (d : Nat) w' (hb : Below wc.heap.size wc w') => alike_calls none 0 0 0 [] aB cB bB oB B (longer p d) w' (TxAt.nil _ _ _ _) (hTB1.out.next (b_then bw9.out hb)) (Nat.zero_le _) (by omega)
          have hFx := Lib.hid fun w' (hb : Below wc.heap.size wc w') => acc_few [] (fun x hx => by simp at hx) (Nat.zero_le _) w' (kc_below hK1.out (b_then bw9.out hb))
          rw [acc_nil] at hFx
          rw [hna.out, hnb.out] at hAx
          rw [hnb.out] at hNx
          obtain ⟨fw, hfw⟩ : ∃ fw, Hid (few [] = fw) := ⟨_, Lib.hid rfl⟩
          rw [hfw.out] at hFx
          have n16 : nk ≤ 16 := by
            by_cases g : 8 < q
            · rw [hnk2.out g]; exact Nat.le_refl _
            · by_cases g2 : 0 < nk
              · exact absurd (hnk3.out g2) g
              · omega
          have hy0 : Hid (y = false → cl = false ∧ ∀ e, e < 0 → Tr.Fair A B p e) := Lib.hid fun h => ⟨hy.out h, fun e he => absurd he (Nat.not_lt_zero _)⟩
          clear hy
          go_wp2
          clear x0 x1 x2 x3 x4
          go_loopw [9, 15] (fun z i wr => ∃ (d : Nat) (y : Bool), d ≤ nk ∧ i = .int .i64 (d : Int) ∧ z = .bool y ∧ Hid (y = false → cl = false ∧ ∀ e, e < d → Tr.Fair A B p e) ∧ Hid (Below wc.heap.size wc wr)) (fun _ i _ => nk - (intOf i).toNat)
          case atStart => exact ⟨0, y, Nat.zero_le _, rfl, rfl, hy0, Lib.hid (Below.refl _ _)⟩
          case round =>
            clear hy0
            obtain ⟨d, z, hd, rfl, rfl, hz, hBr⟩ := hrel
            obtain ⟨x0, x1, x2, x3, x4⟩ := cX9.out.next hBr.out
            by_cases hlt : d < nk
            · obtain h8q := hnk3.out (by omega)
              obtain rfl : nk = 16 := hnk2.out h8q
              have hp6 := hp64.out h8q
              have hKe : K = kids p.size (below B p) := by rw [hIK.out, if_neg (by omega)]
              have i1 : (d : Int) < 16 := by omega
              have i0 : 0 ≤ (d : Int) := by omega
              have iw : IntKind.u8.wrap (d : Int) = (d : Int) := by simp [IntKind.wrap, IntKind.bits, IntKind.signed]; omega
              have ha := hTk.out.addr (by rw [hKe, kids_length]; omega)
              subst ha
              have hTk1 := Lib.hid fun w' (hb : Below wc.heap.size wc w') => (hTk.out.next hb).cell d _ (by rw [hKe]; exact kids_at _ _ hlt)
              have hpL := longer_pre hpre.out hp6 hlt
              have hLo := Lib.hid fun w' (hb : Below wr.heap.size wr w') => hLx.out d hpL w' (b_then hBr.out hb)
              have hAo := Lib.hid fun w' (hb : Below wr.heap.size wr w') => hAx.out d w' (b_then hBr.out hb)
              have hNo := Lib.hid fun w' (hb : Below wr.heap.size wr w') => hNx.out d w' (b_then hBr.out hb)
              have hFo := Lib.hid fun w' (hb : Below wr.heap.size wr w') => hFx.out w' (b_then hBr.out hb)
              have hfair : Hid (∀ s1 s2 : Bool, (s1 = true ↔ Same A B (longer p d)) → (s2 = true ↔ Same [] B (longer p d)) → ((sumAt (longer p d).size (below A (longer p d))).toList == (kid p.size (below B p) d).toList → s1 = true) → ((kid p.size (below B p) d).toList == fw.toList → s2 = true) → Tr.Fair A B p d) := Lib.hid fun s1 s2 h1 h2 h3 h4 =>
                ⟨fun e => h1.1 (h3 (str_eq e)), fun e => h2.1 (h4 (str_eq (e.trans hfw.out)))⟩
              unfold LookIs at hLo
              simp only [cellV_of] at hLo
              have hlo := longer_of p d
              have hHe := Lib.hid fun w' => Ident.Hex_calls (zs 31 ++ (⟨#[UInt8.ofNat d]⟩ : ByteArray)) w'
              have hzx := hex_size (tail_size d)
              have htd := tail_digit d hlt
              have hcz := fun (w : World) (b : Nat) (h : ZAt w b) => conv_zs (w := w) (b := b) 31 h.cell
              have hco := fun (w : World) (b : Nat) (h : OAt w b d) => conv_one (w := w) (b := b) d (by omega) h.cell
              have k7 := make31
              have q0 : ¬ 9223372036854775807 < (zs 31).size + (⟨#[UInt8.ofNat d]⟩ : ByteArray).size := by rw [zs_size]; show ¬ _ < 31 + 1; decide
              have q3 : ¬ 9223372036854775807 < p.size + (⟨#[dg d]⟩ : ByteArray).size := by show ¬ _ < p.size + 1; omega
              obtain ⟨Z, hZ⟩ : ∃ Z, zs 31 = Z := ⟨_, rfl⟩
              rw [hZ] at hHe hzx htd q0 hcz
              obtain ⟨O, hO⟩ : ∃ O, (⟨#[UInt8.ofNat d]⟩ : ByteArray) = O := ⟨_, rfl⟩
              rw [hO] at hHe hzx htd q0 hco
              obtain ⟨H, hH⟩ : ∃ H, hex (Z ++ O) = H := ⟨_, rfl⟩
              rw [hH] at hHe hzx htd
              obtain ⟨kd, hkd⟩ : ∃ kd, kid p.size (below B p) d = kd := ⟨_, rfl⟩
              rw [hkd] at hTk1 hfair
              obtain ⟨q2, hq2⟩ : ∃ q2, longer p d = q2 := ⟨_, rfl⟩
              rw [hq2] at hlo hLo hAo hNo hfair
              obtain ⟨RX, hRX⟩ : ∃ RX, sumAt q2.size (below A q2) = RX := ⟨_, rfl⟩
              rw [hRX] at hLo hfair
              obtain ⟨D, hD⟩ : ∃ D, (⟨#[dg d]⟩ : ByteArray) = D := ⟨_, rfl⟩
              rw [hD] at hlo htd q3
              clear hZ hO hH hkd hq2 hRX hD hpL hKe
              obtain ⟨nx, hnx⟩ : ∃ nx, (below A q2).length = nx := ⟨_, rfl⟩
              rw [hnx, hna.out] at hLo
              obtain ⟨IX, hIX⟩ : ∃ I, (cellOf A q2).ids = I := ⟨_, rfl⟩
              obtain ⟨KX, hKX⟩ : ∃ K, (cellOf A q2).kds = K := ⟨_, rfl⟩
              rw [hIX, hKX] at hLo
              clear hIX hKX hnx
              go_upto_region 23 with (fail)
              go_cut [16] from 88 to 144 (fun t wy => t = .string q2 ∧ Hid (Below wr.heap.size wr wy))
              case first =>
                refine Rr.region_rel (l := [some 95, some 96, some 97, some 98, some 99, some 100, some 101, some 102, some 103, some 104, some 105, some 16]) (aux := [0, 1, 2, 3, 4, 5, 6, 7, 8, 9, 10, 11]) (need := [[], [], [1], [], [3], [4], [5], [2, 6], [7], [8], [0, 9], [10]]) (live := [11]) (W := fun rw : World => Below wr.heap.size wr rw) (R := fun (rk : Nat) (rv ru : Value) (rw : World) => match rk with | 0 => rv = .string p | 1 => ∃ b, rv = .slice (some ⟨b, 0, none⟩) 31 31 ∧ ZAt rw b | 2 => rv = .string Z | 3 => rv = .int .i64 (d : Int) | 4 => rv = .int .u8 (d : Int) | 5 => ∃ b, rv = .slice (some ⟨b, 0, none⟩) 1 1 ∧ OAt rw b d | 6 => rv = .string O | 7 => rv = .string (Z ++ O) | 8 => rv = .string H | 9 => rv = .string D | 10 => rv = .string q2 | 11 => rv = .string q2 | _ => True) (E := fun (rk : Nat) (rw1 rw2 : World) => Below rw1.heap.size rw1 rw2) (G := ?relG) (by kernel_rfl) (by kernel_rfl) ?relhG (b_drew wr) ?relkeep ?relsteps ?relfin
                case relhG => intro xx; simp only [Rr.fill, Act.put, List.setIfInBounds_toArray, List.set_cons_zero, List.set_cons_succ, Nat.zero_add, Nat.reduceAdd]; exact rfl
                case relkeep =>
                  intro ri rj rv ru rw1 rw2 hi hj hne hon hlost hW hR hE
                  clear hi
                  match rj, hj, hne, hon, hlost, hR with
                  | 0, _, _, _, _, hR => exact hR
                  | 1, _, hne, hon, hlost, hR =>
                    replace hR : ∃ b, rv = .slice (some ⟨b, 0, none⟩) 31 31 ∧ ZAt rw1 b := hR
                    show ∃ b, rv = .slice (some ⟨b, 0, none⟩) 31 31 ∧ ZAt rw2 b
                    obtain ⟨b, e, h⟩ := hR; exact ⟨b, e, h.next hE⟩
                  | 2, _, _, _, _, hR => exact hR
                  | 3, _, _, _, _, hR => exact hR
                  | 4, _, _, _, _, hR => exact hR
                  | 5, _, hne, hon, hlost, hR =>
                    replace hR : ∃ b, rv = .slice (some ⟨b, 0, none⟩) 1 1 ∧ OAt rw1 b d := hR
                    show ∃ b, rv = .slice (some ⟨b, 0, none⟩) 1 1 ∧ OAt rw2 b d
                    obtain ⟨b, e, h⟩ := hR; exact ⟨b, e, h.next hE⟩
                  | 6, _, _, _, _, hR => exact hR
                  | 7, _, _, _, _, hR => exact hR
                  | 8, _, _, _, _, hR => exact hR
                  | 9, _, _, _, _, hR => exact hR
                  | 10, _, _, _, _, hR => exact hR
                  | 11, _, _, _, _, hR => exact hR
                  | rj + 12, hj, _, _, _, _ => exact absurd (show rj + 12 < 12 from hj) (by omega)
                case relsteps =>
                  refine (Rr.RunSteps.cons (o := { dst := some 95, op := _, type := _, pos := _, after := _, guard := none }) rfl ?rs0 (Rr.RunSteps.cons (o := { dst := some 96, op := _, type := _, pos := _, after := _, guard := none }) rfl ?rs1 (Rr.RunSteps.cons (o := { dst := some 97, op := _, type := _, pos := _, after := _, guard := none }) rfl ?rs2 (Rr.RunSteps.cons (o := { dst := some 98, op := _, type := _, pos := _, after := _, guard := none }) rfl ?rs3 (Rr.RunSteps.cons (o := { dst := some 99, op := _, type := _, pos := _, after := _, guard := none }) rfl ?rs4 (Rr.RunSteps.cons (o := { dst := some 100, op := _, type := _, pos := _, after := _, guard := none }) rfl ?rs5 (Rr.RunSteps.cons (o := { dst := some 101, op := _, type := _, pos := _, after := _, guard := none }) rfl ?rs6 (Rr.RunSteps.cons (o := { dst := some 102, op := _, type := _, pos := _, after := _, guard := none }) rfl ?rs7 (Rr.RunSteps.cons (o := { dst := some 103, op := _, type := _, pos := _, after := _, guard := none }) rfl ?rs8 (Rr.RunSteps.cons (o := { dst := some 104, op := _, type := _, pos := _, after := _, guard := none }) rfl ?rs9 (Rr.RunSteps.cons (o := { dst := some 105, op := _, type := _, pos := _, after := _, guard := none }) rfl ?rs10 (Rr.RunSteps.cons (o := { dst := some 16, op := _, type := _, pos := _, after := _, guard := none }) rfl ?rs11 (Rr.RunSteps.nil rfl)))))))))))))
                  case rs0 =>
                    intro xx ww hW hd K hK
                    replace hW : Below wr.heap.size wr ww := hW
                    dsimp only at hK
                    replace hK : Shut (∀ (ra : Act) (rv : Value) (rw : World), ra = _ → Below wr.heap.size wr rw → Below ww.heap.size ww rw → (rv = .string p) → K ra rw) := hK
                    clear hd
                    go_simp
                    exact hK.out _ _ _ rfl hW (Below.refl _ _) rfl
                  case rs1 =>
                    intro xx ww hW hd K hK
                    replace hW : Below wr.heap.size wr ww := hW
                    dsimp only at hK
                    replace hK : Shut (∀ (ra : Act) (rv : Value) (rw : World), ra = _ → Below wr.heap.size wr rw → Below ww.heap.size ww rw → (∃ b, rv = .slice (some ⟨b, 0, none⟩) 31 31 ∧ ZAt rw b) → K ra rw) := hK
                    clear hd
                    (go_simp; exact hK.out _ _ _ rfl (b_then hW (b_alloc _ _)) (b_alloc _ _) ⟨_, rfl, ZAt.new _⟩)
                  case rs2 =>
                    intro xx ww hW hd K hK
                    replace hW : Below wr.heap.size wr ww := hW
                    dsimp only at hK
                    replace hK : Shut (∀ (ra : Act) (rv : Value) (rw : World), ra = _ → Below wr.heap.size wr rw → Below ww.heap.size ww rw → (rv = .string Z) → K ra rw) := hK
                    have r96 : ∃ b, (xx 1) = .slice (some ⟨b, 0, none⟩) 31 31 ∧ ZAt ww b := hd 1 (by kernel_rfl)
                    obtain ⟨b96, e96, z96⟩ := r96
                    rw [e96] at hK; (try rw [e96])
                    clear hd
                    (have c97 := hcz ww b96 z96; go_simp; exact hK.out _ _ _ rfl hW (Below.refl _ _) rfl)
                  case rs3 =>
                    intro xx ww hW hd K hK
                    replace hW : Below wr.heap.size wr ww := hW
                    dsimp only at hK
                    replace hK : Shut (∀ (ra : Act) (rv : Value) (rw : World), ra = _ → Below wr.heap.size wr rw → Below ww.heap.size ww rw → (rv = .int .i64 (d : Int)) → K ra rw) := hK
                    clear hd
                    go_simp
                    exact hK.out _ _ _ rfl hW (Below.refl _ _) rfl
                  case rs4 =>
                    intro xx ww hW hd K hK
                    replace hW : Below wr.heap.size wr ww := hW
                    dsimp only at hK
                    replace hK : Shut (∀ (ra : Act) (rv : Value) (rw : World), ra = _ → Below wr.heap.size wr rw → Below ww.heap.size ww rw → (rv = .int .u8 (d : Int)) → K ra rw) := hK
                    have r98 : (xx 3) = .int .i64 (d : Int) := hd 3 (by kernel_rfl)
                    rw [r98] at hK; (try rw [r98])
                    clear hd
                    go_simp
                    exact hK.out _ _ _ rfl hW (Below.refl _ _) rfl
                  case rs5 =>
                    intro xx ww hW hd K hK
                    replace hW : Below wr.heap.size wr ww := hW
                    dsimp only at hK
                    replace hK : Shut (∀ (ra : Act) (rv : Value) (rw : World), ra = _ → Below wr.heap.size wr rw → Below ww.heap.size ww rw → (∃ b, rv = .slice (some ⟨b, 0, none⟩) 1 1 ∧ OAt rw b d) → K ra rw) := hK
                    have r99 : (xx 4) = .int .u8 (d : Int) := hd 4 (by kernel_rfl)
                    rw [r99] at hK; (try rw [r99])
                    clear hd
                    (go_simp; exact hK.out _ _ _ rfl (b_then hW (b_alloc _ _)) (b_alloc _ _) ⟨_, rfl, OAt.new _ _⟩)
                  case rs6 =>
                    intro xx ww hW hd K hK
                    replace hW : Below wr.heap.size wr ww := hW
                    dsimp only at hK
                    replace hK : Shut (∀ (ra : Act) (rv : Value) (rw : World), ra = _ → Below wr.heap.size wr rw → Below ww.heap.size ww rw → (rv = .string O) → K ra rw) := hK
                    have r100 : ∃ b, (xx 5) = .slice (some ⟨b, 0, none⟩) 1 1 ∧ OAt ww b d := hd 5 (by kernel_rfl)
                    obtain ⟨b100, e100, z100⟩ := r100
                    rw [e100] at hK; (try rw [e100])
                    clear hd
                    (have c101 := hco ww b100 z100; go_simp; exact hK.out _ _ _ rfl hW (Below.refl _ _) rfl)
                  case rs7 =>
                    intro xx ww hW hd K hK
                    replace hW : Below wr.heap.size wr ww := hW
                    dsimp only at hK
                    replace hK : Shut (∀ (ra : Act) (rv : Value) (rw : World), ra = _ → Below wr.heap.size wr rw → Below ww.heap.size ww rw → (rv = .string (Z ++ O)) → K ra rw) := hK
                    have r97 : (xx 2) = .string Z := hd 2 (by kernel_rfl)
                    have r101 : (xx 6) = .string O := hd 6 (by kernel_rfl)
                    rw [r97] at hK; (try rw [r97])
                    rw [r101] at hK; (try rw [r101])
                    clear hd
                    go_simp
                    exact hK.out _ _ _ rfl hW (Below.refl _ _) rfl
                  case rs8 =>
                    intro xx ww hW hd K hK
                    replace hW : Below wr.heap.size wr ww := hW
                    dsimp only at hK
                    replace hK : Shut (∀ (ra : Act) (rv : Value) (rw : World), ra = _ → Below wr.heap.size wr rw → Below ww.heap.size ww rw → (rv = .string H) → K ra rw) := hK
                    have r102 : (xx 7) = .string (Z ++ O) := hd 7 (by kernel_rfl)
                    rw [r102] at hK; (try rw [r102])
                    clear hd
                    (go_simp; go_at_call 21; refine (hHe.out _).mono ?_; rintro e w7 ⟨rfl, b7⟩; go_simp; exact hK.out _ _ _ rfl (b_then hW b7) b7 rfl)
                  case rs9 =>
                    intro xx ww hW hd K hK
                    replace hW : Below wr.heap.size wr ww := hW
                    dsimp only at hK
                    replace hK : Shut (∀ (ra : Act) (rv : Value) (rw : World), ra = _ → Below wr.heap.size wr rw → Below ww.heap.size ww rw → (rv = .string D) → K ra rw) := hK
                    have r103 : (xx 8) = .string H := hd 8 (by kernel_rfl)
                    rw [r103] at hK; (try rw [r103])
                    clear hd
                    go_simp
                    exact hK.out _ _ _ rfl hW (Below.refl _ _) rfl
                  case rs10 =>
                    intro xx ww hW hd K hK
                    replace hW : Below wr.heap.size wr ww := hW
                    dsimp only at hK
                    replace hK : Shut (∀ (ra : Act) (rv : Value) (rw : World), ra = _ → Below wr.heap.size wr rw → Below ww.heap.size ww rw → (rv = .string q2) → K ra rw) := hK
                    have r95 : (xx 0) = .string p := hd 0 (by kernel_rfl)
                    have r104 : (xx 9) = .string D := hd 9 (by kernel_rfl)
                    rw [r95] at hK; (try rw [r95])
                    rw [r104] at hK; (try rw [r104])
                    clear hd
                    go_simp
                    exact hK.out _ _ _ rfl hW (Below.refl _ _) rfl
                  case rs11 =>
                    intro xx ww hW hd K hK
                    replace hW : Below wr.heap.size wr ww := hW
                    dsimp only at hK
                    replace hK : Shut (∀ (ra : Act) (rv : Value) (rw : World), ra = _ → Below wr.heap.size wr rw → Below ww.heap.size ww rw → (rv = .string q2) → K ra rw) := hK
                    have r105 : (xx 10) = .string q2 := hd 10 (by kernel_rfl)
                    rw [r105] at hK; (try rw [r105])
                    clear hd
                    go_simp
                    exact hK.out _ _ _ rfl hW (Below.refl _ _) rfl
                intro xx ww hW hx
                replace hW : Below wr.heap.size wr ww := hW
                have r16 : (xx 11) = .string q2 := hx 11 (show 11 < 12 by omega) (by kernel_rfl)
                try rw [r16]
                clear hx
                go_wp2
                go_meet
                exact ⟨rfl, Lib.hid hW⟩
              case rest =>
                obtain ⟨rfl, hb2⟩ := hcut
                clear hHe hzx htd hcz hco k7 q0 q3 iw hlo x0 x1 x2 x3 x4
                have hLo1 := Lib.hid (hLo.out _ hb2.out)
                go_wp2_with fail
                refine hLo1.out.mono ?_
                rintro e wz ⟨vi2, vk2, rfl, ⟨ai3, ci3, -, -, rfl, -, -⟩, ⟨ak3, ck3, -, -, rfl, -, -⟩, p9⟩
                have bZ := b_alloc wz (.cells #[.string q2, .int .i64 (nx : Int), .string RX, .slice ai3 IX.length ci3, .slice ak3 KX.length ck3] 25)
                have cZ := CellAt.new wz (.string q2) (.int .i64 (nx : Int)) (.string RX) (.slice ai3 IX.length ci3) (.slice ak3 KX.length ck3) 25
                have bwz := Lib.hid (b_then hb2.out (b_then p9 bZ))
                clear bZ p9 hLo1 hLo hb2
                go_upto_region 25 with (fail)
                generalize (wz.alloc (.cells #[.string q2, .int .i64 (nx : Int), .string RX, .slice ai3 IX.length ci3, .slice ak3 KX.length ck3] 25)) = WZ at *
                have hS := Lib.hid fun w' (hb : Below WZ.heap.size WZ w') => (show w'.cell? ⟨w6.heap.size, 4, none⟩ = some (.slice (some ⟨bk, ok, none⟩) 16 ck) ∧ w'.cell? ⟨bk, ok + d, none⟩ = some (.string kd) ∧ w'.cell? ⟨wz.heap.size, 2, none⟩ = some (.string RX) from
                  ⟨(cX9.out.next (b_then hBr.out (b_then bwz.out hb))).2.2.2.2, hTk1.out w' (b_then hBr.out (b_then bwz.out hb)), (cZ.next hb).2.2.1⟩)
                have hA1 := Lib.hid fun w' (hb : Below WZ.heap.size WZ w') => hAo.out w' (b_then bwz.out hb)
                have hN1 := Lib.hid fun w' (hb : Below WZ.heap.size WZ w') => hNo.out w' (b_then bwz.out hb)
                have hF1 := Lib.hid fun w' (hb : Below WZ.heap.size WZ w') => hFo.out w' (b_then bwz.out hb)
                clear hAo hNo hFo cZ hTk1
                have hnx2 := Lib.hid fun (y' : Bool) (h : y' = false → z = false ∧ Tr.Fair A B p d) => (show y' = false → cl = false ∧ ∀ e, e < d + 1 → Tr.Fair A B p e from fun hy' => by
                  obtain ⟨g1, g2⟩ := h hy'
                  obtain ⟨g3, g4⟩ := hz.out g1
                  refine ⟨g3, fun e he => ?_⟩
                  by_cases h5 : e = d
                  · rw [h5]; exact g2
                  · exact g4 e (by omega))
                have hBz := Lib.hid fun w' (hb : Below WZ.heap.size WZ w') => b_then hBr.out (b_then bwz.out hb)
                clear hz
                obtain ⟨s1, hs1⟩ : ∃ s : Bool, Hid (s = true ↔ Same A B q2) := by
                  by_cases h : Same A B q2
                  · exact ⟨true, Lib.hid ⟨fun _ => h, fun _ => rfl⟩⟩
                  · exact ⟨false, Lib.hid ⟨fun g => (by cases g), fun g => absurd g h⟩⟩
                obtain ⟨s2, hs2⟩ : ∃ s : Bool, Hid (s = true ↔ Same [] B q2) := by
                  by_cases h : Same [] B q2
                  · exact ⟨true, Lib.hid ⟨fun _ => h, fun _ => rfl⟩⟩
                  · exact ⟨false, Lib.hid ⟨fun g => (by cases g), fun g => absurd g h⟩⟩
                replace hA1 := Lib.hid fun w' (hb : Below WZ.heap.size WZ w') => (hA1.out w' hb).mono fun e w'' ⟨⟨v, h1, h2⟩, h3⟩ => (show e = Ending.returned (Value.bool s1) ∧ Below w'.heap.size w' w'' from ⟨by rw [h1, Bool.eq_iff_iff.2 (h2.trans hs1.out.symm)], h3⟩)
                replace hN1 := Lib.hid fun w' (hb : Below WZ.heap.size WZ w') => (hN1.out w' hb).mono fun e w'' ⟨⟨v, h1, h2⟩, h3⟩ => (show e = Ending.returned (Value.bool s2) ∧ Below w'.heap.size w' w'' from ⟨by rw [h1, Bool.eq_iff_iff.2 (h2.trans hs2.out.symm)], h3⟩)
                simp only [List.length_nil] at hN1
                have hfr2 := Lib.hid (hfair.out s1 s2 hs1.out hs2.out)
                obtain ⟨e1, he1⟩ : ∃ e, (RX.toList == kd.toList) = e := ⟨_, rfl⟩
                obtain ⟨e2, he2⟩ : ∃ e, (kd.toList == fw.toList) = e := ⟨_, rfl⟩
                rw [he1, he2] at hfr2
                clear hs1 hs2 hfair
                cases z with
                | true =>
                  refine wp_region_held_drew (S := (fun w' => w'.cell? ⟨w6.heap.size, 4, none⟩ = some (.slice (some ⟨bk, ok, none⟩) 16 ck) ∧ w'.cell? ⟨bk, ok + d, none⟩ = some (.string kd) ∧ w'.cell? ⟨wz.heap.size, 2, none⟩ = some (.string RX))) (by kernel_rfl) (hS.out _ (b_drew WZ)) (fun hHeld => ?_)
                  refine wpAnyH_take (i := 0) (oi := { dst := some 112, op := _, type := _, pos := _, after := _, guard := none }) (v := ?vr1_0) rfl (by kernel_rfl) (by kernel_rfl) (by kernel_rfl) (fun _ _ _ h => h) (Or.inl ⟨by rfl, ?hyr1_0⟩) (by assumption) ?restr1_0
                  case hyr1_0 => (intro w hSw; (try dsimp only at hSw); go_simp <;> with_reducible rfl)
                  (try simp only [Act.put, List.setIfInBounds_toArray, List.set_cons_zero, List.set_cons_succ])
                  refine wpAnyH_take (i := 1) (oi := { dst := some 113, op := _, type := _, pos := _, after := _, guard := none }) (v := ?vr1_1) rfl (by kernel_rfl) (by kernel_rfl) (by kernel_rfl) (fun _ _ _ h => h) (Or.inl ⟨by rfl, ?hyr1_1⟩) (by assumption) ?restr1_1
                  case hyr1_1 => (intro w hSw; (try dsimp only at hSw); go_simp <;> with_reducible rfl)
                  (try simp only [Act.put, List.setIfInBounds_toArray, List.set_cons_zero, List.set_cons_succ])
                  refine wpAnyH_take (i := 2) (oi := { dst := some 114, op := _, type := _, pos := _, after := _, guard := some (1, false) }) (v := undef) rfl (by kernel_rfl) (by kernel_rfl) (by kernel_rfl) (fun _ _ _ h => h) (Or.inr ⟨by rfl, rfl⟩) (by assumption) ?_
                  (try simp only [Act.put, List.setIfInBounds_toArray, List.set_cons_zero, List.set_cons_succ])
                  refine wpAnyH_take (i := 3) (oi := { dst := some 115, op := _, type := _, pos := _, after := _, guard := some (1, false) }) (v := undef) rfl (by kernel_rfl) (by kernel_rfl) (by kernel_rfl) (fun _ _ _ h => h) (Or.inr ⟨by rfl, rfl⟩) (by assumption) ?_
                  (try simp only [Act.put, List.setIfInBounds_toArray, List.set_cons_zero, List.set_cons_succ])
                  refine wpAnyH_take (i := 4) (oi := { dst := some 116, op := _, type := _, pos := _, after := _, guard := some (1, false) }) (v := undef) rfl (by kernel_rfl) (by kernel_rfl) (by kernel_rfl) (fun _ _ _ h => h) (Or.inr ⟨by rfl, rfl⟩) (by assumption) ?_
                  (try simp only [Act.put, List.setIfInBounds_toArray, List.set_cons_zero, List.set_cons_succ])
                  refine wpAnyH_take (i := 5) (oi := { dst := some 117, op := _, type := _, pos := _, after := _, guard := some (1, false) }) (v := undef) rfl (by kernel_rfl) (by kernel_rfl) (by kernel_rfl) (fun _ _ _ h => h) (Or.inr ⟨by rfl, rfl⟩) (by assumption) ?_
                  (try simp only [Act.put, List.setIfInBounds_toArray, List.set_cons_zero, List.set_cons_succ])
                  refine wpAnyH_take (i := 6) (oi := { dst := some 118, op := _, type := _, pos := _, after := _, guard := some (1, false) }) (v := undef) rfl (by kernel_rfl) (by kernel_rfl) (by kernel_rfl) (fun _ _ _ h => h) (Or.inr ⟨by rfl, rfl⟩) (by assumption) ?_
                  (try simp only [Act.put, List.setIfInBounds_toArray, List.set_cons_zero, List.set_cons_succ])
                  refine wpAnyH_take (i := 7) (oi := { dst := some 119, op := _, type := _, pos := _, after := _, guard := some (1, false) }) (v := undef) rfl (by kernel_rfl) (by kernel_rfl) (by kernel_rfl) (fun _ _ _ h => h) (Or.inr ⟨by rfl, rfl⟩) (by assumption) ?_
                  (try simp only [Act.put, List.setIfInBounds_toArray, List.set_cons_zero, List.set_cons_succ])
                  refine wpAnyH_take (i := 8) (oi := { dst := some 120, op := _, type := _, pos := _, after := _, guard := some (1, false) }) (v := undef) rfl (by kernel_rfl) (by kernel_rfl) (by kernel_rfl) (fun _ _ _ h => h) (Or.inr ⟨by rfl, rfl⟩) (by assumption) ?_
                  (try simp only [Act.put, List.setIfInBounds_toArray, List.set_cons_zero, List.set_cons_succ])
                  refine wpAnyH_take (i := 9) (oi := { dst := some 121, op := _, type := _, pos := _, after := _, guard := some (1, false) }) (v := undef) rfl (by kernel_rfl) (by kernel_rfl) (by kernel_rfl) (fun _ _ _ h => h) (Or.inr ⟨by rfl, rfl⟩) (by assumption) ?_
                  (try simp only [Act.put, List.setIfInBounds_toArray, List.set_cons_zero, List.set_cons_succ])
                  refine wpAnyH_take (i := 10) (oi := { dst := some 122, op := _, type := _, pos := _, after := _, guard := some (1, false) }) (v := undef) rfl (by kernel_rfl) (by kernel_rfl) (by kernel_rfl) (fun _ _ _ h => h) (Or.inr ⟨by rfl, rfl⟩) (by assumption) ?_
                  (try simp only [Act.put, List.setIfInBounds_toArray, List.set_cons_zero, List.set_cons_succ])
                  refine wpAnyH_take (i := 11) (oi := { dst := some 123, op := _, type := _, pos := _, after := _, guard := some (10, true) }) (v := undef) rfl (by kernel_rfl) (by kernel_rfl) (by kernel_rfl) (fun _ _ _ h => h) (Or.inr ⟨by rfl, rfl⟩) (by assumption) ?_
                  (try simp only [Act.put, List.setIfInBounds_toArray, List.set_cons_zero, List.set_cons_succ])
                  refine wpAnyH_take (i := 12) (oi := { dst := some 124, op := _, type := _, pos := _, after := _, guard := some (10, true) }) (v := undef) rfl (by kernel_rfl) (by kernel_rfl) (by kernel_rfl) (fun _ _ _ h => h) (Or.inr ⟨by rfl, rfl⟩) (by assumption) ?_
                  (try simp only [Act.put, List.setIfInBounds_toArray, List.set_cons_zero, List.set_cons_succ])
                  refine wpAnyH_take (i := 13) (oi := { dst := some 125, op := _, type := _, pos := _, after := _, guard := some (10, true) }) (v := undef) rfl (by kernel_rfl) (by kernel_rfl) (by kernel_rfl) (fun _ _ _ h => h) (Or.inr ⟨by rfl, rfl⟩) (by assumption) ?_
                  (try simp only [Act.put, List.setIfInBounds_toArray, List.set_cons_zero, List.set_cons_succ])
                  refine wpAnyH_take (i := 14) (oi := { dst := some 126, op := _, type := _, pos := _, after := _, guard := some (10, true) }) (v := undef) rfl (by kernel_rfl) (by kernel_rfl) (by kernel_rfl) (fun _ _ _ h => h) (Or.inr ⟨by rfl, rfl⟩) (by assumption) ?_
                  (try simp only [Act.put, List.setIfInBounds_toArray, List.set_cons_zero, List.set_cons_succ])
                  refine wpAnyH_take (i := 15) (oi := { dst := some 127, op := _, type := _, pos := _, after := _, guard := some (10, true) }) (v := undef) rfl (by kernel_rfl) (by kernel_rfl) (by kernel_rfl) (fun _ _ _ h => h) (Or.inr ⟨by rfl, rfl⟩) (by assumption) ?_
                  (try simp only [Act.put, List.setIfInBounds_toArray, List.set_cons_zero, List.set_cons_succ])
                  refine wpAnyH_take (i := 16) (oi := { dst := some 128, op := _, type := _, pos := _, after := _, guard := some (1, false) }) (v := undef) rfl (by kernel_rfl) (by kernel_rfl) (by kernel_rfl) (fun _ _ _ h => h) (Or.inr ⟨by rfl, rfl⟩) (by assumption) ?_
                  (try simp only [Act.put, List.setIfInBounds_toArray, List.set_cons_zero, List.set_cons_succ])
                  refine wpAnyH_take (i := 17) (oi := { dst := some 129, op := _, type := _, pos := _, after := _, guard := none }) (v := ?vr1_17) rfl (by kernel_rfl) (by kernel_rfl) (by kernel_rfl) (fun _ _ _ h => h) (Or.inl ⟨by rfl, ?hyr1_17⟩) (by assumption) ?restr1_17
                  case hyr1_17 => (intro w hSw; (try dsimp only at hSw); go_simp <;> with_reducible rfl)
                  (try simp only [Act.put, List.setIfInBounds_toArray, List.set_cons_zero, List.set_cons_succ])
                  refine wpAnyH_take (i := 18) (oi := { dst := some 130, op := _, type := _, pos := _, after := _, guard := none }) (v := ?vr1_18) rfl (by kernel_rfl) (by kernel_rfl) (by kernel_rfl) (fun _ _ _ h => h) (Or.inl ⟨by rfl, ?hyr1_18⟩) (by assumption) ?restr1_18
                  case hyr1_18 => (intro w hSw; (try dsimp only at hSw); go_simp <;> with_reducible rfl)
                  (try simp only [Act.put, List.setIfInBounds_toArray, List.set_cons_zero, List.set_cons_succ])
                  refine wpAnyH_take (i := 19) (oi := { dst := some 131, op := _, type := _, pos := _, after := _, guard := some (18, false) }) (v := undef) rfl (by kernel_rfl) (by kernel_rfl) (by kernel_rfl) (fun _ _ _ h => h) (Or.inr ⟨by rfl, rfl⟩) (by assumption) ?_
                  (try simp only [Act.put, List.setIfInBounds_toArray, List.set_cons_zero, List.set_cons_succ])
                  refine wpAnyH_take (i := 20) (oi := { dst := some 132, op := _, type := _, pos := _, after := _, guard := some (18, false) }) (v := undef) rfl (by kernel_rfl) (by kernel_rfl) (by kernel_rfl) (fun _ _ _ h => h) (Or.inr ⟨by rfl, rfl⟩) (by assumption) ?_
                  (try simp only [Act.put, List.setIfInBounds_toArray, List.set_cons_zero, List.set_cons_succ])
                  refine wpAnyH_take (i := 21) (oi := { dst := some 133, op := _, type := _, pos := _, after := _, guard := some (18, false) }) (v := undef) rfl (by kernel_rfl) (by kernel_rfl) (by kernel_rfl) (fun _ _ _ h => h) (Or.inr ⟨by rfl, rfl⟩) (by assumption) ?_
                  (try simp only [Act.put, List.setIfInBounds_toArray, List.set_cons_zero, List.set_cons_succ])
                  refine wpAnyH_take (i := 22) (oi := { dst := some 134, op := _, type := _, pos := _, after := _, guard := some (18, false) }) (v := undef) rfl (by kernel_rfl) (by kernel_rfl) (by kernel_rfl) (fun _ _ _ h => h) (Or.inr ⟨by rfl, rfl⟩) (by assumption) ?_
                  (try simp only [Act.put, List.setIfInBounds_toArray, List.set_cons_zero, List.set_cons_succ])
                  refine wpAnyH_take (i := 23) (oi := { dst := some 135, op := _, type := _, pos := _, after := _, guard := some (18, false) }) (v := undef) rfl (by kernel_rfl) (by kernel_rfl) (by kernel_rfl) (fun _ _ _ h => h) (Or.inr ⟨by rfl, rfl⟩) (by assumption) ?_
                  (try simp only [Act.put, List.setIfInBounds_toArray, List.set_cons_zero, List.set_cons_succ])
                  refine wpAnyH_take (i := 24) (oi := { dst := some 136, op := _, type := _, pos := _, after := _, guard := some (18, false) }) (v := undef) rfl (by kernel_rfl) (by kernel_rfl) (by kernel_rfl) (fun _ _ _ h => h) (Or.inr ⟨by rfl, rfl⟩) (by assumption) ?_
                  (try simp only [Act.put, List.setIfInBounds_toArray, List.set_cons_zero, List.set_cons_succ])
                  refine wpAnyH_take (i := 25) (oi := { dst := some 137, op := _, type := _, pos := _, after := _, guard := some (18, false) }) (v := undef) rfl (by kernel_rfl) (by kernel_rfl) (by kernel_rfl) (fun _ _ _ h => h) (Or.inr ⟨by rfl, rfl⟩) (by assumption) ?_
                  (try simp only [Act.put, List.setIfInBounds_toArray, List.set_cons_zero, List.set_cons_succ])
                  refine wpAnyH_take (i := 26) (oi := { dst := some 138, op := _, type := _, pos := _, after := _, guard := some (18, false) }) (v := undef) rfl (by kernel_rfl) (by kernel_rfl) (by kernel_rfl) (fun _ _ _ h => h) (Or.inr ⟨by rfl, rfl⟩) (by assumption) ?_
                  (try simp only [Act.put, List.setIfInBounds_toArray, List.set_cons_zero, List.set_cons_succ])
                  refine wpAnyH_take (i := 27) (oi := { dst := some 139, op := _, type := _, pos := _, after := _, guard := some (26, true) }) (v := undef) rfl (by kernel_rfl) (by kernel_rfl) (by kernel_rfl) (fun _ _ _ h => h) (Or.inr ⟨by rfl, rfl⟩) (by assumption) ?_
                  (try simp only [Act.put, List.setIfInBounds_toArray, List.set_cons_zero, List.set_cons_succ])
                  refine wpAnyH_take (i := 28) (oi := { dst := some 140, op := _, type := _, pos := _, after := _, guard := some (26, true) }) (v := undef) rfl (by kernel_rfl) (by kernel_rfl) (by kernel_rfl) (fun _ _ _ h => h) (Or.inr ⟨by rfl, rfl⟩) (by assumption) ?_
                  (try simp only [Act.put, List.setIfInBounds_toArray, List.set_cons_zero, List.set_cons_succ])
                  refine wpAnyH_take (i := 29) (oi := { dst := some 141, op := _, type := _, pos := _, after := _, guard := some (26, true) }) (v := undef) rfl (by kernel_rfl) (by kernel_rfl) (by kernel_rfl) (fun _ _ _ h => h) (Or.inr ⟨by rfl, rfl⟩) (by assumption) ?_
                  (try simp only [Act.put, List.setIfInBounds_toArray, List.set_cons_zero, List.set_cons_succ])
                  refine wpAnyH_take (i := 30) (oi := { dst := some 142, op := _, type := _, pos := _, after := _, guard := some (26, true) }) (v := undef) rfl (by kernel_rfl) (by kernel_rfl) (by kernel_rfl) (fun _ _ _ h => h) (Or.inr ⟨by rfl, rfl⟩) (by assumption) ?_
                  (try simp only [Act.put, List.setIfInBounds_toArray, List.set_cons_zero, List.set_cons_succ])
                  refine wpAnyH_take (i := 31) (oi := { dst := some 143, op := _, type := _, pos := _, after := _, guard := some (18, false) }) (v := undef) rfl (by kernel_rfl) (by kernel_rfl) (by kernel_rfl) (fun _ _ _ h => h) (Or.inr ⟨by rfl, rfl⟩) (by assumption) ?_
                  (try simp only [Act.put, List.setIfInBounds_toArray, List.set_cons_zero, List.set_cons_succ])
                  refine wpAnyH_take (i := 32) (oi := { dst := some 144, op := _, type := _, pos := _, after := _, guard := none }) (v := ?vr1_32) rfl (by kernel_rfl) (by kernel_rfl) (by kernel_rfl) (fun _ _ _ h => h) (Or.inl ⟨by rfl, ?hyr1_32⟩) (by assumption) ?restr1_32
                  case hyr1_32 => (intro w hSw; (try dsimp only at hSw); go_simp <;> with_reducible rfl)
                  (try simp only [Act.put, List.setIfInBounds_toArray, List.set_cons_zero, List.set_cons_succ])
                  refine wpAnyH_take (i := 33) (oi := { dst := some 9, op := _, type := _, pos := _, after := _, guard := none }) (v := ?vr1_33) rfl (by kernel_rfl) (by kernel_rfl) (by kernel_rfl) (fun _ _ _ h => h) (Or.inl ⟨by rfl, ?hyr1_33⟩) (by assumption) ?restr1_33
                  case hyr1_33 => (intro w hSw; (try dsimp only at hSw); go_simp <;> with_reducible rfl)
                  (try simp only [Act.put, List.setIfInBounds_toArray, List.set_cons_zero, List.set_cons_succ])
                  refine wpAnyH_done (by kernel_rfl) ?_ _
                  have hEb := Lib.hid (b_drew WZ)
                  clear hS hA1 hF1 hN1
                  go_wp2
                  exact ⟨⟨d + 1, true, by omega, by go_num, rfl, Lib.hid (hnx2.out _ (fun h => by cases h)), Lib.hid (hBz.out _ hEb.out)⟩, by simp [intOf]; omega⟩
                | false =>
                  cases e1 with
                  | false =>
                    cases e2 with
                    | false =>
                      have hE2 := Lib.hid (hfr2.out (fun h => by cases h) (fun h => by cases h))
                      clear hfr2
                      refine wp_region_held_drew (S := (fun w' => w'.cell? ⟨w6.heap.size, 4, none⟩ = some (.slice (some ⟨bk, ok, none⟩) 16 ck) ∧ w'.cell? ⟨bk, ok + d, none⟩ = some (.string kd) ∧ w'.cell? ⟨wz.heap.size, 2, none⟩ = some (.string RX))) (by kernel_rfl) (hS.out _ (b_drew WZ)) (fun hHeld => ?_)
                      refine wpAnyH_take (i := 0) (oi := { dst := some 112, op := _, type := _, pos := _, after := _, guard := none }) (v := ?vr2_0) rfl (by kernel_rfl) (by kernel_rfl) (by kernel_rfl) (fun _ _ _ h => h) (Or.inl ⟨by rfl, ?hyr2_0⟩) (by assumption) ?restr2_0
                      case hyr2_0 => (intro w hSw; (try dsimp only at hSw); go_simp <;> with_reducible rfl)
                      (try simp only [Act.put, List.setIfInBounds_toArray, List.set_cons_zero, List.set_cons_succ])
                      refine wpAnyH_take (i := 1) (oi := { dst := some 113, op := _, type := _, pos := _, after := _, guard := none }) (v := ?vr2_1) rfl (by kernel_rfl) (by kernel_rfl) (by kernel_rfl) (fun _ _ _ h => h) (Or.inl ⟨by rfl, ?hyr2_1⟩) (by assumption) ?restr2_1
                      case hyr2_1 => (intro w hSw; (try dsimp only at hSw); go_simp <;> with_reducible rfl)
                      (try simp only [Act.put, List.setIfInBounds_toArray, List.set_cons_zero, List.set_cons_succ])
                      refine wpAnyH_take (i := 2) (oi := { dst := some 114, op := _, type := _, pos := _, after := _, guard := some (1, false) }) (v := ?vr2_2) rfl (by kernel_rfl) (by kernel_rfl) (by kernel_rfl) (fun _ _ _ h => h) (Or.inl ⟨by rfl, ?hyr2_2⟩) (by assumption) ?restr2_2
                      case hyr2_2 => (intro w hSw; (try dsimp only at hSw); go_simp <;> with_reducible rfl)
                      (try simp only [Act.put, List.setIfInBounds_toArray, List.set_cons_zero, List.set_cons_succ])
                      refine wpAnyH_take (i := 3) (oi := { dst := some 115, op := _, type := _, pos := _, after := _, guard := some (1, false) }) (v := ?vr2_3) rfl (by kernel_rfl) (by kernel_rfl) (by kernel_rfl) (fun _ _ _ h => h) (Or.inl ⟨by rfl, ?hyr2_3⟩) (by assumption) ?restr2_3
                      case hyr2_3 => (intro w hSw; (try dsimp only at hSw); go_simp <;> with_reducible rfl)
                      (try simp only [Act.put, List.setIfInBounds_toArray, List.set_cons_zero, List.set_cons_succ])
                      refine wpAnyH_take (i := 4) (oi := { dst := some 116, op := _, type := _, pos := _, after := _, guard := some (1, false) }) (v := ?vr2_4) rfl (by kernel_rfl) (by kernel_rfl) (by kernel_rfl) (fun _ _ _ h => h) (Or.inl ⟨by rfl, ?hyr2_4⟩) (by assumption) ?restr2_4
                      case hyr2_4 => (intro w hSw; (try dsimp only at hSw); go_simp <;> with_reducible rfl)
                      (try simp only [Act.put, List.setIfInBounds_toArray, List.set_cons_zero, List.set_cons_succ])
                      refine wpAnyH_take (i := 5) (oi := { dst := some 117, op := _, type := _, pos := _, after := _, guard := some (1, false) }) (v := ?vr2_5) rfl (by kernel_rfl) (by kernel_rfl) (by kernel_rfl) (fun _ _ _ h => h) (Or.inl ⟨by rfl, ?hyr2_5⟩) (by assumption) ?restr2_5
                      case hyr2_5 => (intro w hSw; (try dsimp only at hSw); go_simp <;> with_reducible rfl)
                      (try simp only [Act.put, List.setIfInBounds_toArray, List.set_cons_zero, List.set_cons_succ])
                      refine wpAnyH_take (i := 6) (oi := { dst := some 118, op := _, type := _, pos := _, after := _, guard := some (1, false) }) (v := ?vr2_6) rfl (by kernel_rfl) (by kernel_rfl) (by kernel_rfl) (fun _ _ _ h => h) (Or.inl ⟨by rfl, ?hyr2_6⟩) (by assumption) ?restr2_6
                      case hyr2_6 => (intro w hSw; (try dsimp only at hSw); go_simp <;> with_reducible rfl)
                      (try simp only [Act.put, List.setIfInBounds_toArray, List.set_cons_zero, List.set_cons_succ])
                      refine wpAnyH_take (i := 7) (oi := { dst := some 119, op := _, type := _, pos := _, after := _, guard := some (1, false) }) (v := ?vr2_7) rfl (by kernel_rfl) (by kernel_rfl) (by kernel_rfl) (fun _ _ _ h => h) (Or.inl ⟨by rfl, ?hyr2_7⟩) (by assumption) ?restr2_7
                      case hyr2_7 => (intro w hSw; (try dsimp only at hSw); go_simp <;> with_reducible rfl)
                      (try simp only [Act.put, List.setIfInBounds_toArray, List.set_cons_zero, List.set_cons_succ])
                      refine wpAnyH_take (i := 8) (oi := { dst := some 120, op := _, type := _, pos := _, after := _, guard := some (1, false) }) (v := ?vr2_8) rfl (by kernel_rfl) (by kernel_rfl) (by kernel_rfl) (fun _ _ _ h => h) (Or.inl ⟨by rfl, ?hyr2_8⟩) (by assumption) ?restr2_8
                      case hyr2_8 => (intro w hSw; (try dsimp only at hSw); go_simp <;> with_reducible rfl)
                      (try simp only [Act.put, List.setIfInBounds_toArray, List.set_cons_zero, List.set_cons_succ])
                      refine wpAnyH_take (i := 9) (oi := { dst := some 121, op := _, type := _, pos := _, after := _, guard := some (1, false) }) (v := ?vr2_9) rfl (by kernel_rfl) (by kernel_rfl) (by kernel_rfl) (fun _ _ _ h => h) (Or.inl ⟨by rfl, ?hyr2_9⟩) (by assumption) ?restr2_9
                      case hyr2_9 => (intro w hSw; (try dsimp only at hSw); go_simp <;> with_reducible rfl)
                      (try simp only [Act.put, List.setIfInBounds_toArray, List.set_cons_zero, List.set_cons_succ])
                      refine wpAnyH_take (i := 10) (oi := { dst := some 122, op := _, type := _, pos := _, after := _, guard := some (1, false) }) (v := ?vr2_10) rfl (by kernel_rfl) (by kernel_rfl) (by kernel_rfl) (fun _ _ _ h => h) (Or.inl ⟨by rfl, ?hyr2_10⟩) (by assumption) ?restr2_10
                      case hyr2_10 => (intro w hSw; (try dsimp only at hSw); go_simp <;> with_reducible rfl)
                      (try simp only [Act.put, List.setIfInBounds_toArray, List.set_cons_zero, List.set_cons_succ])
                      refine wpAnyH_take (i := 11) (oi := { dst := some 123, op := _, type := _, pos := _, after := _, guard := some (10, true) }) (v := undef) rfl (by kernel_rfl) (by kernel_rfl) (by kernel_rfl) (fun _ _ _ h => h) (Or.inr ⟨by rfl, rfl⟩) (by assumption) ?_
                      (try simp only [Act.put, List.setIfInBounds_toArray, List.set_cons_zero, List.set_cons_succ])
                      refine wpAnyH_take (i := 12) (oi := { dst := some 124, op := _, type := _, pos := _, after := _, guard := some (10, true) }) (v := undef) rfl (by kernel_rfl) (by kernel_rfl) (by kernel_rfl) (fun _ _ _ h => h) (Or.inr ⟨by rfl, rfl⟩) (by assumption) ?_
                      (try simp only [Act.put, List.setIfInBounds_toArray, List.set_cons_zero, List.set_cons_succ])
                      refine wpAnyH_take (i := 13) (oi := { dst := some 125, op := _, type := _, pos := _, after := _, guard := some (10, true) }) (v := undef) rfl (by kernel_rfl) (by kernel_rfl) (by kernel_rfl) (fun _ _ _ h => h) (Or.inr ⟨by rfl, rfl⟩) (by assumption) ?_
                      (try simp only [Act.put, List.setIfInBounds_toArray, List.set_cons_zero, List.set_cons_succ])
                      refine wpAnyH_take (i := 14) (oi := { dst := some 126, op := _, type := _, pos := _, after := _, guard := some (10, true) }) (v := undef) rfl (by kernel_rfl) (by kernel_rfl) (by kernel_rfl) (fun _ _ _ h => h) (Or.inr ⟨by rfl, rfl⟩) (by assumption) ?_
                      (try simp only [Act.put, List.setIfInBounds_toArray, List.set_cons_zero, List.set_cons_succ])
                      refine wpAnyH_take (i := 15) (oi := { dst := some 127, op := _, type := _, pos := _, after := _, guard := some (10, true) }) (v := undef) rfl (by kernel_rfl) (by kernel_rfl) (by kernel_rfl) (fun _ _ _ h => h) (Or.inr ⟨by rfl, rfl⟩) (by assumption) ?_
                      (try simp only [Act.put, List.setIfInBounds_toArray, List.set_cons_zero, List.set_cons_succ])
                      refine wpAnyH_take (i := 16) (oi := { dst := some 128, op := _, type := _, pos := _, after := _, guard := some (1, false) }) (v := ?vr2_16) rfl (by kernel_rfl) (by kernel_rfl) (by kernel_rfl) (fun _ _ _ h => h) (Or.inl ⟨by rfl, ?hyr2_16⟩) (by assumption) ?restr2_16
                      case hyr2_16 => (intro w hSw; (try dsimp only at hSw); go_simp <;> with_reducible rfl)
                      (try simp only [Act.put, List.setIfInBounds_toArray, List.set_cons_zero, List.set_cons_succ])
                      refine wpAnyH_take (i := 17) (oi := { dst := some 129, op := _, type := _, pos := _, after := _, guard := none }) (v := ?vr2_17) rfl (by kernel_rfl) (by kernel_rfl) (by kernel_rfl) (fun _ _ _ h => h) (Or.inl ⟨by rfl, ?hyr2_17⟩) (by assumption) ?restr2_17
                      case hyr2_17 => (intro w hSw; (try dsimp only at hSw); go_simp <;> with_reducible rfl)
                      (try simp only [Act.put, List.setIfInBounds_toArray, List.set_cons_zero, List.set_cons_succ])
                      refine wpAnyH_take (i := 18) (oi := { dst := some 130, op := _, type := _, pos := _, after := _, guard := none }) (v := ?vr2_18) rfl (by kernel_rfl) (by kernel_rfl) (by kernel_rfl) (fun _ _ _ h => h) (Or.inl ⟨by rfl, ?hyr2_18⟩) (by assumption) ?restr2_18
                      case hyr2_18 => (intro w hSw; (try dsimp only at hSw); go_simp <;> with_reducible rfl)
                      (try simp only [Act.put, List.setIfInBounds_toArray, List.set_cons_zero, List.set_cons_succ])
                      refine wpAnyH_take (i := 19) (oi := { dst := some 131, op := _, type := _, pos := _, after := _, guard := some (18, false) }) (v := ?vr2_19) rfl (by kernel_rfl) (by kernel_rfl) (by kernel_rfl) (fun _ _ _ h => h) (Or.inl ⟨by rfl, ?hyr2_19⟩) (by assumption) ?restr2_19
                      case hyr2_19 => (intro w hSw; (try dsimp only at hSw); go_simp <;> with_reducible rfl)
                      (try simp only [Act.put, List.setIfInBounds_toArray, List.set_cons_zero, List.set_cons_succ])
                      refine wpAnyH_take (i := 20) (oi := { dst := some 132, op := _, type := _, pos := _, after := _, guard := some (18, false) }) (v := ?vr2_20) rfl (by kernel_rfl) (by kernel_rfl) (by kernel_rfl) (fun _ _ _ h => h) (Or.inl ⟨by rfl, ?hyr2_20⟩) (by assumption) ?restr2_20
                      case hyr2_20 => (intro w hSw; (try dsimp only at hSw); go_simp <;> with_reducible rfl)
                      (try simp only [Act.put, List.setIfInBounds_toArray, List.set_cons_zero, List.set_cons_succ])
                      refine wpAnyH_take (i := 21) (oi := { dst := some 133, op := _, type := _, pos := _, after := _, guard := some (18, false) }) (v := ?vr2_21) rfl (by kernel_rfl) (by kernel_rfl) (by kernel_rfl) (fun _ _ _ h => h) (Or.inl ⟨by rfl, ?hyr2_21⟩) (by assumption) ?restr2_21
                      case hyr2_21 => (intro w hSw; (try dsimp only at hSw); go_simp <;> with_reducible rfl)
                      (try simp only [Act.put, List.setIfInBounds_toArray, List.set_cons_zero, List.set_cons_succ])
                      refine wpAnyH_take (i := 22) (oi := { dst := some 134, op := _, type := _, pos := _, after := _, guard := some (18, false) }) (v := ?vr2_22) rfl (by kernel_rfl) (by kernel_rfl) (by kernel_rfl) (fun _ _ _ h => h) (Or.inl ⟨by rfl, ?hyr2_22⟩) (by assumption) ?restr2_22
                      case hyr2_22 => (intro w hSw; (try dsimp only at hSw); go_simp <;> with_reducible rfl)
                      (try simp only [Act.put, List.setIfInBounds_toArray, List.set_cons_zero, List.set_cons_succ])
                      refine wpAnyH_take (i := 23) (oi := { dst := some 135, op := _, type := _, pos := _, after := _, guard := some (18, false) }) (v := ?vr2_23) rfl (by kernel_rfl) (by kernel_rfl) (by kernel_rfl) (fun _ _ _ h => h) (Or.inl ⟨by rfl, ?hyr2_23⟩) (by assumption) ?restr2_23
                      case hyr2_23 => (intro w hSw; (try dsimp only at hSw); go_simp <;> with_reducible rfl)
                      (try simp only [Act.put, List.setIfInBounds_toArray, List.set_cons_zero, List.set_cons_succ])
                      refine wpAnyH_ready (rs := [24]) (by kernel_rfl) (by simp) ?_
                      refine AllReadyH.cons (o := { dst := some 136, op := _, type := _, pos := _, after := _, guard := some (18, false) }) rfl (fun K hK => ?_) AllReadyH.nil
                      go_simp
                      (refine (hF1.out _ (b_drew WZ)).mono ?_; rintro e wq0 ⟨rfl, bb0⟩; have bq0 := b_then (b_drew WZ) bb0)
                      (try go_wp2_with fail)
                      refine hK.out _ _ ((hS.out _ bq0)) (fun hHeld => ?_)
                      clear hK K
                      (try simp only [Act.put, List.setIfInBounds_toArray, List.set_cons_zero, List.set_cons_succ])
                      refine wpAnyH_take (i := 25) (oi := { dst := some 137, op := _, type := _, pos := _, after := _, guard := some (18, false) }) (v := ?vr2_24) rfl (by kernel_rfl) (by kernel_rfl) (by kernel_rfl) (fun _ _ _ h => h) (Or.inl ⟨by rfl, ?hyr2_24⟩) (by assumption) ?restr2_24
                      case hyr2_24 => (intro w hSw; (try dsimp only at hSw); go_simp <;> with_reducible rfl)
                      (try simp only [Act.put, List.setIfInBounds_toArray, List.set_cons_zero, List.set_cons_succ])
                      refine wpAnyH_take (i := 26) (oi := { dst := some 138, op := _, type := _, pos := _, after := _, guard := some (18, false) }) (v := ?vr2_25) rfl (by kernel_rfl) (by kernel_rfl) (by kernel_rfl) (fun _ _ _ h => h) (Or.inl ⟨by rfl, ?hyr2_25⟩) (by assumption) ?restr2_25
                      case hyr2_25 => (intro w hSw; (try dsimp only at hSw); go_simp <;> with_reducible rfl)
                      (try simp only [Act.put, List.setIfInBounds_toArray, List.set_cons_zero, List.set_cons_succ])
                      refine wpAnyH_take (i := 27) (oi := { dst := some 139, op := _, type := _, pos := _, after := _, guard := some (26, true) }) (v := undef) rfl (by kernel_rfl) (by kernel_rfl) (by kernel_rfl) (fun _ _ _ h => h) (Or.inr ⟨by rfl, rfl⟩) (by assumption) ?_
                      (try simp only [Act.put, List.setIfInBounds_toArray, List.set_cons_zero, List.set_cons_succ])
                      refine wpAnyH_take (i := 28) (oi := { dst := some 140, op := _, type := _, pos := _, after := _, guard := some (26, true) }) (v := undef) rfl (by kernel_rfl) (by kernel_rfl) (by kernel_rfl) (fun _ _ _ h => h) (Or.inr ⟨by rfl, rfl⟩) (by assumption) ?_
                      (try simp only [Act.put, List.setIfInBounds_toArray, List.set_cons_zero, List.set_cons_succ])
                      refine wpAnyH_take (i := 29) (oi := { dst := some 141, op := _, type := _, pos := _, after := _, guard := some (26, true) }) (v := undef) rfl (by kernel_rfl) (by kernel_rfl) (by kernel_rfl) (fun _ _ _ h => h) (Or.inr ⟨by rfl, rfl⟩) (by assumption) ?_
                      (try simp only [Act.put, List.setIfInBounds_toArray, List.set_cons_zero, List.set_cons_succ])
                      refine wpAnyH_take (i := 30) (oi := { dst := some 142, op := _, type := _, pos := _, after := _, guard := some (26, true) }) (v := undef) rfl (by kernel_rfl) (by kernel_rfl) (by kernel_rfl) (fun _ _ _ h => h) (Or.inr ⟨by rfl, rfl⟩) (by assumption) ?_
                      (try simp only [Act.put, List.setIfInBounds_toArray, List.set_cons_zero, List.set_cons_succ])
                      refine wpAnyH_take (i := 31) (oi := { dst := some 143, op := _, type := _, pos := _, after := _, guard := some (18, false) }) (v := ?vr2_30) rfl (by kernel_rfl) (by kernel_rfl) (by kernel_rfl) (fun _ _ _ h => h) (Or.inl ⟨by rfl, ?hyr2_30⟩) (by assumption) ?restr2_30
                      case hyr2_30 => (intro w hSw; (try dsimp only at hSw); go_simp <;> with_reducible rfl)
                      (try simp only [Act.put, List.setIfInBounds_toArray, List.set_cons_zero, List.set_cons_succ])
                      refine wpAnyH_take (i := 32) (oi := { dst := some 144, op := _, type := _, pos := _, after := _, guard := none }) (v := ?vr2_31) rfl (by kernel_rfl) (by kernel_rfl) (by kernel_rfl) (fun _ _ _ h => h) (Or.inl ⟨by rfl, ?hyr2_31⟩) (by assumption) ?restr2_31
                      case hyr2_31 => (intro w hSw; (try dsimp only at hSw); go_simp <;> with_reducible rfl)
                      (try simp only [Act.put, List.setIfInBounds_toArray, List.set_cons_zero, List.set_cons_succ])
                      refine wpAnyH_take (i := 33) (oi := { dst := some 9, op := _, type := _, pos := _, after := _, guard := none }) (v := ?vr2_32) rfl (by kernel_rfl) (by kernel_rfl) (by kernel_rfl) (fun _ _ _ h => h) (Or.inl ⟨by rfl, ?hyr2_32⟩) (by assumption) ?restr2_32
                      case hyr2_32 => (intro w hSw; (try dsimp only at hSw); go_simp <;> with_reducible rfl)
                      (try simp only [Act.put, List.setIfInBounds_toArray, List.set_cons_zero, List.set_cons_succ])
                      refine wpAnyH_done (by kernel_rfl) ?_ _
                      have hEb := Lib.hid bq0
                      clear hS hA1 hF1 hN1 bq0 bb0
                      go_wp2
                      exact ⟨⟨d + 1, false, by omega, by go_num, rfl, Lib.hid (hnx2.out _ (fun _ => ⟨by first | trivial | rfl, hE2.out⟩)), Lib.hid (hBz.out _ hEb.out)⟩, by simp [intOf]; omega⟩
                    | true =>
                      have hE2 := Lib.hid fun (h : s2 = true) => hfr2.out (fun h => by cases h) (fun _ => h)
                      clear hfr2
                      refine wp_region_held_drew (S := (fun w' => w'.cell? ⟨w6.heap.size, 4, none⟩ = some (.slice (some ⟨bk, ok, none⟩) 16 ck) ∧ w'.cell? ⟨bk, ok + d, none⟩ = some (.string kd) ∧ w'.cell? ⟨wz.heap.size, 2, none⟩ = some (.string RX))) (by kernel_rfl) (hS.out _ (b_drew WZ)) (fun hHeld => ?_)
                      refine wpAnyH_take (i := 0) (oi := { dst := some 112, op := _, type := _, pos := _, after := _, guard := none }) (v := ?vr3_0) rfl (by kernel_rfl) (by kernel_rfl) (by kernel_rfl) (fun _ _ _ h => h) (Or.inl ⟨by rfl, ?hyr3_0⟩) (by assumption) ?restr3_0
                      case hyr3_0 => (intro w hSw; (try dsimp only at hSw); go_simp <;> with_reducible rfl)
                      (try simp only [Act.put, List.setIfInBounds_toArray, List.set_cons_zero, List.set_cons_succ])
                      refine wpAnyH_take (i := 1) (oi := { dst := some 113, op := _, type := _, pos := _, after := _, guard := none }) (v := ?vr3_1) rfl (by kernel_rfl) (by kernel_rfl) (by kernel_rfl) (fun _ _ _ h => h) (Or.inl ⟨by rfl, ?hyr3_1⟩) (by assumption) ?restr3_1
                      case hyr3_1 => (intro w hSw; (try dsimp only at hSw); go_simp <;> with_reducible rfl)
                      (try simp only [Act.put, List.setIfInBounds_toArray, List.set_cons_zero, List.set_cons_succ])
                      refine wpAnyH_take (i := 2) (oi := { dst := some 114, op := _, type := _, pos := _, after := _, guard := some (1, false) }) (v := ?vr3_2) rfl (by kernel_rfl) (by kernel_rfl) (by kernel_rfl) (fun _ _ _ h => h) (Or.inl ⟨by rfl, ?hyr3_2⟩) (by assumption) ?restr3_2
                      case hyr3_2 => (intro w hSw; (try dsimp only at hSw); go_simp <;> with_reducible rfl)
                      (try simp only [Act.put, List.setIfInBounds_toArray, List.set_cons_zero, List.set_cons_succ])
                      refine wpAnyH_take (i := 3) (oi := { dst := some 115, op := _, type := _, pos := _, after := _, guard := some (1, false) }) (v := ?vr3_3) rfl (by kernel_rfl) (by kernel_rfl) (by kernel_rfl) (fun _ _ _ h => h) (Or.inl ⟨by rfl, ?hyr3_3⟩) (by assumption) ?restr3_3
                      case hyr3_3 => (intro w hSw; (try dsimp only at hSw); go_simp <;> with_reducible rfl)
                      (try simp only [Act.put, List.setIfInBounds_toArray, List.set_cons_zero, List.set_cons_succ])
                      refine wpAnyH_take (i := 4) (oi := { dst := some 116, op := _, type := _, pos := _, after := _, guard := some (1, false) }) (v := ?vr3_4) rfl (by kernel_rfl) (by kernel_rfl) (by kernel_rfl) (fun _ _ _ h => h) (Or.inl ⟨by rfl, ?hyr3_4⟩) (by assumption) ?restr3_4
                      case hyr3_4 => (intro w hSw; (try dsimp only at hSw); go_simp <;> with_reducible rfl)
                      (try simp only [Act.put, List.setIfInBounds_toArray, List.set_cons_zero, List.set_cons_succ])
                      refine wpAnyH_take (i := 5) (oi := { dst := some 117, op := _, type := _, pos := _, after := _, guard := some (1, false) }) (v := ?vr3_5) rfl (by kernel_rfl) (by kernel_rfl) (by kernel_rfl) (fun _ _ _ h => h) (Or.inl ⟨by rfl, ?hyr3_5⟩) (by assumption) ?restr3_5
                      case hyr3_5 => (intro w hSw; (try dsimp only at hSw); go_simp <;> with_reducible rfl)
                      (try simp only [Act.put, List.setIfInBounds_toArray, List.set_cons_zero, List.set_cons_succ])
                      refine wpAnyH_take (i := 6) (oi := { dst := some 118, op := _, type := _, pos := _, after := _, guard := some (1, false) }) (v := ?vr3_6) rfl (by kernel_rfl) (by kernel_rfl) (by kernel_rfl) (fun _ _ _ h => h) (Or.inl ⟨by rfl, ?hyr3_6⟩) (by assumption) ?restr3_6
                      case hyr3_6 => (intro w hSw; (try dsimp only at hSw); go_simp <;> with_reducible rfl)
                      (try simp only [Act.put, List.setIfInBounds_toArray, List.set_cons_zero, List.set_cons_succ])
                      refine wpAnyH_take (i := 7) (oi := { dst := some 119, op := _, type := _, pos := _, after := _, guard := some (1, false) }) (v := ?vr3_7) rfl (by kernel_rfl) (by kernel_rfl) (by kernel_rfl) (fun _ _ _ h => h) (Or.inl ⟨by rfl, ?hyr3_7⟩) (by assumption) ?restr3_7
                      case hyr3_7 => (intro w hSw; (try dsimp only at hSw); go_simp <;> with_reducible rfl)
                      (try simp only [Act.put, List.setIfInBounds_toArray, List.set_cons_zero, List.set_cons_succ])
                      refine wpAnyH_take (i := 8) (oi := { dst := some 120, op := _, type := _, pos := _, after := _, guard := some (1, false) }) (v := ?vr3_8) rfl (by kernel_rfl) (by kernel_rfl) (by kernel_rfl) (fun _ _ _ h => h) (Or.inl ⟨by rfl, ?hyr3_8⟩) (by assumption) ?restr3_8
                      case hyr3_8 => (intro w hSw; (try dsimp only at hSw); go_simp <;> with_reducible rfl)
                      (try simp only [Act.put, List.setIfInBounds_toArray, List.set_cons_zero, List.set_cons_succ])
                      refine wpAnyH_take (i := 9) (oi := { dst := some 121, op := _, type := _, pos := _, after := _, guard := some (1, false) }) (v := ?vr3_9) rfl (by kernel_rfl) (by kernel_rfl) (by kernel_rfl) (fun _ _ _ h => h) (Or.inl ⟨by rfl, ?hyr3_9⟩) (by assumption) ?restr3_9
                      case hyr3_9 => (intro w hSw; (try dsimp only at hSw); go_simp <;> with_reducible rfl)
                      (try simp only [Act.put, List.setIfInBounds_toArray, List.set_cons_zero, List.set_cons_succ])
                      refine wpAnyH_take (i := 10) (oi := { dst := some 122, op := _, type := _, pos := _, after := _, guard := some (1, false) }) (v := ?vr3_10) rfl (by kernel_rfl) (by kernel_rfl) (by kernel_rfl) (fun _ _ _ h => h) (Or.inl ⟨by rfl, ?hyr3_10⟩) (by assumption) ?restr3_10
                      case hyr3_10 => (intro w hSw; (try dsimp only at hSw); go_simp <;> with_reducible rfl)
                      (try simp only [Act.put, List.setIfInBounds_toArray, List.set_cons_zero, List.set_cons_succ])
                      refine wpAnyH_take (i := 11) (oi := { dst := some 123, op := _, type := _, pos := _, after := _, guard := some (10, true) }) (v := undef) rfl (by kernel_rfl) (by kernel_rfl) (by kernel_rfl) (fun _ _ _ h => h) (Or.inr ⟨by rfl, rfl⟩) (by assumption) ?_
                      (try simp only [Act.put, List.setIfInBounds_toArray, List.set_cons_zero, List.set_cons_succ])
                      refine wpAnyH_take (i := 12) (oi := { dst := some 124, op := _, type := _, pos := _, after := _, guard := some (10, true) }) (v := undef) rfl (by kernel_rfl) (by kernel_rfl) (by kernel_rfl) (fun _ _ _ h => h) (Or.inr ⟨by rfl, rfl⟩) (by assumption) ?_
                      (try simp only [Act.put, List.setIfInBounds_toArray, List.set_cons_zero, List.set_cons_succ])
                      refine wpAnyH_take (i := 13) (oi := { dst := some 125, op := _, type := _, pos := _, after := _, guard := some (10, true) }) (v := undef) rfl (by kernel_rfl) (by kernel_rfl) (by kernel_rfl) (fun _ _ _ h => h) (Or.inr ⟨by rfl, rfl⟩) (by assumption) ?_
                      (try simp only [Act.put, List.setIfInBounds_toArray, List.set_cons_zero, List.set_cons_succ])
                      refine wpAnyH_take (i := 14) (oi := { dst := some 126, op := _, type := _, pos := _, after := _, guard := some (10, true) }) (v := undef) rfl (by kernel_rfl) (by kernel_rfl) (by kernel_rfl) (fun _ _ _ h => h) (Or.inr ⟨by rfl, rfl⟩) (by assumption) ?_
                      (try simp only [Act.put, List.setIfInBounds_toArray, List.set_cons_zero, List.set_cons_succ])
                      refine wpAnyH_take (i := 15) (oi := { dst := some 127, op := _, type := _, pos := _, after := _, guard := some (10, true) }) (v := undef) rfl (by kernel_rfl) (by kernel_rfl) (by kernel_rfl) (fun _ _ _ h => h) (Or.inr ⟨by rfl, rfl⟩) (by assumption) ?_
                      (try simp only [Act.put, List.setIfInBounds_toArray, List.set_cons_zero, List.set_cons_succ])
                      refine wpAnyH_take (i := 16) (oi := { dst := some 128, op := _, type := _, pos := _, after := _, guard := some (1, false) }) (v := ?vr3_16) rfl (by kernel_rfl) (by kernel_rfl) (by kernel_rfl) (fun _ _ _ h => h) (Or.inl ⟨by rfl, ?hyr3_16⟩) (by assumption) ?restr3_16
                      case hyr3_16 => (intro w hSw; (try dsimp only at hSw); go_simp <;> with_reducible rfl)
                      (try simp only [Act.put, List.setIfInBounds_toArray, List.set_cons_zero, List.set_cons_succ])
                      refine wpAnyH_take (i := 17) (oi := { dst := some 129, op := _, type := _, pos := _, after := _, guard := none }) (v := ?vr3_17) rfl (by kernel_rfl) (by kernel_rfl) (by kernel_rfl) (fun _ _ _ h => h) (Or.inl ⟨by rfl, ?hyr3_17⟩) (by assumption) ?restr3_17
                      case hyr3_17 => (intro w hSw; (try dsimp only at hSw); go_simp <;> with_reducible rfl)
                      (try simp only [Act.put, List.setIfInBounds_toArray, List.set_cons_zero, List.set_cons_succ])
                      refine wpAnyH_take (i := 18) (oi := { dst := some 130, op := _, type := _, pos := _, after := _, guard := none }) (v := ?vr3_18) rfl (by kernel_rfl) (by kernel_rfl) (by kernel_rfl) (fun _ _ _ h => h) (Or.inl ⟨by rfl, ?hyr3_18⟩) (by assumption) ?restr3_18
                      case hyr3_18 => (intro w hSw; (try dsimp only at hSw); go_simp <;> with_reducible rfl)
                      (try simp only [Act.put, List.setIfInBounds_toArray, List.set_cons_zero, List.set_cons_succ])
                      refine wpAnyH_take (i := 19) (oi := { dst := some 131, op := _, type := _, pos := _, after := _, guard := some (18, false) }) (v := ?vr3_19) rfl (by kernel_rfl) (by kernel_rfl) (by kernel_rfl) (fun _ _ _ h => h) (Or.inl ⟨by rfl, ?hyr3_19⟩) (by assumption) ?restr3_19
                      case hyr3_19 => (intro w hSw; (try dsimp only at hSw); go_simp <;> with_reducible rfl)
                      (try simp only [Act.put, List.setIfInBounds_toArray, List.set_cons_zero, List.set_cons_succ])
                      refine wpAnyH_take (i := 20) (oi := { dst := some 132, op := _, type := _, pos := _, after := _, guard := some (18, false) }) (v := ?vr3_20) rfl (by kernel_rfl) (by kernel_rfl) (by kernel_rfl) (fun _ _ _ h => h) (Or.inl ⟨by rfl, ?hyr3_20⟩) (by assumption) ?restr3_20
                      case hyr3_20 => (intro w hSw; (try dsimp only at hSw); go_simp <;> with_reducible rfl)
                      (try simp only [Act.put, List.setIfInBounds_toArray, List.set_cons_zero, List.set_cons_succ])
                      refine wpAnyH_take (i := 21) (oi := { dst := some 133, op := _, type := _, pos := _, after := _, guard := some (18, false) }) (v := ?vr3_21) rfl (by kernel_rfl) (by kernel_rfl) (by kernel_rfl) (fun _ _ _ h => h) (Or.inl ⟨by rfl, ?hyr3_21⟩) (by assumption) ?restr3_21
                      case hyr3_21 => (intro w hSw; (try dsimp only at hSw); go_simp <;> with_reducible rfl)
                      (try simp only [Act.put, List.setIfInBounds_toArray, List.set_cons_zero, List.set_cons_succ])
                      refine wpAnyH_take (i := 22) (oi := { dst := some 134, op := _, type := _, pos := _, after := _, guard := some (18, false) }) (v := ?vr3_22) rfl (by kernel_rfl) (by kernel_rfl) (by kernel_rfl) (fun _ _ _ h => h) (Or.inl ⟨by rfl, ?hyr3_22⟩) (by assumption) ?restr3_22
                      case hyr3_22 => (intro w hSw; (try dsimp only at hSw); go_simp <;> with_reducible rfl)
                      (try simp only [Act.put, List.setIfInBounds_toArray, List.set_cons_zero, List.set_cons_succ])
                      refine wpAnyH_take (i := 23) (oi := { dst := some 135, op := _, type := _, pos := _, after := _, guard := some (18, false) }) (v := ?vr3_23) rfl (by kernel_rfl) (by kernel_rfl) (by kernel_rfl) (fun _ _ _ h => h) (Or.inl ⟨by rfl, ?hyr3_23⟩) (by assumption) ?restr3_23
                      case hyr3_23 => (intro w hSw; (try dsimp only at hSw); go_simp <;> with_reducible rfl)
                      (try simp only [Act.put, List.setIfInBounds_toArray, List.set_cons_zero, List.set_cons_succ])
                      refine wpAnyH_ready (rs := [24]) (by kernel_rfl) (by simp) ?_
                      refine AllReadyH.cons (o := { dst := some 136, op := _, type := _, pos := _, after := _, guard := some (18, false) }) rfl (fun K hK => ?_) AllReadyH.nil
                      go_simp
                      (refine (hF1.out _ (b_drew WZ)).mono ?_; rintro e wq0 ⟨rfl, bb0⟩; have bq0 := b_then (b_drew WZ) bb0)
                      (try go_wp2_with fail)
                      refine hK.out _ _ ((hS.out _ bq0)) (fun hHeld => ?_)
                      clear hK K
                      (try simp only [Act.put, List.setIfInBounds_toArray, List.set_cons_zero, List.set_cons_succ])
                      refine wpAnyH_take (i := 25) (oi := { dst := some 137, op := _, type := _, pos := _, after := _, guard := some (18, false) }) (v := ?vr3_24) rfl (by kernel_rfl) (by kernel_rfl) (by kernel_rfl) (fun _ _ _ h => h) (Or.inl ⟨by rfl, ?hyr3_24⟩) (by assumption) ?restr3_24
                      case hyr3_24 => (intro w hSw; (try dsimp only at hSw); go_simp <;> with_reducible rfl)
                      (try simp only [Act.put, List.setIfInBounds_toArray, List.set_cons_zero, List.set_cons_succ])
                      refine wpAnyH_take (i := 26) (oi := { dst := some 138, op := _, type := _, pos := _, after := _, guard := some (18, false) }) (v := ?vr3_25) rfl (by kernel_rfl) (by kernel_rfl) (by kernel_rfl) (fun _ _ _ h => h) (Or.inl ⟨by rfl, ?hyr3_25⟩) (by assumption) ?restr3_25
                      case hyr3_25 => (intro w hSw; (try dsimp only at hSw); go_simp <;> with_reducible rfl)
                      (try simp only [Act.put, List.setIfInBounds_toArray, List.set_cons_zero, List.set_cons_succ])
                      refine wpAnyH_take (i := 27) (oi := { dst := some 139, op := _, type := _, pos := _, after := _, guard := some (26, true) }) (v := ?vr3_26) rfl (by kernel_rfl) (by kernel_rfl) (by kernel_rfl) (fun _ _ _ h => h) (Or.inl ⟨by rfl, ?hyr3_26⟩) (by assumption) ?restr3_26
                      case hyr3_26 => (intro w hSw; (try dsimp only at hSw); go_simp <;> with_reducible rfl)
                      (try simp only [Act.put, List.setIfInBounds_toArray, List.set_cons_zero, List.set_cons_succ])
                      refine wpAnyH_take (i := 28) (oi := { dst := some 140, op := _, type := _, pos := _, after := _, guard := some (26, true) }) (v := ?vr3_27) rfl (by kernel_rfl) (by kernel_rfl) (by kernel_rfl) (fun _ _ _ h => h) (Or.inl ⟨by rfl, ?hyr3_27⟩) (by assumption) ?restr3_27
                      case hyr3_27 => (intro w hSw; (try dsimp only at hSw); go_simp <;> with_reducible rfl)
                      (try simp only [Act.put, List.setIfInBounds_toArray, List.set_cons_zero, List.set_cons_succ])
                      refine wpAnyH_ready (rs := [29]) (by kernel_rfl) (by simp) ?_
                      refine AllReadyH.cons (o := { dst := some 141, op := _, type := _, pos := _, after := _, guard := some (26, true) }) rfl (fun K hK => ?_) AllReadyH.nil
                      go_simp
                      (refine (hN1.out _ bq0).mono ?_; rintro e wq1 ⟨rfl, bb1⟩; have bq1 := b_then bq0 bb1)
                      (try go_wp2_with fail)
                      refine hK.out _ _ ((hS.out _ bq1)) (fun hHeld => ?_)
                      clear hK K
                      (try simp only [Act.put, List.setIfInBounds_toArray, List.set_cons_zero, List.set_cons_succ])
                      refine wpAnyH_take (i := 30) (oi := { dst := some 142, op := _, type := _, pos := _, after := _, guard := some (26, true) }) (v := ?vr3_28) rfl (by kernel_rfl) (by kernel_rfl) (by kernel_rfl) (fun _ _ _ h => h) (Or.inl ⟨by rfl, ?hyr3_28⟩) (by assumption) ?restr3_28
                      case hyr3_28 => (intro w hSw; (try dsimp only at hSw); go_simp <;> with_reducible rfl)
                      (try simp only [Act.put, List.setIfInBounds_toArray, List.set_cons_zero, List.set_cons_succ])
                      refine wpAnyH_take (i := 31) (oi := { dst := some 143, op := _, type := _, pos := _, after := _, guard := some (18, false) }) (v := ?vr3_29) rfl (by kernel_rfl) (by kernel_rfl) (by kernel_rfl) (fun _ _ _ h => h) (Or.inl ⟨by rfl, ?hyr3_29⟩) (by assumption) ?restr3_29
                      case hyr3_29 => (intro w hSw; (try dsimp only at hSw); go_simp <;> with_reducible rfl)
                      (try simp only [Act.put, List.setIfInBounds_toArray, List.set_cons_zero, List.set_cons_succ])
                      refine wpAnyH_take (i := 32) (oi := { dst := some 144, op := _, type := _, pos := _, after := _, guard := none }) (v := ?vr3_30) rfl (by kernel_rfl) (by kernel_rfl) (by kernel_rfl) (fun _ _ _ h => h) (Or.inl ⟨by rfl, ?hyr3_30⟩) (by assumption) ?restr3_30
                      case hyr3_30 => (intro w hSw; (try dsimp only at hSw); go_simp <;> with_reducible rfl)
                      (try simp only [Act.put, List.setIfInBounds_toArray, List.set_cons_zero, List.set_cons_succ])
                      refine wpAnyH_take (i := 33) (oi := { dst := some 9, op := _, type := _, pos := _, after := _, guard := none }) (v := ?vr3_31) rfl (by kernel_rfl) (by kernel_rfl) (by kernel_rfl) (fun _ _ _ h => h) (Or.inl ⟨by rfl, ?hyr3_31⟩) (by assumption) ?restr3_31
                      case hyr3_31 => (intro w hSw; (try dsimp only at hSw); go_simp <;> with_reducible rfl)
                      (try simp only [Act.put, List.setIfInBounds_toArray, List.set_cons_zero, List.set_cons_succ])
                      refine wpAnyH_done (by kernel_rfl) ?_ _
                      have hEb := Lib.hid bq1
                      clear hS hA1 hF1 hN1 bq0 bb0 bq1 bb1
                      go_wp2
                      exact ⟨⟨d + 1, !s2, by omega, by go_num, rfl, Lib.hid (hnx2.out _ (fun h => ⟨by first | trivial | rfl, hE2.out (by cases s2 with | true => rfl | false => cases h)⟩)), Lib.hid (hBz.out _ hEb.out)⟩, by simp [intOf]; omega⟩
                  | true =>
                    cases s1 with
                    | false =>
                      clear hfr2
                      refine wp_region_held_drew (S := (fun w' => w'.cell? ⟨w6.heap.size, 4, none⟩ = some (.slice (some ⟨bk, ok, none⟩) 16 ck) ∧ w'.cell? ⟨bk, ok + d, none⟩ = some (.string kd) ∧ w'.cell? ⟨wz.heap.size, 2, none⟩ = some (.string RX))) (by kernel_rfl) (hS.out _ (b_drew WZ)) (fun hHeld => ?_)
                      refine wpAnyH_take (i := 0) (oi := { dst := some 112, op := _, type := _, pos := _, after := _, guard := none }) (v := ?vr4_0) rfl (by kernel_rfl) (by kernel_rfl) (by kernel_rfl) (fun _ _ _ h => h) (Or.inl ⟨by rfl, ?hyr4_0⟩) (by assumption) ?restr4_0
                      case hyr4_0 => (intro w hSw; (try dsimp only at hSw); go_simp <;> with_reducible rfl)
                      (try simp only [Act.put, List.setIfInBounds_toArray, List.set_cons_zero, List.set_cons_succ])
                      refine wpAnyH_take (i := 1) (oi := { dst := some 113, op := _, type := _, pos := _, after := _, guard := none }) (v := ?vr4_1) rfl (by kernel_rfl) (by kernel_rfl) (by kernel_rfl) (fun _ _ _ h => h) (Or.inl ⟨by rfl, ?hyr4_1⟩) (by assumption) ?restr4_1
                      case hyr4_1 => (intro w hSw; (try dsimp only at hSw); go_simp <;> with_reducible rfl)
                      (try simp only [Act.put, List.setIfInBounds_toArray, List.set_cons_zero, List.set_cons_succ])
                      refine wpAnyH_take (i := 2) (oi := { dst := some 114, op := _, type := _, pos := _, after := _, guard := some (1, false) }) (v := ?vr4_2) rfl (by kernel_rfl) (by kernel_rfl) (by kernel_rfl) (fun _ _ _ h => h) (Or.inl ⟨by rfl, ?hyr4_2⟩) (by assumption) ?restr4_2
                      case hyr4_2 => (intro w hSw; (try dsimp only at hSw); go_simp <;> with_reducible rfl)
                      (try simp only [Act.put, List.setIfInBounds_toArray, List.set_cons_zero, List.set_cons_succ])
                      refine wpAnyH_take (i := 3) (oi := { dst := some 115, op := _, type := _, pos := _, after := _, guard := some (1, false) }) (v := ?vr4_3) rfl (by kernel_rfl) (by kernel_rfl) (by kernel_rfl) (fun _ _ _ h => h) (Or.inl ⟨by rfl, ?hyr4_3⟩) (by assumption) ?restr4_3
                      case hyr4_3 => (intro w hSw; (try dsimp only at hSw); go_simp <;> with_reducible rfl)
                      (try simp only [Act.put, List.setIfInBounds_toArray, List.set_cons_zero, List.set_cons_succ])
                      refine wpAnyH_take (i := 4) (oi := { dst := some 116, op := _, type := _, pos := _, after := _, guard := some (1, false) }) (v := ?vr4_4) rfl (by kernel_rfl) (by kernel_rfl) (by kernel_rfl) (fun _ _ _ h => h) (Or.inl ⟨by rfl, ?hyr4_4⟩) (by assumption) ?restr4_4
                      case hyr4_4 => (intro w hSw; (try dsimp only at hSw); go_simp <;> with_reducible rfl)
                      (try simp only [Act.put, List.setIfInBounds_toArray, List.set_cons_zero, List.set_cons_succ])
                      refine wpAnyH_take (i := 5) (oi := { dst := some 117, op := _, type := _, pos := _, after := _, guard := some (1, false) }) (v := ?vr4_5) rfl (by kernel_rfl) (by kernel_rfl) (by kernel_rfl) (fun _ _ _ h => h) (Or.inl ⟨by rfl, ?hyr4_5⟩) (by assumption) ?restr4_5
                      case hyr4_5 => (intro w hSw; (try dsimp only at hSw); go_simp <;> with_reducible rfl)
                      (try simp only [Act.put, List.setIfInBounds_toArray, List.set_cons_zero, List.set_cons_succ])
                      refine wpAnyH_take (i := 6) (oi := { dst := some 118, op := _, type := _, pos := _, after := _, guard := some (1, false) }) (v := ?vr4_6) rfl (by kernel_rfl) (by kernel_rfl) (by kernel_rfl) (fun _ _ _ h => h) (Or.inl ⟨by rfl, ?hyr4_6⟩) (by assumption) ?restr4_6
                      case hyr4_6 => (intro w hSw; (try dsimp only at hSw); go_simp <;> with_reducible rfl)
                      (try simp only [Act.put, List.setIfInBounds_toArray, List.set_cons_zero, List.set_cons_succ])
                      refine wpAnyH_take (i := 7) (oi := { dst := some 119, op := _, type := _, pos := _, after := _, guard := some (1, false) }) (v := ?vr4_7) rfl (by kernel_rfl) (by kernel_rfl) (by kernel_rfl) (fun _ _ _ h => h) (Or.inl ⟨by rfl, ?hyr4_7⟩) (by assumption) ?restr4_7
                      case hyr4_7 => (intro w hSw; (try dsimp only at hSw); go_simp <;> with_reducible rfl)
                      (try simp only [Act.put, List.setIfInBounds_toArray, List.set_cons_zero, List.set_cons_succ])
                      refine wpAnyH_take (i := 8) (oi := { dst := some 120, op := _, type := _, pos := _, after := _, guard := some (1, false) }) (v := ?vr4_8) rfl (by kernel_rfl) (by kernel_rfl) (by kernel_rfl) (fun _ _ _ h => h) (Or.inl ⟨by rfl, ?hyr4_8⟩) (by assumption) ?restr4_8
                      case hyr4_8 => (intro w hSw; (try dsimp only at hSw); go_simp <;> with_reducible rfl)
                      (try simp only [Act.put, List.setIfInBounds_toArray, List.set_cons_zero, List.set_cons_succ])
                      refine wpAnyH_take (i := 9) (oi := { dst := some 121, op := _, type := _, pos := _, after := _, guard := some (1, false) }) (v := ?vr4_9) rfl (by kernel_rfl) (by kernel_rfl) (by kernel_rfl) (fun _ _ _ h => h) (Or.inl ⟨by rfl, ?hyr4_9⟩) (by assumption) ?restr4_9
                      case hyr4_9 => (intro w hSw; (try dsimp only at hSw); go_simp <;> with_reducible rfl)
                      (try simp only [Act.put, List.setIfInBounds_toArray, List.set_cons_zero, List.set_cons_succ])
                      refine wpAnyH_take (i := 10) (oi := { dst := some 122, op := _, type := _, pos := _, after := _, guard := some (1, false) }) (v := ?vr4_10) rfl (by kernel_rfl) (by kernel_rfl) (by kernel_rfl) (fun _ _ _ h => h) (Or.inl ⟨by rfl, ?hyr4_10⟩) (by assumption) ?restr4_10
                      case hyr4_10 => (intro w hSw; (try dsimp only at hSw); go_simp <;> with_reducible rfl)
                      (try simp only [Act.put, List.setIfInBounds_toArray, List.set_cons_zero, List.set_cons_succ])
                      refine wpAnyH_take (i := 11) (oi := { dst := some 123, op := _, type := _, pos := _, after := _, guard := some (10, true) }) (v := ?vr4_11) rfl (by kernel_rfl) (by kernel_rfl) (by kernel_rfl) (fun _ _ _ h => h) (Or.inl ⟨by rfl, ?hyr4_11⟩) (by assumption) ?restr4_11
                      case hyr4_11 => (intro w hSw; (try dsimp only at hSw); go_simp <;> with_reducible rfl)
                      (try simp only [Act.put, List.setIfInBounds_toArray, List.set_cons_zero, List.set_cons_succ])
                      refine wpAnyH_take (i := 12) (oi := { dst := some 124, op := _, type := _, pos := _, after := _, guard := some (10, true) }) (v := ?vr4_12) rfl (by kernel_rfl) (by kernel_rfl) (by kernel_rfl) (fun _ _ _ h => h) (Or.inl ⟨by rfl, ?hyr4_12⟩) (by assumption) ?restr4_12
                      case hyr4_12 => (intro w hSw; (try dsimp only at hSw); go_simp <;> with_reducible rfl)
                      (try simp only [Act.put, List.setIfInBounds_toArray, List.set_cons_zero, List.set_cons_succ])
                      refine wpAnyH_take (i := 13) (oi := { dst := some 125, op := _, type := _, pos := _, after := _, guard := some (10, true) }) (v := ?vr4_13) rfl (by kernel_rfl) (by kernel_rfl) (by kernel_rfl) (fun _ _ _ h => h) (Or.inl ⟨by rfl, ?hyr4_13⟩) (by assumption) ?restr4_13
                      case hyr4_13 => (intro w hSw; (try dsimp only at hSw); go_simp <;> with_reducible rfl)
                      (try simp only [Act.put, List.setIfInBounds_toArray, List.set_cons_zero, List.set_cons_succ])
                      refine wpAnyH_ready (rs := [14]) (by kernel_rfl) (by simp) ?_
                      refine AllReadyH.cons (o := { dst := some 126, op := _, type := _, pos := _, after := _, guard := some (10, true) }) rfl (fun K hK => ?_) AllReadyH.nil
                      go_simp
                      (refine (hA1.out _ (b_drew WZ)).mono ?_; rintro e wq0 ⟨rfl, bb0⟩; have bq0 := b_then (b_drew WZ) bb0)
                      (try go_wp2_with fail)
                      refine hK.out _ _ ((hS.out _ bq0)) (fun hHeld => ?_)
                      clear hK K
                      (try simp only [Act.put, List.setIfInBounds_toArray, List.set_cons_zero, List.set_cons_succ])
                      refine wpAnyH_take (i := 15) (oi := { dst := some 127, op := _, type := _, pos := _, after := _, guard := some (10, true) }) (v := ?vr4_14) rfl (by kernel_rfl) (by kernel_rfl) (by kernel_rfl) (fun _ _ _ h => h) (Or.inl ⟨by rfl, ?hyr4_14⟩) (by assumption) ?restr4_14
                      case hyr4_14 => (intro w hSw; (try dsimp only at hSw); go_simp <;> with_reducible rfl)
                      (try simp only [Act.put, List.setIfInBounds_toArray, List.set_cons_zero, List.set_cons_succ])
                      refine wpAnyH_take (i := 16) (oi := { dst := some 128, op := _, type := _, pos := _, after := _, guard := some (1, false) }) (v := ?vr4_15) rfl (by kernel_rfl) (by kernel_rfl) (by kernel_rfl) (fun _ _ _ h => h) (Or.inl ⟨by rfl, ?hyr4_15⟩) (by assumption) ?restr4_15
                      case hyr4_15 => (intro w hSw; (try dsimp only at hSw); go_simp <;> with_reducible rfl)
                      (try simp only [Act.put, List.setIfInBounds_toArray, List.set_cons_zero, List.set_cons_succ])
                      refine wpAnyH_take (i := 17) (oi := { dst := some 129, op := _, type := _, pos := _, after := _, guard := none }) (v := ?vr4_16) rfl (by kernel_rfl) (by kernel_rfl) (by kernel_rfl) (fun _ _ _ h => h) (Or.inl ⟨by rfl, ?hyr4_16⟩) (by assumption) ?restr4_16
                      case hyr4_16 => (intro w hSw; (try dsimp only at hSw); go_simp <;> with_reducible rfl)
                      (try simp only [Act.put, List.setIfInBounds_toArray, List.set_cons_zero, List.set_cons_succ])
                      refine wpAnyH_take (i := 18) (oi := { dst := some 130, op := _, type := _, pos := _, after := _, guard := none }) (v := ?vr4_17) rfl (by kernel_rfl) (by kernel_rfl) (by kernel_rfl) (fun _ _ _ h => h) (Or.inl ⟨by rfl, ?hyr4_17⟩) (by assumption) ?restr4_17
                      case hyr4_17 => (intro w hSw; (try dsimp only at hSw); go_simp <;> with_reducible rfl)
                      (try simp only [Act.put, List.setIfInBounds_toArray, List.set_cons_zero, List.set_cons_succ])
                      refine wpAnyH_take (i := 19) (oi := { dst := some 131, op := _, type := _, pos := _, after := _, guard := some (18, false) }) (v := undef) rfl (by kernel_rfl) (by kernel_rfl) (by kernel_rfl) (fun _ _ _ h => h) (Or.inr ⟨by rfl, rfl⟩) (by assumption) ?_
                      (try simp only [Act.put, List.setIfInBounds_toArray, List.set_cons_zero, List.set_cons_succ])
                      refine wpAnyH_take (i := 20) (oi := { dst := some 132, op := _, type := _, pos := _, after := _, guard := some (18, false) }) (v := undef) rfl (by kernel_rfl) (by kernel_rfl) (by kernel_rfl) (fun _ _ _ h => h) (Or.inr ⟨by rfl, rfl⟩) (by assumption) ?_
                      (try simp only [Act.put, List.setIfInBounds_toArray, List.set_cons_zero, List.set_cons_succ])
                      refine wpAnyH_take (i := 21) (oi := { dst := some 133, op := _, type := _, pos := _, after := _, guard := some (18, false) }) (v := undef) rfl (by kernel_rfl) (by kernel_rfl) (by kernel_rfl) (fun _ _ _ h => h) (Or.inr ⟨by rfl, rfl⟩) (by assumption) ?_
                      (try simp only [Act.put, List.setIfInBounds_toArray, List.set_cons_zero, List.set_cons_succ])
                      refine wpAnyH_take (i := 22) (oi := { dst := some 134, op := _, type := _, pos := _, after := _, guard := some (18, false) }) (v := undef) rfl (by kernel_rfl) (by kernel_rfl) (by kernel_rfl) (fun _ _ _ h => h) (Or.inr ⟨by rfl, rfl⟩) (by assumption) ?_
                      (try simp only [Act.put, List.setIfInBounds_toArray, List.set_cons_zero, List.set_cons_succ])
                      refine wpAnyH_take (i := 23) (oi := { dst := some 135, op := _, type := _, pos := _, after := _, guard := some (18, false) }) (v := undef) rfl (by kernel_rfl) (by kernel_rfl) (by kernel_rfl) (fun _ _ _ h => h) (Or.inr ⟨by rfl, rfl⟩) (by assumption) ?_
                      (try simp only [Act.put, List.setIfInBounds_toArray, List.set_cons_zero, List.set_cons_succ])
                      refine wpAnyH_take (i := 24) (oi := { dst := some 136, op := _, type := _, pos := _, after := _, guard := some (18, false) }) (v := undef) rfl (by kernel_rfl) (by kernel_rfl) (by kernel_rfl) (fun _ _ _ h => h) (Or.inr ⟨by rfl, rfl⟩) (by assumption) ?_
                      (try simp only [Act.put, List.setIfInBounds_toArray, List.set_cons_zero, List.set_cons_succ])
                      refine wpAnyH_take (i := 25) (oi := { dst := some 137, op := _, type := _, pos := _, after := _, guard := some (18, false) }) (v := undef) rfl (by kernel_rfl) (by kernel_rfl) (by kernel_rfl) (fun _ _ _ h => h) (Or.inr ⟨by rfl, rfl⟩) (by assumption) ?_
                      (try simp only [Act.put, List.setIfInBounds_toArray, List.set_cons_zero, List.set_cons_succ])
                      refine wpAnyH_take (i := 26) (oi := { dst := some 138, op := _, type := _, pos := _, after := _, guard := some (18, false) }) (v := undef) rfl (by kernel_rfl) (by kernel_rfl) (by kernel_rfl) (fun _ _ _ h => h) (Or.inr ⟨by rfl, rfl⟩) (by assumption) ?_
                      (try simp only [Act.put, List.setIfInBounds_toArray, List.set_cons_zero, List.set_cons_succ])
                      refine wpAnyH_take (i := 27) (oi := { dst := some 139, op := _, type := _, pos := _, after := _, guard := some (26, true) }) (v := undef) rfl (by kernel_rfl) (by kernel_rfl) (by kernel_rfl) (fun _ _ _ h => h) (Or.inr ⟨by rfl, rfl⟩) (by assumption) ?_
                      (try simp only [Act.put, List.setIfInBounds_toArray, List.set_cons_zero, List.set_cons_succ])
                      refine wpAnyH_take (i := 28) (oi := { dst := some 140, op := _, type := _, pos := _, after := _, guard := some (26, true) }) (v := undef) rfl (by kernel_rfl) (by kernel_rfl) (by kernel_rfl) (fun _ _ _ h => h) (Or.inr ⟨by rfl, rfl⟩) (by assumption) ?_
                      (try simp only [Act.put, List.setIfInBounds_toArray, List.set_cons_zero, List.set_cons_succ])
                      refine wpAnyH_take (i := 29) (oi := { dst := some 141, op := _, type := _, pos := _, after := _, guard := some (26, true) }) (v := undef) rfl (by kernel_rfl) (by kernel_rfl) (by kernel_rfl) (fun _ _ _ h => h) (Or.inr ⟨by rfl, rfl⟩) (by assumption) ?_
                      (try simp only [Act.put, List.setIfInBounds_toArray, List.set_cons_zero, List.set_cons_succ])
                      refine wpAnyH_take (i := 30) (oi := { dst := some 142, op := _, type := _, pos := _, after := _, guard := some (26, true) }) (v := undef) rfl (by kernel_rfl) (by kernel_rfl) (by kernel_rfl) (fun _ _ _ h => h) (Or.inr ⟨by rfl, rfl⟩) (by assumption) ?_
                      (try simp only [Act.put, List.setIfInBounds_toArray, List.set_cons_zero, List.set_cons_succ])
                      refine wpAnyH_take (i := 31) (oi := { dst := some 143, op := _, type := _, pos := _, after := _, guard := some (18, false) }) (v := undef) rfl (by kernel_rfl) (by kernel_rfl) (by kernel_rfl) (fun _ _ _ h => h) (Or.inr ⟨by rfl, rfl⟩) (by assumption) ?_
                      (try simp only [Act.put, List.setIfInBounds_toArray, List.set_cons_zero, List.set_cons_succ])
                      refine wpAnyH_take (i := 32) (oi := { dst := some 144, op := _, type := _, pos := _, after := _, guard := none }) (v := ?vr4_31) rfl (by kernel_rfl) (by kernel_rfl) (by kernel_rfl) (fun _ _ _ h => h) (Or.inl ⟨by rfl, ?hyr4_31⟩) (by assumption) ?restr4_31
                      case hyr4_31 => (intro w hSw; (try dsimp only at hSw); go_simp <;> with_reducible rfl)
                      (try simp only [Act.put, List.setIfInBounds_toArray, List.set_cons_zero, List.set_cons_succ])
                      refine wpAnyH_take (i := 33) (oi := { dst := some 9, op := _, type := _, pos := _, after := _, guard := none }) (v := ?vr4_32) rfl (by kernel_rfl) (by kernel_rfl) (by kernel_rfl) (fun _ _ _ h => h) (Or.inl ⟨by rfl, ?hyr4_32⟩) (by assumption) ?restr4_32
                      case hyr4_32 => (intro w hSw; (try dsimp only at hSw); go_simp <;> with_reducible rfl)
                      (try simp only [Act.put, List.setIfInBounds_toArray, List.set_cons_zero, List.set_cons_succ])
                      refine wpAnyH_done (by kernel_rfl) ?_ _
                      have hEb := Lib.hid bq0
                      clear hS hA1 hF1 hN1 bq0 bb0
                      go_wp2
                      exact ⟨⟨d + 1, true, by omega, by go_num, rfl, Lib.hid (hnx2.out _ (fun h => by cases h)), Lib.hid (hBz.out _ hEb.out)⟩, by simp [intOf]; omega⟩
                    | true =>
                      cases e2 with
                      | false =>
                        have hE2 := Lib.hid (hfr2.out (fun _ => rfl) (fun h => by cases h))
                        clear hfr2
                        refine wp_region_held_drew (S := (fun w' => w'.cell? ⟨w6.heap.size, 4, none⟩ = some (.slice (some ⟨bk, ok, none⟩) 16 ck) ∧ w'.cell? ⟨bk, ok + d, none⟩ = some (.string kd) ∧ w'.cell? ⟨wz.heap.size, 2, none⟩ = some (.string RX))) (by kernel_rfl) (hS.out _ (b_drew WZ)) (fun hHeld => ?_)
                        refine wpAnyH_take (i := 0) (oi := { dst := some 112, op := _, type := _, pos := _, after := _, guard := none }) (v := ?vr5_0) rfl (by kernel_rfl) (by kernel_rfl) (by kernel_rfl) (fun _ _ _ h => h) (Or.inl ⟨by rfl, ?hyr5_0⟩) (by assumption) ?restr5_0
                        case hyr5_0 => (intro w hSw; (try dsimp only at hSw); go_simp <;> with_reducible rfl)
                        (try simp only [Act.put, List.setIfInBounds_toArray, List.set_cons_zero, List.set_cons_succ])
                        refine wpAnyH_take (i := 1) (oi := { dst := some 113, op := _, type := _, pos := _, after := _, guard := none }) (v := ?vr5_1) rfl (by kernel_rfl) (by kernel_rfl) (by kernel_rfl) (fun _ _ _ h => h) (Or.inl ⟨by rfl, ?hyr5_1⟩) (by assumption) ?restr5_1
                        case hyr5_1 => (intro w hSw; (try dsimp only at hSw); go_simp <;> with_reducible rfl)
                        (try simp only [Act.put, List.setIfInBounds_toArray, List.set_cons_zero, List.set_cons_succ])
                        refine wpAnyH_take (i := 2) (oi := { dst := some 114, op := _, type := _, pos := _, after := _, guard := some (1, false) }) (v := ?vr5_2) rfl (by kernel_rfl) (by kernel_rfl) (by kernel_rfl) (fun _ _ _ h => h) (Or.inl ⟨by rfl, ?hyr5_2⟩) (by assumption) ?restr5_2
                        case hyr5_2 => (intro w hSw; (try dsimp only at hSw); go_simp <;> with_reducible rfl)
                        (try simp only [Act.put, List.setIfInBounds_toArray, List.set_cons_zero, List.set_cons_succ])
                        refine wpAnyH_take (i := 3) (oi := { dst := some 115, op := _, type := _, pos := _, after := _, guard := some (1, false) }) (v := ?vr5_3) rfl (by kernel_rfl) (by kernel_rfl) (by kernel_rfl) (fun _ _ _ h => h) (Or.inl ⟨by rfl, ?hyr5_3⟩) (by assumption) ?restr5_3
                        case hyr5_3 => (intro w hSw; (try dsimp only at hSw); go_simp <;> with_reducible rfl)
                        (try simp only [Act.put, List.setIfInBounds_toArray, List.set_cons_zero, List.set_cons_succ])
                        refine wpAnyH_take (i := 4) (oi := { dst := some 116, op := _, type := _, pos := _, after := _, guard := some (1, false) }) (v := ?vr5_4) rfl (by kernel_rfl) (by kernel_rfl) (by kernel_rfl) (fun _ _ _ h => h) (Or.inl ⟨by rfl, ?hyr5_4⟩) (by assumption) ?restr5_4
                        case hyr5_4 => (intro w hSw; (try dsimp only at hSw); go_simp <;> with_reducible rfl)
                        (try simp only [Act.put, List.setIfInBounds_toArray, List.set_cons_zero, List.set_cons_succ])
                        refine wpAnyH_take (i := 5) (oi := { dst := some 117, op := _, type := _, pos := _, after := _, guard := some (1, false) }) (v := ?vr5_5) rfl (by kernel_rfl) (by kernel_rfl) (by kernel_rfl) (fun _ _ _ h => h) (Or.inl ⟨by rfl, ?hyr5_5⟩) (by assumption) ?restr5_5
                        case hyr5_5 => (intro w hSw; (try dsimp only at hSw); go_simp <;> with_reducible rfl)
                        (try simp only [Act.put, List.setIfInBounds_toArray, List.set_cons_zero, List.set_cons_succ])
                        refine wpAnyH_take (i := 6) (oi := { dst := some 118, op := _, type := _, pos := _, after := _, guard := some (1, false) }) (v := ?vr5_6) rfl (by kernel_rfl) (by kernel_rfl) (by kernel_rfl) (fun _ _ _ h => h) (Or.inl ⟨by rfl, ?hyr5_6⟩) (by assumption) ?restr5_6
                        case hyr5_6 => (intro w hSw; (try dsimp only at hSw); go_simp <;> with_reducible rfl)
                        (try simp only [Act.put, List.setIfInBounds_toArray, List.set_cons_zero, List.set_cons_succ])
                        refine wpAnyH_take (i := 7) (oi := { dst := some 119, op := _, type := _, pos := _, after := _, guard := some (1, false) }) (v := ?vr5_7) rfl (by kernel_rfl) (by kernel_rfl) (by kernel_rfl) (fun _ _ _ h => h) (Or.inl ⟨by rfl, ?hyr5_7⟩) (by assumption) ?restr5_7
                        case hyr5_7 => (intro w hSw; (try dsimp only at hSw); go_simp <;> with_reducible rfl)
                        (try simp only [Act.put, List.setIfInBounds_toArray, List.set_cons_zero, List.set_cons_succ])
                        refine wpAnyH_take (i := 8) (oi := { dst := some 120, op := _, type := _, pos := _, after := _, guard := some (1, false) }) (v := ?vr5_8) rfl (by kernel_rfl) (by kernel_rfl) (by kernel_rfl) (fun _ _ _ h => h) (Or.inl ⟨by rfl, ?hyr5_8⟩) (by assumption) ?restr5_8
                        case hyr5_8 => (intro w hSw; (try dsimp only at hSw); go_simp <;> with_reducible rfl)
                        (try simp only [Act.put, List.setIfInBounds_toArray, List.set_cons_zero, List.set_cons_succ])
                        refine wpAnyH_take (i := 9) (oi := { dst := some 121, op := _, type := _, pos := _, after := _, guard := some (1, false) }) (v := ?vr5_9) rfl (by kernel_rfl) (by kernel_rfl) (by kernel_rfl) (fun _ _ _ h => h) (Or.inl ⟨by rfl, ?hyr5_9⟩) (by assumption) ?restr5_9
                        case hyr5_9 => (intro w hSw; (try dsimp only at hSw); go_simp <;> with_reducible rfl)
                        (try simp only [Act.put, List.setIfInBounds_toArray, List.set_cons_zero, List.set_cons_succ])
                        refine wpAnyH_take (i := 10) (oi := { dst := some 122, op := _, type := _, pos := _, after := _, guard := some (1, false) }) (v := ?vr5_10) rfl (by kernel_rfl) (by kernel_rfl) (by kernel_rfl) (fun _ _ _ h => h) (Or.inl ⟨by rfl, ?hyr5_10⟩) (by assumption) ?restr5_10
                        case hyr5_10 => (intro w hSw; (try dsimp only at hSw); go_simp <;> with_reducible rfl)
                        (try simp only [Act.put, List.setIfInBounds_toArray, List.set_cons_zero, List.set_cons_succ])
                        refine wpAnyH_take (i := 11) (oi := { dst := some 123, op := _, type := _, pos := _, after := _, guard := some (10, true) }) (v := ?vr5_11) rfl (by kernel_rfl) (by kernel_rfl) (by kernel_rfl) (fun _ _ _ h => h) (Or.inl ⟨by rfl, ?hyr5_11⟩) (by assumption) ?restr5_11
                        case hyr5_11 => (intro w hSw; (try dsimp only at hSw); go_simp <;> with_reducible rfl)
                        (try simp only [Act.put, List.setIfInBounds_toArray, List.set_cons_zero, List.set_cons_succ])
                        refine wpAnyH_take (i := 12) (oi := { dst := some 124, op := _, type := _, pos := _, after := _, guard := some (10, true) }) (v := ?vr5_12) rfl (by kernel_rfl) (by kernel_rfl) (by kernel_rfl) (fun _ _ _ h => h) (Or.inl ⟨by rfl, ?hyr5_12⟩) (by assumption) ?restr5_12
                        case hyr5_12 => (intro w hSw; (try dsimp only at hSw); go_simp <;> with_reducible rfl)
                        (try simp only [Act.put, List.setIfInBounds_toArray, List.set_cons_zero, List.set_cons_succ])
                        refine wpAnyH_take (i := 13) (oi := { dst := some 125, op := _, type := _, pos := _, after := _, guard := some (10, true) }) (v := ?vr5_13) rfl (by kernel_rfl) (by kernel_rfl) (by kernel_rfl) (fun _ _ _ h => h) (Or.inl ⟨by rfl, ?hyr5_13⟩) (by assumption) ?restr5_13
                        case hyr5_13 => (intro w hSw; (try dsimp only at hSw); go_simp <;> with_reducible rfl)
                        (try simp only [Act.put, List.setIfInBounds_toArray, List.set_cons_zero, List.set_cons_succ])
                        refine wpAnyH_ready (rs := [14]) (by kernel_rfl) (by simp) ?_
                        refine AllReadyH.cons (o := { dst := some 126, op := _, type := _, pos := _, after := _, guard := some (10, true) }) rfl (fun K hK => ?_) AllReadyH.nil
                        go_simp
                        (refine (hA1.out _ (b_drew WZ)).mono ?_; rintro e wq0 ⟨rfl, bb0⟩; have bq0 := b_then (b_drew WZ) bb0)
                        (try go_wp2_with fail)
                        refine hK.out _ _ ((hS.out _ bq0)) (fun hHeld => ?_)
                        clear hK K
                        (try simp only [Act.put, List.setIfInBounds_toArray, List.set_cons_zero, List.set_cons_succ])
                        refine wpAnyH_take (i := 15) (oi := { dst := some 127, op := _, type := _, pos := _, after := _, guard := some (10, true) }) (v := ?vr5_14) rfl (by kernel_rfl) (by kernel_rfl) (by kernel_rfl) (fun _ _ _ h => h) (Or.inl ⟨by rfl, ?hyr5_14⟩) (by assumption) ?restr5_14
                        case hyr5_14 => (intro w hSw; (try dsimp only at hSw); go_simp <;> with_reducible rfl)
                        (try simp only [Act.put, List.setIfInBounds_toArray, List.set_cons_zero, List.set_cons_succ])
                        refine wpAnyH_take (i := 16) (oi := { dst := some 128, op := _, type := _, pos := _, after := _, guard := some (1, false) }) (v := ?vr5_15) rfl (by kernel_rfl) (by kernel_rfl) (by kernel_rfl) (fun _ _ _ h => h) (Or.inl ⟨by rfl, ?hyr5_15⟩) (by assumption) ?restr5_15
                        case hyr5_15 => (intro w hSw; (try dsimp only at hSw); go_simp <;> with_reducible rfl)
                        (try simp only [Act.put, List.setIfInBounds_toArray, List.set_cons_zero, List.set_cons_succ])
                        refine wpAnyH_take (i := 17) (oi := { dst := some 129, op := _, type := _, pos := _, after := _, guard := none }) (v := ?vr5_16) rfl (by kernel_rfl) (by kernel_rfl) (by kernel_rfl) (fun _ _ _ h => h) (Or.inl ⟨by rfl, ?hyr5_16⟩) (by assumption) ?restr5_16
                        case hyr5_16 => (intro w hSw; (try dsimp only at hSw); go_simp <;> with_reducible rfl)
                        (try simp only [Act.put, List.setIfInBounds_toArray, List.set_cons_zero, List.set_cons_succ])
                        refine wpAnyH_take (i := 18) (oi := { dst := some 130, op := _, type := _, pos := _, after := _, guard := none }) (v := ?vr5_17) rfl (by kernel_rfl) (by kernel_rfl) (by kernel_rfl) (fun _ _ _ h => h) (Or.inl ⟨by rfl, ?hyr5_17⟩) (by assumption) ?restr5_17
                        case hyr5_17 => (intro w hSw; (try dsimp only at hSw); go_simp <;> with_reducible rfl)
                        (try simp only [Act.put, List.setIfInBounds_toArray, List.set_cons_zero, List.set_cons_succ])
                        refine wpAnyH_take (i := 19) (oi := { dst := some 131, op := _, type := _, pos := _, after := _, guard := some (18, false) }) (v := ?vr5_18) rfl (by kernel_rfl) (by kernel_rfl) (by kernel_rfl) (fun _ _ _ h => h) (Or.inl ⟨by rfl, ?hyr5_18⟩) (by assumption) ?restr5_18
                        case hyr5_18 => (intro w hSw; (try dsimp only at hSw); go_simp <;> with_reducible rfl)
                        (try simp only [Act.put, List.setIfInBounds_toArray, List.set_cons_zero, List.set_cons_succ])
                        refine wpAnyH_take (i := 20) (oi := { dst := some 132, op := _, type := _, pos := _, after := _, guard := some (18, false) }) (v := ?vr5_19) rfl (by kernel_rfl) (by kernel_rfl) (by kernel_rfl) (fun _ _ _ h => h) (Or.inl ⟨by rfl, ?hyr5_19⟩) (by assumption) ?restr5_19
                        case hyr5_19 => (intro w hSw; (try dsimp only at hSw); go_simp <;> with_reducible rfl)
                        (try simp only [Act.put, List.setIfInBounds_toArray, List.set_cons_zero, List.set_cons_succ])
                        refine wpAnyH_take (i := 21) (oi := { dst := some 133, op := _, type := _, pos := _, after := _, guard := some (18, false) }) (v := ?vr5_20) rfl (by kernel_rfl) (by kernel_rfl) (by kernel_rfl) (fun _ _ _ h => h) (Or.inl ⟨by rfl, ?hyr5_20⟩) (by assumption) ?restr5_20
                        case hyr5_20 => (intro w hSw; (try dsimp only at hSw); go_simp <;> with_reducible rfl)
                        (try simp only [Act.put, List.setIfInBounds_toArray, List.set_cons_zero, List.set_cons_succ])
                        refine wpAnyH_take (i := 22) (oi := { dst := some 134, op := _, type := _, pos := _, after := _, guard := some (18, false) }) (v := ?vr5_21) rfl (by kernel_rfl) (by kernel_rfl) (by kernel_rfl) (fun _ _ _ h => h) (Or.inl ⟨by rfl, ?hyr5_21⟩) (by assumption) ?restr5_21
                        case hyr5_21 => (intro w hSw; (try dsimp only at hSw); go_simp <;> with_reducible rfl)
                        (try simp only [Act.put, List.setIfInBounds_toArray, List.set_cons_zero, List.set_cons_succ])
                        refine wpAnyH_take (i := 23) (oi := { dst := some 135, op := _, type := _, pos := _, after := _, guard := some (18, false) }) (v := ?vr5_22) rfl (by kernel_rfl) (by kernel_rfl) (by kernel_rfl) (fun _ _ _ h => h) (Or.inl ⟨by rfl, ?hyr5_22⟩) (by assumption) ?restr5_22
                        case hyr5_22 => (intro w hSw; (try dsimp only at hSw); go_simp <;> with_reducible rfl)
                        (try simp only [Act.put, List.setIfInBounds_toArray, List.set_cons_zero, List.set_cons_succ])
                        refine wpAnyH_ready (rs := [24]) (by kernel_rfl) (by simp) ?_
                        refine AllReadyH.cons (o := { dst := some 136, op := _, type := _, pos := _, after := _, guard := some (18, false) }) rfl (fun K hK => ?_) AllReadyH.nil
                        go_simp
                        (refine (hF1.out _ bq0).mono ?_; rintro e wq1 ⟨rfl, bb1⟩; have bq1 := b_then bq0 bb1)
                        (try go_wp2_with fail)
                        refine hK.out _ _ ((hS.out _ bq1)) (fun hHeld => ?_)
                        clear hK K
                        (try simp only [Act.put, List.setIfInBounds_toArray, List.set_cons_zero, List.set_cons_succ])
                        refine wpAnyH_take (i := 25) (oi := { dst := some 137, op := _, type := _, pos := _, after := _, guard := some (18, false) }) (v := ?vr5_23) rfl (by kernel_rfl) (by kernel_rfl) (by kernel_rfl) (fun _ _ _ h => h) (Or.inl ⟨by rfl, ?hyr5_23⟩) (by assumption) ?restr5_23
                        case hyr5_23 => (intro w hSw; (try dsimp only at hSw); go_simp <;> with_reducible rfl)
                        (try simp only [Act.put, List.setIfInBounds_toArray, List.set_cons_zero, List.set_cons_succ])
                        refine wpAnyH_take (i := 26) (oi := { dst := some 138, op := _, type := _, pos := _, after := _, guard := some (18, false) }) (v := ?vr5_24) rfl (by kernel_rfl) (by kernel_rfl) (by kernel_rfl) (fun _ _ _ h => h) (Or.inl ⟨by rfl, ?hyr5_24⟩) (by assumption) ?restr5_24
                        case hyr5_24 => (intro w hSw; (try dsimp only at hSw); go_simp <;> with_reducible rfl)
                        (try simp only [Act.put, List.setIfInBounds_toArray, List.set_cons_zero, List.set_cons_succ])
                        refine wpAnyH_take (i := 27) (oi := { dst := some 139, op := _, type := _, pos := _, after := _, guard := some (26, true) }) (v := undef) rfl (by kernel_rfl) (by kernel_rfl) (by kernel_rfl) (fun _ _ _ h => h) (Or.inr ⟨by rfl, rfl⟩) (by assumption) ?_
                        (try simp only [Act.put, List.setIfInBounds_toArray, List.set_cons_zero, List.set_cons_succ])
                        refine wpAnyH_take (i := 28) (oi := { dst := some 140, op := _, type := _, pos := _, after := _, guard := some (26, true) }) (v := undef) rfl (by kernel_rfl) (by kernel_rfl) (by kernel_rfl) (fun _ _ _ h => h) (Or.inr ⟨by rfl, rfl⟩) (by assumption) ?_
                        (try simp only [Act.put, List.setIfInBounds_toArray, List.set_cons_zero, List.set_cons_succ])
                        refine wpAnyH_take (i := 29) (oi := { dst := some 141, op := _, type := _, pos := _, after := _, guard := some (26, true) }) (v := undef) rfl (by kernel_rfl) (by kernel_rfl) (by kernel_rfl) (fun _ _ _ h => h) (Or.inr ⟨by rfl, rfl⟩) (by assumption) ?_
                        (try simp only [Act.put, List.setIfInBounds_toArray, List.set_cons_zero, List.set_cons_succ])
                        refine wpAnyH_take (i := 30) (oi := { dst := some 142, op := _, type := _, pos := _, after := _, guard := some (26, true) }) (v := undef) rfl (by kernel_rfl) (by kernel_rfl) (by kernel_rfl) (fun _ _ _ h => h) (Or.inr ⟨by rfl, rfl⟩) (by assumption) ?_
                        (try simp only [Act.put, List.setIfInBounds_toArray, List.set_cons_zero, List.set_cons_succ])
                        refine wpAnyH_take (i := 31) (oi := { dst := some 143, op := _, type := _, pos := _, after := _, guard := some (18, false) }) (v := ?vr5_29) rfl (by kernel_rfl) (by kernel_rfl) (by kernel_rfl) (fun _ _ _ h => h) (Or.inl ⟨by rfl, ?hyr5_29⟩) (by assumption) ?restr5_29
                        case hyr5_29 => (intro w hSw; (try dsimp only at hSw); go_simp <;> with_reducible rfl)
                        (try simp only [Act.put, List.setIfInBounds_toArray, List.set_cons_zero, List.set_cons_succ])
                        refine wpAnyH_take (i := 32) (oi := { dst := some 144, op := _, type := _, pos := _, after := _, guard := none }) (v := ?vr5_30) rfl (by kernel_rfl) (by kernel_rfl) (by kernel_rfl) (fun _ _ _ h => h) (Or.inl ⟨by rfl, ?hyr5_30⟩) (by assumption) ?restr5_30
                        case hyr5_30 => (intro w hSw; (try dsimp only at hSw); go_simp <;> with_reducible rfl)
                        (try simp only [Act.put, List.setIfInBounds_toArray, List.set_cons_zero, List.set_cons_succ])
                        refine wpAnyH_take (i := 33) (oi := { dst := some 9, op := _, type := _, pos := _, after := _, guard := none }) (v := ?vr5_31) rfl (by kernel_rfl) (by kernel_rfl) (by kernel_rfl) (fun _ _ _ h => h) (Or.inl ⟨by rfl, ?hyr5_31⟩) (by assumption) ?restr5_31
                        case hyr5_31 => (intro w hSw; (try dsimp only at hSw); go_simp <;> with_reducible rfl)
                        (try simp only [Act.put, List.setIfInBounds_toArray, List.set_cons_zero, List.set_cons_succ])
                        refine wpAnyH_done (by kernel_rfl) ?_ _
                        have hEb := Lib.hid bq1
                        clear hS hA1 hF1 hN1 bq0 bb0 bq1 bb1
                        go_wp2
                        exact ⟨⟨d + 1, false, by omega, by go_num, rfl, Lib.hid (hnx2.out _ (fun _ => ⟨by first | trivial | rfl, hE2.out⟩)), Lib.hid (hBz.out _ hEb.out)⟩, by simp [intOf]; omega⟩
                      | true =>
                        have hE2 := Lib.hid fun (h : s2 = true) => hfr2.out (fun _ => rfl) (fun _ => h)
                        clear hfr2
                        refine wp_region_held_drew (S := (fun w' => w'.cell? ⟨w6.heap.size, 4, none⟩ = some (.slice (some ⟨bk, ok, none⟩) 16 ck) ∧ w'.cell? ⟨bk, ok + d, none⟩ = some (.string kd) ∧ w'.cell? ⟨wz.heap.size, 2, none⟩ = some (.string RX))) (by kernel_rfl) (hS.out _ (b_drew WZ)) (fun hHeld => ?_)
                        refine wpAnyH_take (i := 0) (oi := { dst := some 112, op := _, type := _, pos := _, after := _, guard := none }) (v := ?vr6_0) rfl (by kernel_rfl) (by kernel_rfl) (by kernel_rfl) (fun _ _ _ h => h) (Or.inl ⟨by rfl, ?hyr6_0⟩) (by assumption) ?restr6_0
                        case hyr6_0 => (intro w hSw; (try dsimp only at hSw); go_simp <;> with_reducible rfl)
                        (try simp only [Act.put, List.setIfInBounds_toArray, List.set_cons_zero, List.set_cons_succ])
                        refine wpAnyH_take (i := 1) (oi := { dst := some 113, op := _, type := _, pos := _, after := _, guard := none }) (v := ?vr6_1) rfl (by kernel_rfl) (by kernel_rfl) (by kernel_rfl) (fun _ _ _ h => h) (Or.inl ⟨by rfl, ?hyr6_1⟩) (by assumption) ?restr6_1
                        case hyr6_1 => (intro w hSw; (try dsimp only at hSw); go_simp <;> with_reducible rfl)
                        (try simp only [Act.put, List.setIfInBounds_toArray, List.set_cons_zero, List.set_cons_succ])
                        refine wpAnyH_take (i := 2) (oi := { dst := some 114, op := _, type := _, pos := _, after := _, guard := some (1, false) }) (v := ?vr6_2) rfl (by kernel_rfl) (by kernel_rfl) (by kernel_rfl) (fun _ _ _ h => h) (Or.inl ⟨by rfl, ?hyr6_2⟩) (by assumption) ?restr6_2
                        case hyr6_2 => (intro w hSw; (try dsimp only at hSw); go_simp <;> with_reducible rfl)
                        (try simp only [Act.put, List.setIfInBounds_toArray, List.set_cons_zero, List.set_cons_succ])
                        refine wpAnyH_take (i := 3) (oi := { dst := some 115, op := _, type := _, pos := _, after := _, guard := some (1, false) }) (v := ?vr6_3) rfl (by kernel_rfl) (by kernel_rfl) (by kernel_rfl) (fun _ _ _ h => h) (Or.inl ⟨by rfl, ?hyr6_3⟩) (by assumption) ?restr6_3
                        case hyr6_3 => (intro w hSw; (try dsimp only at hSw); go_simp <;> with_reducible rfl)
                        (try simp only [Act.put, List.setIfInBounds_toArray, List.set_cons_zero, List.set_cons_succ])
                        refine wpAnyH_take (i := 4) (oi := { dst := some 116, op := _, type := _, pos := _, after := _, guard := some (1, false) }) (v := ?vr6_4) rfl (by kernel_rfl) (by kernel_rfl) (by kernel_rfl) (fun _ _ _ h => h) (Or.inl ⟨by rfl, ?hyr6_4⟩) (by assumption) ?restr6_4
                        case hyr6_4 => (intro w hSw; (try dsimp only at hSw); go_simp <;> with_reducible rfl)
                        (try simp only [Act.put, List.setIfInBounds_toArray, List.set_cons_zero, List.set_cons_succ])
                        refine wpAnyH_take (i := 5) (oi := { dst := some 117, op := _, type := _, pos := _, after := _, guard := some (1, false) }) (v := ?vr6_5) rfl (by kernel_rfl) (by kernel_rfl) (by kernel_rfl) (fun _ _ _ h => h) (Or.inl ⟨by rfl, ?hyr6_5⟩) (by assumption) ?restr6_5
                        case hyr6_5 => (intro w hSw; (try dsimp only at hSw); go_simp <;> with_reducible rfl)
                        (try simp only [Act.put, List.setIfInBounds_toArray, List.set_cons_zero, List.set_cons_succ])
                        refine wpAnyH_take (i := 6) (oi := { dst := some 118, op := _, type := _, pos := _, after := _, guard := some (1, false) }) (v := ?vr6_6) rfl (by kernel_rfl) (by kernel_rfl) (by kernel_rfl) (fun _ _ _ h => h) (Or.inl ⟨by rfl, ?hyr6_6⟩) (by assumption) ?restr6_6
                        case hyr6_6 => (intro w hSw; (try dsimp only at hSw); go_simp <;> with_reducible rfl)
                        (try simp only [Act.put, List.setIfInBounds_toArray, List.set_cons_zero, List.set_cons_succ])
                        refine wpAnyH_take (i := 7) (oi := { dst := some 119, op := _, type := _, pos := _, after := _, guard := some (1, false) }) (v := ?vr6_7) rfl (by kernel_rfl) (by kernel_rfl) (by kernel_rfl) (fun _ _ _ h => h) (Or.inl ⟨by rfl, ?hyr6_7⟩) (by assumption) ?restr6_7
                        case hyr6_7 => (intro w hSw; (try dsimp only at hSw); go_simp <;> with_reducible rfl)
                        (try simp only [Act.put, List.setIfInBounds_toArray, List.set_cons_zero, List.set_cons_succ])
                        refine wpAnyH_take (i := 8) (oi := { dst := some 120, op := _, type := _, pos := _, after := _, guard := some (1, false) }) (v := ?vr6_8) rfl (by kernel_rfl) (by kernel_rfl) (by kernel_rfl) (fun _ _ _ h => h) (Or.inl ⟨by rfl, ?hyr6_8⟩) (by assumption) ?restr6_8
                        case hyr6_8 => (intro w hSw; (try dsimp only at hSw); go_simp <;> with_reducible rfl)
                        (try simp only [Act.put, List.setIfInBounds_toArray, List.set_cons_zero, List.set_cons_succ])
                        refine wpAnyH_take (i := 9) (oi := { dst := some 121, op := _, type := _, pos := _, after := _, guard := some (1, false) }) (v := ?vr6_9) rfl (by kernel_rfl) (by kernel_rfl) (by kernel_rfl) (fun _ _ _ h => h) (Or.inl ⟨by rfl, ?hyr6_9⟩) (by assumption) ?restr6_9
                        case hyr6_9 => (intro w hSw; (try dsimp only at hSw); go_simp <;> with_reducible rfl)
                        (try simp only [Act.put, List.setIfInBounds_toArray, List.set_cons_zero, List.set_cons_succ])
                        refine wpAnyH_take (i := 10) (oi := { dst := some 122, op := _, type := _, pos := _, after := _, guard := some (1, false) }) (v := ?vr6_10) rfl (by kernel_rfl) (by kernel_rfl) (by kernel_rfl) (fun _ _ _ h => h) (Or.inl ⟨by rfl, ?hyr6_10⟩) (by assumption) ?restr6_10
                        case hyr6_10 => (intro w hSw; (try dsimp only at hSw); go_simp <;> with_reducible rfl)
                        (try simp only [Act.put, List.setIfInBounds_toArray, List.set_cons_zero, List.set_cons_succ])
                        refine wpAnyH_take (i := 11) (oi := { dst := some 123, op := _, type := _, pos := _, after := _, guard := some (10, true) }) (v := ?vr6_11) rfl (by kernel_rfl) (by kernel_rfl) (by kernel_rfl) (fun _ _ _ h => h) (Or.inl ⟨by rfl, ?hyr6_11⟩) (by assumption) ?restr6_11
                        case hyr6_11 => (intro w hSw; (try dsimp only at hSw); go_simp <;> with_reducible rfl)
                        (try simp only [Act.put, List.setIfInBounds_toArray, List.set_cons_zero, List.set_cons_succ])
                        refine wpAnyH_take (i := 12) (oi := { dst := some 124, op := _, type := _, pos := _, after := _, guard := some (10, true) }) (v := ?vr6_12) rfl (by kernel_rfl) (by kernel_rfl) (by kernel_rfl) (fun _ _ _ h => h) (Or.inl ⟨by rfl, ?hyr6_12⟩) (by assumption) ?restr6_12
                        case hyr6_12 => (intro w hSw; (try dsimp only at hSw); go_simp <;> with_reducible rfl)
                        (try simp only [Act.put, List.setIfInBounds_toArray, List.set_cons_zero, List.set_cons_succ])
                        refine wpAnyH_take (i := 13) (oi := { dst := some 125, op := _, type := _, pos := _, after := _, guard := some (10, true) }) (v := ?vr6_13) rfl (by kernel_rfl) (by kernel_rfl) (by kernel_rfl) (fun _ _ _ h => h) (Or.inl ⟨by rfl, ?hyr6_13⟩) (by assumption) ?restr6_13
                        case hyr6_13 => (intro w hSw; (try dsimp only at hSw); go_simp <;> with_reducible rfl)
                        (try simp only [Act.put, List.setIfInBounds_toArray, List.set_cons_zero, List.set_cons_succ])
                        refine wpAnyH_ready (rs := [14]) (by kernel_rfl) (by simp) ?_
                        refine AllReadyH.cons (o := { dst := some 126, op := _, type := _, pos := _, after := _, guard := some (10, true) }) rfl (fun K hK => ?_) AllReadyH.nil
                        go_simp
                        (refine (hA1.out _ (b_drew WZ)).mono ?_; rintro e wq0 ⟨rfl, bb0⟩; have bq0 := b_then (b_drew WZ) bb0)
                        (try go_wp2_with fail)
                        refine hK.out _ _ ((hS.out _ bq0)) (fun hHeld => ?_)
                        clear hK K
                        (try simp only [Act.put, List.setIfInBounds_toArray, List.set_cons_zero, List.set_cons_succ])
                        refine wpAnyH_take (i := 15) (oi := { dst := some 127, op := _, type := _, pos := _, after := _, guard := some (10, true) }) (v := ?vr6_14) rfl (by kernel_rfl) (by kernel_rfl) (by kernel_rfl) (fun _ _ _ h => h) (Or.inl ⟨by rfl, ?hyr6_14⟩) (by assumption) ?restr6_14
                        case hyr6_14 => (intro w hSw; (try dsimp only at hSw); go_simp <;> with_reducible rfl)
                        (try simp only [Act.put, List.setIfInBounds_toArray, List.set_cons_zero, List.set_cons_succ])
                        refine wpAnyH_take (i := 16) (oi := { dst := some 128, op := _, type := _, pos := _, after := _, guard := some (1, false) }) (v := ?vr6_15) rfl (by kernel_rfl) (by kernel_rfl) (by kernel_rfl) (fun _ _ _ h => h) (Or.inl ⟨by rfl, ?hyr6_15⟩) (by assumption) ?restr6_15
                        case hyr6_15 => (intro w hSw; (try dsimp only at hSw); go_simp <;> with_reducible rfl)
                        (try simp only [Act.put, List.setIfInBounds_toArray, List.set_cons_zero, List.set_cons_succ])
                        refine wpAnyH_take (i := 17) (oi := { dst := some 129, op := _, type := _, pos := _, after := _, guard := none }) (v := ?vr6_16) rfl (by kernel_rfl) (by kernel_rfl) (by kernel_rfl) (fun _ _ _ h => h) (Or.inl ⟨by rfl, ?hyr6_16⟩) (by assumption) ?restr6_16
                        case hyr6_16 => (intro w hSw; (try dsimp only at hSw); go_simp <;> with_reducible rfl)
                        (try simp only [Act.put, List.setIfInBounds_toArray, List.set_cons_zero, List.set_cons_succ])
                        refine wpAnyH_take (i := 18) (oi := { dst := some 130, op := _, type := _, pos := _, after := _, guard := none }) (v := ?vr6_17) rfl (by kernel_rfl) (by kernel_rfl) (by kernel_rfl) (fun _ _ _ h => h) (Or.inl ⟨by rfl, ?hyr6_17⟩) (by assumption) ?restr6_17
                        case hyr6_17 => (intro w hSw; (try dsimp only at hSw); go_simp <;> with_reducible rfl)
                        (try simp only [Act.put, List.setIfInBounds_toArray, List.set_cons_zero, List.set_cons_succ])
                        refine wpAnyH_take (i := 19) (oi := { dst := some 131, op := _, type := _, pos := _, after := _, guard := some (18, false) }) (v := ?vr6_18) rfl (by kernel_rfl) (by kernel_rfl) (by kernel_rfl) (fun _ _ _ h => h) (Or.inl ⟨by rfl, ?hyr6_18⟩) (by assumption) ?restr6_18
                        case hyr6_18 => (intro w hSw; (try dsimp only at hSw); go_simp <;> with_reducible rfl)
                        (try simp only [Act.put, List.setIfInBounds_toArray, List.set_cons_zero, List.set_cons_succ])
                        refine wpAnyH_take (i := 20) (oi := { dst := some 132, op := _, type := _, pos := _, after := _, guard := some (18, false) }) (v := ?vr6_19) rfl (by kernel_rfl) (by kernel_rfl) (by kernel_rfl) (fun _ _ _ h => h) (Or.inl ⟨by rfl, ?hyr6_19⟩) (by assumption) ?restr6_19
                        case hyr6_19 => (intro w hSw; (try dsimp only at hSw); go_simp <;> with_reducible rfl)
                        (try simp only [Act.put, List.setIfInBounds_toArray, List.set_cons_zero, List.set_cons_succ])
                        refine wpAnyH_take (i := 21) (oi := { dst := some 133, op := _, type := _, pos := _, after := _, guard := some (18, false) }) (v := ?vr6_20) rfl (by kernel_rfl) (by kernel_rfl) (by kernel_rfl) (fun _ _ _ h => h) (Or.inl ⟨by rfl, ?hyr6_20⟩) (by assumption) ?restr6_20
                        case hyr6_20 => (intro w hSw; (try dsimp only at hSw); go_simp <;> with_reducible rfl)
                        (try simp only [Act.put, List.setIfInBounds_toArray, List.set_cons_zero, List.set_cons_succ])
                        refine wpAnyH_take (i := 22) (oi := { dst := some 134, op := _, type := _, pos := _, after := _, guard := some (18, false) }) (v := ?vr6_21) rfl (by kernel_rfl) (by kernel_rfl) (by kernel_rfl) (fun _ _ _ h => h) (Or.inl ⟨by rfl, ?hyr6_21⟩) (by assumption) ?restr6_21
                        case hyr6_21 => (intro w hSw; (try dsimp only at hSw); go_simp <;> with_reducible rfl)
                        (try simp only [Act.put, List.setIfInBounds_toArray, List.set_cons_zero, List.set_cons_succ])
                        refine wpAnyH_take (i := 23) (oi := { dst := some 135, op := _, type := _, pos := _, after := _, guard := some (18, false) }) (v := ?vr6_22) rfl (by kernel_rfl) (by kernel_rfl) (by kernel_rfl) (fun _ _ _ h => h) (Or.inl ⟨by rfl, ?hyr6_22⟩) (by assumption) ?restr6_22
                        case hyr6_22 => (intro w hSw; (try dsimp only at hSw); go_simp <;> with_reducible rfl)
                        (try simp only [Act.put, List.setIfInBounds_toArray, List.set_cons_zero, List.set_cons_succ])
                        refine wpAnyH_ready (rs := [24]) (by kernel_rfl) (by simp) ?_
                        refine AllReadyH.cons (o := { dst := some 136, op := _, type := _, pos := _, after := _, guard := some (18, false) }) rfl (fun K hK => ?_) AllReadyH.nil
                        go_simp
                        (refine (hF1.out _ bq0).mono ?_; rintro e wq1 ⟨rfl, bb1⟩; have bq1 := b_then bq0 bb1)
                        (try go_wp2_with fail)
                        refine hK.out _ _ ((hS.out _ bq1)) (fun hHeld => ?_)
                        clear hK K
                        (try simp only [Act.put, List.setIfInBounds_toArray, List.set_cons_zero, List.set_cons_succ])
                        refine wpAnyH_take (i := 25) (oi := { dst := some 137, op := _, type := _, pos := _, after := _, guard := some (18, false) }) (v := ?vr6_23) rfl (by kernel_rfl) (by kernel_rfl) (by kernel_rfl) (fun _ _ _ h => h) (Or.inl ⟨by rfl, ?hyr6_23⟩) (by assumption) ?restr6_23
                        case hyr6_23 => (intro w hSw; (try dsimp only at hSw); go_simp <;> with_reducible rfl)
                        (try simp only [Act.put, List.setIfInBounds_toArray, List.set_cons_zero, List.set_cons_succ])
                        refine wpAnyH_take (i := 26) (oi := { dst := some 138, op := _, type := _, pos := _, after := _, guard := some (18, false) }) (v := ?vr6_24) rfl (by kernel_rfl) (by kernel_rfl) (by kernel_rfl) (fun _ _ _ h => h) (Or.inl ⟨by rfl, ?hyr6_24⟩) (by assumption) ?restr6_24
                        case hyr6_24 => (intro w hSw; (try dsimp only at hSw); go_simp <;> with_reducible rfl)
                        (try simp only [Act.put, List.setIfInBounds_toArray, List.set_cons_zero, List.set_cons_succ])
                        refine wpAnyH_take (i := 27) (oi := { dst := some 139, op := _, type := _, pos := _, after := _, guard := some (26, true) }) (v := ?vr6_25) rfl (by kernel_rfl) (by kernel_rfl) (by kernel_rfl) (fun _ _ _ h => h) (Or.inl ⟨by rfl, ?hyr6_25⟩) (by assumption) ?restr6_25
                        case hyr6_25 => (intro w hSw; (try dsimp only at hSw); go_simp <;> with_reducible rfl)
                        (try simp only [Act.put, List.setIfInBounds_toArray, List.set_cons_zero, List.set_cons_succ])
                        refine wpAnyH_take (i := 28) (oi := { dst := some 140, op := _, type := _, pos := _, after := _, guard := some (26, true) }) (v := ?vr6_26) rfl (by kernel_rfl) (by kernel_rfl) (by kernel_rfl) (fun _ _ _ h => h) (Or.inl ⟨by rfl, ?hyr6_26⟩) (by assumption) ?restr6_26
                        case hyr6_26 => (intro w hSw; (try dsimp only at hSw); go_simp <;> with_reducible rfl)
                        (try simp only [Act.put, List.setIfInBounds_toArray, List.set_cons_zero, List.set_cons_succ])
                        refine wpAnyH_ready (rs := [29]) (by kernel_rfl) (by simp) ?_
                        refine AllReadyH.cons (o := { dst := some 141, op := _, type := _, pos := _, after := _, guard := some (26, true) }) rfl (fun K hK => ?_) AllReadyH.nil
                        go_simp
                        (refine (hN1.out _ bq1).mono ?_; rintro e wq2 ⟨rfl, bb2⟩; have bq2 := b_then bq1 bb2)
                        (try go_wp2_with fail)
                        refine hK.out _ _ ((hS.out _ bq2)) (fun hHeld => ?_)
                        clear hK K
                        (try simp only [Act.put, List.setIfInBounds_toArray, List.set_cons_zero, List.set_cons_succ])
                        refine wpAnyH_take (i := 30) (oi := { dst := some 142, op := _, type := _, pos := _, after := _, guard := some (26, true) }) (v := ?vr6_27) rfl (by kernel_rfl) (by kernel_rfl) (by kernel_rfl) (fun _ _ _ h => h) (Or.inl ⟨by rfl, ?hyr6_27⟩) (by assumption) ?restr6_27
                        case hyr6_27 => (intro w hSw; (try dsimp only at hSw); go_simp <;> with_reducible rfl)
                        (try simp only [Act.put, List.setIfInBounds_toArray, List.set_cons_zero, List.set_cons_succ])
                        refine wpAnyH_take (i := 31) (oi := { dst := some 143, op := _, type := _, pos := _, after := _, guard := some (18, false) }) (v := ?vr6_28) rfl (by kernel_rfl) (by kernel_rfl) (by kernel_rfl) (fun _ _ _ h => h) (Or.inl ⟨by rfl, ?hyr6_28⟩) (by assumption) ?restr6_28
                        case hyr6_28 => (intro w hSw; (try dsimp only at hSw); go_simp <;> with_reducible rfl)
                        (try simp only [Act.put, List.setIfInBounds_toArray, List.set_cons_zero, List.set_cons_succ])
                        refine wpAnyH_take (i := 32) (oi := { dst := some 144, op := _, type := _, pos := _, after := _, guard := none }) (v := ?vr6_29) rfl (by kernel_rfl) (by kernel_rfl) (by kernel_rfl) (fun _ _ _ h => h) (Or.inl ⟨by rfl, ?hyr6_29⟩) (by assumption) ?restr6_29
                        case hyr6_29 => (intro w hSw; (try dsimp only at hSw); go_simp <;> with_reducible rfl)
                        (try simp only [Act.put, List.setIfInBounds_toArray, List.set_cons_zero, List.set_cons_succ])
                        refine wpAnyH_take (i := 33) (oi := { dst := some 9, op := _, type := _, pos := _, after := _, guard := none }) (v := ?vr6_30) rfl (by kernel_rfl) (by kernel_rfl) (by kernel_rfl) (fun _ _ _ h => h) (Or.inl ⟨by rfl, ?hyr6_30⟩) (by assumption) ?restr6_30
                        case hyr6_30 => (intro w hSw; (try dsimp only at hSw); go_simp <;> with_reducible rfl)
                        (try simp only [Act.put, List.setIfInBounds_toArray, List.set_cons_zero, List.set_cons_succ])
                        refine wpAnyH_done (by kernel_rfl) ?_ _
                        have hEb := Lib.hid bq2
                        clear hS hA1 hF1 hN1 bq0 bb0 bq1 bb1 bq2 bb2
                        go_wp2
                        exact ⟨⟨d + 1, !s2, by omega, by go_num, rfl, Lib.hid (hnx2.out _ (fun h => ⟨by first | trivial | rfl, hE2.out (by cases s2 with | true => rfl | false => cases h)⟩)), Lib.hid (hBz.out _ hEb.out)⟩, by simp [intOf]; omega⟩
            · have hdk : d = nk := by omega
              subst hdk
              have dd : decide ((d : Int) < d) = false := decide_eq_false (by omega)
              have hz2 := Lib.hid fun (h : z = false) => (show cl = false ∧ (8 < (below B p).length → ∀ e, e < 16 → Tr.Fair A B p e) from by
                obtain ⟨g1, g2⟩ := hz.out h
                exact ⟨g1, fun g3 e he => g2 e (by rw [hnk2.out (by rw [← hq.out]; exact g3)]; exact he)⟩)
              have bwr := Lib.hid (b_then bw9.out hBr.out)
              have hDr1 := hDr.out (.slice ai ni ci) (.slice ak d ck) wr bwr.out ⟨ai, ci, bi, oi, by rw [hni.out], by rw [hni.out]; exact hci, hTi.out.next hBr.out⟩ ⟨ak, ck, bk, ok, by rw [hnk.out], by rw [hnk.out]; exact hck, hTk.out.next hBr.out⟩
              replace hDr1 := Lib.hid hDr1
              clear hlt hz hp64 hnk2 hnk3 hLx hAx hNx hFx n16 hDr hTi hTk hci hck hBr bw9 cX9 hIK hq
              go_wp2_with fail
              refine hDr1.out.mono ?_
              rintro e w10 ⟨v1, v2, rfl, hm10, hs10, p10⟩
              obtain ⟨am, cm, bm, om, rfl, hcm, hTm⟩ := hm10
              have bw10 := Lib.hid (b_then bwr.out p10)
              have hB10 := Lib.hid (b_then hB1.out bw10.out)
              have hO10 := Lib.hid (hO1.out.next bw10.out)
              have hF10 := Lib.hid (hFa.out.next bw10.out)
              obtain ⟨nm, hnm⟩ : ∃ nm, Hid (M.length = nm) := ⟨_, Lib.hid rfl⟩
              rw [hnm.out] at hcm hLn ⊢
              have hnm8 : nm ≤ 8 := hLn.out
              replace hTm := Lib.hid hTm
              replace hs10 := Lib.hid hs10
              clear x0 x1 x2 x3 x4 hDr1 p10 bwr bw10 hO1 hFa hB1 hTA1 hTB1 hK1 dd hcm
              go_wp2
              go_loopw [21] (fun i wr => ∃ (j : Nat) (fo : List ByteArray), j ≤ nm ∧ i = .int .i64 (j : Int) ∧ Hid (Ts.SetAt wr (some ⟨fb, 0, none⟩) fo) ∧ Hid (Rises fo) ∧ Hid (fo.length ≤ found.length + j) ∧ Hid (∀ x, x ∈ fo ↔ x ∈ found ∨ x ∈ M.take j) ∧ Hid (w10.grownBy wr (some fb))) (fun i _ => nm - (intOf i).toNat)
              case atStart => exact ⟨0, found, Nat.zero_le _, rfl, hF10, hRi, Lib.hid (Nat.le_refl _), Lib.hid fun x => by simp, Lib.hid (World.grownBy.refl _ _)⟩
              case round =>
                obtain ⟨j, fo, hj, rfl, hFo, hRo, hlo, hmo, hgo⟩ := hrel
                have hTm2 := hTm.out.turned hgo.out fun h0 => box_not_text hF10.out (hTm.out.cell 0 _ (List.getElem?_eq_getElem h0))
                by_cases hlt : j < nm
                · have i1 : (j : Int) < nm := by omega
                  have i0 : 0 ≤ (j : Int) := by omega
                  have hjl : j < M.length := by rw [hnm.out]; exact hlt
                  have ha := hTm.out.addr (by omega)
                  subst ha
                  have c0 := hTm2.cell j _ (List.getElem?_eq_getElem hjl)
                  obtain ⟨x, hx⟩ : ∃ x, Hid (M[j] = x) := ⟨_, Lib.hid rfl⟩
                  rw [hx.out] at c0
                  have hxM : x ∈ M := by rw [← hx.out]; exact List.getElem_mem hjl
                  have hxn : x ∉ fo := fun h => by
                    rcases (hmo.out x).1 h with h | h
                    · exact hfr.out x hxM h
                    · obtain ⟨i, hi, e⟩ := List.mem_iff_getElem.1 h
                      rw [List.length_take] at hi
                      rw [List.getElem_take] at e
                      have := nth_rise hLr.out (i := i) (j := j) (by omega) hjl
                      rw [e, hx.out] at this
                      exact Sh.lt_ne this rfl
                  have hAd := Ts.Add_calls wr fb fo x hFo.out hRo.out (by have := hlo.out; have := hln.out; omega)
                  have hno : Sh.has (Sh.Ent.key x) fo = false := by
                    rw [Bool.eq_false_iff]; exact fun h => hxn (has_mem.1 h)
                  rw [hno] at hAd
                  have hmo2 : Hid (∀ y, y ∈ Sh.ins x fo ↔ y ∈ found ∨ y ∈ M.take (j + 1)) := Lib.hid fun y => by
                    rw [mem_ins_iff, hmo.out y, take_next' hjl, List.mem_append, List.mem_singleton, hx.out]
                    constructor
                    · rintro (h | h | h)
                      · exact Or.inr (Or.inr h)
                      · exact Or.inl h
                      · exact Or.inr (Or.inl h)
                    · rintro (h | h | h)
                      · exact Or.inr (Or.inl h)
                      · exact Or.inr (Or.inr h)
                      · exact Or.inl h
                  have hRo2 := Lib.hid (Sh.rises_ins x hRo.out)
                  have hlo2 : Hid ((Sh.ins x fo).length ≤ found.length + (j + 1)) := Lib.hid (by have := Sh.ins_len_le x fo; have := hlo.out; omega)
                  replace hAd := Lib.hid hAd
                  clear hmo hRo hlo hno hxn hxM hTm2 hFo
                  go_wp2_with fail
                  refine hAd.out.mono ?_
                  rintro e w11 ⟨rfl, hT11⟩
                  have hF11 := Lib.hid hT11.1
                  have hg11 := Lib.hid (hgo.out.trans hT11.2)
                  clear hAd hT11 hgo c0
                  go_wp2
                  exact ⟨⟨j + 1, _, by omega, by go_num, hF11, hRo2, hlo2, hmo2, hg11⟩, by simp [intOf]; omega⟩
                · obtain rfl : j = nm := by omega
                  have dj : decide ((j : Int) < j) = false := decide_eq_false (by omega)
                  have hO11 := Lib.hid (hO10.out.turned hgo.out (box_not_row hF10.out hO10.out))
                  have hs11 := Lib.hid (hs10.out.turned hgo.out hF10.out)
                  have hB11 := Lib.hid (hB10.out.grown hgo.out hB10.out.size (fun j e => by cases e; exact hfb3))
                  have hmo2 : ∀ x, x ∈ fo ↔ x ∈ found ∨ x ∈ M := fun x => by have := hmo.out x; rwa [List.take_of_length_le (by rw [hnm.out]; omega)] at this
                  have hHu2 : Hid (Hunt A B (r ++ S) fo z) := Lib.hid (by
                    rw [← hS.out]
                    exact hHu.out.round hSet2.out (fun x => by rw [hM.out]; exact hmo2 x) hz2.out)
                  have hbu2 : Hid (k + 1 + busyAll B (r ++ S) ≤ 10241) := Lib.hid (by
                    have h1 := hbu.out
                    rw [busyAll_cons] at h1
                    have h2 := busy_round (A := A) hSet2.out p
                    rw [hS.out] at h2
                    rw [busyAll_append]
                    omega)
                  have hlo2 : Hid (fo.length ≤ 8 * (k + 1)) := Lib.hid (by have := hlo.out; have := hln.out; have := hLn.out; omega)
                  have hsz := hB11.out.size
                  have hSn := hAn.out
                  clear hgo hmo hmo2 hlo hTm2 hz2 hTm hO10 hs10 hB10 hF10 hAn hLn
                  go_wp2_with (at_builtin; refine wpl_append_tx rfl _ _ rfl w3.heap.size g' cp' nr r S v2 hnr.out rfl rfl hO11.out hs11.out (by rw [hnr.out]; omega) hsz ?_)
                  intro g2 cp2 w12 h1 h2
                  obtain ⟨T, hT⟩ : ∃ T, r ++ S = T := ⟨_, rfl⟩
                  have hTl : r.length + S.length = T.length := by rw [← hT, List.length_append]
                  (try rw [List.length_append] at h1)
                  (try rw [List.length_append])
                  rw [hTl, hT] at h1
                  rw [hTl]
                  rw [hT] at hHu2 hbu2
                  have hO12 := Lib.hid h1
                  have hF12 := Lib.hid (set_row hFo.out hO11.out rfl h2)
                  have hB12 := Lib.hid (hB11.out.grown h2 hsz (fun j e => by cases e; exact (own_tx hO11.out).2.2.2))
                  clear h1 h2 hO11 hs11 hB11 hFo hT hTl
                  go_wp2
                  exact ⟨⟨T, fo, z, k + 1, g2, cp2, rfl, rfl, by go_num, hO12, hB12, hF12, hRo, hlo2, hHu2, hbu2⟩, by simp [intOf]; omega⟩

theorem own : ownKnob Tryz.prog.godebug = none := by kernel_rfl
theorem laidOut : laidOutB Tryz.prog = true := by kernel_rfl
set_option maxRecDepth 100000 in
theorem lifted (os : Os) (started : os.Started) (H : Type) (enc : TypeId × Value → H) :
    ReturnsInHanded {} Tryz.checked os 5 .any (fun w args => (Rows.trieFindsSpec.pre enc Tryz.prog Tryz.f5 [] false w args ∧ laidMetH Tryz.prog Rows.trieFindsRow.laid w) ∧ sizedMet enc Tryz.prog Tryz.f5 (OpenSpec.ofChange Rows.trieFindsSpec) false w args) (Rows.trieFindsSpec.post enc Tryz.prog Tryz.f5 false true false false) := by
  refine returnsInHanded_of_change_and (C := Tryz.checked) (X := (fun w _ => laidMetH Tryz.prog Rows.trieFindsRow.laid w)) (fun _ _ _ hh h => h.of_heap hh) own started (by kernel_rfl) Tryz.func5
    (ChangeSpec.witness_shaped (enc := enc) (C := Tryz.checked) (os := os) (X := (fun w _ => laidMetH Tryz.prog Rows.trieFindsRow.laid w)) false (World.doorLaid Tryz.prog 14 os) #[.slice none 0 0, .slice none 0 0] 8 rfl (World.shaped_of_RefB (by kernel_rfl) (by kernel_rfl)) (by kernel_rfl) (by kernel_rfl) (by kernel_rfl) (Sha.door_met os _)) ?_
  intro W base args ds gs before hval0 hW hcnd hsz0 hL _
  have hval : ∀ (j : Nat) t v, Tryz.f5.params[j]? = some t → args[j]? = some v → Value.okWide Tryz.prog W .any base t v := hval0
  have hsz : (DataW.weightsEach Tryz.prog (Tryz.f5.params.toList ++ Rows.trieFindsSpec.plain.varTypes Tryz.prog) (ds ++ gs)).all (· ≤ reachBytes) = true := hsz0
  have hW' := hW
  obtain ⟨p, q, hA0, hV, rfl, hfz, hnd⟩ := hW
  have hA : DataW.TrodAll enc Tryz.prog W 0 (fun _ => true) true Tryz.f5.params.toList args.toList ds p := hA0
  rw [Tryz.params5] at hA hval hsz
  obtain ⟨v0, vs0, d0, ds0, p0, q0, hargs, rfl, rfl, h0, r0⟩ := trodAll_cons hA
  obtain ⟨v1, vs1, d1, ds1, p1, q1, rfl, rfl, rfl, h1, r1⟩ := trodAll_cons r0
  obtain ⟨rfl, rfl, rfl⟩ := trodAll_nil r1
  obtain rfl : args = #[v0, v1] := by cases args; simp_all
  obtain ⟨rfl, rfl⟩ := trodVars_none hV
  have k0 := h0
  have lt0 : ∀ x ∈ p0, x.block < W.heap.size := by obtain ⟨m, hm⟩ := k0; exact DataW.trod_lt m _ _ _ hm
  have ok0 := hval 0 36 v0 rfl rfl
  have k1 := h1
  have lt1 : ∀ x ∈ p1, x.block < W.heap.size := by obtain ⟨m, hm⟩ := k1; exact DataW.trod_lt m _ _ _ hm
  have ok1 := hval 1 36 v1 rfl rfl
  clear hA0 hval0 hsz0
  obtain ⟨a0, len, cap, b, off, F, rfl, hF, hl⟩ := open_rows Tryz.underlying36 Tryz.underlying54 Tryz.underlying5 (by kernel_rfl) (by kernel_rfl) (of_decide_eq_true (by kernel_rfl)) ok0 h0 (Oct.arg_weights hsz (j := 0) (t := 36) rfl rfl)
  obtain ⟨a1, len1, cap1, b1, off1, G, rfl, hG, hl1⟩ := open_rows Tryz.underlying36 Tryz.underlying54 Tryz.underlying5 (by kernel_rfl) (by kernel_rfl) (of_decide_eq_true (by kernel_rfl)) ok1 h1 (Oct.arg_weights hsz (j := 1) (t := 36) rfl rfl)
  refine (walk a0 len cap b off F a1 len1 cap1 b1 off1 G W hF hG (Sha.kc_of_laid hL)).mono fun e W' ⟨he, bel⟩ => ?_
  subst he
  exact ⟨_, rfl, _, _, _, [], _, [], hW', trodAll_mk1 (shut_bool Tryz.underlying4 _), (trodAll_cons_mk (Below.trod laidOut (by kernel_rfl) (of_decide_eq_true (by kernel_rfl)) k0 bel lt0) (trodAll_cons_mk (Below.trod laidOut (by kernel_rfl) (of_decide_eq_true (by kernel_rfl)) k1 bel lt1) trodAll_mk0)), rfl, bel.frame _, fun h => by cases h⟩

/-- the row -/
theorem row_proved : Rows.TrieFindsSaid :=
  OpenClaim.holds_of_wide 5 Tryz.f5 rfl rfl rfl rfl rfl rfl rfl ⟨rfl, rfl, rfl, rfl, rfl⟩ rfl rfl rfl rfl rfl (by kernel_rfl) Tryz.func5 (by kernel_rfl)
    (of_decide_eq_true (by kernel_rfl)) (by unfold Func.isWrapper; first | (rw [if_pos (by decide +kernel)]; kernel_rfl) | (rw [if_neg (by decide +kernel)]; exact ⟨rfl, rfl⟩))
    (fun os started H enc _ => lifted os started H enc)
/-- the statement: the tied card -/
theorem proved : Rows.TrieFindsCardSaid :=
  Claim7.holds_tied_plain_at .later [] Rows.trieFindsCard.laidKinds true Rows.trieFindsCard.stood.harness Rows.trieFindsCard.stood.looks row_proved (fun _ h => by cases h) (by kernel_rfl) (fun _ h => by cases h) trieFinds_row_tie rfl ⟨rfl, rfl⟩ (by kernel_rfl) rfl
    (fun f fn hf hfn => by
      obtain rfl : f = 5 := Option.some.inj ((show Tryz.prog.funcNamed Rows.trieFindsRow.func = some 5 by kernel_rfl).symm.trans hf) |>.symm
      obtain rfl : fn = Tryz.f5 := (Option.some.inj (Tryz.func5.symm.trans hfn)).symm
      exact ⟨by kernel_rfl, fun j t ht => by
        rw [Tryz.params5] at ht
        have hm : t ∈ [36, 36] := by simpa using Array.mem_of_getElem? ht
        have hall : ([36, 36].all fun u => !Tryz.prog.wantsStandIn u) = true := by kernel_rfl
        exact (show Tryz.prog.wantsStandIn t = false by simpa using List.all_eq_true.1 hall t hm)⟩)
    (by kernel_rfl)
end Go.Proofs.YtdmpkgdlelagjaaGreatDoor.trieFinds
