/-
  Of every nodes and keys: what is reached is closed, and is reached again from itself, and from more keys no less (GraphCloses). Conditions: none.
-/
import Derived.Test.YtcoccaglbepbdaaGreatRows
import Derived.Test.YtcoccaglbepbdaaGreatOctKit
import Derived.Test.YtcoccaglbepbdaaGreatGrApp
import Derived.Test.YtcoccaglbepbdaaGreatGrOpen
import Derived.ProofKit
import Derived.OpenShut
import Derived.Stop.Joined
namespace Go.Proofs.YtcoccaglbepbdaaGreat.graphCloses
open Go Go.ChangeShapes Go.WideShapes Go.ChangeAt Go.RowKit Sh Gr
open Rf (Sl reads_sl sl_open)
open Rg (NodesAt Both Built setOf mem_setOf setOf_rises setOf_self)
open Ti (SetAt keysV)
attribute [local go_sem] fold_none

theorem all_has {A B : List Int} (h : ∀ x ∈ A, x ∈ B) : (A.all fun x => has x B) = true := by
  rw [List.all_eq_true]
  intro x hx
  rw [Rg.has_mem]
  simpa using h x hx
/-- what is reached from one's own reach, and from more -/
theorem again_sub {G : Gph} {F M M2 : List Int} (hM : IsMet G.T F M) (h2 : IsMet G.T (reach G.D M) M2) : ∀ x ∈ reach G.D M2, x ∈ reach G.D M := fun x hx => by
  obtain ⟨h3, h4⟩ := mem_reach.1 hx
  exact mem_reach.2 ⟨(hM.2 x).2 (((h2.2 x).1 h3).again fun y hy => (hM.2 y).1 (mem_reach.1 hy).1), h4⟩
theorem sub_again {G : Gph} {M M2 : List Int} (h2 : IsMet G.T (reach G.D M) M2) : ∀ x ∈ reach G.D M, x ∈ reach G.D M2 := fun x hx => mem_reach.2 ⟨(h2.2 x).2 (.here hx), (mem_reach.1 hx).2⟩
theorem sub_more {G : Gph} {F N M M3 : List Int} (hM : IsMet G.T F M) (h3 : IsMet G.T (F ++ N) M3) : ∀ x ∈ reach G.D M, x ∈ reach G.D M3 := fun x hx => by
  obtain ⟨h4, h5⟩ := mem_reach.1 hx
  exact mem_reach.2 ⟨(h3.2 x).2 (((hM.2 x).1 h4).mono fun y hy => List.mem_append.2 (Or.inl hy)), h5⟩
theorem meet_none (D M : List Int) : ((reach D M).filter fun x => has x (opened D M)) = [] := by
  rw [List.filter_eq_nil_iff]
  intro x hx
  rw [Rg.has_mem]
  simp only [decide_eq_true_eq]
  exact fun h => (mem_opened.1 h).2 (mem_reach.1 hx).2
theorem union_met {D M L : List Int} (hM : Rises M) (h : Ti.IsOf (reach D M ++ opened D M) L) : L = M := rises_one h.1 hM fun x => by
  rw [h.2.1, List.mem_append, mem_reach, mem_opened]
  by_cases hd : x ∈ D <;> simp [hd]
theorem reach_few {G : Gph} {M : List Int} (hS : Small G) (hM : Rises M) : (reach G.D M).length ≤ 60 := Nat.le_trans (nodup_len _ G.D (rises_nodup (reach_rises hM)) fun x hx => (mem_reach.1 hx).2) hS.nodes

set_option maxHeartbeats 16000000 in
set_option maxRecDepth 100000 in
theorem walk (w : World) (s : Option Addr) (cap g off : Nat) (P : List (Int × Value)) (T : Nat → List Int) (hN : NodesAt w s g off P) (hT : ∀ i p, P[i]? = some p → Sl w p.2 (T i)) (sk sm : Option Addr) (ck nk cm nm : Nat) (K N : List Int) (hnk : K.length = nk) (hnm : N.length = nm) (hv : Sl w (.slice sk nk ck) K) (hu : Sl w (.slice sm nm cm) N) :
    Calls Tryz.prog 6 #[.slice s P.length cap, .slice sk nk ck, .slice sm nm cm] w fun e w' => e = .returned (.bool true) ∧ Below w.heap.size w w' := by
  have hAw := Lib.hid (Rg.awake_calls w)
  have hBu := Lib.hid fun w' (hb : Below w.heap.size w w') => Rg.built_calls w' s cap g off P T (hN.next hb) fun i p h => (hT i p h).next hb
  obtain ⟨np, hnp⟩ : ∃ np, Hid (P.length = np) := ⟨_, Lib.hid rfl⟩
  replace hv := Lib.hid hv
  replace hu := Lib.hid hu
  rw [hnp.out] at hBu ⊢
  clear hN hT
  go_enter Tryz.func6, Tryz.ntmps6
  go_wp2_with (go_at_call 9; refine hAw.out.mono ?_; rintro e w1 ⟨rfl, b1⟩; have hB2 := Lib.hid (hBu.out w1 b1); replace b1 := Lib.hid b1; clear hAw hBu)
  refine hB2.out.mono ?_
  rintro e w2 ⟨b, m, b2, ok, rfl, c2, ⟨rfl, -⟩ | ⟨rfl, hS, hBo⟩⟩
  · have hend := Lib.hid (b_then b1.out c2)
    clear c2 hB2 b1
    go_wp2
    go_ret
    exact ⟨rfl, hend.out⟩
  · have b02 := Lib.hid (b_then b1.out c2)
    clear c2 hB2 b1
    by_cases hk : 60 < nk
    · have l1 : (60 : Int) < nk := by omega
      clear hk hS hBo
      go_wp2
      go_ret
      exact ⟨rfl, b02.out⟩
    by_cases hk2 : 60 < nm
    · have l1 : ¬ (60 : Int) < nk := by omega
      have l2 : (60 : Int) < nm := by omega
      clear hk hk2 hS hBo
      go_wp2
      go_ret
      exact ⟨rfl, b02.out⟩
    · have l1 : ¬ (60 : Int) < nk := by omega
      have l1b : ¬ (60 : Int) < nm := by omega
      have hK6 : Hid (K.length ≤ 60) := Lib.hid (by omega)
      have hN6 : Hid (N.length ≤ 60) := Lib.hid (by omega)
      have hnk2 := Lib.hid hnk
      obtain ⟨G, hG⟩ : ∃ G, G = Rg.gph P T P.length := ⟨_, rfl⟩
      rw [← hG] at hS hBo
      clear hk hk2 hG hnk hnm
      have hv2 := Lib.hid (hv.out.next b02.out)
      have hu2 := Lib.hid (hu.out.next b02.out)
      have hGr := Lib.hid fun w' hb => hBo.gr.next (W' := w') hb
      have hS2 := Lib.hid hS
      have hRe := Lib.hid (Reach_calls w2 b m G _ K hBo.gr hS (by have := hK6.out; omega) hv2.out)
      clear hBo hS
      go_wp2_with fail
      refine hRe.out.mono ?_
      rintro e w3 ⟨M, hM, hMl, u3, rfl, s3, b3⟩
      have hfew := Lib.hid (reach_few hS2.out hM.1)
      have hO3 := Rg.of_calls w3 u3 (reach G.D M) (by have := hfew.out; omega) s3
      rw [setOf_self (reach_rises hM.1)] at hO3
      replace hO3 := Lib.hid hO3
      obtain ⟨a3, k3, rfl, -⟩ := sl_box s3
      replace b3 := Lib.hid b3
      replace hM := Lib.hid hM
      replace hMl := Lib.hid hMl
      clear hRe s3
      go_wp2_with fail
      refine hO3.out.mono ?_
      rintro e w4 ⟨mb, rfl, -, m4, b4⟩
      have b24 := Lib.hid (b_then b3.out b4)
      have hOp := Lib.hid (Open_calls w4 b m G _ K (hGr.out _ b24.out) hS2.out (by have := hK6.out; omega) (hv2.out.next b24.out))
      replace m4 := Lib.hid m4
      clear hO3 b3 b4
      go_wp2_with fail
      refine hOp.out.mono ?_
      rintro e w5 ⟨M5, hM5, -, u5, rfl, s5, b5⟩
      obtain rfl := hM5.unique hM.out
      have hO5 := Rg.of_calls w5 u5 (opened G.D M5) (Nat.le_trans (List.length_filter_le _ _) (Nat.le_trans hMl.out (by omega))) s5
      rw [setOf_self (opened_rises hM.out.1)] at hO5
      replace hO5 := Lib.hid hO5
      obtain ⟨a5, k5, rfl, -⟩ := sl_box s5
      have m5 := Lib.hid (m4.out.next b5)
      have b25 := Lib.hid (b_then b24.out b5)
      clear hOp hM5 s5 b5 m4 b24
      go_wp2_with fail
      refine hO5.out.mono ?_
      rintro e w6 ⟨ob, rfl, -, o6, b6⟩
      have m6 := Lib.hid (m5.out.next b6)
      have b26 := Lib.hid (b_then b25.out b6)
      have hMe := Ti.Meet_calls w6 _ _ _ _ m6.out o6 (reach_rises hM.out.1) (opened_rises hM.out.1) (by have := hfew.out; omega)
      rw [meet_none] at hMe
      replace hMe := Lib.hid hMe
      replace o6 := Lib.hid o6
      clear hO5 m5 b25 b6
      go_wp2_with fail
      refine hMe.out.mono ?_
      rintro e w7 ⟨xb, rfl, -, x7, b7⟩
      have hLe := Lib.hid (Ti.SetLen_calls w7 _ _ x7)
      have m7 := Lib.hid (m6.out.next b7)
      have o7 := Lib.hid (o6.out.next b7)
      have b27 := Lib.hid (b_then b26.out b7)
      have hUn := Lib.hid (Ti.Union_calls w7 _ _ _ _ m7.out o7.out (by have := hfew.out; omega) (Nat.le_trans (List.length_filter_le _ _) (Nat.le_trans hMl.out (by omega))))
      clear hMe x7 b7 m6 o6 b26
      go_wp2_with fail
      refine hLe.out.mono ?_
      rintro e w8 ⟨rfl, hw8⟩
      obtain rfl := hw8.symm
      clear hw8 hLe
      go_wp2_with fail
      refine hUn.out.mono ?_
      rintro e w9 ⟨L9, hL9, ab, rfl, -, a9, b9⟩
      obtain rfl := union_met hM.out.1 hL9
      have m9 := Lib.hid (m7.out.next b9)
      have b29 := Lib.hid (b_then b27.out b9)
      replace a9 := Lib.hid a9
      have hb0 := Lib.hid (Below.refl w9.heap.size w9)
      clear hUn hL9 b9 m7 o7 b27
      go_wp2
      go_loopg [13] nk (fun gg s13 wr => ∃ i : Nat, s13 = .int .i64 (i : Int) ∧ i ≤ nk ∧ nk - i ≤ gg ∧ Hid (Below w9.heap.size w9 wr))
      case atStart => exact ⟨0, rfl, by omega, by omega, hb0⟩
      case round =>
        clear hb0
        obtain ⟨i, rfl, hi, hgg, hb⟩ := hrel
        have b2r := Lib.hid (b_next b29.out hb.out (Nat.le_refl _))
        by_cases hlt : i < nk
        · have hi9 : i < K.length := by rw [hnk2.out]; exact hlt
          obtain ⟨go, oo, rfl, co⟩ := sl_cell (by rw [← hnk2.out] at hv2; exact hv2.out) b2r.out hi9
          have hx : (K[i]?.getD 0) ∈ L9 := (hM.out.2 _).2 (.here (by rw [List.getElem?_eq_getElem hi9]; exact List.getElem_mem _))
          obtain ⟨x, hxe⟩ : ∃ x, Hid (K[i]?.getD 0 = x) := ⟨_, Lib.hid rfl⟩
          rw [hxe.out] at hx co
          have hHa := Ti.Has_calls wr _ L9 x (a9.out.next hb.out) hM.out.1
          rw [show has x L9 = true by rw [Rg.has_mem]; simpa using hx] at hHa
          replace hHa := Lib.hid hHa
          have l2 : (i : Int) < nk := by omega
          have l3 : (0 : Int) ≤ i := by omega
          have hw1 : IntKind.i64.wrap ((i : Int) + 1) = ((i + 1 : Nat) : Int) := wrap_nat (i + 1) (by omega)
          have hms : Hid (nk - (i + 1) < gk) := Lib.hid (by omega)
          have hi2 : Hid (i + 1 ≤ nk) := Lib.hid (by omega)
          clear hgg hlt hi hx hi9 b2r
          go_wp2_with fail
          refine hHa.out.mono ?_
          rintro e wa ⟨rfl, ba⟩
          have hba := Lib.hid (b_next hb.out ba (Nat.le_refl _))
          clear hHa ba hb
          go_wp2
          go_roundg (nk - (i + 1))
          case measure => exact hms.out
          case rel => exact ⟨i + 1, by simp, hi2.out, Nat.le_refl _, hba⟩
        · obtain rfl : i = nk := by omega
          have l2 : ¬ (i : Int) < i := by omega
          have mr := Lib.hid (m9.out.next hb.out)
          have ar := Lib.hid (a9.out.next hb.out)
          have hLi := Lib.hid (Ti.SetList_calls wr _ _ mr.out (by have := hfew.out; omega))
          clear hgg hb m9 a9 b29
          go_wp2_with fail
          refine hLi.out.mono ?_
          rintro e wc hL
          obtain ⟨uc, rfl, sc, bc⟩ := Gr.gives_lists hL
          have mc := Lib.hid (mr.out.next bc)
          have ac := Lib.hid (ar.out.next bc)
          have b2c := Lib.hid (b_next b2r.out bc (Nat.le_refl _))
          obtain ⟨R, hR⟩ : ∃ R, Hid (reach G.D L9 = R) := ⟨_, Lib.hid rfl⟩
          rw [hR.out] at sc hfew mc
          obtain ⟨ac2, kc, rfl, -⟩ := sl_box sc
          obtain ⟨nr, hnr⟩ : ∃ nr, Hid (R.length = nr) := ⟨_, Lib.hid rfl⟩
          rw [hnr.out] at sc hfew ⊢
          have hfe := hfew.out
          replace sc := Lib.hid sc
          have hb0 := Lib.hid (Below.refl wc.heap.size wc)
          clear hLi hL bc mr ar b2r
          go_wp2
          go_loopg [15] nr (fun gg s15 wr => ∃ j : Nat, s15 = .int .i64 (j : Int) ∧ j ≤ nr ∧ nr - j ≤ gg ∧ Hid (Below wc.heap.size wc wr))
          case atStart => exact ⟨0, rfl, by omega, by omega, hb0⟩
          case round =>
            clear hb0
            obtain ⟨j, rfl, hj, hgg, hb⟩ := hrel
            have b2s := Lib.hid (b_next b2c.out hb.out (Nat.le_refl _))
            by_cases hlt : j < nr
            · have hj9 : j < R.length := by rw [hnr.out]; exact hlt
              obtain ⟨go, oo, rfl, co⟩ := sl_cell (by rw [← hnr.out] at sc; exact sc.out) hb.out hj9
              have hy : (R[j]?.getD 0) ∈ R := by rw [List.getElem?_eq_getElem hj9]; exact List.getElem_mem _
              rw [← hR.out] at hy
              obtain ⟨hy1, hy2⟩ := mem_reach.1 hy
              rw [hR.out] at hy1 hy2
              obtain ⟨y, hye⟩ : ∃ y, Hid (R[j]?.getD 0 = y) := ⟨_, Lib.hid rfl⟩
              rw [hye.out] at hy1 hy2 co
              have hclB : Hid (∀ w', Below wc.heap.size wc w' → w'.cell? ⟨go, oo + j, none⟩ = some (.int .i64 y)) := Lib.hid fun w' hb' => by
                obtain ⟨g9, o9, e9, c9⟩ := sl_cell (by rw [← hnr.out] at sc; exact sc.out) hb' hj9
                cases e9
                rw [hye.out] at c9
                exact c9
              have hHa := Gr.Has_calls _ b m G y (hGr.out _ b2s.out)
              rw [show decide (y ∈ G.D) = true by simpa using hy2] at hHa
              replace hHa := Lib.hid hHa
              have hTo := Lib.hid (Rg.to_calls _ b m G y (hGr.out _ b2s.out) hS2.out)
              have hWi := all_has (A := setOf (G.T y)) (B := L9) fun x hx => (hM.out.2 x).2 (.on ((hM.out.2 y).1 hy1) (mem_setOf.1 hx))
              replace hWi := Lib.hid hWi
              have l2 : (j : Int) < nr := by omega
              have l3 : (0 : Int) ≤ j := by omega
              have hw1 : IntKind.i64.wrap ((j : Int) + 1) = ((j + 1 : Nat) : Int) := wrap_nat (j + 1) (by omega)
              have hms : Hid (nr - (j + 1) < gk) := Lib.hid (by omega)
              have hi2 : Hid (j + 1 ≤ nr) := Lib.hid (by omega)
              clear hgg hlt hj hy1 hy2 hj9 b2s hy
              go_wp2_with (first
                | (go_at_call 11; refine hHa.out.mono ?_; rintro e w' ⟨rfl, hw'⟩; obtain rfl := hw'.symm; clear hw' hHa)
                | (go_at_call 14; refine hTo.out.mono ?_; rintro e wd ⟨ud, rfl, sd, bd⟩; have hOd := Lib.hid (Rg.of_calls wd ud (G.T y) (Nat.le_trans (hS2.out.to y) (by omega)) sd); obtain ⟨ad, kd, rfl, -⟩ := sl_box sd; have bbd := Lib.hid (b_next hb.out bd (Nat.le_refl _)); clear sd bd hTo)
                | (go_at_call 26; refine hOd.out.mono ?_; rintro e we ⟨tb, rfl, -, te, be⟩; have bbe := Lib.hid (b_next bbd.out be (Nat.le_refl _)); have hWe := Ti.Within_calls we _ _ _ _ te (ac.out.next bbe.out) hM.out.1; rw [hWi.out] at hWe; replace hWe := Lib.hid hWe; clear te be bbd hOd)
                | (go_at_call 29; refine hWe.out.mono ?_; rintro e wf ⟨rfl, bf⟩; have bbf := Lib.hid (b_next bbe.out bf (Nat.le_refl _)); clear bf bbe hWe))
              go_roundg (nr - (j + 1))
              case measure => exact hms.out
              case rel => exact ⟨j + 1, by simp, hi2.out, Nat.le_refl _, bbf⟩
            · obtain rfl : j = nr := by omega
              have l2 : ¬ (j : Int) < j := by omega
              have ms := Lib.hid (mc.out.next hb.out)
              have hRe := Lib.hid (Reach_calls _ b m G _ R (hGr.out _ b2s.out) hS2.out (by have := hnr.out; omega) (sc.out.next hb.out))
              have hRR : Hid (Rises R) := Lib.hid (by rw [← hR.out]; exact reach_rises hM.out.1)
              clear hgg hb ac mc b2c
              go_wp2_with fail
              refine hRe.out.mono ?_
              rintro e wg ⟨M2, hM2, -, ug, rfl, sg, bg⟩
              have hOg := Rg.of_calls wg ug (reach G.D M2) (by have := reach_few hS2.out hM2.1; omega) sg
              rw [setOf_self (reach_rises hM2.1)] at hOg
              replace hOg := Lib.hid hOg
              obtain ⟨ag, kg, rfl, -⟩ := sl_box sg
              have mg := Lib.hid (ms.out.next bg)
              have b2g := Lib.hid (b_next b2s.out bg (Nat.le_refl _))
              replace hM2 := Lib.hid hM2
              clear hRe sg bg ms b2s
              go_wp2_with fail
              refine hOg.out.mono ?_
              rintro e wh ⟨gb, rfl, -, ah, bh⟩
              have mh := Lib.hid (mg.out.next bh)
              have b2h := Lib.hid (b_next b2g.out bh (Nat.le_refl _))
              replace ah := Lib.hid ah
              have ho0 : Hid ((wh.alloc (.cells #[] 3)).ownsRow wh.heap.size 3 1 (.slice (some ⟨wh.heap.size, 0, none⟩) ([] : List Int).length 0) (keysV []).length (keysV [])) := Lib.hid (Rf.alloc_none wh)
              have b0 := Lib.hid (b_alloc wh (.cells #[] 3))
              have sK := Lib.hid (hv2.out.next (b_then b2h.out b0.out))
              clear hOg mg bh b2g
              go_wp2_with (at_builtin; refine Rg.wpl_append_sl rfl _ _ rfl wh.heap.size wh.heap.size 0 [] K _ rfl rfl ho0.out sK.out ?c1 ?c2 ?_)
              case c1 => have := hK6.out; simp; omega
              case c2 => simp
              intro g1 k1 wi ho1 gr1
              have bi := Lib.hid (b0.out.grown gr1 (by simp) (fun q e => by simp at e; omega))
              have ho1h : Hid (wi.ownsRow wh.heap.size 3 1 (.slice (some ⟨g1, 0, none⟩) K.length k1) (keysV K).length (keysV K)) := Lib.hid (by simpa using ho1)
              have sN := Lib.hid (hu2.out.next (b_then b2h.out bi.out))
              clear ho1 gr1 ho0 b0 sK
              go_wp2_with (at_builtin; refine Rg.wpl_append_sl rfl _ _ rfl wh.heap.size g1 k1 K N _ rfl rfl ho1h.out sN.out ?c1 ?c2 ?_)
              case c1 => have := hK6.out; have := hN6.out; omega
              case c2 => exact bi.out.size
              intro g2 k2 wj ho2 gr2
              have bj := Lib.hid (bi.out.grown gr2 bi.out.size (fun q e => by have := (ho1h.out.lt g1 rfl).1; simp at e; omega))
              have sj := Lib.hid (Rf.sl_of_owns ho2)
              have b2j := Lib.hid (b_next b2h.out bj.out (Nat.le_refl _))
              have mj := Lib.hid (mh.out.next bj.out)
              have gj := Lib.hid (ah.out.next bj.out)
              have q1 := all_has (again_sub hM.out (by rw [hR.out]; exact hM2.out))
              have q2 := all_has (sub_again (G := G) (M := L9) (M2 := M2) (by rw [hR.out]; exact hM2.out))
              rw [hR.out] at q1 q2
              have hW1 := Ti.Within_calls wj _ _ _ _ gj.out mj.out hRR.out
              rw [q1] at hW1
              have hW2 := Lib.hid fun w' (hb' : Below wj.heap.size wj w') => Ti.Within_calls w' _ _ _ _ (mj.out.next hb') (gj.out.next hb') (reach_rises hM2.out.1)
              rw [q2] at hW2
              have hRe := Lib.hid fun w' (hb' : Below wj.heap.size wj w') => Reach_calls w' b m G _ (K ++ N) (hGr.out w' (b_next b2j.out hb' (Nat.le_refl _))) hS2.out (by have := hK6.out; have := hN6.out; rw [List.length_append]; omega) (sj.out.next hb')
              have hmore := Lib.hid fun M3 (h3 : IsMet G.T (K ++ N) M3) => all_has (sub_more hM.out h3)
              rw [hR.out] at hmore
              have hall := Lib.hid (b_next b02.out b2j.out (Nat.le_refl _))
              replace hW1 := Lib.hid hW1
              clear ho2 gr2 q1 q2 ho1h sN bi ah mh
              go_wp2_with (first
                | (go_at_call 29; refine hW1.out.mono ?_; rintro e wk ⟨rfl, bk⟩; have hW2k := Lib.hid (hW2.out wk bk); replace bk := Lib.hid bk; clear hW1 hW2)
                | (go_at_call 29; refine hW2k.out.mono ?_; rintro e wl ⟨rfl, bl⟩; have bkl := Lib.hid (b_then bk.out bl); have hRel := Lib.hid (hRe.out wl bkl.out); clear hW2k bl bk hRe)
                | (go_at_call 18; refine hRel.out.mono ?_; rintro e wm ⟨M3, hM3, -, um, rfl, sm, bm⟩; have q3 := Lib.hid (hmore.out M3 hM3); have hO3 := Rg.of_calls wm um (reach G.D M3) (Nat.le_trans (reach_few hS2.out hM3.1) (by omega)) sm; rw [setOf_self (reach_rises hM3.1)] at hO3; replace hO3 := Lib.hid hO3; obtain ⟨am, km, rfl, -⟩ := sl_box sm; have bkm := Lib.hid (b_then bkl.out bm); replace hM3 := Lib.hid hM3; clear hRel sm bm bkl)
                | (go_at_call 26; refine hO3.out.mono ?_; rintro e wn ⟨nb, rfl, -, sn, bn⟩; have bkn := Lib.hid (b_then bkm.out bn); have hW3 := Ti.Within_calls wn _ _ _ _ (mj.out.next bkn.out) sn (reach_rises hM3.out.1); rw [q3.out] at hW3; replace hW3 := Lib.hid hW3; clear hO3 sn bn bkm)
                | (go_at_call 29; refine hW3.out.mono ?_; rintro e wo ⟨rfl, bo⟩; have bko := Lib.hid (b_then bkn.out bo); clear hW3 bo bkn))
              go_ret
              exact ⟨rfl, b_next hall.out bko.out (Nat.le_refl _)⟩

theorem own : ownKnob Tryz.prog.godebug = none := by kernel_rfl
theorem laidOut : laidOutB Tryz.prog = true := by kernel_rfl
set_option maxRecDepth 100000 in
theorem lifted (os : Os) (started : os.Started) (H : Type) (enc : TypeId × Value → H) :
    ReturnsInHanded {} Tryz.checked os 6 .any (Rows.graphClosesSpec.pre6 enc Tryz.prog Tryz.f6 Rows.graphClosesRow.domain false) (Rows.graphClosesSpec.post enc Tryz.prog Tryz.f6 false true false false) := by
  refine returnsInHanded_of_change_sized (C := Tryz.checked) own started (by kernel_rfl) Tryz.func6
    (ChangeSpec.witness6 (enc := enc) (C := Tryz.checked) false ⟨#[], #[.slice none 0 0, .slice none 0 0, .slice none 0 0], []⟩ 8 (by kernel_rfl) (by kernel_rfl) (by kernel_rfl) (by kernel_rfl)) ?_
  intro W base args ds gs before hval0 hW hcnd hsz0 _
  have hval : ∀ (j : Nat) t v, Tryz.f6.params[j]? = some t → args[j]? = some v → Value.okWide Tryz.prog W .any base t v := hval0
  have hsz : (DataW.weightsEach Tryz.prog (Tryz.f6.params.toList ++ Rows.graphClosesSpec.plain.varTypes Tryz.prog) (ds ++ gs)).all (· ≤ reachBytes) = true := hsz0
  have hW' := hW
  obtain ⟨p, q, hA0, hV, rfl, hfz, hnd⟩ := hW
  have hA : DataW.TrodAll enc Tryz.prog W 0 (fun _ => true) true Tryz.f6.params.toList args.toList ds p := hA0
  rw [Tryz.params6] at hA hval hsz
  obtain ⟨v0, vs0, d0, ds0, p0, q0, hargs, rfl, rfl, h0, r0⟩ := trodAll_cons hA
  obtain ⟨v1, vs1, d1, ds1, p1, q1, rfl, rfl, rfl, h1, r1⟩ := trodAll_cons r0
  obtain ⟨v2, vs2, d2, ds2, p2, q2, rfl, rfl, rfl, h2, r2⟩ := trodAll_cons r1
  obtain ⟨rfl, rfl, rfl⟩ := trodAll_nil r2
  obtain rfl : args = #[v0, v1, v2] := by cases args; simp_all
  obtain ⟨rfl, rfl⟩ := trodVars_none hV
  have k0 := h0
  have lt0 : ∀ x ∈ p0, x.block < W.heap.size := by obtain ⟨m, hm⟩ := k0; exact DataW.trod_lt m _ _ _ hm
  have ok0 := hval 0 22 v0 rfl rfl
  have k1 := h1
  have lt1 : ∀ x ∈ p1, x.block < W.heap.size := by obtain ⟨m, hm⟩ := k1; exact DataW.trod_lt m _ _ _ hm
  have ok1 := hval 1 23 v1 rfl rfl
  have k2 := h2
  have lt2 : ∀ x ∈ p2, x.block < W.heap.size := by obtain ⟨m, hm⟩ := k2; exact DataW.trod_lt m _ _ _ hm
  have ok2 := hval 2 23 v2 rfl rfl
  clear hA0 hval0 hsz0
  obtain ⟨a0, c0, x0, o0, P, T, rfl, hN, hT⟩ := Rg.open_nodes ok0 h0
  obtain ⟨a1, n1, c1, x1, o1, N1, rfl, i1, -⟩ := Oct.open_nums Tryz.underlying23 Tryz.underlying3 (by kernel_rfl) (of_decide_eq_true (by kernel_rfl)) ok1 h1 (Oct.arg_weights hsz (j := 1) rfl rfl)
  obtain ⟨a2, n2, c2, x2, o2, N2, rfl, i2, -⟩ := Oct.open_nums Tryz.underlying23 Tryz.underlying3 (by kernel_rfl) (of_decide_eq_true (by kernel_rfl)) ok2 h2 (Oct.arg_weights hsz (j := 2) rfl rfl)
  refine (walk W a0 c0 x0 o0 P T hN hT a1 a2 c1 n1 c2 n2 _ _ (sl_open (cap := c1) i1).2 (sl_open (cap := c2) i2).2 (sl_open (cap := c1) i1).1 (sl_open (cap := c2) i2).1).mono fun e W' ⟨he, bel⟩ => ?_
  subst he
  exact ⟨_, rfl, _, _, _, [], _, [], hW', trodAll_mk1 (shut_bool Tryz.underlying4 _), (trodAll_cons_mk (Below.trod laidOut (by kernel_rfl) (of_decide_eq_true (by kernel_rfl)) k0 bel lt0) (trodAll_cons_mk (Below.trod laidOut (by kernel_rfl) (of_decide_eq_true (by kernel_rfl)) k1 bel lt1) (trodAll_cons_mk (Below.trod laidOut (by kernel_rfl) (of_decide_eq_true (by kernel_rfl)) k2 bel lt2) trodAll_mk0))), rfl, bel.frame _, fun h => by cases h⟩

/-- the statement -/
theorem proved : Rows.GraphClosesSaid :=
  OpenClaim.holds_of_wide 6 Tryz.f6 rfl rfl rfl rfl rfl rfl rfl ⟨rfl, rfl, rfl, rfl, rfl⟩ rfl rfl rfl rfl rfl (by kernel_rfl) Tryz.func6 (by kernel_rfl)
    (of_decide_eq_true (by kernel_rfl)) (by unfold Func.isWrapper; first | (rw [if_pos (by decide +kernel)]; kernel_rfl) | (rw [if_neg (by decide +kernel)]; exact ⟨rfl, rfl⟩))
    (fun os started H enc _ => lifted os started H enc)
end Go.Proofs.YtcoccaglbepbdaaGreat.graphCloses
