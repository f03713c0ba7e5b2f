/-
  Of every nodes and keys: the graph has, points to, reaches and leaves open what the document's own does (GraphMeets). Conditions: none.
-/
import Derived.Test.YtcoccaglbepbdaaGreatRows
import Derived.Test.YtcoccaglbepbdaaGreatOctKit
import Derived.Test.YtcoccaglbepbdaaGreatGrLaws
import Derived.Test.YtcoccaglbepbdaaGreatGrOpen
import Derived.ProofKit
import Derived.OpenShut
import Derived.Stop.Joined
import Derived.Deep.RegionHeld3
namespace Go.Proofs.YtcoccaglbepbdaaGreat.graphMeets
open Go Go.ChangeShapes Go.WideShapes Go.ChangeAt Go.RowKit Sh Gr
open Rf (Sl reads_sl sl_open)
open Rg (NodesAt Both Built)
attribute [local go_sem] fold_none

theorem same_calls (w : World) (u v : Value) (L : List Int) (hL : L.length ≤ 1000000) (hu : Sl w u L) (hv : Sl w v L) : Calls Tryz.prog 13 #[u, v] w fun e w' => e = .returned (.bool true) ∧ Below w.heap.size w w' := by
  have h := Rf.RSame_calls w u v L L hL hu hv
  rw [decide_eq_true (rfl : L = L)] at h
  exact h

set_option maxHeartbeats 8000000 in
set_option maxRecDepth 100000 in
theorem walk (w : World) (s : Option Addr) (cap g off : Nat) (P : List (Int × Value)) (T : Nat → List Int) (hN : NodesAt w s g off P) (hT : ∀ i p, P[i]? = some p → Sl w p.2 (T i)) (sk : Option Addr) (ck nk : Nat) (K : List Int) (hnk : K.length = nk) (hv : Sl w (.slice sk nk ck) K) :
    Calls Tryz.prog 3 #[.slice s P.length cap, .slice sk nk ck] w fun e w' => e = .returned (.bool true) ∧ Below w.heap.size w w' := by
  have hAw := Lib.hid (Rg.awake_calls w)
  have hBu := Lib.hid fun w' (hb : Below w.heap.size w w') => Rg.built_calls w' s cap g off P T (hN.next hb) fun i p h => (hT i p h).next hb
  obtain ⟨np, hnp⟩ : ∃ np, Hid (P.length = np) := ⟨_, Lib.hid rfl⟩
  replace hv := Lib.hid hv
  rw [hnp.out] at hBu ⊢
  clear hN hT
  go_enter Tryz.func3, Tryz.ntmps3
  go_wp2_with (go_at_call 9; refine hAw.out.mono ?_; rintro e w1 ⟨rfl, b1⟩; have hB2 := Lib.hid (hBu.out w1 b1); replace b1 := Lib.hid b1; clear hAw hBu)
  refine hB2.out.mono ?_
  rintro e w2 ⟨b, m, b2, ok, rfl, c2, ⟨rfl, -⟩ | ⟨rfl, hS, hBo⟩⟩
  · have hend := Lib.hid (b_then b1.out c2)
    clear c2 hB2 b1
    go_wp2
    go_ret
    exact ⟨rfl, hend.out⟩
  · have b02 := Lib.hid (b_then b1.out c2)
    clear c2 hB2 b1
    by_cases hk : 60 < nk
    · have l1 : (60 : Int) < nk := by omega
      clear hk hS hBo
      go_wp2
      go_ret
      exact ⟨rfl, b02.out⟩
    · have l1 : ¬ (60 : Int) < nk := by omega
      have hK6 : K.length ≤ 60 := by omega
      have hnk2 := Lib.hid hnk
      obtain ⟨G, hG⟩ : ∃ G, G = Rg.gph P T P.length := ⟨_, rfl⟩
      rw [← hG] at hS hBo
      clear hk hG hnk
      have hv2 := Lib.hid (hv.out.next b02.out)
      have hGr := Lib.hid fun w' hb => hBo.gr.next (W' := w') hb
      have hRf := Lib.hid fun w' hb => hBo.rf.next (W' := w') hb
      have hS2 := Lib.hid hS
      have hD60 := hS.nodes
      have b22 := Lib.hid (Below.refl w2.heap.size w2)
      clear hBo hS
      go_wp2
      go_loopg [8] nk (fun gg s8 wr => ∃ i : Nat, s8 = .int .i64 (i : Int) ∧ i ≤ nk ∧ nk - i ≤ gg ∧ Hid (Below w2.heap.size w2 wr))
      case atStart => exact ⟨0, rfl, by omega, by omega, b22⟩
      case round =>
        clear b22
        obtain ⟨i, rfl, hi, hgg, hb⟩ := hrel
        by_cases hlt : i < nk
        · obtain ⟨go, oo, rfl, co⟩ := sl_cell (by rw [← hnk2.out] at hv2; exact hv2.out) hb.out (show i < K.length by rw [hnk2.out]; exact hlt)
          obtain ⟨x, hxe⟩ : ∃ x, Hid (K[i]?.getD 0 = x) := ⟨_, Lib.hid rfl⟩
          rw [hxe.out] at co
          have l2 : (i : Int) < nk := by omega
          have l3 : (0 : Int) ≤ i := by omega
          have hw1 : IntKind.i64.wrap ((i : Int) + 1) = ((i + 1 : Nat) : Int) := wrap_nat (i + 1) (by omega)
          have hms : Hid (nk - (i + 1) < gk) := Lib.hid (by omega)
          have hi2 : Hid (i + 1 ≤ nk) := Lib.hid (by omega)
          have bd := b_next hb.out (Rg.b_drew1 wr) (Nat.le_refl _)
          have hHa := Lib.hid (Has_calls wr.drew b m G x (hGr.out _ bd))
          have hRa := Lib.hid (Rg.RHas_calls wr.drew b2 G x (hRf.out _ bd) (by omega))
          have hTo := Lib.hid (Rg.to_calls wr.drew b m G x (hGr.out _ bd) hS2.out)
          have hRT := Lib.hid fun w' (hb' : Below wr.drew.heap.size wr.drew w') => Rg.RTo_calls w' b2 G x (hRf.out w' (b_next bd hb' (Nat.le_refl _))) (by omega)
          have hl40 := Lib.hid (hS2.out.to x)
          have cl : wr.drew.cell? ⟨go, oo + i, none⟩ = some (.int .i64 x) := co
          have hclB := Lib.hid fun w' (hb' : Below wr.drew.heap.size wr.drew w') => (hb'.cell (p := ⟨go, oo + i, none⟩) (World.block_lt_of_cell? wr.drew _ cl)).trans cl
          obtain ⟨z, hz⟩ : ∃ z, Hid (decide (x ∈ G.D) = z) := ⟨_, Lib.hid rfl⟩
          rw [hz.out] at hHa hRa
          replace bd := Lib.hid bd
          have brr := Lib.hid (Below.refl wr.drew.heap.size wr.drew)
          clear hgg hlt hi
          go_wp2_with fail
          cases z
          all_goals
            go_region_held3 (fun w' => w'.cell? ⟨go, oo + i, none⟩ = some (.int .i64 x)) (first | exact cl | exact cl5 | exact cl7)
              (first
                | (go_at_call 11; refine hHa.out.mono ?_; rintro e w' ⟨rfl, hw'⟩; obtain rfl := hw'.symm; clear hw')
                | (go_at_call 12; refine hRa.out.mono ?_; rintro e w' ⟨rfl, hw'⟩; obtain rfl := hw'.symm; clear hw')
                | (go_at_call 14; refine hTo.out.mono ?_; rintro e w5 ⟨u5, rfl, s5, b5⟩; have cl5 := hclB.out w5 b5; (try (have s6 := s6.next b5)); obtain ⟨a5, k5, rfl, -⟩ := sl_box s5)
                | (go_at_call 15; (first | (refine (hRT.out _ b5).mono ?_) | (refine (hRT.out _ brr.out).mono ?_)); rintro e w6 ⟨u6, rfl, s6, hw6⟩; obtain rfl := hw6.symm; clear hw6; obtain ⟨a6, k6, rfl, -⟩ := sl_box s6)
                | (go_at_call 13; refine (same_calls _ _ _ _ (Nat.le_trans hl40.out (by omega)) s5 s6).mono ?_; rintro e w7 ⟨rfl, b7⟩; have cl7 := hclB.out w7 (b_then b5 b7)))
          all_goals
            have hb7 := Lib.hid (b_next bd.out (b_then b5 b7) (Nat.le_refl _))
            go_wp2
            go_roundg (nk - (i + 1))
            case measure => exact hms.out
            case rel => exact ⟨i + 1, by simp, hi2.out, Nat.le_refl _, hb7⟩
        · obtain rfl : i = nk := by omega
          have l2 : ¬ (i : Int) < i := by omega
          have hK := Lib.hid (Gr.Keys_calls wr b m G (hGr.out _ hb.out) (by omega))
          clear hgg
          go_wp2_with (first
            | (go_at_call 16; refine hK.out.mono ?_; rintro e w5 h5; obtain ⟨u5, rfl, s5, b5⟩ := Gr.gives_lists h5; obtain ⟨a5, k5, rfl, -⟩ := sl_box s5; have bb5 := Lib.hid (b_next hb.out b5 (Nat.le_refl _)); have hRK := Lib.hid (Rg.RKeys_calls w5 b2 G (hRf.out _ bb5.out) (by omega)); replace s5 := Lib.hid s5; clear h5 b5 hK hb)
            | (go_at_call 17; refine hRK.out.mono ?_; rintro e w6 ⟨u6, rfl, s6, b6⟩; obtain ⟨a6, k6, rfl, -⟩ := sl_box s6; have hE1 := Lib.hid (same_calls w6 _ _ G.D (by omega) (s5.out.next b6) s6); have bb6 := Lib.hid (b_next bb5.out b6 (Nat.le_refl _)); clear hRK s5 s6 b6 bb5)
            | (go_at_call 13; refine hE1.out.mono ?_; rintro e w7 ⟨rfl, b7⟩; have bb7 := Lib.hid (b_next bb6.out b7 (Nat.le_refl _)); have hRe := Lib.hid (Reach_calls w7 b m G _ K (hGr.out _ bb7.out) hS2.out (by omega) (hv2.out.next bb7.out)); clear hE1 b7 bb6)
            | (go_at_call 18; refine hRe.out.mono ?_; rintro e w8 ⟨M, hM, hMl, u8, rfl, s8, b8⟩; obtain ⟨a8, k8, rfl, -⟩ := sl_box s8; have bb8 := Lib.hid (b_next bb7.out b8 (Nat.le_refl _)); have hRR := Lib.hid (Rg.RReach_calls w8 b2 G _ K (hRf.out _ bb8.out) hS2.out (by omega) (hv2.out.next bb8.out)); replace s8 := Lib.hid s8; replace hM := Lib.hid hM; replace hMl := Lib.hid hMl; clear b8 hRe bb7)
            | (go_at_call 19; refine hRR.out.mono ?_; rintro e w9 ⟨M9, hM9, -, u9, rfl, s9, b9⟩; obtain rfl := hM9.unique hM.out; obtain ⟨a9, k9, rfl, -⟩ := sl_box s9; have hE2 := Lib.hid (same_calls w9 _ _ (reach G.D M9) (Nat.le_trans (List.length_filter_le _ _) (Nat.le_trans hMl.out (by omega))) (s8.out.next b9) s9); have bb9 := Lib.hid (b_next bb8.out b9 (Nat.le_refl _)); clear hRR s8 s9 b9 bb8 hM9)
            | (go_at_call 13; refine hE2.out.mono ?_; rintro e wa ⟨rfl, ba⟩; have bba := Lib.hid (b_next bb9.out ba (Nat.le_refl _)); have hOp := Lib.hid (Open_calls wa b m G _ K (hGr.out _ bba.out) hS2.out (by omega) (hv2.out.next bba.out)); clear hE2 ba bb9)
            | (go_at_call 20; refine hOp.out.mono ?_; rintro e wb ⟨Mb, hMb, -, ub, rfl, sb, bb⟩; obtain rfl := hMb.unique hM.out; obtain ⟨ab, kb, rfl, -⟩ := sl_box sb; have bbb := Lib.hid (b_next bba.out bb (Nat.le_refl _)); have hRO := Lib.hid (Rg.ROpen_calls wb b2 G _ K (hRf.out _ bbb.out) hS2.out (by omega) (hv2.out.next bbb.out)); replace sb := Lib.hid sb; clear bb hOp bba hMb)
            | (go_at_call 21; refine hRO.out.mono ?_; rintro e wc ⟨Mc, hMc, -, uc, rfl, sc, bc⟩; obtain rfl := hMc.unique hM.out; obtain ⟨ac, kc, rfl, -⟩ := sl_box sc; have hE3 := Lib.hid (same_calls wc _ _ (opened G.D Mc) (Nat.le_trans (List.length_filter_le _ _) (Nat.le_trans hMl.out (by omega))) (sb.out.next bc) sc); have bbc := Lib.hid (b_next bbb.out bc (Nat.le_refl _)); clear hRO sb sc bc bbb hMc)
            | (go_at_call 13; refine hE3.out.mono ?_; rintro e wd ⟨rfl, bd⟩; have bbd := Lib.hid (b_next bbc.out bd (Nat.le_refl _)); clear hE3 bd bbc))
          go_ret
          exact ⟨rfl, b_then b02.out bbd.out⟩

theorem own : ownKnob Tryz.prog.godebug = none := by kernel_rfl
theorem laidOut : laidOutB Tryz.prog = true := by kernel_rfl
set_option maxRecDepth 100000 in
theorem lifted (os : Os) (started : os.Started) (H : Type) (enc : TypeId × Value → H) :
    ReturnsInHanded {} Tryz.checked os 3 .any (Rows.graphMeetsSpec.pre6 enc Tryz.prog Tryz.f3 Rows.graphMeetsRow.domain false) (Rows.graphMeetsSpec.post enc Tryz.prog Tryz.f3 false true false false) := by
  refine returnsInHanded_of_change_sized (C := Tryz.checked) own started (by kernel_rfl) Tryz.func3
    (ChangeSpec.witness6 (enc := enc) (C := Tryz.checked) false ⟨#[], #[.slice none 0 0, .slice none 0 0], []⟩ 8 (by kernel_rfl) (by kernel_rfl) (by kernel_rfl) (by kernel_rfl)) ?_
  intro W base args ds gs before hval0 hW hcnd hsz0 _
  have hval : ∀ (j : Nat) t v, Tryz.f3.params[j]? = some t → args[j]? = some v → Value.okWide Tryz.prog W .any base t v := hval0
  have hsz : (DataW.weightsEach Tryz.prog (Tryz.f3.params.toList ++ Rows.graphMeetsSpec.plain.varTypes Tryz.prog) (ds ++ gs)).all (· ≤ reachBytes) = true := hsz0
  have hW' := hW
  obtain ⟨p, q, hA0, hV, rfl, hfz, hnd⟩ := hW
  have hA : DataW.TrodAll enc Tryz.prog W 0 (fun _ => true) true Tryz.f3.params.toList args.toList ds p := hA0
  rw [Tryz.params3] at hA hval hsz
  obtain ⟨v0, vs0, d0, ds0, p0, q0, hargs, rfl, rfl, h0, r0⟩ := trodAll_cons hA
  obtain ⟨v1, vs1, d1, ds1, p1, q1, rfl, rfl, rfl, h1, r1⟩ := trodAll_cons r0
  obtain ⟨rfl, rfl, rfl⟩ := trodAll_nil r1
  obtain rfl : args = #[v0, v1] := by cases args; simp_all
  obtain ⟨rfl, rfl⟩ := trodVars_none hV
  have k0 := h0
  have lt0 : ∀ x ∈ p0, x.block < W.heap.size := by obtain ⟨m, hm⟩ := k0; exact DataW.trod_lt m _ _ _ hm
  have ok0 := hval 0 22 v0 rfl rfl
  have k1 := h1
  have lt1 : ∀ x ∈ p1, x.block < W.heap.size := by obtain ⟨m, hm⟩ := k1; exact DataW.trod_lt m _ _ _ hm
  have ok1 := hval 1 23 v1 rfl rfl
  clear hA0 hval0 hsz0
  obtain ⟨a0, c0, x0, o0, P, T, rfl, hN, hT⟩ := Rg.open_nodes ok0 h0
  obtain ⟨a1, n1, c1, x1, o1, N1, rfl, i1, -⟩ := Oct.open_nums Tryz.underlying23 Tryz.underlying3 (by kernel_rfl) (of_decide_eq_true (by kernel_rfl)) ok1 h1 (Oct.arg_weights hsz (j := 1) rfl rfl)
  refine (walk W a0 c0 x0 o0 P T hN hT a1 c1 n1 _ (sl_open (cap := c1) i1).2 (sl_open (cap := c1) i1).1).mono fun e W' ⟨he, bel⟩ => ?_
  subst he
  exact ⟨_, rfl, _, _, _, [], _, [], hW', trodAll_mk1 (shut_bool Tryz.underlying4 _), (trodAll_cons_mk (Below.trod laidOut (by kernel_rfl) (of_decide_eq_true (by kernel_rfl)) k0 bel lt0) (trodAll_cons_mk (Below.trod laidOut (by kernel_rfl) (of_decide_eq_true (by kernel_rfl)) k1 bel lt1) trodAll_mk0)), rfl, bel.frame _, fun h => by cases h⟩

/-- the statement -/
theorem proved : Rows.GraphMeetsSaid :=
  OpenClaim.holds_of_wide 3 Tryz.f3 rfl rfl rfl rfl rfl rfl rfl ⟨rfl, rfl, rfl, rfl, rfl⟩ rfl rfl rfl rfl rfl (by kernel_rfl) Tryz.func3 (by kernel_rfl)
    (of_decide_eq_true (by kernel_rfl)) (by unfold Func.isWrapper; first | (rw [if_pos (by decide +kernel)]; kernel_rfl) | (rw [if_neg (by decide +kernel)]; exact ⟨rfl, rfl⟩))
    (fun os started H enc _ => lifted os started H enc)
end Go.Proofs.YtcoccaglbepbdaaGreat.graphMeets
