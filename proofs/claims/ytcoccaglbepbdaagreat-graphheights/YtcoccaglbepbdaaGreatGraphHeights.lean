/-
  Of every nodes and key: the height stands one above the highest of those that it points to, and is 0 where there is none (GraphHeights). Conditions: none.
-/
import Derived.Test.YtcoccaglbepbdaaGreatRows
import Derived.Test.YtcoccaglbepbdaaGreatOctKit
import Derived.Test.YtcoccaglbepbdaaGreatGrAwake
import Derived.Test.YtcoccaglbepbdaaGreatGrOpen
import Derived.ProofKit
import Derived.OpenShut
import Derived.Stop.Joined
namespace Go.Proofs.YtcoccaglbepbdaaGreat.graphHeights
open Go Go.ChangeShapes Go.WideShapes Go.ChangeAt Go.RowKit Sh Gr
open Rf (Sl reads_sl sl_open)
open Rg (NodesAt Both Built)
attribute [local go_sem] fold_none

/-- heights of what is pointed to -/
theorem hgt_below {G : Gph} {k y hh ee : Int} {H : Int → Nat} (hH : Hts G k H) (hy : y ∈ G.T k) (h : HgtIs G y hh ee) : (y ∉ G.D ∧ hh = 0 ∧ ee = 12) ∨ (y ∈ G.D ∧ hh = (H y : Int) ∧ ee = 0) := by
  rcases h with ⟨h1, h2, h3⟩ | ⟨hd, M, hM, ⟨hn, _⟩ | ⟨o, H2, _, hH2, h2, h3⟩⟩
  · exact Or.inl ⟨h1, h2, h3⟩
  · obtain ⟨o, ho⟩ := order_hts hM (hH.on hy)
    rw [ho] at hn; cases hn
  · exact Or.inr ⟨hd, by rw [h2, hH2.one (hH.on hy) hd], h3⟩
theorem hts_few {G : Gph} {k : Int} {H : Int → Nat} {M o : List Int} (hM : IsMet G.T [k] M) (hH : Hts G k H) (ho : order G.T (reach G.D M).length (reach G.D M) = some o) : ∀ n i x, i < n → o[i]? = some x → H x ≤ i
  | 0, _, _, h, _ => absurd h (Nat.not_lt_zero _)
  | n + 1, i, x, _, hx => by
    have S := order_stand _ rfl (reach_rises hM.1) ho
    have hxm := mem_reach.1 ((S.mem x).1 (List.mem_of_getElem? hx))
    rw [hH x ((hM.2 x).1 hxm.1) hxm.2]
    refine sup_le fun a ha => ?_
    obtain ⟨y, hy, rfl⟩ := List.mem_map.1 ha
    obtain ⟨h1, h2⟩ := List.mem_filter.1 hy
    have hb := S.behind i x hx y h1 (mem_reach.2 ⟨(hM.2 y).2 (.on ((hM.2 x).1 hxm.1) h1), by simpa using h2⟩)
    obtain ⟨q, hq⟩ := List.mem_iff_getElem?.1 hb
    have hql := (List.getElem?_eq_some_iff.1 hq).1
    rw [List.length_take] at hql
    rw [List.getElem?_take, if_pos (by omega)] at hq
    have := hts_few hM hH ho n q y (by omega) hq
    omega
theorem hts_small {G : Gph} {k : Int} {H : Int → Nat} {M o : List Int} (hS : Small G) (hk : k ∈ G.D) (hM : IsMet G.T [k] M) (hH : Hts G k H) (ho : order G.T (reach G.D M).length (reach G.D M) = some o) : H k ≤ 60 := by
  have S := order_stand _ rfl (reach_rises hM.1) ho
  obtain ⟨i, hi⟩ := List.mem_iff_getElem?.1 ((S.mem k).2 (mem_reach.2 ⟨(hM.2 k).2 (.here (by simp)), hk⟩))
  have h1 := hts_few hM hH ho (i + 1) i k (by omega) hi
  have h2 := (List.getElem?_eq_some_iff.1 hi).1
  have h3 := nodup_len _ G.D (rises_nodup (reach_rises (D := G.D) hM.1)) fun x hx => (mem_reach.1 hx).2
  have := S.len
  have := hS.nodes
  omega
/-- whether one below was found -/
def Found (G : Gph) (k : Int) (H : Int → Nat) (i : Nat) (ex : Bool) : Prop := ex = true ↔ (H k = 0 ∨ ∃ j, j < i ∧ j < (G.T k).length ∧ ((G.T k)[j]?.getD 0) ∈ G.D ∧ H ((G.T k)[j]?.getD 0) + 1 = H k)
theorem Found.zero (G : Gph) (k : Int) (H : Int → Nat) : Found G k H 0 (((H k : Nat) : Int) == 0) := by
  unfold Found
  rw [beq_iff_eq]
  refine ⟨fun h => Or.inl (by omega), fun h => ?_⟩
  rcases h with h | ⟨j, hj, _⟩
  · omega
  · omega
theorem Found.same {G : Gph} {k : Int} {H : Int → Nat} {i : Nat} {ex : Bool} (h : Found G k H i ex) (hn : ¬ (((G.T k)[i]?.getD 0) ∈ G.D ∧ H ((G.T k)[i]?.getD 0) + 1 = H k)) : Found G k H (i + 1) ex := by
  unfold Found at *
  rw [h]
  refine ⟨fun g => g.imp id fun ⟨j, h1, h2⟩ => ⟨j, by omega, h2⟩, fun g => g.imp id fun ⟨j, h1, h2, h3, h4⟩ => ⟨j, ?_, h2, h3, h4⟩⟩
  by_cases e : j = i
  · subst e; exact absurd ⟨h3, h4⟩ hn
  · omega
theorem Found.yes {G : Gph} {k : Int} {H : Int → Nat} {i : Nat} (hi : i < (G.T k).length) (h1 : ((G.T k)[i]?.getD 0) ∈ G.D) (h2 : H ((G.T k)[i]?.getD 0) + 1 = H k) : Found G k H (i + 1) true := ⟨fun _ => Or.inr ⟨i, by omega, hi, h1, h2⟩, fun _ => rfl⟩
theorem Found.stay {G : Gph} {k : Int} {H : Int → Nat} {i : Nat} (h : Found G k H i true) : Found G k H (i + 1) true := ⟨fun _ => (h.1 rfl).imp id fun ⟨j, h1, h2⟩ => ⟨j, by omega, h2⟩, fun _ => rfl⟩
theorem Found.end_ {G : Gph} {k : Int} {H : Int → Nat} {ex : Bool} {i : Nat} (hi : (G.T k).length ≤ i) (hH : Hts G k H) (hk : k ∈ G.D) (h : Found G k H i ex) : ex = true := by
  refine h.2 ?_
  by_cases h0 : H k = 0
  · exact Or.inl h0
  · obtain ⟨y, h1, h2, h3⟩ := hH.by_one (.here (by simp)) hk h0
    obtain ⟨j, hj, e⟩ := List.getElem_of_mem h1
    refine Or.inr ⟨j, by omega, hj, ?_⟩
    rw [List.getElem?_eq_getElem hj, e]
    exact ⟨h2, h3⟩

set_option maxHeartbeats 8000000 in
set_option maxRecDepth 100000 in
theorem walk (w : World) (s : Option Addr) (cap g off : Nat) (P : List (Int × Value)) (T : Nat → List Int) (hN : NodesAt w s g off P) (hT : ∀ i p, P[i]? = some p → Sl w p.2 (T i)) (k : Int) :
    Calls Tryz.prog 8 #[.slice s P.length cap, .int .i64 k] w fun e w' => e = .returned (.bool true) ∧ Below w.heap.size w w' := by
  have hAw := Lib.hid (Rg.awake_calls w)
  have hBu := Lib.hid fun w' (hb : Below w.heap.size w w') => Rg.built_calls w' s cap g off P T (hN.next hb) fun i p h => (hT i p h).next hb
  obtain ⟨np, hnp⟩ : ∃ np, Hid (P.length = np) := ⟨_, Lib.hid rfl⟩
  rw [hnp.out] at hBu ⊢
  clear hN hT
  go_enter Tryz.func8, Tryz.ntmps8
  go_wp2_with (go_at_call 9; refine hAw.out.mono ?_; rintro e w1 ⟨rfl, b1⟩; have hB2 := Lib.hid (hBu.out w1 b1); replace b1 := Lib.hid b1; clear hAw hBu)
  refine hB2.out.mono ?_
  rintro e w2 ⟨b, m, b2, ok, rfl, c2, ⟨rfl, -⟩ | ⟨rfl, hS, hBo⟩⟩
  · have hend := Lib.hid (b_then b1.out c2)
    clear c2 hB2 b1
    go_wp2
    go_ret
    exact ⟨rfl, hend.out⟩
  · have b02 := Lib.hid (b_then b1.out c2)
    clear c2 hB2 b1
    obtain ⟨G, hG⟩ : ∃ G, G = Rg.gph P T P.length := ⟨_, rfl⟩
    rw [← hG] at hS hBo
    clear hG
    have hH := Lib.hid (Height_calls w2 b m G k hBo.gr hS)
    have hGr := Lib.hid fun w' hb => hBo.gr.next (W' := w') hb
    have hok := Lib.hid hBo.gr.ok
    clear hBo
    replace hS := Lib.hid hS
    go_wp2_with fail
    refine hH.out.mono ?_
    rintro e w3 ⟨h, c, rfl, hg, b3⟩
    have hHa := Lib.hid (Has_calls w3 b m G k (hGr.out w3 b3))
    have b03 := Lib.hid (b_then b02.out b3)
    rcases hg with ⟨hn, rfl, rfl⟩ | ⟨hd, M, hM, ⟨ho, rfl, rfl⟩ | ⟨o, H, ho, hHt, rfl, rfl⟩⟩
    · rw [show decide (k ∈ G.D) = false by simpa using hn] at hHa
      clear hn hH b3
      go_wp2_with (go_at_call 11; refine hHa.out.mono ?_; rintro e w' ⟨rfl, hw'⟩; obtain rfl := hw'.symm; clear hw' hHa)
      go_ret
      exact ⟨rfl, b03.out⟩
    · rw [show decide (k ∈ G.D) = true by simpa using hd] at hHa
      clear hd hM ho hH b3
      go_wp2_with (go_at_call 11; refine hHa.out.mono ?_; rintro e w' ⟨rfl, hw'⟩; obtain rfl := hw'.symm; clear hw' hHa)
      go_ret
      exact ⟨rfl, b03.out⟩
    · have hTo := Lib.hid (To_calls w3 b m G k (hGr.out w3 b3) (Nat.le_trans (hS.out.to k) (by omega)))
      have hsm := hts_small hS.out hd hM hHt ho
      have hF0 := Lib.hid (Found.zero G k H)
      obtain ⟨hk, hke⟩ : ∃ hk, Hid (H k = hk) := ⟨_, Lib.hid rfl⟩
      rw [hke.out] at hsm hF0 ⊢
      replace hHt := Lib.hid hHt
      replace hd := Lib.hid hd
      replace b3 := Lib.hid b3
      clear hM ho hH hHa
      go_wp2_with fail
      refine hTo.out.mono ?_
      rintro e w4 hL
      obtain ⟨u, rfl, hu, b4⟩ := Gr.gives_lists hL
      have b24 := Lib.hid (b_then b3.out b4)
      have b04 := Lib.hid (b_then b03.out b4)
      obtain ⟨su, cu, rfl, -⟩ := sl_box hu
      obtain ⟨n, hn⟩ : ∃ n, Hid ((G.T k).length = n) := ⟨_, Lib.hid rfl⟩
      have hn40 : n ≤ 40 := by rw [← hn.out]; exact hS.out.to k
      rw [hn.out] at hu ⊢
      replace hu := Lib.hid hu
      clear hTo hL b4 b3
      go_wp2
      have hb4 := Lib.hid (Below.refl w4.heap.size w4)
      go_loopg [11, 12] n (fun gg s11 s12 wr => ∃ (i : Nat) (ex : Bool), s11 = .bool ex ∧ s12 = .int .i64 (i : Int) ∧ i ≤ n ∧ n - i ≤ gg ∧ Hid (Found G k H i ex) ∧ Hid (Below w4.heap.size w4 wr))
      case atStart => exact ⟨0, _, rfl, rfl, by omega, by omega, hF0, hb4⟩
      case round =>
        clear hF0 hb4
        obtain ⟨i, ex, rfl, rfl, hi, hgg, hF, hb⟩ := hrel
        by_cases hlt : i < n
        · obtain ⟨go, oo, rfl, co⟩ := sl_cell (by rw [← hn.out] at hu; exact hu.out) hb.out (show i < (G.T k).length by rw [hn.out]; exact hlt)
          have hy : ((G.T k)[i]?.getD 0) ∈ G.T k := by rw [List.getElem?_eq_getElem (by rw [hn.out]; exact hlt)]; exact List.getElem_mem _
          have hin : Hid (i < (G.T k).length) := Lib.hid (by rw [hn.out]; exact hlt)
          obtain ⟨y, hye⟩ : ∃ y, Hid ((G.T k)[i]?.getD 0 = y) := ⟨_, Lib.hid rfl⟩
          rw [hye.out] at hy co
          have hHy := Lib.hid (Height_calls wr b m G y (hGr.out wr (b_next b24.out hb.out (Nat.le_refl _))) hS.out)
          have l1 : (i : Int) < n := by omega
          have l2 : (0 : Int) ≤ i := by omega
          have hw1 : IntKind.i64.wrap ((i : Int) + 1) = ((i + 1 : Nat) : Int) := wrap_nat (i + 1) (by omega)
          have hms : Hid (n - (i + 1) < gk) := Lib.hid (by omega)
          have hi2 : Hid (i + 1 ≤ n) := Lib.hid (by omega)
          have hyk := Lib.hid fun hd2 => hHt.out.down (y := y) (.here (by simp)) hd.out hy hd2
          have hcase := Lib.hid fun hh ee => hgt_below (hh := hh) (ee := ee) hHt.out hy
          clear hgg hlt hi hy
          go_wp2_with fail
          refine hHy.out.mono ?_
          rintro e w5 ⟨hh, ee, rfl, hg, b5⟩
          have hb5 := Lib.hid (b_next hb.out b5 (Nat.le_refl _))
          rcases hcase.out hh ee hg with ⟨hn2, rfl, rfl⟩ | ⟨hd2, rfl, rfl⟩
          · have hF2 := Lib.hid (hF.out.same fun h => hn2 (hye.out ▸ h.1))
            clear hHy hg b5 hn2 hcase hyk hF hb
            go_wp2
            go_roundg (n - (i + 1))
            case measure => exact hms.out
            case rel => exact ⟨i + 1, ex, rfl, by simp, hi2.out, Nat.le_refl _, hF2, hb5⟩
          · have hlt2 := hyk.out hd2
            rw [hke.out] at hlt2
            obtain ⟨q, hq⟩ : ∃ q, Hid (H y = q) := ⟨_, Lib.hid rfl⟩
            rw [hq.out] at hlt2 ⊢
            have d1 : decide ((hk : Int) ≤ (q : Int)) = false := by simpa using hlt2
            have d2 : (q : Int) < (hk : Int) := by omega
            have d3 : ¬ (hk : Int) ≤ (q : Int) := by omega
            have hw2 : IntKind.i64.wrap ((hk : Int) - 1) = ((hk - 1 : Nat) : Int) := by rw [show (hk : Int) - 1 = ((hk - 1 : Nat) : Int) by omega]; exact wrap_nat _ (by omega)
            cases ex with
            | true =>
              have hF2 := Lib.hid hF.out.stay
              clear hHy hg b5 hcase hyk hF hb hd2 hlt2
              go_wp2
              go_roundg (n - (i + 1))
              case measure => exact hms.out
              case rel => exact ⟨i + 1, true, rfl, by simp, hi2.out, Nat.le_refl _, hF2, hb5⟩
            | false =>
              by_cases he : q + 1 = hk
              · have hF2 := Lib.hid (Found.yes (H := H) hin.out (by rw [hye.out]; exact hd2) (by rw [hye.out, hke.out, hq.out]; exact he))
                have d4 : ((q : Int) == ((hk - 1 : Nat) : Int)) = true := by simp; omega
                clear hHy hg b5 hcase hyk hF hb hd2 hlt2 he
                go_wp2
                go_roundg (n - (i + 1))
                case measure => exact hms.out
                case rel => exact ⟨i + 1, true, rfl, by simp, hi2.out, Nat.le_refl _, hF2, hb5⟩
              · have hF2 := Lib.hid (hF.out.same fun h => he (by have := h.2; rw [hye.out, hke.out, hq.out] at this; exact this))
                have d4 : ((q : Int) == ((hk - 1 : Nat) : Int)) = false := by simp; omega
                clear hHy hg b5 hcase hyk hF hb hd2 hlt2 he
                go_wp2
                go_roundg (n - (i + 1))
                case measure => exact hms.out
                case rel => exact ⟨i + 1, false, rfl, by simp, hi2.out, Nat.le_refl _, hF2, hb5⟩
        · obtain rfl : i = n := by omega
          have l1 : ¬ (i : Int) < i := by omega
          obtain rfl := hF.out.end_ (by rw [hn.out]; exact Nat.le_refl _) hHt.out hd.out
          have hend := Lib.hid (b_next b04.out hb.out (Nat.le_refl _))
          clear hF hgg
          go_wp2
          go_ret
          exact ⟨rfl, hend.out⟩

theorem own : ownKnob Tryz.prog.godebug = none := by kernel_rfl
theorem laidOut : laidOutB Tryz.prog = true := by kernel_rfl
set_option maxRecDepth 100000 in
theorem lifted (os : Os) (started : os.Started) (H : Type) (enc : TypeId × Value → H) :
    ReturnsInHanded {} Tryz.checked os 8 .any (Rows.graphHeightsSpec.pre6 enc Tryz.prog Tryz.f8 Rows.graphHeightsRow.domain false) (Rows.graphHeightsSpec.post enc Tryz.prog Tryz.f8 false true false false) := by
  refine returnsInHanded_of_change_sized (C := Tryz.checked) own started (by kernel_rfl) Tryz.func8
    (ChangeSpec.witness6 (enc := enc) (C := Tryz.checked) false ⟨#[], #[.slice none 0 0, .int .i64 0], []⟩ 8 (by kernel_rfl) (by kernel_rfl) (by kernel_rfl) (by kernel_rfl)) ?_
  intro W base args ds gs before hval0 hW hcnd hsz0 _
  have hval : ∀ (j : Nat) t v, Tryz.f8.params[j]? = some t → args[j]? = some v → Value.okWide Tryz.prog W .any base t v := hval0
  have hsz : (DataW.weightsEach Tryz.prog (Tryz.f8.params.toList ++ Rows.graphHeightsSpec.plain.varTypes Tryz.prog) (ds ++ gs)).all (· ≤ reachBytes) = true := hsz0
  have hW' := hW
  obtain ⟨p, q, hA0, hV, rfl, hfz, hnd⟩ := hW
  have hA : DataW.TrodAll enc Tryz.prog W 0 (fun _ => true) true Tryz.f8.params.toList args.toList ds p := hA0
  rw [Tryz.params8] at hA hval hsz
  obtain ⟨v0, vs0, d0, ds0, p0, q0, hargs, rfl, rfl, h0, r0⟩ := trodAll_cons hA
  obtain ⟨v1, vs1, d1, ds1, p1, q1, rfl, rfl, rfl, h1, r1⟩ := trodAll_cons r0
  obtain ⟨rfl, rfl, rfl⟩ := trodAll_nil r1
  obtain rfl : args = #[v0, v1] := by cases args; simp_all
  obtain ⟨rfl, rfl⟩ := trodVars_none hV
  have k0 := h0
  have lt0 : ∀ x ∈ p0, x.block < W.heap.size := by obtain ⟨m, hm⟩ := k0; exact DataW.trod_lt m _ _ _ hm
  have ok0 := hval 0 22 v0 rfl rfl
  have k1 := h1
  have lt1 : ∀ x ∈ p1, x.block < W.heap.size := by obtain ⟨m, hm⟩ := k1; exact DataW.trod_lt m _ _ _ hm
  have ok1 := hval 1 3 v1 rfl rfl
  clear hA0 hval0 hsz0
  obtain ⟨a0, c0, x0, o0, P, T, rfl, hN, hT⟩ := Rg.open_nodes ok0 h0
  obtain ⟨z, rfl, -⟩ := okWide_int Tryz.underlying3 ok1
  refine (walk W a0 c0 x0 o0 P T hN hT z).mono fun e W' ⟨he, bel⟩ => ?_
  subst he
  exact ⟨_, rfl, _, _, _, [], _, [], hW', trodAll_mk1 (shut_bool Tryz.underlying4 _), (trodAll_cons_mk (Below.trod laidOut (by kernel_rfl) (of_decide_eq_true (by kernel_rfl)) k0 bel lt0) (trodAll_cons_mk (Below.trod laidOut (by kernel_rfl) (of_decide_eq_true (by kernel_rfl)) k1 bel lt1) trodAll_mk0)), rfl, bel.frame _, fun h => by cases h⟩

/-- the statement -/
theorem proved : Rows.GraphHeightsSaid :=
  OpenClaim.holds_of_wide 8 Tryz.f8 rfl rfl rfl rfl rfl rfl rfl ⟨rfl, rfl, rfl, rfl, rfl⟩ rfl rfl rfl rfl rfl (by kernel_rfl) Tryz.func8 (by kernel_rfl)
    (of_decide_eq_true (by kernel_rfl)) (by unfold Func.isWrapper; first | (rw [if_pos (by decide +kernel)]; kernel_rfl) | (rw [if_neg (by decide +kernel)]; exact ⟨rfl, rfl⟩))
    (fun os started H enc _ => lifted os started H enc)
end Go.Proofs.YtcoccaglbepbdaaGreat.graphHeights
