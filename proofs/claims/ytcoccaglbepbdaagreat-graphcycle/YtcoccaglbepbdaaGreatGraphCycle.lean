/-
  Of every ring of nodes: no order and no height; cut at one, an order that begins there and heights along it; nil graphs answer 2 (GraphCycle). Conditions: none.
-/
import Derived.Test.YtcoccaglbepbdaaGreatRows
import Derived.Test.YtcoccaglbepbdaaGreatOctKit
import Derived.Test.YtcoccaglbepbdaaGreatGrRing
import Derived.ProofKit
import Derived.OpenShut
import Derived.Stop.Joined
namespace Go.Proofs.YtcoccaglbepbdaaGreat.graphCycle
open Go Go.ChangeShapes Go.WideShapes Go.ChangeAt Go.RowKit Sh Gr
open Rf (Sl reads_sl sl_open)
open Rg (ring nxt cutAt)
open Ti (SetAt keysV keysV_len info_key IsOf)
attribute [local go_sem] fold_none

theorem rem_nat (c : Int) (m : Nat) (h0 : 0 < m) (h1 : m ≤ 2147483648) : ∃ k : Nat, wrap64 ((IntKind.u64.wrap c).tmod (m : Int)) = (k : Int) ∧ k < m := by
  obtain ⟨k, h, hk⟩ := Oct.rem_small c m (by omega) (by omega)
  exact ⟨k, h, by omega⟩

theorem put_calls (w : World) (b m : Nat) (G : Gph) (k : Int) (v : Value) (M : List Int) (h : GraphAt w b m G) (hD : G.D.length ≤ 1000) (hM : M.length ≤ 1000) (hv : Sl w v M) (hR : Rises M) :
    Calls Tryz.prog 35 #[.pointer (some ⟨b, 0, none⟩), .int .i64 k, v] w fun e w' => e = .returned (.tuple #[]) ∧ GraphAt w' b m (G.put k M) ∧ w.grownBy w' (some m) := by
  obtain ⟨s, c, rfl, hr⟩ := hv
  refine (Put_calls w b m G k s c M h (by omega) (by omega) (reads_sl rfl ⟨s, c, rfl, hr⟩)).mono ?_
  rintro e w' ⟨rfl, L, hL, hG, hg⟩
  obtain rfl : L = M := rises_one hL.1 hR hL.2.1
  exact ⟨rfl, hG, hg⟩
theorem rng_snoc (i : Nat) : rng i ++ [(i : Int)] = rng (i + 1) := by simp [rng, List.range_succ]
theorem below_row {W W' : World} {base b m : Nat} {v : Value} {A : List Value} {k : Nat} {G : Gph} (h : GraphAt W b m G) (hr : W.ownsRow base 3 1 v k A) (hg : W.grownBy W' v.ownBlock) : GraphAt W' b m G :=
  h.stays (stays_row (by decide) hr hg) (stays_row (by decide) hr hg) (stays_row (by decide) hr hg) (stays_row (by decide) hr hg) (stays_row (by decide) hr hg)

set_option maxHeartbeats 16000000 in
set_option maxRecDepth 100000 in
theorem walk (w : World) (a c : Int) :
    Calls Tryz.prog 7 #[.int .i64 a, .int .i64 c] w fun e w' => e = .returned (.bool true) ∧ Below w.heap.size w w' := by
  obtain ⟨i0, hi, hz0, hz1, hz2⟩ := info_parts info_key
  have hAw := Lib.hid (Rg.awake_calls w)
  obtain ⟨p, hp, hp40⟩ := rem_nat a 40 (by omega) (by omega)
  have hp1 : wrap64 ((IntKind.u64.wrap a).tmod 40) = (p : Int) := hp
  obtain ⟨n, hn⟩ : ∃ n, n = p + 1 := ⟨_, rfl⟩
  have hn1 : Hid (1 + (p : Int) = (n : Int)) := Lib.hid (by omega)
  obtain ⟨k, hk, hkn⟩ := rem_nat c n (by omega) (by omega)
  have hn40 := Lib.hid (show n ≤ 40 by omega)
  have hnp := Lib.hid (show 0 < n by omega)
  have hNew := Lib.hid fun w' => New_calls w'
  replace hk := Lib.hid hk
  replace hkn := Lib.hid hkn
  clear hp hn
  go_enter Tryz.func7, Tryz.ntmps7
  go_wp2_with (go_at_call 9; refine hAw.out.mono ?_; rintro e w1 ⟨rfl, b1⟩; replace b1 := Lib.hid b1; clear hAw)
  refine (hNew.out w1).mono ?_
  rintro e w2 ⟨b, m, rfl, -, hml, hG, b2⟩
  have hG0 : Hid (GraphAt (w2.alloc (.cells #[] 3)) b m (ring n 0)) := Lib.hid (hG.next (b_alloc _ _))
  have ho0 : Hid ((w2.alloc (.cells #[] 3)).ownsRow w2.heap.size 3 1 (.slice (some ⟨w2.heap.size, 0, none⟩) 0 0) (keysV (rng 0)).length (keysV (rng 0))) := Lib.hid (Rf.alloc_none w2)
  have hb0 := Lib.hid (b_then b2 (b_alloc w2 (.cells #[] 3)))
  have hbs := Lib.hid b2.size
  rw [hn1.out, hk.out]
  replace hn40 := hn40.out
  replace hnp := hnp.out
  have hn0 : ¬ (n : Int) = 0 := by omega
  clear hNew hG b2 hp1 hk hn1 hp40
  go_wp2
  go_loopg [6, 7] n (fun gg s6 s7 wr => ∃ i : Nat, s7 = .int .i64 (i : Int) ∧ i ≤ n ∧ n - i ≤ gg ∧ Hid (wr.ownsRow w2.heap.size 3 1 s6 (keysV (rng i)).length (keysV (rng i))) ∧ Hid (GraphAt wr b m (ring n i)) ∧ Hid (Below w1.heap.size w1 wr) ∧ Hid (w2.heap.size ≤ wr.heap.size))
  case atStart => exact ⟨0, rfl, by omega, by omega, ho0, hG0, hb0, Lib.hid (by simp)⟩
  case round =>
    clear ho0 hG0 hb0
    obtain ⟨i, rfl, hil, hgg, ho, hG, hb, hsz⟩ := hrel
    by_cases hlt : i < n
    · have b3 := b_alloc wr (.cells #[.int .i64 ((nxt n i : Nat) : Int)] 3)
      have hPut := Lib.hid (put_calls _ b m _ (i : Int) _ [((nxt n i : Nat) : Int)] (hG.out.next b3) (by have := Rg.ring_len n i; omega) (by simp) (sl_one wr _) (by simp [Rises]))
      obtain ⟨pm, hpm⟩ := (hG.out.next b3).mbox
      have hstep := Lib.hid fun w' (hg : (wr.alloc (.cells #[.int .i64 ((nxt n i : Nat) : Int)] 3)).grownBy w' (some m)) => And.intro (ownsRow_other (ho.out.alloc (.cells #[.int .i64 ((nxt n i : Nat) : Int)] 3)) hpm (by decide) hg) (And.intro ((b_next hb.out b3 (Nat.le_refl _)).grown hg (b_next hb.out b3 (Nat.le_refl _)).size (fun q e => by simp at e; omega)) (Nat.le_trans hsz.out (Nat.le_trans b3.size hg.size)))
      have hmd : ((i : Int) + 1) % (n : Int) = ((nxt n i : Nat) : Int) := by rw [← Int.tmod_eq_emod_of_nonneg (by omega)]; exact Rg.nxt_mod hlt
      obtain ⟨oa, oc, rfl⟩ := row_shape ho.out
      have l1 : (i : Int) < n := by omega
      have hw1 : IntKind.i64.wrap ((i : Int) + 1) = ((i + 1 : Nat) : Int) := wrap_nat (i + 1) (by omega)
      have hms : Hid (n - (i + 1) < gk) := Lib.hid (by omega)
      have hi2 : Hid (i + 1 ≤ n) := Lib.hid (by omega)
      have hi40 := Lib.hid (show i ≤ 40 by omega)
      replace hmd := Lib.hid hmd
      clear hgg hlt hil hpm b3
      go_wp2_with fail
      rw [hmd.out]
      refine hPut.out.mono ?_
      rintro e w3 ⟨rfl, hG3, g3⟩
      obtain ⟨ho3, hb3, hs3⟩ := hstep.out w3 g3
      replace ho3 := Lib.hid ho3
      replace hb3 := Lib.hid hb3
      replace hs3 := Lib.hid hs3
      replace hG3 := Lib.hid hG3
      have hr40 := Lib.hid (show (keysV (rng i)).length ≤ 40 by rw [keysV_len, rng_len]; exact hi40.out)
      clear g3 hPut hstep ho hG hb hsz
      go_wp2_with (at_builtin; refine wpList_append_own _ rfl _ _ 23 rfl w2.heap.size 3 i0 (.int .i64 0) 1 8 Tryz.underlying23 hi hz0 hz1 hz2 rfl (by decide) _ _ _ rfl (ho3.out.alloc _) ⟨w3.heap.size, 0, none⟩ 1 1 [.int .i64 (i : Int)] rfl rfl (cell_one_new _ _ _) (by simp [Value.oneCell']) ?c1 ?c2 ?c3 ?_)
      case c1 => have := hr40.out; simp [maxLen]; omega
      case c2 => have := hr40.out; omega
      case c3 => have := hs3.out; simp; omega
      intro v' w4 ho' hgrow _
      have ho4 : Hid (w4.ownsRow w2.heap.size 3 1 v' (keysV (rng (i + 1))).length (keysV (rng (i + 1)))) := Lib.hid (by rw [← rng_snoc, Ti.keysV_snoc, List.length_append]; exact ho')
      have hG4 : Hid (GraphAt w4 b m (ring n (i + 1))) := Lib.hid (below_row (hG3.out.next (b_alloc _ _)) (ho3.out.alloc _) hgrow)
      have hb4 : Hid (Below w1.heap.size w1 w4) := Lib.hid ((b_next hb3.out (b_alloc _ _) (Nat.le_refl _)).grown hgrow (b_next hb3.out (b_alloc _ _) (Nat.le_refl _)).size (fun q e => Nat.le_trans hbs.out (ho3.out.lt q e).1))
      have hs4 : Hid (w2.heap.size ≤ w4.heap.size) := Lib.hid (Nat.le_trans hs3.out (Nat.le_trans (b_alloc w3 (.cells #[.int .i64 (i : Int)] 3)).size hgrow.size))
      clear ho' hgrow ho3 hG3 hb3 hs3
      go_wp2
      go_roundg (n - (i + 1))
      case measure => exact hms.out
      case rel => exact ⟨i + 1, by simp, hi2.out, Nat.le_refl _, ho4, hG4, hb4, hs4⟩
    · obtain rfl : i = n := by omega
      have l1 : ¬ (i : Int) < i := by omega
      have hK := Rf.sl_of_owns ho.out
      obtain ⟨oa, oc, rfl⟩ := row_shape ho.out
      rw [rng_len] at hK ⊢
      have hrl : (rng i).length ≤ 100 := by rw [rng_len]; omega
      have hS := Rg.ring_small (n := i) (i := i) (by omega)
      have hOr := Lib.hid (Order_calls wr b m _ _ (rng i) hG.out hS hrl hK)
      have b1r := Lib.hid (b_next b1.out hb.out (Nat.le_refl _))
      have hGr := Lib.hid fun w' hb' => hG.out.next (W' := w') hb'
      replace hK := Lib.hid hK
      replace hS := Lib.hid hS
      replace hrl := Lib.hid hrl
      clear ho hG hb hgg hsz
      go_wp2_with fail
      refine hOr.out.mono ?_
      rintro e w3 ⟨u3, L3, c3, rfl, o3, s3, b3⟩
      obtain ⟨rfl, rfl⟩ := Rg.ring_none hnp rfl o3
      have hHe := Lib.hid (Height_calls w3 b m _ (k : Int) (hGr.out _ b3) hS.out)
      obtain ⟨x3, y3, rfl, -⟩ := sl_box s3
      replace b3 := Lib.hid b3
      clear hOr o3 s3
      go_wp2_with fail
      refine hHe.out.mono ?_
      rintro e w4 ⟨h4, c4, rfl, g4, b4⟩
      obtain ⟨rfl, rfl⟩ := Rg.ring_high hkn.out g4
      have b34 := Lib.hid (b_then b3.out b4)
      have hPut := Lib.hid (put_calls w4 b m _ (k : Int) _ [] (hGr.out _ b34.out) (by have := Rg.ring_len i i; omega) (by simp) (sl_none w4) (by simp [Rises]))
      obtain ⟨pm, hpm⟩ := (hGr.out _ b34.out).mbox
      have hK4 := Lib.hid (hK.out.next b34.out)
      have hK5 := Lib.hid fun w' hg => Rg.sl_box_grown (W' := w') hK4.out hpm hg
      have hb5 := Lib.hid fun w' (hg : w4.grownBy w' (some m)) => (b_next b1r.out b34.out (Nat.le_refl _)).grown hg (b_next b1r.out b34.out (Nat.le_refl _)).size (fun q e => by have := b1.out.size; simp at e; omega)
      clear hHe g4 b4 b3 hpm hS
      go_wp2_with fail
      refine hPut.out.mono ?_
      rintro e w5 ⟨rfl, hG5, g5⟩
      have hG5 : GraphAt w5 b m (cutAt i k) := hG5
      have hC := Rg.cut_small (k := k) hn40
      have hO5 := Lib.hid (Order_calls w5 b m _ _ (rng i) hG5 hC hrl.out (hK5.out w5 g5))
      have k5 := Lib.hid (hK5.out w5 g5)
      have b05 := Lib.hid (hb5.out w5 g5)
      have hGc := Lib.hid fun w' hb' => hG5.next (W' := w') hb'
      replace hC := Lib.hid hC
      clear hPut hG5 g5 hK5 hb5 hK4 b34 hGr hK b1r
      go_wp2_with fail
      refine hO5.out.mono ?_
      rintro e w6 ⟨u6, L6, c6, rfl, o6, s6, b6⟩
      obtain ⟨rfl, hL1, hL2⟩ := Rg.cut_order hkn.out rfl o6
      obtain ⟨g6, o6a, k6, hs6⟩ : ∃ g o k6, u6 = .slice (some ⟨g, o, none⟩) i k6 ∧ ∀ w', Below w6.heap.size w6 w' → w'.cell? ⟨g, o, none⟩ = some (.int .i64 (k : Int)) := by
        obtain ⟨x, y, rfl, h1⟩ := s6
        obtain ⟨g, o, rfl, hlt, h2⟩ := h1 (by omega)
        have := h2 0 (by omega)
        rw [hL2] at this
        exact ⟨g, o, y, by rw [hL1], fun w' hb' => (hb'.cell (p := ⟨g, o, none⟩) hlt).trans this⟩
      obtain ⟨rfl, hcl⟩ := hs6
      have hmd : ((k : Int) + 1) % (i : Int) = ((nxt i k : Nat) : Int) := by rw [← Int.tmod_eq_emod_of_nonneg (by omega)]; exact Rg.nxt_mod hkn.out
      have hk40 : k < 40 := by have := hkn.out; omega
      have hHe := Lib.hid (Height_calls w6 b m _ ((nxt i k : Nat) : Int) (hGc.out _ b6) hC.out)
      replace hmd := Lib.hid hmd
      replace hcl := Lib.hid hcl
      replace b6 := Lib.hid b6
      clear hO5 o6 s6 hL1 hL2
      go_wp2_with fail
      rw [hmd.out]
      refine hHe.out.mono ?_
      rintro e w7 ⟨h7, c7, rfl, g7, b7⟩
      obtain ⟨rfl, rfl⟩ := Rg.cut_high hkn.out g7
      have cl7 := hcl.out w7 b7
      have hend := Lib.hid (b_next b05.out (b_then b6.out b7) (Nat.le_refl _))
      have hN1 := Lib.hid (OrderNil_calls w7 none 0 0)
      have hN2 := Lib.hid (HeightNil_calls w7 1)
      have hN3 := Lib.hid (ReachNil_calls w7 oa i oc)
      clear hHe g7 b7 hcl b05 b6 k5 hGc hC hrl b1
      have hw5 : IntKind.i64.wrap ((i : Int) - 1) = ((i - 1 : Nat) : Int) := by rw [show (i : Int) - 1 = ((i - 1 : Nat) : Int) by omega]; exact wrap_nat _ (by omega)
      have hpos : (0 : Int) < i := by omega
      go_wp2_with (first
        | (go_at_call 22; refine hN1.out.mono ?_; rintro e w' ⟨rfl, hw'⟩; obtain rfl := hw'.symm; clear hw')
        | (go_at_call 24; refine hN2.out.mono ?_; rintro e w' ⟨rfl, hw'⟩; obtain rfl := hw'.symm; clear hw')
        | (go_at_call 18; refine hN3.out.mono ?_; rintro e w' ⟨rfl, hw'⟩; obtain rfl := hw'.symm; clear hw'))
      go_ret
      exact ⟨rfl, hend.out⟩

theorem own : ownKnob Tryz.prog.godebug = none := by kernel_rfl
theorem laidOut : laidOutB Tryz.prog = true := by kernel_rfl
set_option maxRecDepth 100000 in
theorem lifted (os : Os) (started : os.Started) (H : Type) (enc : TypeId × Value → H) :
    ReturnsInHanded {} Tryz.checked os 7 .any (Rows.graphCycleSpec.pre6 enc Tryz.prog Tryz.f7 Rows.graphCycleRow.domain false) (Rows.graphCycleSpec.post enc Tryz.prog Tryz.f7 false true false false) := by
  refine returnsInHanded_of_change_sized (C := Tryz.checked) own started (by kernel_rfl) Tryz.func7
    (ChangeSpec.witness6 (enc := enc) (C := Tryz.checked) false ⟨#[], #[.int .i64 0, .int .i64 0], []⟩ 8 (by kernel_rfl) (by kernel_rfl) (by kernel_rfl) (by kernel_rfl)) ?_
  intro W base args ds gs before hval0 hW hcnd hsz0 _
  have hval : ∀ (j : Nat) t v, Tryz.f7.params[j]? = some t → args[j]? = some v → Value.okWide Tryz.prog W .any base t v := hval0
  have hsz : (DataW.weightsEach Tryz.prog (Tryz.f7.params.toList ++ Rows.graphCycleSpec.plain.varTypes Tryz.prog) (ds ++ gs)).all (· ≤ reachBytes) = true := hsz0
  have hW' := hW
  obtain ⟨p, q, hA0, hV, rfl, hfz, hnd⟩ := hW
  have hA : DataW.TrodAll enc Tryz.prog W 0 (fun _ => true) true Tryz.f7.params.toList args.toList ds p := hA0
  rw [Tryz.params7] at hA hval hsz
  obtain ⟨v0, vs0, d0, ds0, p0, q0, hargs, rfl, rfl, h0, r0⟩ := trodAll_cons hA
  obtain ⟨v1, vs1, d1, ds1, p1, q1, rfl, rfl, rfl, h1, r1⟩ := trodAll_cons r0
  obtain ⟨rfl, rfl, rfl⟩ := trodAll_nil r1
  obtain rfl : args = #[v0, v1] := by cases args; simp_all
  obtain ⟨rfl, rfl⟩ := trodVars_none hV
  have k0 := h0
  have lt0 : ∀ x ∈ p0, x.block < W.heap.size := by obtain ⟨m, hm⟩ := k0; exact DataW.trod_lt m _ _ _ hm
  have ok0 := hval 0 3 v0 rfl rfl
  have k1 := h1
  have lt1 : ∀ x ∈ p1, x.block < W.heap.size := by obtain ⟨m, hm⟩ := k1; exact DataW.trod_lt m _ _ _ hm
  have ok1 := hval 1 3 v1 rfl rfl
  clear hA0 hval0 hsz0
  obtain ⟨y, rfl, -⟩ := okWide_int Tryz.underlying3 ok0
  obtain ⟨z, rfl, -⟩ := okWide_int Tryz.underlying3 ok1
  refine (walk W y z).mono fun e W' ⟨he, bel⟩ => ?_
  subst he
  exact ⟨_, rfl, _, _, _, [], _, [], hW', trodAll_mk1 (shut_bool Tryz.underlying4 _), (trodAll_cons_mk (Below.trod laidOut (by kernel_rfl) (of_decide_eq_true (by kernel_rfl)) k0 bel lt0) (trodAll_cons_mk (Below.trod laidOut (by kernel_rfl) (of_decide_eq_true (by kernel_rfl)) k1 bel lt1) trodAll_mk0)), rfl, bel.frame _, fun h => by cases h⟩

/-- the statement -/
theorem proved : Rows.GraphCycleSaid :=
  OpenClaim.holds_of_wide 7 Tryz.f7 rfl rfl rfl rfl rfl rfl rfl ⟨rfl, rfl, rfl, rfl, rfl⟩ rfl rfl rfl rfl rfl (by kernel_rfl) Tryz.func7 (by kernel_rfl)
    (of_decide_eq_true (by kernel_rfl)) (by unfold Func.isWrapper; first | (rw [if_pos (by decide +kernel)]; kernel_rfl) | (rw [if_neg (by decide +kernel)]; exact ⟨rfl, rfl⟩))
    (fun os started H enc _ => lifted os started H enc)
end Go.Proofs.YtcoccaglbepbdaaGreat.graphCycle
