/-
  Of every nodes, keys and key: Order and Height of the graph tell what the document's own tell (GraphOrders). Conditions: none.
-/
import Derived.Test.YtcoccaglbepbdaaGreatRows
import Derived.Test.YtcoccaglbepbdaaGreatOctKit
import Derived.Test.YtcoccaglbepbdaaGreatGrAwake
import Derived.Test.YtcoccaglbepbdaaGreatGrOpen
import Derived.ProofKit
import Derived.OpenShut
import Derived.Stop.Joined
namespace Go.Proofs.YtcoccaglbepbdaaGreat.graphOrders
open Go Go.ChangeShapes Go.WideShapes Go.ChangeAt Go.RowKit Sh Gr
open Rf (Sl reads_sl sl_open)
open Rg (NodesAt Both Built)
attribute [local go_sem] fold_none

set_option maxHeartbeats 8000000 in
set_option maxRecDepth 100000 in
theorem walk (w : World) (s : Option Addr) (cap g off : Nat) (P : List (Int × Value)) (T : Nat → List Int) (hN : NodesAt w s g off P) (hT : ∀ i p, P[i]? = some p → Sl w p.2 (T i)) (sk : Option Addr) (ck nk : Nat) (K : List Int) (hnk : K.length = nk) (hv : Sl w (.slice sk nk ck) K) (k : Int) :
    Calls Tryz.prog 4 #[.slice s P.length cap, .slice sk nk ck, .int .i64 k] w fun e w' => e = .returned (.bool true) ∧ Below w.heap.size w w' := by
  have hAw := Lib.hid (Rg.awake_calls w)
  have hBu := Lib.hid fun w' (hb : Below w.heap.size w w') => Rg.built_calls w' s cap g off P T (hN.next hb) fun i p h => (hT i p h).next hb
  obtain ⟨np, hnp⟩ : ∃ np, Hid (P.length = np) := ⟨_, Lib.hid rfl⟩
  replace hv := Lib.hid hv
  rw [hnp.out] at hBu ⊢
  clear hN hT
  go_enter Tryz.func4, Tryz.ntmps4
  go_wp2_with (go_at_call 9; refine hAw.out.mono ?_; rintro e w1 ⟨rfl, b1⟩; have hB2 := Lib.hid (hBu.out w1 b1); replace b1 := Lib.hid b1; clear hAw hBu)
  refine hB2.out.mono ?_
  rintro e w2 ⟨b, m, b2, ok, rfl, c2, ⟨rfl, -⟩ | ⟨rfl, hS, hBo⟩⟩
  · have hend := Lib.hid (b_then b1.out c2)
    clear c2 hB2 b1
    go_wp2
    go_ret
    exact ⟨rfl, hend.out⟩
  · have b02 := Lib.hid (b_then b1.out c2)
    clear c2 hB2 b1
    by_cases hk : 60 < nk
    · have l1 : (60 : Int) < nk := by omega
      clear hk hS hBo
      go_wp2
      go_ret
      exact ⟨rfl, b02.out⟩
    · have l1 : ¬ (60 : Int) < nk := by omega
      have hK6 : K.length ≤ 60 := by omega
      obtain ⟨G, hG⟩ : ∃ G, G = Rg.gph P T P.length := ⟨_, rfl⟩
      rw [← hG] at hS hBo
      clear hk hG
      have hv2 := Lib.hid (hv.out.next b02.out)
      have hO := Lib.hid (Order_calls w2 b m G _ K hBo.gr hS (by omega) hv2.out)
      replace hBo := Lib.hid hBo
      replace hS := Lib.hid hS
      go_wp2_with fail
      refine hO.out.mono ?_
      rintro e w3 ⟨u3, L3, c3, rfl, o3, s3, b3⟩
      have hR := Lib.hid (Rg.ROrder_calls w3 b2 G _ K (hBo.out.rf.next b3) hS.out (by omega) (hv2.out.next b3))
      replace o3 := Lib.hid o3
      replace s3 := Lib.hid s3
      replace b3 := Lib.hid b3
      clear hO
      go_wp2_with fail
      refine hR.out.mono ?_
      rintro e w4 ⟨u4, L4, c4, rfl, o4, s4, b4⟩
      obtain ⟨rfl, rfl⟩ := o3.out.unique o4
      have b24 := Lib.hid (b_then b3.out b4)
      have hH := Lib.hid (Height_calls w4 b m G k (hBo.out.gr.next b24.out) hS.out)
      have s34 := Lib.hid (s3.out.next b4)
      replace s4 := Lib.hid s4
      clear hR o4 s3 b4 b3
      go_wp2_with fail
      refine hH.out.mono ?_
      rintro e w5 ⟨h5, c5, rfl, i5, b5⟩
      have b25 := Lib.hid (b_then b24.out b5)
      have hRH := Lib.hid (Rg.RHeight_calls w5 b2 G k (hBo.out.rf.next b25.out) hS.out)
      have s35 := Lib.hid (s34.out.next b5)
      have s45 := Lib.hid (s4.out.next b5)
      replace i5 := Lib.hid i5
      clear hH s34 s4 b5 b24
      go_wp2_with fail
      refine hRH.out.mono ?_
      rintro e w6 ⟨h6, c6, rfl, i6, b6⟩
      obtain ⟨rfl, rfl⟩ := i5.out.unique i6
      have b26 := Lib.hid (b_then b25.out b6)
      have hlen : L3.length ≤ 1000000 := Nat.le_trans (OrdIs.len o3.out) (by omega)
      have hE := Rf.RSame_calls w6 u3 u4 L3 L3 hlen (s35.out.next b6) (s45.out.next b6)
      rw [decide_eq_true (rfl : L3 = L3)] at hE
      replace hE := Lib.hid hE
      obtain ⟨x3, y3, rfl, -⟩ := sl_box s35.out
      obtain ⟨x4, y4, rfl, -⟩ := sl_box s45.out
      clear hRH i6 i5 b6 b25 s35 s45
      go_wp2_with fail
      refine hE.out.mono ?_
      rintro e w7 ⟨rfl, b7⟩
      have hend := Lib.hid (b_then b02.out (b_then b26.out b7))
      clear hE b7
      go_wp2
      go_ret
      exact ⟨rfl, hend.out⟩

theorem own : ownKnob Tryz.prog.godebug = none := by kernel_rfl
theorem laidOut : laidOutB Tryz.prog = true := by kernel_rfl
set_option maxRecDepth 100000 in
theorem lifted (os : Os) (started : os.Started) (H : Type) (enc : TypeId × Value → H) :
    ReturnsInHanded {} Tryz.checked os 4 .any (Rows.graphOrdersSpec.pre6 enc Tryz.prog Tryz.f4 Rows.graphOrdersRow.domain false) (Rows.graphOrdersSpec.post enc Tryz.prog Tryz.f4 false true false false) := by
  refine returnsInHanded_of_change_sized (C := Tryz.checked) own started (by kernel_rfl) Tryz.func4
    (ChangeSpec.witness6 (enc := enc) (C := Tryz.checked) false ⟨#[], #[.slice none 0 0, .slice none 0 0, .int .i64 0], []⟩ 8 (by kernel_rfl) (by kernel_rfl) (by kernel_rfl) (by kernel_rfl)) ?_
  intro W base args ds gs before hval0 hW hcnd hsz0 _
  have hval : ∀ (j : Nat) t v, Tryz.f4.params[j]? = some t → args[j]? = some v → Value.okWide Tryz.prog W .any base t v := hval0
  have hsz : (DataW.weightsEach Tryz.prog (Tryz.f4.params.toList ++ Rows.graphOrdersSpec.plain.varTypes Tryz.prog) (ds ++ gs)).all (· ≤ reachBytes) = true := hsz0
  have hW' := hW
  obtain ⟨p, q, hA0, hV, rfl, hfz, hnd⟩ := hW
  have hA : DataW.TrodAll enc Tryz.prog W 0 (fun _ => true) true Tryz.f4.params.toList args.toList ds p := hA0
  rw [Tryz.params4] at hA hval hsz
  obtain ⟨v0, vs0, d0, ds0, p0, q0, hargs, rfl, rfl, h0, r0⟩ := trodAll_cons hA
  obtain ⟨v1, vs1, d1, ds1, p1, q1, rfl, rfl, rfl, h1, r1⟩ := trodAll_cons r0
  obtain ⟨v2, vs2, d2, ds2, p2, q2, rfl, rfl, rfl, h2, r2⟩ := trodAll_cons r1
  obtain ⟨rfl, rfl, rfl⟩ := trodAll_nil r2
  obtain rfl : args = #[v0, v1, v2] := by cases args; simp_all
  obtain ⟨rfl, rfl⟩ := trodVars_none hV
  have k0 := h0
  have lt0 : ∀ x ∈ p0, x.block < W.heap.size := by obtain ⟨m, hm⟩ := k0; exact DataW.trod_lt m _ _ _ hm
  have ok0 := hval 0 22 v0 rfl rfl
  have k1 := h1
  have lt1 : ∀ x ∈ p1, x.block < W.heap.size := by obtain ⟨m, hm⟩ := k1; exact DataW.trod_lt m _ _ _ hm
  have ok1 := hval 1 23 v1 rfl rfl
  have k2 := h2
  have lt2 : ∀ x ∈ p2, x.block < W.heap.size := by obtain ⟨m, hm⟩ := k2; exact DataW.trod_lt m _ _ _ hm
  have ok2 := hval 2 3 v2 rfl rfl
  clear hA0 hval0 hsz0
  obtain ⟨a0, c0, x0, o0, P, T, rfl, hN, hT⟩ := Rg.open_nodes ok0 h0
  obtain ⟨a1, n1, c1, x1, o1, N1, rfl, i1, -⟩ := Oct.open_nums Tryz.underlying23 Tryz.underlying3 (by kernel_rfl) (of_decide_eq_true (by kernel_rfl)) ok1 h1 (Oct.arg_weights hsz (j := 1) rfl rfl)
  obtain ⟨z, rfl, -⟩ := okWide_int Tryz.underlying3 ok2
  refine (walk W a0 c0 x0 o0 P T hN hT a1 c1 n1 _ (sl_open (cap := c1) i1).2 (sl_open (cap := c1) i1).1 z).mono fun e W' ⟨he, bel⟩ => ?_
  subst he
  exact ⟨_, rfl, _, _, _, [], _, [], hW', trodAll_mk1 (shut_bool Tryz.underlying4 _), (trodAll_cons_mk (Below.trod laidOut (by kernel_rfl) (of_decide_eq_true (by kernel_rfl)) k0 bel lt0) (trodAll_cons_mk (Below.trod laidOut (by kernel_rfl) (of_decide_eq_true (by kernel_rfl)) k1 bel lt1) (trodAll_cons_mk (Below.trod laidOut (by kernel_rfl) (of_decide_eq_true (by kernel_rfl)) k2 bel lt2) trodAll_mk0))), rfl, bel.frame _, fun h => by cases h⟩

/-- the statement -/
theorem proved : Rows.GraphOrdersSaid :=
  OpenClaim.holds_of_wide 4 Tryz.f4 rfl rfl rfl rfl rfl rfl rfl ⟨rfl, rfl, rfl, rfl, rfl⟩ rfl rfl rfl rfl rfl (by kernel_rfl) Tryz.func4 (by kernel_rfl)
    (of_decide_eq_true (by kernel_rfl)) (by unfold Func.isWrapper; first | (rw [if_pos (by decide +kernel)]; kernel_rfl) | (rw [if_neg (by decide +kernel)]; exact ⟨rfl, rfl⟩))
    (fun os started H enc _ => lifted os started H enc)
end Go.Proofs.YtcoccaglbepbdaaGreat.graphOrders
