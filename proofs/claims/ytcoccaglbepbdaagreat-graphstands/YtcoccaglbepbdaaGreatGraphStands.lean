/-
  Of every nodes and keys: in the order that Order tells all stand once, and each behind those that it points to (GraphStands). Conditions: none.
-/
import Derived.Test.YtcoccaglbepbdaaGreatRows
import Derived.Test.YtcoccaglbepbdaaGreatOctKit
import Derived.Test.YtcoccaglbepbdaaGreatGrLaws
import Derived.Test.YtcoccaglbepbdaaGreatGrOpen
import Derived.ProofKit
import Derived.OpenShut
import Derived.Stop.Joined
namespace Go.Proofs.YtcoccaglbepbdaaGreat.graphStands
open Go Go.ChangeShapes Go.WideShapes Go.ChangeAt Go.RowKit Sh Gr
open Rf (Sl reads_sl sl_open)
open Rg (NodesAt Both Built setOf mem_setOf setOf_rises)
open Ti (SetAt)
attribute [local go_sem] fold_none

/-- what was seen -/
def Seen (L Q : List Int) (i : Nat) : Prop := Rises Q ∧ (∀ x, x ∈ Q ↔ x ∈ L.take i) ∧ Q.length ≤ i
theorem Seen.start (L : List Int) : Seen L (setOf []) 0 := ⟨setOf_rises _, fun x => by rw [mem_setOf]; simp, by simp [setOf]⟩
theorem Seen.step {L Q : List Int} {i : Nat} {x : Int} (h : Seen L Q i) (hi : L[i]? = some x) : Seen L (ins x Q) (i + 1) :=
  ⟨rises_ins x h.1, fun y => by
    rw [mem_ins_int h.1, h.2.1, List.take_add_one, hi, List.mem_append]
    simp only [Option.toList_some, List.mem_singleton]
    exact Or.comm, Nat.le_trans (ins_len_le x Q) (by have := h.2.2; omega)⟩

set_option maxHeartbeats 8000000 in
set_option maxRecDepth 100000 in
theorem walk (w : World) (s : Option Addr) (cap g off : Nat) (P : List (Int × Value)) (T : Nat → List Int) (hN : NodesAt w s g off P) (hT : ∀ i p, P[i]? = some p → Sl w p.2 (T i)) (sk : Option Addr) (ck nk : Nat) (K : List Int) (hnk : K.length = nk) (hv : Sl w (.slice sk nk ck) K) :
    Calls Tryz.prog 5 #[.slice s P.length cap, .slice sk nk ck] w fun e w' => e = .returned (.bool true) ∧ Below w.heap.size w w' := by
  have hAw := Lib.hid (Rg.awake_calls w)
  have hBu := Lib.hid fun w' (hb : Below w.heap.size w w') => Rg.built_calls w' s cap g off P T (hN.next hb) fun i p h => (hT i p h).next hb
  obtain ⟨np, hnp⟩ : ∃ np, Hid (P.length = np) := ⟨_, Lib.hid rfl⟩
  replace hv := Lib.hid hv
  rw [hnp.out] at hBu ⊢
  clear hN hT
  go_enter Tryz.func5, Tryz.ntmps5
  go_wp2_with (go_at_call 9; refine hAw.out.mono ?_; rintro e w1 ⟨rfl, b1⟩; have hB2 := Lib.hid (hBu.out w1 b1); replace b1 := Lib.hid b1; clear hAw hBu)
  refine hB2.out.mono ?_
  rintro e w2 ⟨b, m, b2, ok, rfl, c2, ⟨rfl, -⟩ | ⟨rfl, hS, hBo⟩⟩
  · have hend := Lib.hid (b_then b1.out c2)
    clear c2 hB2 b1
    go_wp2
    go_ret
    exact ⟨rfl, hend.out⟩
  · have b02 := Lib.hid (b_then b1.out c2)
    clear c2 hB2 b1
    by_cases hk : 60 < nk
    · have l1 : (60 : Int) < nk := by omega
      clear hk hS hBo
      go_wp2
      go_ret
      exact ⟨rfl, b02.out⟩
    · have l1 : ¬ (60 : Int) < nk := by omega
      have hK6 : K.length ≤ 60 := by omega
      obtain ⟨G, hG⟩ : ∃ G, G = Rg.gph P T P.length := ⟨_, rfl⟩
      rw [← hG] at hS hBo
      clear hk hG
      have hv2 := Lib.hid (hv.out.next b02.out)
      have hO := Lib.hid (Order_calls w2 b m G _ K hBo.gr hS (by omega) hv2.out)
      have hGr := Lib.hid fun w' hb => hBo.gr.next (W' := w') hb
      replace hS := Lib.hid hS
      clear hBo
      go_wp2_with fail
      refine hO.out.mono ?_
      rintro e w3 ⟨u, L, c, rfl, o3, s3, b3⟩
      have b03 := Lib.hid (b_then b02.out b3)
      obtain ⟨su, cu, rfl, -⟩ := sl_box s3
      rcases Rg.ord_ok o3 with ⟨rfl, hc⟩ | ⟨rfl, -, hSt⟩
      · clear hO o3 s3 b3
        rcases hc with rfl | rfl
        · go_wp2
          go_ret
          exact ⟨rfl, b03.out⟩
        · go_wp2
          go_ret
          exact ⟨rfl, b03.out⟩
      · have hGr3 := Lib.hid fun w' hb => hGr.out w' (b_then b3 hb)
        have hO1 := Lib.hid (Rg.of_calls w3 (.slice none 0 0) [] (by simp) (sl_none w3))
        have hL60 : L.length ≤ 60 := Nat.le_trans (OrdIs.len o3) hK6
        obtain ⟨n, hn⟩ : ∃ n, Hid (L.length = n) := ⟨_, Lib.hid rfl⟩
        rw [hn.out] at hL60 s3 ⊢
        replace hSt := Lib.hid hSt
        replace s3 := Lib.hid s3
        replace b3 := Lib.hid b3
        clear hO o3 hGr
        go_wp2_with fail
        refine hO1.out.mono ?_
        rintro e w4 ⟨sb, rfl, hsb, hs4, b4⟩
        have hO2 := Lib.hid (Rg.of_calls w4 _ K (by omega) (hv2.out.next (b_then b3.out b4)))
        have b04 := Lib.hid b4
        replace hs4 := Lib.hid hs4
        clear hO1 b4
        go_wp2_with fail
        refine hO2.out.mono ?_
        rintro e w5 ⟨wb, rfl, hwb, hw5, b5⟩
        have hs5 : Hid (SetAt w5 (some ⟨sb, 0, none⟩) (setOf [])) := Lib.hid (hs4.out.next b5)
        have hne : Hid (wb ≠ sb) := Lib.hid (by obtain ⟨p, hp⟩ := Ti.At.box hs4.out; have := hp.lt; omega)
        have b35 := Lib.hid (b_then b04.out b5)
        replace hw5 := Lib.hid hw5
        have hQ0 := Lib.hid (Seen.start L)
        clear hO2 b5 b04 hs4 hwb
        go_wp2
        go_loopg [12] n (fun gg s12 wr => ∃ (i : Nat) (Q : List Int), s12 = .int .i64 (i : Int) ∧ i ≤ n ∧ n - i ≤ gg ∧ Hid (Seen L Q i) ∧ Hid (SetAt wr (some ⟨sb, 0, none⟩) Q) ∧ Hid (SetAt wr (some ⟨wb, 0, none⟩) (setOf K)) ∧ Hid (Below w3.heap.size w3 wr))
        case atStart => exact ⟨0, _, rfl, by omega, by omega, hQ0, hs5, hw5, b35⟩
        case round =>
          clear hQ0 hs5 hw5 b35
          obtain ⟨i, Q, rfl, hi, hgg, hQ, hs, hw, hb⟩ := hrel
          by_cases hlt : i < n
          · obtain ⟨go, oo, rfl, co⟩ := sl_cell (by rw [← hn.out] at s3; exact s3.out) hb.out (show i < L.length by rw [hn.out]; exact hlt)
            have hx : L[i]? = some (L[i]?.getD 0) := by rw [List.getElem?_eq_getElem (by rw [hn.out]; exact hlt)]; rfl
            obtain ⟨x, hxe⟩ : ∃ x, Hid (L[i]?.getD 0 = x) := ⟨_, Lib.hid rfl⟩
            rw [hxe.out] at hx co
            have hxS : x ∈ setOf K := (hSt.out.mem x).1 (List.mem_of_getElem? hx)
            have hxQ : x ∉ Q := fun e => by
              obtain ⟨j, hj⟩ := List.mem_iff_getElem?.1 ((hQ.out.2.1 x).1 e)
              have h1 := (List.getElem?_eq_some_iff.1 hj).1
              rw [List.length_take] at h1
              rw [List.getElem?_take, if_pos (by omega)] at hj
              obtain ⟨l1, e1⟩ := List.getElem?_eq_some_iff.1 hj
              obtain ⟨l2, e2⟩ := List.getElem?_eq_some_iff.1 hx
              have := (List.getElem_inj hSt.out.nodup).1 (e1.trans e2.symm)
              omega
            have hxT : x ∉ G.T x := fun e => hxQ ((hQ.out.2.1 x).2 (hSt.out.behind i x hx x e hxS))
            have hWi : ((setOf (G.T x)).filter fun a => has a (setOf K)).all (fun a => has a (ins x Q)) = true := by
              rw [List.all_eq_true]
              intro a ha
              obtain ⟨h1, h2⟩ := List.mem_filter.1 ha
              rw [Rg.has_mem, decide_eq_true_eq] at h2
              rw [Rg.has_mem, decide_eq_true_eq, mem_ins_int hQ.out.1]
              exact Or.inr ((hQ.out.2.1 a).2 (hSt.out.behind i x hx a (mem_setOf.1 h1) h2))
            have hHa := Lib.hid (Ti.Has_calls wr _ (setOf K) x hw.out (setOf_rises K))
            rw [show has x (setOf K) = true by rw [Rg.has_mem]; simpa using hxS] at hHa
            have l2 : (i : Int) < n := by omega
            have l3 : (0 : Int) ≤ i := by omega
            have hw1 : IntKind.i64.wrap ((i : Int) + 1) = ((i + 1 : Nat) : Int) := wrap_nat (i + 1) (by omega)
            have hms : Hid (n - (i + 1) < gk) := Lib.hid (by omega)
            have hi2 : Hid (i + 1 ≤ n) := Lib.hid (by omega)
            have hQ2 := Lib.hid (hQ.out.step hx)
            have hAdd := Lib.hid fun w' (hb' : Below wr.heap.size wr w') => Ti.Add_calls w' sb Q x (hs.out.next hb') hQ.out.1 (by have := hQ.out.2.2; omega)
            rw [show (!has (Ent.key x) Q) = true by rw [show Ent.key x = x from rfl, Rg.has_mem]; simpa using hxQ] at hAdd
            have hTH : has x (setOf (G.T x)) = false := by rw [Rg.has_mem]; simpa [mem_setOf] using hxT
            have hcl : Hid (∀ w', Below w3.heap.size w3 w' → w'.cell? ⟨go, oo + i, none⟩ = some (.int .i64 x)) := Lib.hid fun w' hb' => by
              obtain ⟨g9, o9, e9, c9⟩ := sl_cell (by rw [← hn.out] at s3; exact s3.out) hb' (show i < L.length by rw [hn.out]; exact hlt)
              cases e9
              rw [hxe.out] at c9
              exact c9
            replace hTH := Lib.hid hTH
            replace hWi := Lib.hid hWi
            clear hgg hlt hi hx hxS hxQ hxT hQ
            go_wp2_with (first
              | (go_at_call 27; refine hHa.out.mono ?_; rintro e w6 ⟨rfl, b6⟩; have hA6 := Lib.hid (hAdd.out w6 b6); have cl6 := hcl.out w6 (b_next hb.out b6 (Nat.le_refl _)); have hw6 := Lib.hid (hw.out.next b6); have hs6 := Lib.hid (hs.out.next b6); have hb6 := Lib.hid (b_next hb.out b6 (Nat.le_refl _)); clear b6 hHa hAdd)
              | (go_at_call 28; refine hA6.out.mono ?_; rintro e w7 ⟨rfl, hT7⟩; have hb7 := Lib.hid (Ti.Turns.below hT7 hb6.out hsb); have hw7 : Hid (SetAt w7 (some ⟨wb, 0, none⟩) (setOf K)) := Lib.hid (by obtain ⟨p, hp⟩ := Ti.At.box hs6.out; exact Rg.at_apart hw6.out hp hne.out hT7.2); have hs7 := Lib.hid hT7.1; have cl7 := hcl.out w7 hb7.out; have hTo := Lib.hid (Rg.to_calls w7 b m G x (hGr3.out w7 hb7.out) hS.out); clear hT7 hA6 hw6 hs6))
            refine hTo.out.mono ?_
            rintro e w8 ⟨u8, rfl, h8, b8⟩
            obtain ⟨t8, c8, rfl, -⟩ := sl_box h8
            have hOf := Lib.hid (Rg.of_calls w8 _ (G.T x) (by have := hS.out.to x; omega) h8)
            have hb8 := Lib.hid (b_next hb7.out b8 (Nat.le_refl _))
            have hw8 := Lib.hid (hw7.out.next b8)
            have hs8 := Lib.hid (hs7.out.next b8)
            clear hTo h8 b8 hw7 hs7 hb7
            go_wp2_with fail
            refine hOf.out.mono ?_
            rintro e w9 ⟨tb, rfl, -, ht9, b9⟩
            have hb9 := Lib.hid (b_next hb8.out b9 (Nat.le_refl _))
            have hw9 := Lib.hid (hw8.out.next b9)
            have hs9 := Lib.hid (hs8.out.next b9)
            have hMe := Lib.hid (Ti.Meet_calls w9 _ _ _ _ ht9 hw9.out (setOf_rises _) (setOf_rises _) (by have := Rg.setOf_len (G.T x); have := hS.out.to x; omega))
            replace ht9 := Lib.hid ht9
            clear hOf b9 hw8 hs8 hb8
            go_wp2_with fail
            refine hMe.out.mono ?_
            rintro e w10 ⟨mb, rfl, -, hm10, b10⟩
            have hb10 := Lib.hid (b_next hb9.out b10 (Nat.le_refl _))
            have hw10 := Lib.hid (hw9.out.next b10)
            have hs10 := Lib.hid (hs9.out.next b10)
            have ht10 := ht9.out.next b10
            have hWc := Ti.Within_calls w10 _ _ _ _ hm10 hs10.out hQ2.out.1
            rw [hWi.out] at hWc
            have hHt := Lib.hid fun w' (hb' : Below w10.heap.size w10 w') => Ti.Has_calls w' _ _ x (ht10.next hb') (setOf_rises (G.T x))
            rw [hTH.out] at hHt
            replace hWc := Lib.hid hWc
            clear hMe hm10 b10 hw9 hs9 hb9 ht9 ht10
            go_wp2_with (first
              | (go_at_call 29; refine hWc.out.mono ?_; rintro e w11 ⟨rfl, b11⟩; have hH11 := Lib.hid (hHt.out w11 b11); have hb11 := Lib.hid (b_next hb10.out b11 (Nat.le_refl _)); have cl11 := hcl.out w11 hb11.out; have hw11 := Lib.hid (hw10.out.next b11); have hs11 := Lib.hid (hs10.out.next b11); clear b11 hWc hHt hw10 hs10 hb10)
              | (go_at_call 27; refine hH11.out.mono ?_; rintro e w12 ⟨rfl, b12⟩; have hb12 := Lib.hid (b_next hb11.out b12 (Nat.le_refl _)); have hw12 := Lib.hid (hw11.out.next b12); have hs12 := Lib.hid (hs11.out.next b12); clear b12 hH11 hw11 hs11))
            go_roundg (n - (i + 1))
            case measure => exact hms.out
            case rel => exact ⟨i + 1, ins x Q, by simp, hi2.out, Nat.le_refl _, hQ2, hs12, hw12, hb12⟩
          · obtain rfl : i = n := by omega
            have l2 : ¬ (i : Int) < i := by omega
            have hQS : Q = setOf K := rises_one hQ.out.1 (setOf_rises K) fun x => by rw [hQ.out.2.1, List.take_of_length_le (by rw [hn.out]; exact Nat.le_refl _)]; exact hSt.out.mem x
            subst hQS
            have hz1 := Lib.hid (Ti.SetLen_calls wr _ _ hs.out)
            have hz2 := Lib.hid (Ti.SetLen_calls wr _ _ hw.out)
            have hend := Lib.hid (b_next b03.out hb.out (Nat.le_refl _))
            clear hs hw hQ hgg
            generalize (setOf K).length = q at *
            go_wp2_with fail
            refine hz1.out.mono ?_
            rintro e w6 ⟨rfl, hw6⟩
            obtain rfl := hw6.symm
            clear hw6 hz1
            go_wp2_with fail
            refine hz2.out.mono ?_
            rintro e w6 ⟨rfl, hw6⟩
            obtain rfl := hw6.symm
            clear hw6 hz2
            go_wp2
            go_ret
            exact ⟨by simp, hend.out⟩

theorem own : ownKnob Tryz.prog.godebug = none := by kernel_rfl
theorem laidOut : laidOutB Tryz.prog = true := by kernel_rfl
set_option maxRecDepth 100000 in
theorem lifted (os : Os) (started : os.Started) (H : Type) (enc : TypeId × Value → H) :
    ReturnsInHanded {} Tryz.checked os 5 .any (Rows.graphStandsSpec.pre6 enc Tryz.prog Tryz.f5 Rows.graphStandsRow.domain false) (Rows.graphStandsSpec.post enc Tryz.prog Tryz.f5 false true false false) := by
  refine returnsInHanded_of_change_sized (C := Tryz.checked) own started (by kernel_rfl) Tryz.func5
    (ChangeSpec.witness6 (enc := enc) (C := Tryz.checked) false ⟨#[], #[.slice none 0 0, .slice none 0 0], []⟩ 8 (by kernel_rfl) (by kernel_rfl) (by kernel_rfl) (by kernel_rfl)) ?_
  intro W base args ds gs before hval0 hW hcnd hsz0 _
  have hval : ∀ (j : Nat) t v, Tryz.f5.params[j]? = some t → args[j]? = some v → Value.okWide Tryz.prog W .any base t v := hval0
  have hsz : (DataW.weightsEach Tryz.prog (Tryz.f5.params.toList ++ Rows.graphStandsSpec.plain.varTypes Tryz.prog) (ds ++ gs)).all (· ≤ reachBytes) = true := hsz0
  have hW' := hW
  obtain ⟨p, q, hA0, hV, rfl, hfz, hnd⟩ := hW
  have hA : DataW.TrodAll enc Tryz.prog W 0 (fun _ => true) true Tryz.f5.params.toList args.toList ds p := hA0
  rw [Tryz.params5] at hA hval hsz
  obtain ⟨v0, vs0, d0, ds0, p0, q0, hargs, rfl, rfl, h0, r0⟩ := trodAll_cons hA
  obtain ⟨v1, vs1, d1, ds1, p1, q1, rfl, rfl, rfl, h1, r1⟩ := trodAll_cons r0
  obtain ⟨rfl, rfl, rfl⟩ := trodAll_nil r1
  obtain rfl : args = #[v0, v1] := by cases args; simp_all
  obtain ⟨rfl, rfl⟩ := trodVars_none hV
  have k0 := h0
  have lt0 : ∀ x ∈ p0, x.block < W.heap.size := by obtain ⟨m, hm⟩ := k0; exact DataW.trod_lt m _ _ _ hm
  have ok0 := hval 0 22 v0 rfl rfl
  have k1 := h1
  have lt1 : ∀ x ∈ p1, x.block < W.heap.size := by obtain ⟨m, hm⟩ := k1; exact DataW.trod_lt m _ _ _ hm
  have ok1 := hval 1 23 v1 rfl rfl
  clear hA0 hval0 hsz0
  obtain ⟨a0, c0, x0, o0, P, T, rfl, hN, hT⟩ := Rg.open_nodes ok0 h0
  obtain ⟨a1, n1, c1, x1, o1, N1, rfl, i1, -⟩ := Oct.open_nums Tryz.underlying23 Tryz.underlying3 (by kernel_rfl) (of_decide_eq_true (by kernel_rfl)) ok1 h1 (Oct.arg_weights hsz (j := 1) rfl rfl)
  refine (walk W a0 c0 x0 o0 P T hN hT a1 c1 n1 _ (sl_open (cap := c1) i1).2 (sl_open (cap := c1) i1).1).mono fun e W' ⟨he, bel⟩ => ?_
  subst he
  exact ⟨_, rfl, _, _, _, [], _, [], hW', trodAll_mk1 (shut_bool Tryz.underlying4 _), (trodAll_cons_mk (Below.trod laidOut (by kernel_rfl) (of_decide_eq_true (by kernel_rfl)) k0 bel lt0) (trodAll_cons_mk (Below.trod laidOut (by kernel_rfl) (of_decide_eq_true (by kernel_rfl)) k1 bel lt1) trodAll_mk0)), rfl, bel.frame _, fun h => by cases h⟩

/-- the statement -/
theorem proved : Rows.GraphStandsSaid :=
  OpenClaim.holds_of_wide 5 Tryz.f5 rfl rfl rfl rfl rfl rfl rfl ⟨rfl, rfl, rfl, rfl, rfl⟩ rfl rfl rfl rfl rfl (by kernel_rfl) Tryz.func5 (by kernel_rfl)
    (of_decide_eq_true (by kernel_rfl)) (by unfold Func.isWrapper; first | (rw [if_pos (by decide +kernel)]; kernel_rfl) | (rw [if_neg (by decide +kernel)]; exact ⟨rfl, rfl⟩))
    (fun os started H enc _ => lifted os started H enc)
end Go.Proofs.YtcoccaglbepbdaaGreat.graphStands
