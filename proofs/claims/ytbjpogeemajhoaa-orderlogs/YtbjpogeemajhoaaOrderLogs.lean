/-
  OrderLogs: of every facts a commit's log, what it came from, and where two meet, are what the document says, or refused. Conditions: none.
-/
import Derived.Test.YtbjpogeemajhoaaRows
import Derived.Test.YtbjpogeemajhoaaOrLog
import Derived.Test.YtbjpogeemajhoaaOrRefC
import Derived.Test.YtbjpogeemajhoaaOrRefD
import Derived.Test.YtbjpogeemajhoaaOrSame
import Derived.Test.YtbjpogeemajhoaaOrAwake
import Derived.Test.YtbjpogeemajhoaaOrOpen
import Derived.ProofKit
import Derived.OpenShut
import Derived.Stop.Joined
import Derived.Carry
namespace Go.Proofs.Ytbjpogeemajhoaa.orderLogs
open Go Go.ChangeShapes Go.WideShapes Go.ChangeAt Go.RowKit Go.Proofs.Ytbjpogeemajhoaa.Or
open Go.ChangeMaps (open_string)

theorem base_unique {L : List Fct} {x y : ByteArray} {n m : Int} {s t : ByteArray} (h : IsBase L x y n s) (g : IsBase L x y m t) (hk : m = 0 → ∃ K, IsLog L y 0 K) : n = m ∧ s = t := by
  cases h with
  | bad1 h h0 => cases g with
    | bad1 g _ => exact ⟨h.unique g, rfl⟩
    | bad2 g _ _ => exact absurd (h.unique g) h0
    | ok g _ _ => exact absurd (h.unique g.code.1) h0
  | bad2 h h1 h0 => cases g with
    | bad1 g g0 => exact absurd (g.unique h) g0
    | bad2 _ g1 _ => exact ⟨h1.unique g1, rfl⟩
    | ok _ g1 _ => exact absurd (h1.unique g1) h0
  | ok h h1 h2 => cases g with
    | bad1 g g0 => exact absurd (g.unique h.code.1) g0
    | bad2 _ g1 g0 => exact absurd (g1.unique h1) g0
    | ok g g1 g2 =>
      have e := (h.unique g).2
      subst e
      refine ⟨rfl, ?_⟩
      obtain ⟨K, hK⟩ := hk rfl
      exact (h2 K hK).trans (g2 K hK).symm
set_option maxRecDepth 100000 in
set_option maxHeartbeats 4000000 in
theorem walk (w : World) (a : Option Addr) (cap b off : Nat) (L : List Fx) (x y : ByteArray) (hx : Short x) (hy : Short y) (hL : FxsAt w a b off L) (hK : ∀ z ∈ L, Known w z) (hl : L.length ≤ 140737488351232) :
    Calls Try.prog 4 #[.slice a L.length cap, .string x, .string y] w fun e w' => e = .returned (.bool true) ∧ Below w.heap.size w w' := by
  have hFw := Lib.hid (Known.facts hK)
  have hAw := Lib.hid fun w => awake_calls w
  replace hL := Lib.hid hL
  obtain ⟨nL, hnL⟩ : ∃ n : Nat, n = L.length := ⟨_, rfl⟩
  rw [← hnL] at hl ⊢
  replace hnL := Lib.hid hnL
  clear hK
  go_enter Try.func4, Try.ntmps4
  go_wp2_with fail
  refine (hAw.out w).mono ?_
  rintro e w1 ⟨rfl, b1⟩
  replace b1 := Lib.hid b1
  have hG := great_calls w1 a cap b off L (hL.out.next b1.out) (by rw [← hnL.out]; exact hl)
  rw [← hnL.out] at hG
  replace hG := Lib.hid hG
  clear hAw
  go_wp2_with fail
  refine hG.out.mono ?_
  rintro e w2 ⟨⟨t, rfl, ht⟩, rfl⟩
  clear hG
  cases t with
  | true =>
    clear ht
    go_wp2
    go_ret
    exact ⟨rfl, b1.out⟩
  | false =>
    have hsm : nL ≤ 60 ∧ ∀ x ∈ L, x.f.pars.length ≤ 20 := Classical.byContradiction fun h => by have := ht.2 h; cases this
    have hP : ∀ x ∈ L, x.f.pars.length ≤ 100000 := fun x hx => Nat.le_trans (hsm.2 x hx) (by omega)
    have hl2 : L.length ≤ 100000 := by rw [← hnL.out]; omega
    have hH := heights_calls w1 a cap b off L (hL.out.next b1.out) hl2
    rw [← hnL.out] at hH
    replace hH := Lib.hid hH
    replace hP := Lib.hid hP
    replace hl2 := Lib.hid hl2
    clear ht hsm
    go_wp2_with fail
    refine hH.out.mono ?_
    rintro e w3 ⟨⟨t, rfl, ht⟩, rfl⟩
    clear hH
    cases t with
    | false =>
      clear ht
      go_wp2
      go_ret
      exact ⟨rfl, b1.out⟩
    | true =>
      have hFi : Hid (Fine w1 a b off L) := Lib.hid ⟨hL.out.next b1.out, hFw.out.next b1.out, hl2.out, hP.out, fun z hz => by
        have h1 := (wf_range (hFw.out.wf z hz)).2
        have h2 := ht.1 rfl z hz
        omega⟩
      have hLg := Log_calls w1 a cap b off L x hFi.out hx
      have hRL := fun w' (bb : Below w1.heap.size w1 w') => RLog_calls w' a cap b off L x (hFi.out.next bb)
      have hAb := fun w' (bb : Below w1.heap.size w1 w') => Above_calls w' a cap b off L x y (hFi.out.next bb) hx hy
      have hRA := fun w' (bb : Below w1.heap.size w1 w') => RAbove_calls w' a cap b off L x y (hFi.out.next bb)
      have hBa := fun w' (bb : Below w1.heap.size w1 w') => Base_calls w' a cap b off L x y (hFi.out.next bb) hx hy
      have hRB := fun w' (bb : Below w1.heap.size w1 w') => RBase_calls w' a cap b off L x y (hFi.out.next bb)
      rw [← hnL.out] at hLg hRL hAb hRA hBa hRB
      replace hLg := Lib.hid hLg
      replace hRL := Lib.hid hRL
      replace hAb := Lib.hid hAb
      replace hRA := Lib.hid hRA
      replace hBa := Lib.hid hBa
      replace hRB := Lib.hid hRB
      clear ht hP hFw hL hFi
      go_wp2_with fail
      refine hLg.out.mono ?_
      rintro e w2 ⟨v, n, G, rfl, hlog, hO, b2⟩
      have hRL2 := Lib.hid (hRL.out w2 b2)
      have hlst := hO.lst
      replace hlog := Lib.hid hlog
      replace b2 := Lib.hid b2
      clear hLg hRL hO
      go_wp2_with fail
      refine hRL2.out.mono ?_
      rintro e w3 ⟨u, m, K, rfl, hlog2, hlst2, b3⟩
      obtain ⟨rfl, rfl⟩ := hlog.out.unique hlog2
      have hGl : G.length ≤ 1000000 := by have := hlog2.few; have := hl2.out; omega
      have hcode := Lib.hid hlog2.code.1
      obtain ⟨va, vc, vb, vo, rfl, -, hT⟩ := hlst.next b3
      obtain ⟨ua, uc, ub, uo, rfl, -, hU⟩ := hlst2
      have hTx := RTexts_calls va vc vb vo (G.map Fct.id) ua uc ub uo (G.map Fct.id) w3 hT hU (by rw [List.length_map]; exact hGl) (by rw [List.length_map]; exact hGl)
      rw [List.length_map] at hTx ⊢
      replace hTx := Lib.hid hTx
      replace b2 := Lib.hid (b_then b2.out b3)
      have hall := Lib.hid hlog2
      have e1 : (n != n) = false := by simp
      have e2 : (n == n) = true := by simp
      clear hRL2 hlst hlog hlog2 b3 hT hU hGl
      go_wp2_with fail
      refine hTx.out.mono ?_
      rintro e w4 ⟨⟨t, rfl, ht⟩, b4⟩
      obtain rfl := ht.2 (by trivial)
      have hAb4 := Lib.hid (hAb.out w4 (b_then b2.out b4))
      replace b2 := Lib.hid (b_then b2.out b4)
      clear hTx ht b4 hAb
      go_wp2_with fail
      refine hAb4.out.mono ?_
      rintro e w5 ⟨r, n2, rfl, hc2, hr, b5⟩
      have hRA5 := Lib.hid (hRA.out w5 (b_then b2.out b5))
      obtain rfl := hc2.unique hcode.out
      have hr2 := Lib.hid (hr _ hall.out)
      replace b2 := Lib.hid (b_then b2.out b5)
      clear hAb4 hc2 hr b5 hRA
      go_wp2_with fail
      refine hRA5.out.mono ?_
      rintro e w6 ⟨r', n3, rfl, hc2, hr, b6⟩
      obtain rfl := hc2.unique hcode.out
      obtain rfl : r = r' := hr2.out.trans (hr _ hall.out).symm
      have hBa6 := Lib.hid (hBa.out w6 (b_then b2.out b6))
      replace b2 := Lib.hid (b_then b2.out b6)
      have f1 : (r != r) = false := by simp
      clear hRA5 hc2 hr b6 hBa hr2
      go_wp2_with fail
      refine hBa6.out.mono ?_
      rintro e w7 ⟨s, n4, rfl, hb1, b7⟩
      have hRB7 := Lib.hid (hRB.out w7 (b_then b2.out b7))
      replace b2 := Lib.hid (b_then b2.out b7)
      replace hb1 := Lib.hid hb1
      clear hBa6 b7 hRB
      go_wp2_with fail
      refine hRB7.out.mono ?_
      rintro e w8 ⟨s', n5, rfl, hb2, hk, b8⟩
      obtain ⟨rfl, rfl⟩ := base_unique hb1.out hb2 hk
      have b9 := Lib.hid (b_then b1.out (b_then b2.out b8))
      have g1 : (s.toList == s.toList) = true := str_eq rfl
      have g2 : (n4 == n4) = true := by simp
      clear hRB7 hb1 hb2 hk b8
      go_wp2
      go_ret
      exact ⟨rfl, b9.out⟩
theorem own : ownKnob Try.prog.godebug = none := by kernel_rfl
theorem laidOut : laidOutB Try.prog = true := by kernel_rfl
set_option maxRecDepth 100000 in
theorem lifted (os : Os) (started : os.Started) (H : Type) (enc : TypeId × Value → H) :
    ReturnsInHanded {} Try.checked os 4 .any (Rows.orderLogsSpec.pre6 enc Try.prog Try.f4 Rows.orderLogsRow.domain false) (Rows.orderLogsSpec.post enc Try.prog Try.f4 false true false false) := by
  refine returnsInHanded_of_change_sized (C := Try.checked) own started (by kernel_rfl) Try.func4
    (ChangeSpec.witness6 (enc := enc) (C := Try.checked) false ⟨#[], #[.slice none 0 0, .string ⟨#[]⟩, .string ⟨#[]⟩], []⟩ 8 (by kernel_rfl) (by kernel_rfl) (by kernel_rfl) (by kernel_rfl)) ?_
  intro W base args ds gs before hval0 hW hcnd hsz0 _
  have hval : ∀ (j : Nat) t v, Try.f4.params[j]? = some t → args[j]? = some v → Value.okWide Try.prog W .any base t v := hval0
  have hsz : (DataW.weightsEach Try.prog (Try.f4.params.toList ++ Rows.orderLogsSpec.plain.varTypes Try.prog) (ds ++ gs)).all (· ≤ reachBytes) = true := hsz0
  have hW' := hW
  obtain ⟨p, q, hA0, hV, rfl, hfz, hnd⟩ := hW
  have hA : DataW.TrodAll enc Try.prog W 0 (fun _ => true) true Try.f4.params.toList args.toList ds p := hA0
  rw [Try.params4] at hA hval hsz
  obtain ⟨v0, vs0, d0, ds0, p0, q0, hargs, rfl, rfl, h0, r0⟩ := trodAll_cons hA
  obtain ⟨v1, vs1, d1, ds1, p1, q1, rfl, rfl, rfl, h1, r1⟩ := trodAll_cons r0
  obtain ⟨v2, vs2, d2, ds2, p2, q2, rfl, rfl, rfl, h2, r2⟩ := trodAll_cons r1
  obtain ⟨rfl, rfl, rfl⟩ := trodAll_nil r2
  obtain rfl : args = #[v0, v1, v2] := by cases args; simp_all
  obtain ⟨rfl, rfl⟩ := trodVars_none hV
  have k0 := h0
  have lt0 : ∀ x ∈ p0, x.block < W.heap.size := by obtain ⟨m, hm⟩ := k0; exact DataW.trod_lt m _ _ _ hm
  have ok0 := hval 0 25 v0 rfl rfl
  have k1 := h1
  have lt1 : ∀ x ∈ p1, x.block < W.heap.size := by obtain ⟨m, hm⟩ := k1; exact DataW.trod_lt m _ _ _ hm
  have ok1 := hval 1 9 v1 rfl rfl
  have k2 := h2
  have lt2 : ∀ x ∈ p2, x.block < W.heap.size := by obtain ⟨m, hm⟩ := k2; exact DataW.trod_lt m _ _ _ hm
  have ok2 := hval 2 9 v2 rfl rfl
  clear hA0 hval0 hsz0
  obtain ⟨a, cap, b, off, L, rfl, hL, hKn, hl⟩ := open_facts ok0 h0 (Oct.arg_weights hsz (j := 0) rfl rfl)
  obtain ⟨x, rfl, rfl, rfl, w1⟩ := open_string Try.underlying9 ok1 h1
  obtain ⟨y, rfl, rfl, rfl, w2⟩ := open_string Try.underlying9 ok2 h2
  refine (walk W a cap b off L x y (Oct.size_reach (sized_string hsz (j := 1) (t := 9) rfl rfl)) (Oct.size_reach (sized_string hsz (j := 2) (t := 9) rfl rfl)) hL hKn hl).mono fun e W' ⟨he, bel⟩ => ?_
  subst he
  exact ⟨_, rfl, _, _, _, [], _, [], hW', trodAll_mk1 (shut_bool Try.underlying4 _), (trodAll_cons_mk (Below.trod laidOut (by kernel_rfl) (of_decide_eq_true (by kernel_rfl)) k0 bel lt0) (trodAll_cons_mk (Below.trod laidOut (by kernel_rfl) (of_decide_eq_true (by kernel_rfl)) k1 bel lt1) (trodAll_cons_mk (Below.trod laidOut (by kernel_rfl) (of_decide_eq_true (by kernel_rfl)) k2 bel lt2) trodAll_mk0))), rfl, bel.frame _, fun h => by cases h⟩

/-- the statement -/
theorem proved : Rows.OrderLogsSaid :=
  OpenClaim.holds_of_wide 4 Try.f4 rfl rfl rfl rfl rfl rfl rfl ⟨rfl, rfl, rfl, rfl, rfl⟩ rfl rfl rfl rfl rfl (by kernel_rfl) Try.func4 (by kernel_rfl)
    (of_decide_eq_true (by kernel_rfl)) (by unfold Func.isWrapper; first | (rw [if_pos (by decide +kernel)]; kernel_rfl) | (rw [if_neg (by decide +kernel)]; exact ⟨rfl, rfl⟩))
    (fun os started H enc _ => lifted os started H enc)
end Go.Proofs.Ytbjpogeemajhoaa.orderLogs
