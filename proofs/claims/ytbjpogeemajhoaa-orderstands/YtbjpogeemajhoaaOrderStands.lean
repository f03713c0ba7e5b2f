/-
  OrderStands: of every two facts it is told as the document says how they stand, and of every list which is the best. Conditions: none.
-/
import Derived.Test.YtbjpogeemajhoaaRows
import Derived.Test.YtbjpogeemajhoaaOrCmp
import Derived.Test.YtbjpogeemajhoaaOrBest
import Derived.Test.YtbjpogeemajhoaaOrSame
import Derived.Test.YtbjpogeemajhoaaOrAwake
import Derived.Test.YtbjpogeemajhoaaOrOpen
import Derived.ProofKit
import Derived.OpenShut
import Derived.Stop.Joined
import Derived.Carry
namespace Go.Proofs.Ytbjpogeemajhoaa.orderStands
open Go Go.ChangeShapes Go.WideShapes Go.ChangeAt Go.RowKit Go.Proofs.Ytbjpogeemajhoaa.Or

/-- what Best tells -/
def IsTop (L : List Fx) (f : Fct) (t : Bool) : Prop := (L.length = 0 ∧ f = noFact.f ∧ t = false) ∨ (0 < L.length ∧ (∃ i, IsBest (plain L) i f) ∧ t = true)
theorem IsTop.unique {L : List Fx} {f g : Fct} {t s : Bool} (h : IsTop L f t) (k : IsTop L g s) : f = g ∧ t = s := by
  rcases h with ⟨h1, h2, h3⟩ | ⟨h1, ⟨i, h2⟩, h3⟩
  · rcases k with ⟨k1, k2, k3⟩ | ⟨k1, _, _⟩
    · exact ⟨h2.trans k2.symm, h3.trans k3.symm⟩
    · omega
  · rcases k with ⟨k1, _, _⟩ | ⟨k1, ⟨j, k2⟩, k3⟩
    · omega
    · exact ⟨(h2.unique k2).2, h3.trans k3.symm⟩
theorem Best_top (w : World) (a : Option Addr) (cap b off : Nat) (L : List Fx) (hL : FxsAt w a b off L) (hF : Facts w L) (hP : ∀ x ∈ L, x.f.pars.length ≤ 100000) (hl : L.length ≤ 100000) :
    Calls Try.prog 10 #[.slice a L.length cap] w fun e w' => ∃ x t, e = .returned (.tuple #[Fx.val x, .bool t]) ∧ IsTop L x.f t ∧ Pars w' x ∧ x.f.pars.length ≤ 100000 ∧ Below w.heap.size w w' := by
  by_cases h0 : L.length = 0
  · rw [h0]
    refine (Best_none w a cap).mono ?_
    rintro e w' ⟨rfl, hb⟩
    exact ⟨noFact, false, rfl, Or.inl ⟨h0, rfl, rfl⟩, ⟨Nat.le_refl _, 0, 0, TxAt.nil _ _ _ _⟩, Nat.zero_le _, hb⟩
  · refine (Best_calls w a cap b off L hL hF hP (by omega) hl).mono ?_
    rintro e w' ⟨i, x, hx, hB, pa, pc, rfl, hp, hb⟩
    exact ⟨⟨x.f, pa, pc⟩, true, rfl, Or.inr ⟨by omega, ⟨i, hB⟩, rfl⟩, hp, hP x (List.mem_of_getElem? hx), hb⟩
theorem RBest_top (w : World) (a : Option Addr) (cap b off : Nat) (L : List Fx) (hL : FxsAt w a b off L) (hF : Facts w L) (hP : ∀ x ∈ L, x.f.pars.length ≤ 100000) (hl : L.length ≤ 100000) :
    Calls Try.prog 11 #[.slice a L.length cap] w fun e w' => ∃ x t, e = .returned (.tuple #[Fx.val x, .bool t]) ∧ IsTop L x.f t ∧ Pars w' x ∧ x.f.pars.length ≤ 100000 ∧ Below w.heap.size w w' := by
  by_cases h0 : L.length = 0
  · rw [h0]
    refine (RBest_none w a cap).mono ?_
    rintro e w' ⟨rfl, hb⟩
    exact ⟨noFact, false, rfl, Or.inl ⟨h0, rfl, rfl⟩, ⟨Nat.le_refl _, 0, 0, TxAt.nil _ _ _ _⟩, Nat.zero_le _, hb⟩
  · refine (RBest_calls w a cap b off L hL (by omega) hl).mono ?_
    rintro e w' ⟨i, x, hx, rfl, hB, hb⟩
    exact ⟨x, true, rfl, Or.inr ⟨by omega, ⟨i, hB⟩, rfl⟩, (hF.pars x (List.mem_of_getElem? hx)).next hb, hP x (List.mem_of_getElem? hx), hb⟩
set_option maxRecDepth 100000 in
set_option maxHeartbeats 4000000 in
theorem walk (w : World) (x y : Fx) (a : Option Addr) (cap b off : Nat) (L : List Fx) (hL : FxsAt w a b off L) (hK : ∀ z ∈ L, Known w z) (hl : L.length ≤ 140737488351232) :
    Calls Try.prog 3 #[x.val, y.val, .slice a L.length cap] w fun e w' => e = .returned (.bool true) ∧ Below w.heap.size w w' := by
  have hX := Lib.hid (FxVar.new w x)
  have hA := b_alloc w (.cells #[.string x.f.id, .int .i64 x.f.high, .slice x.pa x.f.pars.length x.pc] 24)
  have hY := Lib.hid (FxVar.new (w.alloc (.cells #[.string x.f.id, .int .i64 x.f.high, .slice x.pa x.f.pars.length x.pc] 24)) y)
  have hA2 := b_alloc (w.alloc (.cells #[.string x.f.id, .int .i64 x.f.high, .slice x.pa x.f.pars.length x.pc] 24)) (.cells #[.string y.f.id, .int .i64 y.f.high, .slice y.pa y.f.pars.length y.pc] 24)
  have hsz : (w.alloc (.cells #[.string x.f.id, .int .i64 x.f.high, .slice x.pa x.f.pars.length x.pc] 24)).heap.size = w.heap.size + 1 := by simp
  rw [hsz] at hY
  replace hX := Lib.hid (hX.out.next hA2)
  have hB := Lib.hid (b_then hA hA2)
  have hFw := Lib.hid (Known.facts hK)
  replace hL := Lib.hid hL
  have hAw := Lib.hid fun w => awake_calls w
  obtain ⟨nL, hnL⟩ : ∃ n : Nat, n = L.length := ⟨_, rfl⟩
  rw [← hnL] at hl ⊢
  replace hnL := Lib.hid hnL
  dsimp only [Fx.val]
  clear hA hA2 hsz hK
  go_enter Try.func3, Try.ntmps3
  go_upto_region 1 with (fail)
  generalize (w.alloc (.cells #[.string x.f.id, .int .i64 x.f.high, .slice x.pa x.f.pars.length x.pc] 24)).alloc (.cells #[.string y.f.id, .int .i64 y.f.high, .slice y.pa y.f.pars.length y.pc] 24) = w1 at *
  go_wp2_with fail
  refine (hAw.out w1).mono ?_
  rintro e w2 ⟨rfl, b2⟩
  replace hX := Lib.hid (hX.out.next b2)
  replace hY := Lib.hid (hY.out.next b2)
  replace hB := Lib.hid (b_then hB.out b2)
  have hG := great_calls w2 a cap b off L (hL.out.next hB.out) (by rw [← hnL.out]; exact hl)
  rw [← hnL.out] at hG
  replace hG := Lib.hid hG
  clear b2 hAw
  go_wp2_with fail
  refine hG.out.mono ?_
  rintro e w3 ⟨⟨t, rfl, ht⟩, rfl⟩
  clear hG
  cases t with
  | true =>
    clear ht
    go_wp2
    go_ret
    exact ⟨rfl, hB.out⟩
  | false =>
    have hsm : nL ≤ 60 ∧ ∀ x ∈ L, x.f.pars.length ≤ 20 := Classical.byContradiction fun h => by have := ht.2 h; cases this
    have hP : ∀ x ∈ L, x.f.pars.length ≤ 100000 := fun x hx => Nat.le_trans (hsm.2 x hx) (by omega)
    have hl2 : L.length ≤ 100000 := by rw [← hnL.out]; omega
    have hBe := Best_top w2 a cap b off L (hL.out.next hB.out) (hFw.out.next hB.out) hP hl2
    have hRB := Lib.hid fun w' (bb : Below w.heap.size w w') => RBest_top w' a cap b off L (hL.out.next bb) (hFw.out.next bb) hP hl2
    rw [← hnL.out] at hBe hRB
    replace hBe := Lib.hid hBe
    clear ht hsm hP hl2
    go_wp2_with fail
    refine hBe.out.mono ?_
    rintro e w4 ⟨bx, bt, rfl, hTop, hPb, hPl, b4⟩
    replace hX := Lib.hid (hX.out.next b4)
    replace hY := Lib.hid (hY.out.next b4)
    replace hB := Lib.hid (b_then hB.out b4)
    clear hBe b4
    dsimp only [Fx.val]
    go_upto_region 6 with (fail)
    have hV := Lib.hid (FxVar.new w4 bx)
    have bA := b_alloc w4 (.cells #[.string bx.f.id, .int .i64 bx.f.high, .slice bx.pa bx.f.pars.length bx.pc] 24)
    replace hX := Lib.hid (hX.out.next bA)
    replace hY := Lib.hid (hY.out.next bA)
    replace hB := Lib.hid (b_then hB.out bA)
    replace hPb := Lib.hid (hPb.next bA)
    obtain ⟨g4, hg4⟩ : ∃ g, g = w4.heap.size := ⟨_, rfl⟩
    rw [← hg4] at hV ⊢
    generalize w4.alloc (.cells #[.string bx.f.id, .int .i64 bx.f.high, .slice bx.pa bx.f.pars.length bx.pc] 24) = w5 at *
    have hR5 := Lib.hid (hRB.out w5 hB.out)
    clear bA hg4 hRB
    go_wp2_with fail
    refine hR5.out.mono ?_
    rintro e w6 ⟨ry, rt, rfl, hTop2, hPr, hPrl, b6⟩
    obtain ⟨hff, rfl⟩ := hTop.unique hTop2
    replace hX := Lib.hid (hX.out.next b6)
    replace hY := Lib.hid (hY.out.next b6)
    replace hV := Lib.hid (hV.out.next b6)
    replace hB := Lib.hid (b_then hB.out b6)
    replace hPb := Lib.hid (hPb.out.next b6)
    clear hR5 b6 hTop hTop2
    dsimp only [Fx.val]
    go_upto_region 7 with (fail)
    have hU := Lib.hid (FxVar.new w6 ry)
    have bA := b_alloc w6 (.cells #[.string ry.f.id, .int .i64 ry.f.high, .slice ry.pa ry.f.pars.length ry.pc] 24)
    replace hX := Lib.hid (hX.out.next bA)
    replace hY := Lib.hid (hY.out.next bA)
    replace hV := Lib.hid (hV.out.next bA)
    replace hB := Lib.hid (b_then hB.out bA)
    replace hPb := Lib.hid (hPb.out.next bA)
    replace hPr := Lib.hid (hPr.next bA)
    obtain ⟨g6, hg6⟩ : ∃ g, g = w6.heap.size := ⟨_, rfl⟩
    rw [← hg6] at hU ⊢
    generalize w6.alloc (.cells #[.string ry.f.id, .int .i64 ry.f.high, .slice ry.pa ry.f.pars.length ry.pc] 24) = w7 at *
    clear bA hg6
    have hC := Lib.hid fun w' => Compare_calls x y w'
    have hRC := Lib.hid fun w' => RCompare_calls x y w'
    have hS := Lib.hid fun w' (bb : Below w7.heap.size w7 w') => same_calls w' bx ry (hPb.out.next bb) (hPr.out.next bb) hPl hPrl
    replace hff := Lib.hid hff
    obtain ⟨r, hr⟩ : ∃ r, r = cmp x.f y.f := ⟨_, rfl⟩
    rw [← hr] at hC hRC
    have bd := Lib.hid (b_drew1 w7)
    have hkeep : Hid (∀ w', Below w7.heap.size w7 w' → ((w'.cell? ⟨w.heap.size, 0, none⟩ = some (.string x.f.id) ∧ w'.cell? ⟨w.heap.size, 1, none⟩ = some (.int .i64 x.f.high) ∧ w'.cell? ⟨w.heap.size, 2, none⟩ = some (.slice x.pa x.f.pars.length x.pc))
        ∧ (w'.cell? ⟨w.heap.size + 1, 0, none⟩ = some (.string y.f.id) ∧ w'.cell? ⟨w.heap.size + 1, 1, none⟩ = some (.int .i64 y.f.high) ∧ w'.cell? ⟨w.heap.size + 1, 2, none⟩ = some (.slice y.pa y.f.pars.length y.pc))
        ∧ (w'.cell? ⟨g4, 0, none⟩ = some (.string bx.f.id) ∧ w'.cell? ⟨g4, 1, none⟩ = some (.int .i64 bx.f.high) ∧ w'.cell? ⟨g4, 2, none⟩ = some (.slice bx.pa bx.f.pars.length bx.pc))
        ∧ (w'.cell? ⟨g6, 0, none⟩ = some (.string ry.f.id) ∧ w'.cell? ⟨g6, 1, none⟩ = some (.int .i64 ry.f.high) ∧ w'.cell? ⟨g6, 2, none⟩ = some (.slice ry.pa ry.f.pars.length ry.pc)))) :=
      Lib.hid fun w' bb => ⟨(hX.out.next bb).cell, (hY.out.next bb).cell, (hV.out.next bb).cell, (hU.out.next bb).cell⟩
    have hk0 := hkeep.out _ bd.out
    clear hX hY hV hU hPb hPr hr
    go_wp2_with fail
    go_region_held3 (fun w' => ((w'.cell? ⟨w.heap.size, 0, none⟩ = some (.string x.f.id) ∧ w'.cell? ⟨w.heap.size, 1, none⟩ = some (.int .i64 x.f.high) ∧ w'.cell? ⟨w.heap.size, 2, none⟩ = some (.slice x.pa x.f.pars.length x.pc))
        ∧ (w'.cell? ⟨w.heap.size + 1, 0, none⟩ = some (.string y.f.id) ∧ w'.cell? ⟨w.heap.size + 1, 1, none⟩ = some (.int .i64 y.f.high) ∧ w'.cell? ⟨w.heap.size + 1, 2, none⟩ = some (.slice y.pa y.f.pars.length y.pc))
        ∧ (w'.cell? ⟨g4, 0, none⟩ = some (.string bx.f.id) ∧ w'.cell? ⟨g4, 1, none⟩ = some (.int .i64 bx.f.high) ∧ w'.cell? ⟨g4, 2, none⟩ = some (.slice bx.pa bx.f.pars.length bx.pc))
        ∧ (w'.cell? ⟨g6, 0, none⟩ = some (.string ry.f.id) ∧ w'.cell? ⟨g6, 1, none⟩ = some (.int .i64 ry.f.high) ∧ w'.cell? ⟨g6, 2, none⟩ = some (.slice ry.pa ry.f.pars.length ry.pc))))
      (first | exact hk0 | exact hkeep.out _ b8 | exact hkeep.out _ b9 | exact hkeep.out _ b10)
      (first
        | (go_at_call 12; refine (hC.out _).mono ?_; rintro e w8 ⟨rfl, q8, os8, hw8⟩; have b8 : Below w7.heap.size w7 w8 := (by rw [hw8]; first | exact b_then bd.out (below_grow _ _ _) | exact b_then b9 (below_grow _ _ _)); clear hw8)
        | (go_at_call 13; refine (hRC.out _).mono ?_; rintro e w9 ⟨rfl, q9, os9, hw9⟩; have b9 : Below w7.heap.size w7 w9 := (by rw [hw9]; first | exact b_then bd.out (below_grow _ _ _) | exact b_then b8 (below_grow _ _ _)); clear hw9)
        | (go_at_call 14; (first | (refine (hS.out _ b9).mono ?_) | (refine (hS.out _ b8).mono ?_)); rintro e w10 ⟨⟨t, rfl, ht⟩, b10'⟩; have b10 : Below w7.heap.size w7 w10 := (by first | exact b_then b9 b10' | exact b_then b8 b10'); obtain rfl := ht.2 hff.out; clear ht b10'))
    all_goals
      have bb := Lib.hid (b_then hB.out b10)
      go_wp2
      go_ret
      exact ⟨rfl, bb.out⟩
theorem own : ownKnob Try.prog.godebug = none := by kernel_rfl
theorem laidOut : laidOutB Try.prog = true := by kernel_rfl
set_option maxRecDepth 100000 in
theorem lifted (os : Os) (started : os.Started) (H : Type) (enc : TypeId × Value → H) :
    ReturnsInHanded {} Try.checked os 3 .any (Rows.orderStandsSpec.pre6 enc Try.prog Try.f3 Rows.orderStandsRow.domain false) (Rows.orderStandsSpec.post enc Try.prog Try.f3 false true false false) := by
  refine returnsInHanded_of_change_sized (C := Try.checked) own started (by kernel_rfl) Try.func3
    (ChangeSpec.witness6 (enc := enc) (C := Try.checked) false ⟨#[], #[.agg #[.string ⟨#[]⟩, .int .i64 0, .slice none 0 0], .agg #[.string ⟨#[]⟩, .int .i64 0, .slice none 0 0], .slice none 0 0], []⟩ 8 (by kernel_rfl) (by kernel_rfl) (by kernel_rfl) (by kernel_rfl)) ?_
  intro W base args ds gs before hval0 hW hcnd hsz0 _
  have hval : ∀ (j : Nat) t v, Try.f3.params[j]? = some t → args[j]? = some v → Value.okWide Try.prog W .any base t v := hval0
  have hsz : (DataW.weightsEach Try.prog (Try.f3.params.toList ++ Rows.orderStandsSpec.plain.varTypes Try.prog) (ds ++ gs)).all (· ≤ reachBytes) = true := hsz0
  have hW' := hW
  obtain ⟨p, q, hA0, hV, rfl, hfz, hnd⟩ := hW
  have hA : DataW.TrodAll enc Try.prog W 0 (fun _ => true) true Try.f3.params.toList args.toList ds p := hA0
  rw [Try.params3] at hA hval hsz
  obtain ⟨v0, vs0, d0, ds0, p0, q0, hargs, rfl, rfl, h0, r0⟩ := trodAll_cons hA
  obtain ⟨v1, vs1, d1, ds1, p1, q1, rfl, rfl, rfl, h1, r1⟩ := trodAll_cons r0
  obtain ⟨v2, vs2, d2, ds2, p2, q2, rfl, rfl, rfl, h2, r2⟩ := trodAll_cons r1
  obtain ⟨rfl, rfl, rfl⟩ := trodAll_nil r2
  obtain rfl : args = #[v0, v1, v2] := by cases args; simp_all
  obtain ⟨rfl, rfl⟩ := trodVars_none hV
  have k0 := h0
  have lt0 : ∀ x ∈ p0, x.block < W.heap.size := by obtain ⟨m, hm⟩ := k0; exact DataW.trod_lt m _ _ _ hm
  have ok0 := hval 0 24 v0 rfl rfl
  have k1 := h1
  have lt1 : ∀ x ∈ p1, x.block < W.heap.size := by obtain ⟨m, hm⟩ := k1; exact DataW.trod_lt m _ _ _ hm
  have ok1 := hval 1 24 v1 rfl rfl
  have k2 := h2
  have lt2 : ∀ x ∈ p2, x.block < W.heap.size := by obtain ⟨m, hm⟩ := k2; exact DataW.trod_lt m _ _ _ hm
  have ok2 := hval 2 25 v2 rfl rfl
  clear hA0 hval0 hsz0
  obtain ⟨x, rfl, -⟩ := open_fact ok0 h0 (Oct.arg_weights hsz (j := 0) rfl rfl)
  obtain ⟨y, rfl, -⟩ := open_fact ok1 h1 (Oct.arg_weights hsz (j := 1) rfl rfl)
  obtain ⟨a2, c2, b2, o2, L, rfl, hL, hKn, hl⟩ := open_facts ok2 h2 (Oct.arg_weights hsz (j := 2) rfl rfl)
  refine (walk W x y a2 c2 b2 o2 L hL hKn hl).mono fun e W' ⟨he, bel⟩ => ?_
  subst he
  exact ⟨_, rfl, _, _, _, [], _, [], hW', trodAll_mk1 (shut_bool Try.underlying4 _), (trodAll_cons_mk (Below.trod laidOut (by kernel_rfl) (of_decide_eq_true (by kernel_rfl)) k0 bel lt0) (trodAll_cons_mk (Below.trod laidOut (by kernel_rfl) (of_decide_eq_true (by kernel_rfl)) k1 bel lt1) (trodAll_cons_mk (Below.trod laidOut (by kernel_rfl) (of_decide_eq_true (by kernel_rfl)) k2 bel lt2) trodAll_mk0))), rfl, bel.frame _, fun h => by cases h⟩

/-- the statement -/
theorem proved : Rows.OrderStandsSaid :=
  OpenClaim.holds_of_wide 3 Try.f3 rfl rfl rfl rfl rfl rfl rfl ⟨rfl, rfl, rfl, rfl, rfl⟩ rfl rfl rfl rfl rfl (by kernel_rfl) Try.func3 (by kernel_rfl)
    (of_decide_eq_true (by kernel_rfl)) (by unfold Func.isWrapper; first | (rw [if_pos (by decide +kernel)]; kernel_rfl) | (rw [if_neg (by decide +kernel)]; exact ⟨rfl, rfl⟩))
    (fun os started H enc _ => lifted os started H enc)
end Go.Proofs.Ytbjpogeemajhoaa.orderStands
