/-
  Proved: for all 32 bytes a and every place, IdentDigits returns true and turns nothing of what it was given. Conditions: none beyond the form's own.
-/
import Derived.Test.YtopahoilbgmobaaRows
import Derived.Test.YtopahoilbgmobaaOctKit
import Derived.Test.YtopahoilbgmobaaIdOpen
import Derived.Test.YtopahoilbgmobaaIdAwake
namespace Go.Proofs.Ytopahoilbgmobaa.identDigits
open Go.ChangeShapes Go.WideShapes Go.ChangeAt Go.RowKit Ident
theorem Row.box {cs : Array Value} {f : Nat → UInt8} (h : ArrV cs f) (w : World) (t : TypeId) : Row (w.alloc (.cells cs t)) w.heap.size f :=
  ⟨fun i hi => by rw [← h.cell i hi]; simp [go_sem], fun i hi => by simp [go_sem]⟩
attribute [local go_sem] getElem_by
theorem Row.drewN {w : World} {b : Nat} {g : Nat → UInt8} (h : Row w b g) (n : Nat) : Row (w.drewN n) b g := ⟨h.cell, h.frozen⟩
theorem facts (k p q : Nat) (c : UInt8) (hk : k < 32) (hp : p < 16) (hq : q < 16) (hs : 16 * p + q = c.toNat) :
    (2 * (k : Int)).toNat = 2 * k ∧ (2 * (k : Int) + 1).toNat = 2 * k + 1 ∧ IntKind.i64.wrap (2 * (k : Int)) = 2 * (k : Int) ∧ IntKind.i64.wrap (2 * (k : Int) + 1) = 2 * (k : Int) + 1 ∧
      IntKind.i64.wrap (16 * (p : Int)) = 16 * (p : Int) ∧ IntKind.i64.wrap (16 * (p : Int) + (q : Int)) = (c.toNat : Int) ∧ wrap64 (c.toNat : Int) = (c.toNat : Int) :=
  ⟨by omega, by omega, IntWalk.i64_in _ (by omega), IntWalk.i64_in _ (by omega), IntWalk.i64_in _ (by omega), (IntWalk.i64_in _ (by omega)).trans (by omega), by have := c.toNat_lt; exact IntWalk.wrap64_in _ ⟨by omega, by omega⟩⟩
theorem bounds (k p q : Nat) (hk : k < 32) (hp : p < 16) (hq : q < 16) :
    0 ≤ 2 * (k : Int) ∧ 2 * (k : Int) < 64 ∧ 0 ≤ 2 * (k : Int) + 1 ∧ 2 * (k : Int) + 1 < 64 ∧ 0 ≤ (p : Int) ∧ (p : Int) < 16 ∧ 0 ≤ (q : Int) ∧ (q : Int) < 16 :=
  ⟨by omega, by omega, by omega, by omega, by omega, by omega, by omega, by omega⟩
theorem tests (p q : Nat) (hp : p < 16) (hq : q < 16) : decide ((p : Int) < 0) = false ∧ decide ((15 : Int) < p) = false ∧ decide ((q : Int) < 0) = false ∧ decide ((15 : Int) < q) = false :=
  ⟨decide_eq_false (by omega), decide_eq_false (by omega), decide_eq_false (by omega), decide_eq_false (by omega)⟩
set_option maxRecDepth 100000 in
set_option maxHeartbeats 2000000 in
theorem walk (ca : Array Value) (f : Nat → UInt8) (c : Int) (ha : ArrV ca f) (w : World) :
    Calls Try.prog 8 #[.agg ca, .int .i64 c] w fun e w' => e = .returned (.bool true) ∧ Below w.heap.size w w' := by
  have rA := Lib.hid (Row.box ha w 36)
  have b1 := Lib.hid ((Below.refl w.heap.size w).alloc (Nat.le_refl _) (.cells ca 36))
  go_enter Try.func8, Try.ntmps8
  go_wp2_with fail
  generalize w.alloc (.cells ca 36) = w1 at *
  refine (awake_calls w1).mono ?_
  rintro e w2 ⟨rfl, b2⟩
  have rA2 := rA.out.below b2 rA.out.lt
  replace b2 := Lib.hid (b1.out.trans (b2.mono b1.out.size))
  have vA := rA2.conv 32
  replace rA2 := Lib.hid rA2
  clear rA b1
  have sx := txt_size f
  have hdv := Lib.hid (show ∀ k, k < 32 → by_ (txt f) k = f k from fun k hk => txt_by f hk)
  generalize txt f = x at *
  go_wp2_with fail
  refine (Hex_calls x w2).mono ?_
  rintro e w3 ⟨rfl, b3⟩
  have rA3 := Lib.hid (rA2.out.below b3 rA2.out.lt)
  replace b3 := Lib.hid (b2.out.trans (b3.mono b2.out.size))
  clear rA2 b2 vA
  have hz := hex_size sx
  have hby := Lib.hid (show ∀ k, k < 64 → by_ (hex x) k = dg (digit x k) from fun k hk => hex_by sx hk)
  have hwh := Lib.hid (show has x (hex x) by
    have := (has_hex (x := x) sx (Nat.le_refl 64)).2 ⟨sx, fun _ _ => rfl⟩
    rwa [hex_whole sx] at this)
  have hno := Lib.hid (show has x ⟨#[]⟩ from ⟨sx, by decide, fun j hj => absurd hj (Nat.not_lt_zero j)⟩)
  generalize hex x = h at *
  go_wp2_with fail
  go_loopw [7] (fun i wr => ∃ k : Nat, k ≤ 32 ∧ i = .int .i64 k ∧ Row wr w.heap.size f ∧ Below w.heap.size w wr) (fun i _ => 32 - (intOf i).toNat)
  case atStart => exact ⟨0, by omega, rfl, rA3.out, b3.out⟩
  case round =>
    clear rA3 b3
    obtain ⟨k, hk, rfl, rA, hB⟩ := hrel
    by_cases hlt : k < 32
    · have i1 : (k : Int) < 32 := by omega
      have i0 : 0 ≤ (k : Int) := by omega
      have e1 := Lib.hid (show digitAt x (2 * (k : Int)) = (digit x (2 * k) : Nat) from digitAt_in sx (show 2 * k < 64 by omega))
      have e2 := Lib.hid (show digitAt x (2 * (k : Int) + 1) = (digit x (2 * k + 1) : Nat) from digitAt_in sx (show 2 * k + 1 < 64 by omega))
      have g1 := Lib.hid (hby.out (2 * k) (by omega))
      have g2 := Lib.hid (hby.out (2 * k + 1) (by omega))
      have l1 := digit_lt x (2 * k)
      have l2 := digit_lt x (2 * k + 1)
      have hsum : 16 * digit x (2 * k) + digit x (2 * k + 1) = (f k).toNat := by
        rw [digit_even, digit_odd, hdv.out k hlt]; omega
      have c0 := rA.cell k hlt
      replace rA := Lib.hid rA
      replace hB := Lib.hid hB
      go_wp2_with fail
      refine (Digit_calls x (2 * (k : Int)) wr).mono ?_
      rintro e w' ⟨rfl, rfl⟩
      rw [e1.out]
      go_wp2_with fail
      refine (Digit_calls x (2 * (k : Int) + 1) wr).mono ?_
      rintro e w' ⟨rfl, rfl⟩
      rw [e2.out]
      clear e1 e2
      generalize digit x (2 * k) = p at *
      generalize digit x (2 * k + 1) = q at *
      have m1 := letters_by p l1
      have m2 := letters_by q l2
      generalize dg p = dp at *
      generalize dg q = dq at *
      obtain ⟨n1, n2, v1, v2, v3, v4, v5⟩ := facts k p q (f k) hlt l1 l2 hsum
      obtain ⟨j1, j2, j3, j4, j5, j6, j7, j8⟩ := bounds k p q hlt l1 l2
      obtain ⟨d1, d2, d3, d4⟩ := tests p q l1 l2
      have k1 := g1.out
      have k2 := g2.out
      clear hsum l1 l2 g1 g2
      generalize f k = fk at *
      go_wp2_with fail
      go_quiet (fail)
      have rA2 := Lib.hid (Row.drewN rA.out nq)
      have hB2 := Lib.hid (below_drewN hB.out nq)
      clear n1 n2 v1 v2 v3 v4 v5 j1 j2 j3 j4 j5 j6 j7 j8 d1 d2 d3 d4 k1 k2 c0 m1 m2 rA hB
      generalize wr.drewN nq = w5 at *
      go_wp2_with fail
      exact ⟨⟨k + 1, by omega, by go_num, rA2.out, hB2.out⟩, by simp [intOf]; omega⟩
    · have hd : decide ((k : Int) < 32) = false := decide_eq_false (by omega)
      have hd2 : (32 : Int) ≤ k := by omega
      replace hB := Lib.hid hB
      clear rA
      go_wp2_with fail
      refine (Digit_calls x c wr).mono ?_
      rintro e w' ⟨rfl, rfl⟩
      by_cases hc : 0 ≤ c ∧ c < 64
      · have hdg : 0 ≤ digitAt x c := by unfold digitAt; rw [if_pos ⟨sx, hc⟩]; omega
        obtain ⟨hc1, hc2⟩ := hc
        go_wp2_with fail
        refine (Has_calls x h wr).mono ?_
        rintro e w' ⟨rfl, rfl⟩
        rw [decide_eq_true hwh.out]
        go_wp2_with fail
        refine (Has_calls x _ wr).mono ?_
        rintro e w' ⟨rfl, rfl⟩
        rw [decide_eq_true hno.out]
        go_wp2
        go_ret
        exact ⟨rfl, hB.out⟩
      · have hdg : digitAt x c = -1 := digitAt_out fun g => hc g.2
        rw [hdg]
        have hx : (c < 0 ∧ decide (0 ≤ c) = false) ∨ (0 ≤ c ∧ 64 ≤ c ∧ decide (c < 64) = false) := by
          rcases Int.lt_or_le c 0 with g | g
          · exact Or.inl ⟨g, decide_eq_false (by omega)⟩
          · exact Or.inr ⟨g, by omega, decide_eq_false (by omega)⟩
        clear hc
        rcases hx with ⟨hx, hy⟩ | ⟨hx, hy, hz'⟩
        all_goals
          go_wp2_with fail
          refine (Has_calls x h wr).mono ?_
          rintro e w' ⟨rfl, rfl⟩
          rw [decide_eq_true hwh.out]
          go_wp2_with fail
          refine (Has_calls x _ wr).mono ?_
          rintro e w' ⟨rfl, rfl⟩
          rw [decide_eq_true hno.out]
          go_wp2
          go_ret
          exact ⟨rfl, hB.out⟩

theorem own : ownKnob Try.prog.godebug = none := by kernel_rfl
theorem laidOut : laidOutB Try.prog = true := by kernel_rfl
set_option maxRecDepth 100000 in
theorem lifted (os : Os) (started : os.Started) (H : Type) (enc : TypeId × Value → H) :
    ReturnsInHanded {} Try.checked os 8 .any (Rows.identDigitsSpec.pre6 enc Try.prog Try.f8 Rows.identDigitsRow.domain false) (Rows.identDigitsSpec.post enc Try.prog Try.f8 false true false false) := by
  refine returnsInHanded_of_change_sized (C := Try.checked) own started (by kernel_rfl) Try.func8
    (ChangeSpec.witness6 (enc := enc) (C := Try.checked) false ⟨#[], #[.agg (Array.replicate 32 (.int .u8 0)), .int .i64 0], []⟩ 8 (by kernel_rfl) (by kernel_rfl) (by kernel_rfl) (by kernel_rfl)) ?_
  intro W base args ds gs before hval0 hW hcnd hsz0 _
  have hval : ∀ (j : Nat) t v, Try.f8.params[j]? = some t → args[j]? = some v → Value.okWide Try.prog W .any base t v := hval0
  have hsz : (DataW.weightsEach Try.prog (Try.f8.params.toList ++ Rows.identDigitsSpec.plain.varTypes Try.prog) (ds ++ gs)).all (· ≤ reachBytes) = true := hsz0
  have hW' := hW
  obtain ⟨p, q, hA0, hV, rfl, hfz, hnd⟩ := hW
  have hA : DataW.TrodAll enc Try.prog W 0 (fun _ => true) true Try.f8.params.toList args.toList ds p := hA0
  rw [Try.params8] at hA hval hsz
  obtain ⟨v0, vs0, d0, ds0, p0, q0, hargs, rfl, rfl, h0, r0⟩ := trodAll_cons hA
  obtain ⟨v1, vs1, d1, ds1, p1, q1, rfl, rfl, rfl, h1, r1⟩ := trodAll_cons r0
  obtain ⟨rfl, rfl, rfl⟩ := trodAll_nil r1
  obtain rfl : args = #[v0, v1] := by cases args; simp_all
  obtain ⟨rfl, rfl⟩ := trodVars_none hV
  have k0 := h0
  have lt0 : ∀ x ∈ p0, x.block < W.heap.size := by obtain ⟨m, hm⟩ := k0; exact DataW.trod_lt m _ _ _ hm
  have ok0 := hval 0 36 v0 rfl rfl
  have k1 := h1
  have lt1 : ∀ x ∈ p1, x.block < W.heap.size := by obtain ⟨m, hm⟩ := k1; exact DataW.trod_lt m _ _ _ hm
  have ok1 := hval 1 3 v1 rfl rfl
  clear hA0 hval0 hsz0
  obtain ⟨a0, f0, rfl, v0⟩ := open_arr Try.underlying36 Try.underlying5 (by kernel_rfl) (by kernel_rfl) ok0 h0
  obtain ⟨a1, rfl, rfl, rfl, w1⟩ := open_int Try.underlying3 ok1 h1
  refine (walk a0 f0 a1 v0 W).mono fun e W' ⟨he, bel⟩ => ?_
  subst he
  exact ⟨_, rfl, _, _, _, [], _, [], hW', trodAll_mk1 (shut_bool Try.underlying4 _), (trodAll_cons_mk (Below.trod laidOut (by kernel_rfl) (of_decide_eq_true (by kernel_rfl)) k0 bel lt0) (trodAll_cons_mk (Below.trod laidOut (by kernel_rfl) (of_decide_eq_true (by kernel_rfl)) k1 bel lt1) trodAll_mk0)), rfl, bel.frame _, fun h => by cases h⟩

/-- the statement -/
theorem proved : Rows.IdentDigitsSaid :=
  OpenClaim.holds_of_wide 8 Try.f8 rfl rfl rfl rfl rfl rfl rfl ⟨rfl, rfl, rfl, rfl, rfl⟩ rfl rfl rfl rfl rfl (by kernel_rfl) Try.func8 (by kernel_rfl)
    (of_decide_eq_true (by kernel_rfl)) (by unfold Func.isWrapper; first | (rw [if_pos (by decide +kernel)]; kernel_rfl) | (rw [if_neg (by decide +kernel)]; exact ⟨rfl, rfl⟩))
    (fun os started H enc _ => lifted os started H enc)
end Go.Proofs.Ytopahoilbgmobaa.identDigits
