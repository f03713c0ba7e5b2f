/-
  Proved: for all 32 bytes a, all 32 bytes b and every number, IdentShares returns true and turns nothing of what it was given. Conditions: none beyond the form's own.
-/
import Derived.Test.YtopahoilbgmobaaRows
import Derived.Test.YtopahoilbgmobaaOctKit
import Derived.Test.YtopahoilbgmobaaIdOpen
import Derived.Test.YtopahoilbgmobaaIdAwake
namespace Go.Proofs.Ytopahoilbgmobaa.identShares
open Go.ChangeShapes Go.WideShapes Go.ChangeAt Go.RowKit Ident
theorem Row.box {cs : Array Value} {f : Nat → UInt8} (h : ArrV cs f) (w : World) (t : TypeId) : Row (w.alloc (.cells cs t)) w.heap.size f :=
  ⟨fun i hi => by rw [← h.cell i hi]; simp [go_sem], fun i hi => by simp [go_sem]⟩
theorem Row.other {w : World} {b c : Nat} {g : Nat → UInt8} (h : Row w b g) (hne : b ≠ c) (t : Nat) (v : Value) : Row (w.setCell ⟨c, t, none⟩ v) b g :=
  ⟨fun i hi => by
    rw [World.cell?_setCell_other]
    · exact h.cell i hi
    · exact fun e => hne (congrArg Addr.block e).symm,
   fun i hi => by rw [World.frozen?_setCell]; exact h.frozen i hi⟩
theorem mixed_share {f g : Nat → UInt8} {n k : Nat} (hn : n ≤ 32) (h : IsShare (txt f) (txt fun i => if i < n then f i else g i) k) : 2 * n ≤ k := by
  rcases Nat.lt_or_ge k (2 * n) with hk | hk
  · refine absurd ?_ (h.unlike (txt_size _) (txt_size _) (by omega))
    unfold digit
    rw [txt_by f (show k / 2 < 32 by omega), txt_by (fun i => if i < n then f i else g i) (show k / 2 < 32 by omega), if_pos (show k / 2 < n by omega)]
  · exact hk
theorem decide_same {p q : Prop} [Decidable p] [Decidable q] (h : p ↔ q) : (!(decide p == decide q)) = false := by
  have : decide p = decide q := decide_eq_decide.2 h
  rw [this]; simp
set_option maxRecDepth 100000 in
set_option maxHeartbeats 1000000 in
theorem walk (ca cb : Array Value) (f g : Nat → UInt8) (c : Int) (ha : ArrV ca f) (hb : ArrV cb g) (w : World) :
    Calls Try.prog 6 #[.agg ca, .agg cb, .int .i64 c] w fun e w' => e = .returned (.bool true) ∧ Below w.heap.size w w' := by
  have rA := Row.box ha w 36
  have rB := Row.box hb (w.alloc (.cells ca 36)) 36
  have b1 := (Below.refl w.heap.size w).alloc (Nat.le_refl _) (.cells ca 36)
  have b2 := (Below.refl (w.alloc (.cells ca 36)).heap.size _).alloc (Nat.le_refl _) (.cells cb 36)
  have e1 : (w.alloc (.cells ca 36)).heap.size = w.heap.size + 1 := by simp
  replace rA := rA.below b2 (by rw [e1]; omega)
  replace b2 := b1.trans (b2.mono (by rw [e1]; omega))
  rw [e1] at rB
  clear b1 e1
  replace rA := Lib.hid rA
  replace rB := Lib.hid rB
  replace b2 := Lib.hid b2
  obtain ⟨n, hn, hn33⟩ := Oct.rem_small c 33 (by omega) (by omega)
  go_enter Try.func6, Try.ntmps6
  go_wp2_with fail
  generalize (w.alloc (.cells ca 36)).alloc (.cells cb 36) = w1 at *
  refine (awake_calls w1).mono ?_
  rintro e w2 ⟨rfl, b3⟩
  have rA3 := Lib.hid (rA.out.below b3 rA.out.lt)
  have rB3 := Lib.hid (rB.out.below b3 rB.out.lt)
  replace b3 := Lib.hid (b2.out.trans (b3.mono b2.out.size))
  clear rA rB b2
  replace hn := Lib.hid hn
  go_wp2_with fail
  rw [hn.out]
  clear hn
  go_loopw [8] (fun i wr => ∃ k : Nat, k ≤ n ∧ i = .int .i64 k ∧ Row wr w.heap.size f ∧ Row wr (w.heap.size + 1) (fun i => if i < k then f i else g i) ∧ Below w.heap.size w wr) (fun i _ => n - (intOf i).toNat)
  case atStart => exact ⟨0, by omega, rfl, rA3.out, rB3.out.congr fun i hi => by simp, b3.out⟩
  case round =>
    clear rA3 rB3 b3
    obtain ⟨k, hk, rfl, rA, rB, hB⟩ := hrel
    by_cases hlt : k < n
    · have i1 : (k : Int) < n := by omega
      have i0 : 0 ≤ (k : Int) := by omega
      have i2 : (k : Int) < 32 := by omega
      have c0 := rA.cell k (by omega)
      have c1 := rB.cell k (by omega)
      have f1 := rB.frozen k (by omega)
      have rB2 := Lib.hid ((rB.set k (by omega) (f k)).congr (g' := fun i => if i < k + 1 then f i else g i) fun i hi => by
        by_cases e : i = k
        · subst e; simp
        · by_cases e2 : i < k
          · simp [e, e2, show i < k + 1 by omega]
          · simp [e, e2, show ¬ i < k + 1 by omega])
      have rA2 := Lib.hid (Row.other rA (c := w.heap.size + 1) (by omega) k (.int .u8 ((f k).toNat : Int)))
      have hB2 := Lib.hid (hB.setCell (p := ⟨w.heap.size + 1, k, none⟩) (Nat.le_succ _) (.int .u8 ((f k).toNat : Int)))
      clear rA rB hB
      go_wp2_with fail
      exact ⟨⟨k + 1, by omega, by go_num, rA2.out, rB2.out, hB2.out⟩, by simp [intOf]; omega⟩
    · have hd : decide ((k : Int) < n) = false := decide_eq_false (by omega)
      have hd2 : (n : Int) ≤ k := by omega
      have hkn : k = n := by omega
      subst hkn
      have vA := rA.conv 32
      have vB := rB.conv 32
      have hmix := Lib.hid (fun (q : Nat) => mixed_share (f := f) (g := g) (n := k) (k := q) (by omega))
      have sx := txt_size f
      have sy := txt_size (fun i => if i < k then f i else g i)
      clear rA rB
      replace hB := Lib.hid hB
      generalize txt f = x at *
      generalize txt (fun i => if i < k then f i else g i) = y at *
      go_wp2_with fail
      refine (Share_calls x y wr).mono ?_
      rintro e w' ⟨⟨q, rfl, hq⟩, rfl⟩
      go_wp2_with fail
      refine (Share_calls y x wr).mono ?_
      rintro e w' ⟨⟨q', rfl, hq'⟩, rfl⟩
      obtain rfl := hq.unique hq'.symm
      have m1 := hmix.out q hq
      have m2 := hq.le
      have hall := hq.all sx sy
      clear hq' hmix vA vB
      have j1 : 2 * (k : Int) ≤ q := by omega
      have j2 : (q : Int) ≤ 64 := by omega
      have d1 : decide ((q : Int) < 2 * (k : Int)) = false := decide_eq_false (by omega)
      have d2 : decide ((64 : Int) < q) = false := decide_eq_false (by omega)
      have hsame : ((q : Int) == 64) = (x.toList == y.toList) := by
        rw [Oct.beq_toList, Bool.eq_iff_iff]
        simp only [beq_iff_eq, decide_eq_true_iff]
        rw [← hall]; omega
      have hz := hex_size sx
      have h64 : q = 64 ∨ q < 64 := by omega
      rcases h64 with h64 | h64
      · subst h64
        have hxy := hall.1 rfl
        subst hxy
        have e1 := beq_self x
        have hyes := Lib.hid (show has x ((hex x).extract 0 64) from (has_hex sx (by omega)).2 ⟨sx, fun _ _ => rfl⟩)
        clear hsame hall hq
        go_wp2_with fail
        refine (Hex_calls x wr).mono ?_
        rintro e w7 ⟨rfl, b7⟩
        replace b7 := Lib.hid (hB.out.trans (b7.mono hB.out.size))
        clear hB
        generalize hex x = h at *
        go_wp2_with fail
        refine (Has_calls x _ w7).mono ?_
        rintro e w' ⟨rfl, rfl⟩
        rw [decide_eq_true hyes.out]
        go_wp2
        go_ret
        exact ⟨rfl, b7.out⟩
      · have g0 : ((q : Int) == 64) = false := by simp; omega
        have e1 : (x.toList == y.toList) = false := by rw [← hsame]; exact g0
        have hyes := Lib.hid (show has y ((hex x).extract 0 q) from (has_share sx m2 sy hq).2 (Nat.le_refl _))
        have hno := Lib.hid (show ¬ has y ((hex x).extract 0 (q + 1)) from fun h => absurd ((has_share sx (by omega) sy hq).1 h) (by omega))
        have hun := Lib.hid (hq.unlike sx sy h64)
        have i6 : (q : Int) < 64 := by omega
        clear hsame hall hq
        go_wp2_with fail
        refine (Hex_calls x wr).mono ?_
        rintro e w7 ⟨rfl, b7⟩
        replace b7 := Lib.hid (hB.out.trans (b7.mono hB.out.size))
        clear hB
        generalize hex x = h at *
        go_wp2_with fail
        refine (Has_calls y _ w7).mono ?_
        rintro e w' ⟨rfl, rfl⟩
        rw [decide_eq_true hyes.out]
        have n1 : ((q : Int) + 1).toNat = q + 1 := by omega
        have n2 : 0 ≤ (q : Int) + 1 := by omega
        have n3 : (q : Int) + 1 ≤ 64 := by omega
        go_wp2_with fail
        refine (Has_calls y (h.extract 0 (q + 1)) w7).mono ?_
        rintro e w' ⟨rfl, rfl⟩
        rw [decide_eq_false hno.out]
        go_wp2_with fail
        refine (Digit_calls x q w7).mono ?_
        rintro e w' ⟨rfl, rfl⟩
        go_wp2_with fail
        refine (Digit_calls y q w7).mono ?_
        rintro e w' ⟨rfl, rfl⟩
        have hne := Lib.hid (show (digitAt x q != digitAt y q) = true by
          rw [digitAt_in sx h64, digitAt_in sy h64]; simp; have := hun.out; omega)
        go_wp2
        go_ret
        exact ⟨congrArg (fun b => Ending.returned (.bool b)) hne.out, b7.out⟩

theorem own : ownKnob Try.prog.godebug = none := by kernel_rfl
theorem laidOut : laidOutB Try.prog = true := by kernel_rfl
set_option maxRecDepth 100000 in
theorem lifted (os : Os) (started : os.Started) (H : Type) (enc : TypeId × Value → H) :
    ReturnsInHanded {} Try.checked os 6 .any (Rows.identSharesSpec.pre6 enc Try.prog Try.f6 Rows.identSharesRow.domain false) (Rows.identSharesSpec.post enc Try.prog Try.f6 false true false false) := by
  refine returnsInHanded_of_change_sized (C := Try.checked) own started (by kernel_rfl) Try.func6
    (ChangeSpec.witness6 (enc := enc) (C := Try.checked) false ⟨#[], #[.agg (Array.replicate 32 (.int .u8 0)), .agg (Array.replicate 32 (.int .u8 0)), .int .i64 0], []⟩ 8 (by kernel_rfl) (by kernel_rfl) (by kernel_rfl) (by kernel_rfl)) ?_
  intro W base args ds gs before hval0 hW hcnd hsz0 _
  have hval : ∀ (j : Nat) t v, Try.f6.params[j]? = some t → args[j]? = some v → Value.okWide Try.prog W .any base t v := hval0
  have hsz : (DataW.weightsEach Try.prog (Try.f6.params.toList ++ Rows.identSharesSpec.plain.varTypes Try.prog) (ds ++ gs)).all (· ≤ reachBytes) = true := hsz0
  have hW' := hW
  obtain ⟨p, q, hA0, hV, rfl, hfz, hnd⟩ := hW
  have hA : DataW.TrodAll enc Try.prog W 0 (fun _ => true) true Try.f6.params.toList args.toList ds p := hA0
  rw [Try.params6] at hA hval hsz
  obtain ⟨v0, vs0, d0, ds0, p0, q0, hargs, rfl, rfl, h0, r0⟩ := trodAll_cons hA
  obtain ⟨v1, vs1, d1, ds1, p1, q1, rfl, rfl, rfl, h1, r1⟩ := trodAll_cons r0
  obtain ⟨v2, vs2, d2, ds2, p2, q2, rfl, rfl, rfl, h2, r2⟩ := trodAll_cons r1
  obtain ⟨rfl, rfl, rfl⟩ := trodAll_nil r2
  obtain rfl : args = #[v0, v1, v2] := by cases args; simp_all
  obtain ⟨rfl, rfl⟩ := trodVars_none hV
  have k0 := h0
  have lt0 : ∀ x ∈ p0, x.block < W.heap.size := by obtain ⟨m, hm⟩ := k0; exact DataW.trod_lt m _ _ _ hm
  have ok0 := hval 0 36 v0 rfl rfl
  have k1 := h1
  have lt1 : ∀ x ∈ p1, x.block < W.heap.size := by obtain ⟨m, hm⟩ := k1; exact DataW.trod_lt m _ _ _ hm
  have ok1 := hval 1 36 v1 rfl rfl
  have k2 := h2
  have lt2 : ∀ x ∈ p2, x.block < W.heap.size := by obtain ⟨m, hm⟩ := k2; exact DataW.trod_lt m _ _ _ hm
  have ok2 := hval 2 3 v2 rfl rfl
  clear hA0 hval0 hsz0
  obtain ⟨a0, f0, rfl, v0⟩ := open_arr Try.underlying36 Try.underlying5 (by kernel_rfl) (by kernel_rfl) ok0 h0
  obtain ⟨a1, f1, rfl, v1⟩ := open_arr Try.underlying36 Try.underlying5 (by kernel_rfl) (by kernel_rfl) ok1 h1
  obtain ⟨a2, rfl, rfl, rfl, w2⟩ := open_int Try.underlying3 ok2 h2
  refine (walk a0 a1 f0 f1 a2 v0 v1 W).mono fun e W' ⟨he, bel⟩ => ?_
  subst he
  exact ⟨_, rfl, _, _, _, [], _, [], hW', trodAll_mk1 (shut_bool Try.underlying4 _), (trodAll_cons_mk (Below.trod laidOut (by kernel_rfl) (of_decide_eq_true (by kernel_rfl)) k0 bel lt0) (trodAll_cons_mk (Below.trod laidOut (by kernel_rfl) (of_decide_eq_true (by kernel_rfl)) k1 bel lt1) (trodAll_cons_mk (Below.trod laidOut (by kernel_rfl) (of_decide_eq_true (by kernel_rfl)) k2 bel lt2) trodAll_mk0))), rfl, bel.frame _, fun h => by cases h⟩

/-- the statement -/
theorem proved : Rows.IdentSharesSaid :=
  OpenClaim.holds_of_wide 6 Try.f6 rfl rfl rfl rfl rfl rfl rfl ⟨rfl, rfl, rfl, rfl, rfl⟩ rfl rfl rfl rfl rfl (by kernel_rfl) Try.func6 (by kernel_rfl)
    (of_decide_eq_true (by kernel_rfl)) (by unfold Func.isWrapper; first | (rw [if_pos (by decide +kernel)]; kernel_rfl) | (rw [if_neg (by decide +kernel)]; exact ⟨rfl, rfl⟩))
    (fun os started H enc _ => lifted os started H enc)
end Go.Proofs.Ytopahoilbgmobaa.identShares
