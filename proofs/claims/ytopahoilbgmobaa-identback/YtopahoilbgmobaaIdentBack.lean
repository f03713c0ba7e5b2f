/-
  Proved: for all 32 bytes a, all 32 bytes b and every text s, IdentBack returns true and turns nothing of what it was given. Conditions: none beyond the form's own.
-/
import Derived.Test.YtopahoilbgmobaaRows
import Derived.Test.YtopahoilbgmobaaOctKit
import Derived.Test.YtopahoilbgmobaaIdOpen
import Derived.Test.YtopahoilbgmobaaIdAwake
namespace Go.Proofs.Ytopahoilbgmobaa.identBack
open Go.ChangeShapes Go.WideShapes Go.ChangeAt Go.RowKit Ident
open Go.ChangeMaps (open_string)
theorem Row.box {cs : Array Value} {f : Nat → UInt8} (h : ArrV cs f) (w : World) (t : TypeId) : Row (w.alloc (.cells cs t)) w.heap.size f :=
  ⟨fun i hi => by rw [← h.cell i hi]; simp [go_sem], fun i hi => by simp [go_sem]⟩
/-- the two digits of a byte -/
def two (c : UInt8) : List UInt8 := [dg (c.toNat / 16), dg (c.toNat % 16)]
theorem hexTo_two (s : ByteArray) : ∀ k, k ≤ s.size → hexTo s (2 * k) = (s.data.toList.take k).flatMap two
  | 0, _ => rfl
  | k + 1, h => by
    have hk : k < s.data.toList.length := by rw [← size_list]; omega
    have e : by_ s k = s.data.toList[k] := by unfold by_; rw [List.getD_eq_getElem?_getD, List.getElem?_eq_getElem hk]; rfl
    rw [show 2 * (k + 1) = 2 * k + 1 + 1 by omega, hexTo, hexTo, hexTo_two s k (by omega), List.take_succ_eq_append_getElem hk, List.flatMap_append, digit_even, digit_odd, e]
    simp [two]
theorem hex_two {s : ByteArray} (h : s.size = 32) : (hex s).toList = s.toList.flatMap two := by
  have e : hex s = ⟨(hexTo s 64).toArray⟩ := if_pos h
  have e2 := hexTo_two s 32 (by omega)
  rw [List.take_of_length_le (by rw [← size_list]; omega)] at e2
  rw [e, ByteArray.toList_eq, ByteArray.toList_eq]
  exact e2
theorem u8_lt (a b : UInt8) : decide (a < b) = decide (a.toNat < b.toNat) := by
  rw [decide_eq_decide]; exact UInt8.lt_iff_toNat_lt
theorem less_two : ∀ l m : List UInt8, Op.bytesLess (l.flatMap two) (m.flatMap two) = Op.bytesLess l m
  | l, [] => by cases l <;> simp [Op.bytesLess]
  | [], b :: m => by simp [Op.bytesLess, two]
  | a :: l, b :: m => by
    have ih := less_two l m
    have ha := a.toNat_lt
    have hb := b.toNat_lt
    have q1 : a.toNat / 16 < 16 := by omega
    have q2 : b.toNat / 16 < 16 := by omega
    have q3 : a.toNat % 16 < 16 := by omega
    have q4 : b.toNat % 16 < 16 := by omega
    have e1 : ∀ {x y : Nat}, x < 16 → y < 16 → (dg x == dg y) = decide (x = y) := fun hx hy => by
      rw [Bool.eq_iff_iff]; simp; exact ⟨dg_inj hx hy, fun h => by rw [h]⟩
    have e2 : ∀ {x y : Nat}, x < 16 → y < 16 → decide (dg x < dg y) = decide (x < y) := fun hx hy => by
      rw [u8_lt, decide_eq_decide]; exact dg_lt hx hy
    have e3 : (a == b) = decide (a.toNat = b.toNat) := by
      rw [Bool.eq_iff_iff]; simp; exact ⟨fun h => by rw [h], fun h => UInt8.toNat.inj h⟩
    show Op.bytesLess (two a ++ l.flatMap two) (two b ++ m.flatMap two) = _
    simp only [two, List.cons_append, List.nil_append, Op.bytesLess, ih, e1 q1 q2, e1 q3 q4, e2 q1 q2, e2 q3 q4, e3, u8_lt]
    by_cases h1 : a.toNat / 16 < b.toNat / 16
    · simp [h1, show a.toNat < b.toNat by omega]
    · by_cases h2 : a.toNat / 16 = b.toNat / 16
      · by_cases h3 : a.toNat % 16 < b.toNat % 16
        · simp [h2, h3, show a.toNat < b.toNat by omega]
        · by_cases h4 : a.toNat % 16 = b.toNat % 16
          · simp [h2, h4, show a.toNat = b.toNat by omega]
          · simp [h2, h3, h4, show ¬ a.toNat < b.toNat by omega, show ¬ a.toNat = b.toNat by omega]
      · simp [h1, h2, show ¬ a.toNat < b.toNat by omega, show ¬ a.toNat = b.toNat by omega]
theorem hex_less {s t : ByteArray} (hs : s.size = 32) (ht : t.size = 32) : Op.bytesLess (hex s).toList (hex t).toList = Op.bytesLess s.toList t.toList := by
  rw [hex_two hs, hex_two ht, less_two]
theorem hex_same {s t : ByteArray} (hs : s.size = 32) (ht : t.size = 32) : ((hex s).toList == (hex t).toList) = (s.toList == t.toList) := by
  rw [Oct.beq_toList, Oct.beq_toList, decide_eq_decide]
  exact ⟨hex_inj hs ht, fun h => by rw [h]⟩
theorem not_same (b : Bool) : (!(b == b)) = false := by simp
set_option maxRecDepth 100000 in
set_option maxHeartbeats 1000000 in
theorem walk (ca cb : Array Value) (f g : Nat → UInt8) (s : ByteArray) (ha : ArrV ca f) (hb : ArrV cb g) (hs : s.size ≤ 140737488351232) (w : World) :
    Calls Try.prog 5 #[.agg ca, .agg cb, .string s] w fun e w' => e = .returned (.bool true) ∧ Below w.heap.size w w' := by
  have rA := Row.box ha w 36
  have rB := Row.box hb (w.alloc (.cells ca 36)) 36
  have b1 := (Below.refl w.heap.size w).alloc (Nat.le_refl _) (.cells ca 36)
  have b2 := (Below.refl (w.alloc (.cells ca 36)).heap.size _).alloc (Nat.le_refl _) (.cells cb 36)
  have e1 : (w.alloc (.cells ca 36)).heap.size = w.heap.size + 1 := by simp
  replace rA := rA.below b2 (by rw [e1]; omega)
  replace b2 := b1.trans (b2.mono (by rw [e1]; omega))
  rw [e1] at rB
  clear b1 e1
  replace rA := Lib.hid rA
  replace rB := Lib.hid rB
  replace b2 := Lib.hid b2
  go_enter Try.func5, Try.ntmps5
  go_wp2_with fail
  generalize (w.alloc (.cells ca 36)).alloc (.cells cb 36) = w1 at *
  refine (awake_calls w1).mono ?_
  rintro e w2 ⟨rfl, b3⟩
  have rA3 := rA.out.below b3 rA.out.lt
  have rB3 := rB.out.below b3 rB.out.lt
  replace b3 := Lib.hid (b2.out.trans (b3.mono b2.out.size))
  have vA := rA3.conv 32
  have vB := rB3.conv 32
  clear rA rB b2 rA3 rB3
  have sx := txt_size f
  have sy := txt_size g
  generalize txt f = x at *
  generalize txt g = y at *
  go_wp2_with fail
  refine (Hex_calls x w2).mono ?_
  rintro e w3 ⟨rfl, b4⟩
  replace b4 := Lib.hid (b3.out.trans (b4.mono b3.out.size))
  clear vA vB b3
  go_wp2_with fail
  refine (Hex_calls y w3).mono ?_
  rintro e w4 ⟨rfl, b5⟩
  replace b5 := Lib.hid (b4.out.trans (b5.mono b4.out.size))
  clear b4
  go_wp2_with fail
  refine (Unhex_calls (hex x) (by rw [hex_size sx]; omega) w4).mono ?_
  rintro e w5 ⟨⟨r, n, rfl, hu⟩, b6⟩
  replace b6 := Lib.hid (b5.out.trans (b6.mono b5.out.size))
  clear b5
  obtain ⟨hr, rfl⟩ := hu.good (hex_size sx) (hex_digits sx)
  rw [unhexed_hex sx] at hr
  subst hr
  clear hu
  have q1 := hex_less sx sy
  have q2 := hex_same sx sy
  generalize hex r = hx at *
  generalize hex y = hy at *
  generalize hL : Op.bytesLess r.toList y.toList = L at *
  generalize hE : (r.toList == y.toList) = E at *
  go_wp2_with fail
  refine (Unhex_calls s hs w5).mono ?_
  rintro e w6 ⟨⟨t, n, rfl, hu⟩, b7⟩
  replace b7 := Lib.hid (b6.out.trans (b7.mono b6.out.size))
  clear b6 q1 q2 hL hE
  by_cases h1 : s.size = 64
  · by_cases h2 : digits s
    · obtain ⟨rfl, rfl⟩ := hu.good h1 h2
      have st := unhexed_size s
      have eh := hex_unhexed h1 h2
      clear hu
      replace h2 := Lib.hid h2
      generalize unhexed s = t at *
      replace eh := Lib.hid eh
      go_wp2_with fail
      refine (Hex_calls t w6).mono ?_
      rintro e w7 ⟨rfl, b8⟩
      replace b8 := Lib.hid (b7.out.trans (b8.mono b7.out.size))
      rw [eh.out]
      have q := beq_self s
      go_wp2_with fail
      refine (Good_calls t w7).mono ?_
      rintro e w' ⟨rfl, rfl⟩
      rw [st]
      go_wp2
      go_ret
      exact ⟨rfl, b8.out⟩
    · obtain ⟨rfl, rfl⟩ := hu.form h1 h2
      clear hu h2
      go_wp2
      go_ret
      exact ⟨rfl, b7.out⟩
  · obtain ⟨rfl, rfl⟩ := hu.arg h1
    clear hu
    go_wp2
    go_ret
    exact ⟨rfl, b7.out⟩

theorem own : ownKnob Try.prog.godebug = none := by kernel_rfl
theorem laidOut : laidOutB Try.prog = true := by kernel_rfl
set_option maxRecDepth 100000 in
theorem lifted (os : Os) (started : os.Started) (H : Type) (enc : TypeId × Value → H) :
    ReturnsInHanded {} Try.checked os 5 .any (Rows.identBackSpec.pre6 enc Try.prog Try.f5 Rows.identBackRow.domain false) (Rows.identBackSpec.post enc Try.prog Try.f5 false true false false) := by
  refine returnsInHanded_of_change_sized (C := Try.checked) own started (by kernel_rfl) Try.func5
    (ChangeSpec.witness6 (enc := enc) (C := Try.checked) false ⟨#[], #[.agg (Array.replicate 32 (.int .u8 0)), .agg (Array.replicate 32 (.int .u8 0)), .string ByteArray.empty], []⟩ 8 (by kernel_rfl) (by kernel_rfl) (by kernel_rfl) (by kernel_rfl)) ?_
  intro W base args ds gs before hval0 hW hcnd hsz0 _
  have hval : ∀ (j : Nat) t v, Try.f5.params[j]? = some t → args[j]? = some v → Value.okWide Try.prog W .any base t v := hval0
  have hsz : (DataW.weightsEach Try.prog (Try.f5.params.toList ++ Rows.identBackSpec.plain.varTypes Try.prog) (ds ++ gs)).all (· ≤ reachBytes) = true := hsz0
  have hW' := hW
  obtain ⟨p, q, hA0, hV, rfl, hfz, hnd⟩ := hW
  have hA : DataW.TrodAll enc Try.prog W 0 (fun _ => true) true Try.f5.params.toList args.toList ds p := hA0
  rw [Try.params5] at hA hval hsz
  obtain ⟨v0, vs0, d0, ds0, p0, q0, hargs, rfl, rfl, h0, r0⟩ := trodAll_cons hA
  obtain ⟨v1, vs1, d1, ds1, p1, q1, rfl, rfl, rfl, h1, r1⟩ := trodAll_cons r0
  obtain ⟨v2, vs2, d2, ds2, p2, q2, rfl, rfl, rfl, h2, r2⟩ := trodAll_cons r1
  obtain ⟨rfl, rfl, rfl⟩ := trodAll_nil r2
  obtain rfl : args = #[v0, v1, v2] := by cases args; simp_all
  obtain ⟨rfl, rfl⟩ := trodVars_none hV
  have k0 := h0
  have lt0 : ∀ x ∈ p0, x.block < W.heap.size := by obtain ⟨m, hm⟩ := k0; exact DataW.trod_lt m _ _ _ hm
  have ok0 := hval 0 36 v0 rfl rfl
  have k1 := h1
  have lt1 : ∀ x ∈ p1, x.block < W.heap.size := by obtain ⟨m, hm⟩ := k1; exact DataW.trod_lt m _ _ _ hm
  have ok1 := hval 1 36 v1 rfl rfl
  have k2 := h2
  have lt2 : ∀ x ∈ p2, x.block < W.heap.size := by obtain ⟨m, hm⟩ := k2; exact DataW.trod_lt m _ _ _ hm
  have ok2 := hval 2 9 v2 rfl rfl
  clear hA0 hval0 hsz0
  obtain ⟨a0, f0, rfl, v0⟩ := open_arr Try.underlying36 Try.underlying5 (by kernel_rfl) (by kernel_rfl) ok0 h0
  obtain ⟨a1, f1, rfl, v1⟩ := open_arr Try.underlying36 Try.underlying5 (by kernel_rfl) (by kernel_rfl) ok1 h1
  obtain ⟨a2, rfl, rfl, rfl, w2⟩ := open_string Try.underlying9 ok2 h2
  have z2 := Oct.size_reach (sized_string hsz (j := 2) (t := 9) rfl rfl)
  refine (walk a0 a1 f0 f1 a2 v0 v1 z2 W).mono fun e W' ⟨he, bel⟩ => ?_
  subst he
  exact ⟨_, rfl, _, _, _, [], _, [], hW', trodAll_mk1 (shut_bool Try.underlying4 _), (trodAll_cons_mk (Below.trod laidOut (by kernel_rfl) (of_decide_eq_true (by kernel_rfl)) k0 bel lt0) (trodAll_cons_mk (Below.trod laidOut (by kernel_rfl) (of_decide_eq_true (by kernel_rfl)) k1 bel lt1) (trodAll_cons_mk (Below.trod laidOut (by kernel_rfl) (of_decide_eq_true (by kernel_rfl)) k2 bel lt2) trodAll_mk0))), rfl, bel.frame _, fun h => by cases h⟩

/-- the statement -/
theorem proved : Rows.IdentBackSaid :=
  OpenClaim.holds_of_wide 5 Try.f5 rfl rfl rfl rfl rfl rfl rfl ⟨rfl, rfl, rfl, rfl, rfl⟩ rfl rfl rfl rfl rfl (by kernel_rfl) Try.func5 (by kernel_rfl)
    (of_decide_eq_true (by kernel_rfl)) (by unfold Func.isWrapper; first | (rw [if_pos (by decide +kernel)]; kernel_rfl) | (rw [if_neg (by decide +kernel)]; exact ⟨rfl, rfl⟩))
    (fun os started H enc _ => lifted os started H enc)
end Go.Proofs.Ytopahoilbgmobaa.identBack
