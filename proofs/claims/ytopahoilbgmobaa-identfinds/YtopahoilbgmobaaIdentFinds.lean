/-
  Proved: for every list of texts, every digits and every id, IdentFinds returns true and turns nothing of what it was given. Conditions: none beyond the form's own.
-/
import Derived.Test.YtopahoilbgmobaaRows
import Derived.Test.YtopahoilbgmobaaOctKit
import Derived.Test.YtopahoilbgmobaaIdAwake
import Derived.Test.YtopahoilbgmobaaIdRefW
namespace Go.Proofs.Ytopahoilbgmobaa.identFinds
open Go Go.ChangeShapes Go.WideShapes Go.ChangeAt Go.RowKit Ident
open Go.ChangeMaps (open_string)
open Oct (TextsAt)
theorem beq_text (s : ByteArray) : (s.toList == s.toList) = true := by simp
theorem beq_int (n : Int) : (n == n) = true := by simp
set_option maxHeartbeats 1000000 in
theorem walk (a : Option Addr) (len cap b off : Nat) (T : Nat → ByteArray) (d id : ByteArray) (w : World) (hT : TextsAt w a b off len T) (hlen : len ≤ 140737488351232) (hd : d.size ≤ 140737488351232) :
    Calls Try.prog 4 #[.slice a len cap, .string d, .string id] w fun e w' => e = .returned (.bool true) ∧ Below w.heap.size w w' := by
  replace hT := Lib.hid hT
  go_enter Try.func4, Try.ntmps4
  go_wp2_with fail
  refine (awake_calls w).mono ?_
  rintro e w1 ⟨rfl, b1⟩
  have t1 := Lib.hid (TextsAt.below hT.out b1)
  clear hT
  by_cases h200 : 200 < len
  · have d0 : (200 : Int) < len := by omega
    go_wp2
    go_ret
    exact ⟨rfl, b1⟩
  · have d0 : decide ((200 : Int) < len) = false := decide_eq_false (by omega)
    have d1 : (len : Int) ≤ 200 := by omega
    go_wp2_with fail
    refine (Find_calls a len cap b off T d w1 t1.out hlen hd).mono ?_
    rintro e w' ⟨⟨r, n, rfl, hu⟩, rfl⟩
    go_wp2_with fail
    refine (RFind_calls a len cap b off T d w1 t1.out hlen).mono ?_
    rintro e w' ⟨⟨r', n', rfl, hu'⟩, rfl⟩
    obtain ⟨rfl, rfl⟩ := hu.unique hu'
    clear hu hu'
    have q1 := beq_text r
    have q2 := beq_int n
    go_wp2_with fail
    refine (Short_calls a len cap b off T id w1 t1.out hlen).mono ?_
    rintro e w2 ⟨⟨s, rfl, hs⟩, b2⟩
    have t2 := Lib.hid (TextsAt.below t1.out b2)
    replace b2 := b1.trans (b2.mono b1.size)
    clear b1 t1
    go_wp2_with fail
    refine (RShort_calls a len cap b off T id w2 t2.out hlen).mono ?_
    rintro e w3 ⟨⟨s', rfl, hs'⟩, b3⟩
    replace b3 := b2.trans (b3.mono b2.size)
    obtain rfl := hs.unique hs'
    clear b2 t2 hs hs'
    have q3 := beq_text s
    go_wp2
    go_ret
    exact ⟨rfl, b3⟩

theorem own : ownKnob Try.prog.godebug = none := by kernel_rfl
theorem laidOut : laidOutB Try.prog = true := by kernel_rfl
set_option maxRecDepth 100000 in
theorem lifted (os : Os) (started : os.Started) (H : Type) (enc : TypeId × Value → H) :
    ReturnsInHanded {} Try.checked os 4 .any (Rows.identFindsSpec.pre6 enc Try.prog Try.f4 Rows.identFindsRow.domain false) (Rows.identFindsSpec.post enc Try.prog Try.f4 false true false false) := by
  refine returnsInHanded_of_change_sized (C := Try.checked) own started (by kernel_rfl) Try.func4
    (ChangeSpec.witness6 (enc := enc) (C := Try.checked) false ⟨#[], #[.slice none 0 0, .string ByteArray.empty, .string ByteArray.empty], []⟩ 8 (by kernel_rfl) (by kernel_rfl) (by kernel_rfl) (by kernel_rfl)) ?_
  intro W base args ds gs before hval0 hW hcnd hsz0 _
  have hval : ∀ (j : Nat) t v, Try.f4.params[j]? = some t → args[j]? = some v → Value.okWide Try.prog W .any base t v := hval0
  have hsz : (DataW.weightsEach Try.prog (Try.f4.params.toList ++ Rows.identFindsSpec.plain.varTypes Try.prog) (ds ++ gs)).all (· ≤ reachBytes) = true := hsz0
  have hW' := hW
  obtain ⟨p, q, hA0, hV, rfl, hfz, hnd⟩ := hW
  have hA : DataW.TrodAll enc Try.prog W 0 (fun _ => true) true Try.f4.params.toList args.toList ds p := hA0
  rw [Try.params4] at hA hval hsz
  obtain ⟨v0, vs0, d0, ds0, p0, q0, hargs, rfl, rfl, h0, r0⟩ := trodAll_cons hA
  obtain ⟨v1, vs1, d1, ds1, p1, q1, rfl, rfl, rfl, h1, r1⟩ := trodAll_cons r0
  obtain ⟨v2, vs2, d2, ds2, p2, q2, rfl, rfl, rfl, h2, r2⟩ := trodAll_cons r1
  obtain ⟨rfl, rfl, rfl⟩ := trodAll_nil r2
  obtain rfl : args = #[v0, v1, v2] := by cases args; simp_all
  obtain ⟨rfl, rfl⟩ := trodVars_none hV
  have k0 := h0
  have lt0 : ∀ x ∈ p0, x.block < W.heap.size := by obtain ⟨m, hm⟩ := k0; exact DataW.trod_lt m _ _ _ hm
  have ok0 := hval 0 32 v0 rfl rfl
  have k1 := h1
  have lt1 : ∀ x ∈ p1, x.block < W.heap.size := by obtain ⟨m, hm⟩ := k1; exact DataW.trod_lt m _ _ _ hm
  have ok1 := hval 1 9 v1 rfl rfl
  have k2 := h2
  have lt2 : ∀ x ∈ p2, x.block < W.heap.size := by obtain ⟨m, hm⟩ := k2; exact DataW.trod_lt m _ _ _ hm
  have ok2 := hval 2 9 v2 rfl rfl
  clear hA0 hval0 hsz0
  obtain ⟨a0, len, cap, b, off, T, rfl, hT, hl⟩ := Oct.open_texts Try.underlying32 Try.underlying9 (by kernel_rfl) (of_decide_eq_true (by kernel_rfl)) ok0 h0 (Oct.arg_weights hsz (j := 0) (t := 32) rfl rfl)
  obtain ⟨a1, rfl, rfl, rfl, w1⟩ := open_string Try.underlying9 ok1 h1
  obtain ⟨a2, rfl, rfl, rfl, w2⟩ := open_string Try.underlying9 ok2 h2
  have z1 := Oct.size_reach (sized_string hsz (j := 1) (t := 9) rfl rfl)
  refine (walk a0 len cap b off T a1 a2 W hT hl z1).mono fun e W' ⟨he, bel⟩ => ?_
  subst he
  exact ⟨_, rfl, _, _, _, [], _, [], hW', trodAll_mk1 (shut_bool Try.underlying4 _), (trodAll_cons_mk (Below.trod laidOut (by kernel_rfl) (of_decide_eq_true (by kernel_rfl)) k0 bel lt0) (trodAll_cons_mk (Below.trod laidOut (by kernel_rfl) (of_decide_eq_true (by kernel_rfl)) k1 bel lt1) (trodAll_cons_mk (Below.trod laidOut (by kernel_rfl) (of_decide_eq_true (by kernel_rfl)) k2 bel lt2) trodAll_mk0))), rfl, bel.frame _, fun h => by cases h⟩

/-- the statement -/
theorem proved : Rows.IdentFindsSaid :=
  OpenClaim.holds_of_wide 4 Try.f4 rfl rfl rfl rfl rfl rfl rfl ⟨rfl, rfl, rfl, rfl, rfl⟩ rfl rfl rfl rfl rfl (by kernel_rfl) Try.func4 (by kernel_rfl)
    (of_decide_eq_true (by kernel_rfl)) (by unfold Func.isWrapper; first | (rw [if_pos (by decide +kernel)]; kernel_rfl) | (rw [if_neg (by decide +kernel)]; exact ⟨rfl, rfl⟩))
    (fun os started H enc _ => lifted os started H enc)
end Go.Proofs.Ytopahoilbgmobaa.identFinds
