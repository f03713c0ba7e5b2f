/-
  Proved: for every text s and all numbers cut, less, OctetCut returns true and turns nothing of what it was given. Conditions: none beyond the form's own.
-/
import Derived.Test.YtnpdjdcbbmjdaaaRows
import Derived.Test.YtnpdjdcbbmjdaaaOctAwake
import Derived.Test.YtnpdjdcbbmjdaaaOctKit
namespace Go.Proofs.Ytnpdjdcbbmjdaaa.octetCut
open Go.ChangeShapes Go.WideShapes Go.ChangeAt Go.RowKit
open Go.ChangeMaps (open_string)
open Oct

/-- a reader that went wrong -/
theorem bad_of {q : St} (h : q.bad = true) : q = ⟨q.rest, true⟩ := by cases q; simp_all

set_option maxHeartbeats 400000 in
theorem walk_long (s : ByteArray) (cut less : Int) (hs : (1048576 : Int) < s.size) (w : World) :
    Calls Try.prog 6 #[.string s, .int .i64 cut, .int .i64 less] w fun e w' => e = .returned (.bool true) ∧ Below w.heap.size w w' := by
  go_enter Try.func6, Try.ntmps6
  go_wp2_with fail
  refine (awake_calls w).mono ?_
  rintro e w1 ⟨rfl, b1⟩
  go_wp2
  go_ret
  exact ⟨rfl, b1⟩

set_option maxHeartbeats 400000 in
theorem walk_short (s : ByteArray) (cut less : Int) (hs : s.size ≤ 1048576) (w : World) :
    Calls Try.prog 6 #[.string s, .int .i64 cut, .int .i64 less] w fun e w' => e = .returned (.bool true) ∧ Below w.heap.size w w' := by
  have hm : Hid ((s.size : Int) % 4294967296 = s.size) := by show (s.size : Int) % 4294967296 = s.size; omega
  obtain ⟨k, hk, hk2⟩ := rem_small cut (4 + (s.size : Int)) (by omega) (by omega)
  have hcut := Lib.hid (text_cut s 1048576 k (by omega) (by omega) (by omega))
  go_enter Try.func6, Try.ntmps6
  go_wp2_with fail
  refine (awake_calls w).mono ?_
  rintro e w1 ⟨rfl, b1⟩
  go_wp2_with fail
  refine (Text_calls s (by omega) w1).mono ?_
  rw [hm.out]
  rintro e w2 ⟨rfl, c2, rfl⟩
  have b2 := b1.alloc b1.size (.cells c2 5)
  generalize w1.alloc (.cells c2 5) = w2 at *
  clear b1
  go_wp2_with fail
  refine (New_calls _ w2).mono ?_
  rintro e w3 ⟨rfl, rfl⟩
  have r3 := Rd.new ((num4 s.size ++ s).extract 0 k) w2
  have b3 := b2.alloc b2.size (.cells #[.string ((num4 s.size ++ s).extract 0 k), .bool false] 49)
  have z2 := b2.size
  generalize w2.alloc (.cells #[.string ((num4 s.size ++ s).extract 0 k), .bool false] 49) = w3 at *
  generalize w2.heap.size = b at *
  clear b2
  go_wp2_with fail
  refine (RText_calls _ 1048576 _ w3 r3).mono ?_
  rw [hcut.out.1]
  rintro e w4 ⟨rfl, r4, o4⟩
  rw [bad_of hcut.out.2] at r4
  generalize (text ⟨(num4 s.size ++ s).extract 0 k, false⟩ 1048576).2.rest = rest at *
  have b4 := b3.trans (o4.below z2)
  clear b3 o4 r3 hcut
  go_wp2_with fail
  refine (Bad_calls _ _ w4 r4).mono ?_
  rintro e w' ⟨rfl, rfl⟩
  go_wp2_with fail
  refine (Whole_calls _ _ w4 r4).mono ?_
  rintro e w' ⟨rfl, rfl⟩
  go_wp2_with fail
  refine (Take_calls _ _ _ w4 r4).mono ?_
  rintro e w5 ⟨rfl, r5, o5⟩
  rw [take_bad _ _ rfl] at r5 ⊢
  have b5 := b4.trans (o5.below z2)
  clear b4 o5 r4
  go_wp2_with fail
  refine (RNum_calls _ _ w5 r5).mono ?_
  rintro e w6 ⟨rfl, r6, o6⟩
  rw [num_bad _ rfl] at r6 ⊢
  have b6 := b5.trans (o6.below z2)
  clear b5 o6 r5
  go_wp2_with fail
  refine (Left_calls _ _ w6 r6).mono ?_
  rintro e w' ⟨rfl, rfl⟩
  by_cases hz : s.size = 0
  · have hz' : ((s.size : Int) == 0) = true := by rw [beq_iff_eq]; omega
    have hzh := Lib.hid hz
    clear hz
    go_wp2
    go_ret
    exact ⟨rfl, b6⟩
  have hz' : ((s.size : Int) == 0) = false := by rw [beq_eq_false_iff_ne]; omega
  obtain ⟨m, hm1, hm2⟩ := rem_small less (s.size : Int) (by omega) (by omega)
  have hless := Lib.hid (text_less s m (by omega) (by omega))
  clear hk hk2
  go_wp2_with fail
  refine (New_calls _ w6).mono ?_
  rintro e w7 ⟨rfl, rfl⟩
  have r7 := Rd.new (num4 s.size ++ s) w6
  have b7 := b6.alloc b6.size (.cells #[.string (num4 s.size ++ s), .bool false] 49)
  have z6 := b6.size
  generalize w6.alloc (.cells #[.string (num4 s.size ++ s), .bool false] 49) = w7 at *
  clear b6 r6
  generalize w6.heap.size = b' at *
  go_wp2_with fail
  refine (RText_calls _ m _ w7 r7).mono ?_
  rw [hless.out.1]
  rintro e w8 ⟨rfl, r8, o8⟩
  rw [bad_of hless.out.2] at r8
  generalize (text ⟨num4 s.size ++ s, false⟩ m).2.rest = rest2 at *
  have b8 := b7.trans (o8.below z6)
  clear b7 o8 r7 hless
  go_wp2_with fail
  refine (Bad_calls _ _ w8 r8).mono ?_
  rintro e w' ⟨rfl, rfl⟩
  go_wp2_with fail
  refine (Bad_nil w8).mono ?_
  rintro e w' ⟨rfl, rfl⟩
  go_wp2_with fail
  refine (Whole_nil w8).mono ?_
  rintro e w' ⟨rfl, rfl⟩
  go_wp2_with fail
  refine (RNum_nil w8).mono ?_
  rintro e w' ⟨rfl, rfl⟩
  go_wp2_with fail
  refine (Left_nil w8).mono ?_
  rintro e w' ⟨rfl, rfl⟩
  go_wp2_with fail
  refine (RText_nil _ w8).mono ?_
  rintro e w' ⟨rfl, rfl⟩
  go_wp2_with fail
  refine (Take_nil _ w8).mono ?_
  rintro e w' ⟨rfl, rfl⟩
  go_wp2
  go_ret
  exact ⟨rfl, b8⟩

theorem walk (s : ByteArray) (cut less : Int) (w : World) :
    Calls Try.prog 6 #[.string s, .int .i64 cut, .int .i64 less] w fun e w' => e = .returned (.bool true) ∧ Below w.heap.size w w' := by
  by_cases h : s.size ≤ 1048576
  · exact walk_short s cut less h w
  · exact walk_long s cut less (by omega) w

theorem own : ownKnob Try.prog.godebug = none := by kernel_rfl
theorem laidOut : laidOutB Try.prog = true := by kernel_rfl
set_option maxRecDepth 100000 in
theorem lifted (os : Os) (started : os.Started) (H : Type) (enc : TypeId × Value → H) :
    ReturnsInHanded {} Try.checked os 6 .any (Rows.octetCutSpec.pre6 enc Try.prog Try.f6 Rows.octetCutRow.domain false) (Rows.octetCutSpec.post enc Try.prog Try.f6 false true false false) := by
  refine returnsInHanded_of_change_sized (C := Try.checked) own started (by kernel_rfl) Try.func6
    (ChangeSpec.witness6 (enc := enc) (C := Try.checked) false ⟨#[], #[.string ByteArray.empty, .int .i64 0, .int .i64 0], []⟩ 8 (by kernel_rfl) (by kernel_rfl) (by kernel_rfl) (by kernel_rfl)) ?_
  intro W base args ds gs before hval0 hW hcnd hsz0 _
  have hval : ∀ (j : Nat) t v, Try.f6.params[j]? = some t → args[j]? = some v → Value.okWide Try.prog W .any base t v := hval0
  have hsz : (DataW.weightsEach Try.prog (Try.f6.params.toList ++ Rows.octetCutSpec.plain.varTypes Try.prog) (ds ++ gs)).all (· ≤ reachBytes) = true := hsz0
  have hW' := hW
  obtain ⟨p, q, hA0, hV, rfl, hfz, hnd⟩ := hW
  have hA : DataW.TrodAll enc Try.prog W 0 (fun _ => true) true Try.f6.params.toList args.toList ds p := hA0
  rw [Try.params6] at hA hval hsz
  obtain ⟨v0, vs0, d0, ds0, p0, q0, hargs, rfl, rfl, h0, r0⟩ := trodAll_cons hA
  obtain ⟨v1, vs1, d1, ds1, p1, q1, rfl, rfl, rfl, h1, r1⟩ := trodAll_cons r0
  obtain ⟨v2, vs2, d2, ds2, p2, q2, rfl, rfl, rfl, h2, r2⟩ := trodAll_cons r1
  obtain ⟨rfl, rfl, rfl⟩ := trodAll_nil r2
  obtain rfl : args = #[v0, v1, v2] := by cases args; simp_all
  obtain ⟨rfl, rfl⟩ := trodVars_none hV
  have k0 := h0
  have lt0 : ∀ x ∈ p0, x.block < W.heap.size := by obtain ⟨m, hm⟩ := k0; exact DataW.trod_lt m _ _ _ hm
  have ok0 := hval 0 9 v0 rfl rfl
  have k1 := h1
  have lt1 : ∀ x ∈ p1, x.block < W.heap.size := by obtain ⟨m, hm⟩ := k1; exact DataW.trod_lt m _ _ _ hm
  have ok1 := hval 1 3 v1 rfl rfl
  have k2 := h2
  have lt2 : ∀ x ∈ p2, x.block < W.heap.size := by obtain ⟨m, hm⟩ := k2; exact DataW.trod_lt m _ _ _ hm
  have ok2 := hval 2 3 v2 rfl rfl
  clear hA0 hval0 hsz0
  obtain ⟨a0, rfl, rfl, rfl, w0⟩ := open_string Try.underlying9 ok0 h0
  obtain ⟨a1, rfl, rfl, rfl, w1⟩ := open_int Try.underlying3 ok1 h1
  obtain ⟨a2, rfl, rfl, rfl, w2⟩ := open_int Try.underlying3 ok2 h2
  refine (walk a0 a1 a2 W).mono fun e W' ⟨he, bel⟩ => ?_
  subst he
  exact ⟨_, rfl, _, _, _, [], _, [], hW', trodAll_mk1 (shut_bool Try.underlying4 _), (trodAll_cons_mk (Below.trod laidOut (by kernel_rfl) (of_decide_eq_true (by kernel_rfl)) k0 bel lt0) (trodAll_cons_mk (Below.trod laidOut (by kernel_rfl) (of_decide_eq_true (by kernel_rfl)) k1 bel lt1) (trodAll_cons_mk (Below.trod laidOut (by kernel_rfl) (of_decide_eq_true (by kernel_rfl)) k2 bel lt2) trodAll_mk0))), rfl, bel.frame _, fun h => by cases h⟩

/-- the statement -/
theorem proved : Rows.OctetCutSaid :=
  OpenClaim.holds_of_wide 6 Try.f6 rfl rfl rfl rfl rfl rfl rfl ⟨rfl, rfl, rfl, rfl, rfl⟩ rfl rfl rfl rfl rfl (by kernel_rfl) Try.func6 (by kernel_rfl)
    (of_decide_eq_true (by kernel_rfl)) (by unfold Func.isWrapper; first | (rw [if_pos (by decide +kernel)]; kernel_rfl) | (rw [if_neg (by decide +kernel)]; exact ⟨rfl, rfl⟩))
    (fun os started H enc _ => lifted os started H enc)
end Go.Proofs.Ytnpdjdcbbmjdaaa.octetCut
