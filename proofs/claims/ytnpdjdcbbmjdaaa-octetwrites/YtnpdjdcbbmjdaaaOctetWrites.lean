/-
  Proved: for every number n and every text s, OctetWrites returns true and turns nothing of what it was given. Conditions: none beyond the form's own.
-/
import Derived.Test.YtnpdjdcbbmjdaaaRows
import Derived.Test.YtnpdjdcbbmjdaaaOctAwake
import Derived.Test.YtnpdjdcbbmjdaaaOctRefW
import Derived.Test.YtnpdjdcbbmjdaaaOctKit
namespace Go.Proofs.Ytnpdjdcbbmjdaaa.octetWrites
open Go.ChangeShapes Go.WideShapes Go.ChangeAt Go.RowKit
open Go.ChangeMaps (open_string)

set_option maxHeartbeats 400000 in
theorem walk (n : Int) (s : ByteArray) (h0 : 0 ≤ n) (h1 : n < 4294967296) (hs : s.size ≤ 140737488351232) (w : World) :
    Calls Try.prog 3 #[.int .u32 n, .string s] w fun e w' => e = .returned (.bool true) ∧ Below w.heap.size w w' := by
  go_enter Try.func3, Try.ntmps3
  go_wp2_with fail
  refine (Oct.awake_calls w).mono ?_
  rintro e w1 ⟨rfl, b1⟩
  go_wp2_with fail
  refine (Oct.Num_calls n h0 h1 w1).mono ?_
  rintro e w2 ⟨rfl, c2, rfl⟩
  have b2 := b1.alloc b1.size (.cells c2 5)
  generalize w1.alloc (.cells c2 5) = w2 at *
  clear b1
  go_wp2_with fail
  refine (Oct.RefNum_calls n h0 h1 w2).mono ?_
  rintro e w3 ⟨rfl, c3, rfl⟩
  have b3 := b2.alloc b2.size (.cells c3 5)
  generalize w2.alloc (.cells c3 5) = w3 at *
  clear b2
  go_wp2_with fail
  refine (Oct.Text_calls s hs w3).mono ?_
  rintro e w4 ⟨rfl, c4, rfl⟩
  have b4 := b3.alloc b3.size (.cells c4 5)
  generalize w3.alloc (.cells c4 5) = w4 at *
  clear b3
  go_wp2_with fail
  refine (Oct.RefText_calls s hs w4).mono ?_
  rintro e w5 ⟨rfl, c5, rfl⟩
  have b5 := b4.alloc b4.size (.cells c5 5)
  generalize w4.alloc (.cells c5 5) = w5 at *
  clear b4
  go_wp2
  go_ret
  exact ⟨rfl, b5⟩

theorem own : ownKnob Try.prog.godebug = none := by kernel_rfl
theorem laidOut : laidOutB Try.prog = true := by kernel_rfl
set_option maxRecDepth 100000 in
theorem lifted (os : Os) (started : os.Started) (H : Type) (enc : TypeId × Value → H) :
    ReturnsInHanded {} Try.checked os 3 .any (Rows.octetWritesSpec.pre6 enc Try.prog Try.f3 Rows.octetWritesRow.domain false) (Rows.octetWritesSpec.post enc Try.prog Try.f3 false true false false) := by
  refine returnsInHanded_of_change_sized (C := Try.checked) own started (by kernel_rfl) Try.func3
    (ChangeSpec.witness6 (enc := enc) (C := Try.checked) false ⟨#[], #[.int .u32 0, .string ByteArray.empty], []⟩ 8 (by kernel_rfl) (by kernel_rfl) (by kernel_rfl) (by kernel_rfl)) ?_
  intro W base args ds gs before hval0 hW hcnd hsz0 _
  have hval : ∀ (j : Nat) t v, Try.f3.params[j]? = some t → args[j]? = some v → Value.okWide Try.prog W .any base t v := hval0
  have hsz : (DataW.weightsEach Try.prog (Try.f3.params.toList ++ Rows.octetWritesSpec.plain.varTypes Try.prog) (ds ++ gs)).all (· ≤ reachBytes) = true := hsz0
  have hW' := hW
  obtain ⟨p, q, hA0, hV, rfl, hfz, hnd⟩ := hW
  have hA : DataW.TrodAll enc Try.prog W 0 (fun _ => true) true Try.f3.params.toList args.toList ds p := hA0
  rw [Try.params3] at hA hval hsz
  obtain ⟨v0, vs0, d0, ds0, p0, q0, hargs, rfl, rfl, h0, r0⟩ := trodAll_cons hA
  obtain ⟨v1, vs1, d1, ds1, p1, q1, rfl, rfl, rfl, h1, r1⟩ := trodAll_cons r0
  obtain ⟨rfl, rfl, rfl⟩ := trodAll_nil r1
  obtain rfl : args = #[v0, v1] := by cases args; simp_all
  obtain ⟨rfl, rfl⟩ := trodVars_none hV
  have k0 := h0
  have lt0 : ∀ x ∈ p0, x.block < W.heap.size := by obtain ⟨m, hm⟩ := k0; exact DataW.trod_lt m _ _ _ hm
  have ok0 := hval 0 22 v0 rfl rfl
  have k1 := h1
  have lt1 : ∀ x ∈ p1, x.block < W.heap.size := by obtain ⟨m, hm⟩ := k1; exact DataW.trod_lt m _ _ _ hm
  have ok1 := hval 1 9 v1 rfl rfl
  clear hA0 hval0 hsz0
  obtain ⟨a0, rfl, rfl, rfl, w0⟩ := open_int Try.underlying22 ok0 h0
  obtain ⟨a1, rfl, rfl, rfl, w1⟩ := open_string Try.underlying9 ok1 h1
  have z1 := Oct.size_reach (sized_string hsz (j := 1) (t := 9) rfl rfl)
  have x0 := bounds_u32 w0
  refine (walk a0 a1 (by omega) (by omega) z1 W).mono fun e W' ⟨he, bel⟩ => ?_
  subst he
  exact ⟨_, rfl, _, _, _, [], _, [], hW', trodAll_mk1 (shut_bool Try.underlying4 _), (trodAll_cons_mk (Below.trod laidOut (by kernel_rfl) (of_decide_eq_true (by kernel_rfl)) k0 bel lt0) (trodAll_cons_mk (Below.trod laidOut (by kernel_rfl) (of_decide_eq_true (by kernel_rfl)) k1 bel lt1) trodAll_mk0)), rfl, bel.frame _, fun h => by cases h⟩

/-- the statement -/
theorem proved : Rows.OctetWritesSaid :=
  OpenClaim.holds_of_wide 3 Try.f3 rfl rfl rfl rfl rfl rfl rfl ⟨rfl, rfl, rfl, rfl, rfl⟩ rfl rfl rfl rfl rfl (by kernel_rfl) Try.func3 (by kernel_rfl)
    (of_decide_eq_true (by kernel_rfl)) (by unfold Func.isWrapper; first | (rw [if_pos (by decide +kernel)]; kernel_rfl) | (rw [if_neg (by decide +kernel)]; exact ⟨rfl, rfl⟩))
    (fun os started H enc _ => lifted os started H enc)
end Go.Proofs.Ytnpdjdcbbmjdaaa.octetWrites
