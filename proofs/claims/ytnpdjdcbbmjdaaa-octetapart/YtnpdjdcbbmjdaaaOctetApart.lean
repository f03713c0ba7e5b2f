/-
  Proved: for all numbers a, b and every pair of texts s, OctetApart returns true and turns nothing of what it was given. Conditions: none beyond the form's own.
-/
import Derived.Test.YtnpdjdcbbmjdaaaRows
import Derived.Test.YtnpdjdcbbmjdaaaOctAwake
import Derived.Test.YtnpdjdcbbmjdaaaOctKit
import Derived.Deep.RegionHeld3
namespace Go.Proofs.Ytnpdjdcbbmjdaaa.octetApart
open Go.ChangeShapes Go.WideShapes Go.ChangeAt Go.RowKit
open Go.ChangeMaps (open_string)
open Oct

theorem num_beq (a b : Int) (a0 : 0 ≤ a) (a1 : a < 4294967296) (b0 : 0 ≤ b) (b1 : b < 4294967296) : ((num4 a).toList == (num4 b).toList) = (a == b) := by
  rw [beq_toList, Bool.eq_iff_iff]
  simp only [decide_eq_true_eq, beq_iff_eq]
  exact ⟨num4_inj a0 a1 b0 b1, fun h => by rw [h]⟩
theorem pre_beq (s t : ByteArray) (n : Nat) (hs : s.size ≤ 65536) (ht : t.size ≤ 65536) (hn : n = min (4 + s.size) (4 + t.size)) :
    (((num4 s.size ++ s).extract 0 n).toList == ((num4 t.size ++ t).extract 0 n).toList) = (s.toList == t.toList) := by
  rw [beq_toList, beq_toList, Bool.eq_iff_iff]
  simp only [decide_eq_true_eq]
  exact ⟨apart_eq (by omega) (by omega) n hn, fun h => by rw [h]⟩

set_option maxHeartbeats 1000000 in
theorem walk_main (a b : Int) (s t : ByteArray) (a0 : 0 ≤ a) (a1 : a < 4294967296) (b0 : 0 ≤ b) (b1 : b < 4294967296) (hs : s.size ≤ 65536) (ht : t.size ≤ 65536) (w : World) :
    Calls Try.prog 7 #[.int .u32 a, .int .u32 b, .agg #[.string s, .string t]] w fun e w' => e = .returned (.bool true) ∧ Below w.heap.size w w' := by
  have ms : Hid ((s.size : Int) % 4294967296 = s.size) := by show (s.size : Int) % 4294967296 = s.size; omega
  have mt : Hid ((t.size : Int) % 4294967296 = t.size) := by show (t.size : Int) % 4294967296 = t.size; omega
  have d1 : decide ((65536 : Int) < s.size) = false := by simp; omega
  have d2 : decide ((65536 : Int) < t.size) = false := by simp; omega
  have e1 := num_beq a b a0 a1 b0 b1
  by_cases hlt : t.size < s.size
  · have e2 := pre_beq s t (4 + (t.size : Int)).toNat hs ht (by omega)
    have hA : (0 : Int) ≤ 4 + (t.size : Int) := by omega
    have hB : t.size ≤ s.size := by omega
    go_enter Try.func7, Try.ntmps7
    go_wp2_with fail
    refine (awake_calls _).mono ?_
    rintro e w1 ⟨rfl, b1⟩
    have c0 : w1.cell? ⟨w.heap.size, 0, none⟩ = some (.string s) := (b1.cell (by simp)).trans (by simp [go_sem])
    have c1 : w1.cell? ⟨w.heap.size, 1, none⟩ = some (.string t) := (b1.cell (by simp)).trans (by simp [go_sem])
    have z1 : w.heap.size < w1.heap.size := by have := b1.size; simp at this; omega
    have bw : Below w.heap.size w w1 := ((Below.refl w.heap.size w).alloc (Nat.le_refl _) _).trans (b1.mono (by simp))
    clear b1
    go_wp2_with fail
    refine (Text_calls s (by omega) w1).mono ?_
    rw [ms.out]
    rintro e w2 ⟨rfl, c2, rfl⟩
    go_wp2_with fail
    refine (Text_calls t (by omega) _).mono ?_
    rw [mt.out]
    rintro e w3 ⟨rfl, c3, rfl⟩
    go_wp2_with fail
    go_region_held3 (fun w' => w'.cell? ⟨w.heap.size, 0, none⟩ = some (.string s) ∧ w'.cell? ⟨w.heap.size, 1, none⟩ = some (.string t)) (exact ⟨by repeat (first | exact c0 | apply cell_drew | apply cell_drewN | apply cell_alloc), by repeat (first | exact c1 | apply cell_drew | apply cell_drewN | apply cell_alloc)⟩)
      (first | (go_at_call 9; refine (Num_calls _ (by omega) (by omega) _).mono ?_; rintro e w' ⟨rfl, c, rfl⟩))
    go_wp2
    go_ret
    exact ⟨ret_bool (by simp), by repeat (first | exact bw | apply Below.drew | apply below_drewN | apply below_alloc)⟩
  · have e2 := pre_beq s t (4 + (s.size : Int)).toNat hs ht (by omega)
    have hA : (0 : Int) ≤ 4 + (s.size : Int) := by omega
    have hB : s.size ≤ t.size := by omega
    go_enter Try.func7, Try.ntmps7
    go_wp2_with fail
    refine (awake_calls _).mono ?_
    rintro e w1 ⟨rfl, b1⟩
    have c0 : w1.cell? ⟨w.heap.size, 0, none⟩ = some (.string s) := (b1.cell (by simp)).trans (by simp [go_sem])
    have c1 : w1.cell? ⟨w.heap.size, 1, none⟩ = some (.string t) := (b1.cell (by simp)).trans (by simp [go_sem])
    have z1 : w.heap.size < w1.heap.size := by have := b1.size; simp at this; omega
    have bw : Below w.heap.size w w1 := ((Below.refl w.heap.size w).alloc (Nat.le_refl _) _).trans (b1.mono (by simp))
    clear b1
    go_wp2_with fail
    refine (Text_calls s (by omega) w1).mono ?_
    rw [ms.out]
    rintro e w2 ⟨rfl, c2, rfl⟩
    go_wp2_with fail
    refine (Text_calls t (by omega) _).mono ?_
    rw [mt.out]
    rintro e w3 ⟨rfl, c3, rfl⟩
    go_wp2_with fail
    go_region_held3 (fun w' => w'.cell? ⟨w.heap.size, 0, none⟩ = some (.string s) ∧ w'.cell? ⟨w.heap.size, 1, none⟩ = some (.string t)) (exact ⟨by repeat (first | exact c0 | apply cell_drew | apply cell_drewN | apply cell_alloc), by repeat (first | exact c1 | apply cell_drew | apply cell_drewN | apply cell_alloc)⟩)
      (first | (go_at_call 9; refine (Num_calls _ (by omega) (by omega) _).mono ?_; rintro e w' ⟨rfl, c, rfl⟩))
    go_wp2
    go_ret
    exact ⟨ret_bool (by simp), by repeat (first | exact bw | apply Below.drew | apply below_drewN | apply below_alloc)⟩

set_option maxHeartbeats 400000 in
theorem walk_long (a b : Int) (s t : ByteArray) (h : (65536 : Int) < s.size ∨ (65536 : Int) < t.size) (w : World) :
    Calls Try.prog 7 #[.int .u32 a, .int .u32 b, .agg #[.string s, .string t]] w fun e w' => e = .returned (.bool true) ∧ Below w.heap.size w w' := by
  by_cases h1 : (65536 : Int) < s.size
  · have d1 : decide ((65536 : Int) < s.size) = true := by simpa using h1
    clear h
    go_enter Try.func7, Try.ntmps7
    go_wp2_with fail
    refine (awake_calls _).mono ?_
    rintro e w1 ⟨rfl, b1⟩
    have c0 : w1.cell? ⟨w.heap.size, 0, none⟩ = some (.string s) := (b1.cell (by simp)).trans (by simp [go_sem])
    have bw : Below w.heap.size w w1 := ((Below.refl w.heap.size w).alloc (Nat.le_refl _) _).trans (b1.mono (by simp))
    clear b1
    go_wp2
    go_ret
    exact ⟨rfl, bw⟩
  · have d1 : decide ((65536 : Int) < s.size) = false := by simpa using h1
    have d2 : decide ((65536 : Int) < t.size) = true := by simp; omega
    clear h
    go_enter Try.func7, Try.ntmps7
    go_wp2_with fail
    refine (awake_calls _).mono ?_
    rintro e w1 ⟨rfl, b1⟩
    have c0 : w1.cell? ⟨w.heap.size, 0, none⟩ = some (.string s) := (b1.cell (by simp)).trans (by simp [go_sem])
    have c1 : w1.cell? ⟨w.heap.size, 1, none⟩ = some (.string t) := (b1.cell (by simp)).trans (by simp [go_sem])
    have bw : Below w.heap.size w w1 := ((Below.refl w.heap.size w).alloc (Nat.le_refl _) _).trans (b1.mono (by simp))
    clear b1
    go_wp2
    go_ret
    exact ⟨rfl, bw⟩

theorem walk (a b : Int) (s t : ByteArray) (a0 : 0 ≤ a) (a1 : a < 4294967296) (b0 : 0 ≤ b) (b1 : b < 4294967296) (w : World) :
    Calls Try.prog 7 #[.int .u32 a, .int .u32 b, .agg #[.string s, .string t]] w fun e w' => e = .returned (.bool true) ∧ Below w.heap.size w w' := by
  by_cases h : (65536 : Int) < s.size ∨ (65536 : Int) < t.size
  · exact walk_long a b s t h w
  · exact walk_main a b s t a0 a1 b0 b1 (by omega) (by omega) w

theorem own : ownKnob Try.prog.godebug = none := by kernel_rfl
theorem laidOut : laidOutB Try.prog = true := by kernel_rfl
set_option maxRecDepth 100000 in
theorem lifted (os : Os) (started : os.Started) (H : Type) (enc : TypeId × Value → H) :
    ReturnsInHanded {} Try.checked os 7 .any (Rows.octetApartSpec.pre6 enc Try.prog Try.f7 Rows.octetApartRow.domain false) (Rows.octetApartSpec.post enc Try.prog Try.f7 false true false false) := by
  refine returnsInHanded_of_change_sized (C := Try.checked) own started (by kernel_rfl) Try.func7
    (ChangeSpec.witness6 (enc := enc) (C := Try.checked) false ⟨#[], #[.int .u32 0, .int .u32 0, .agg #[.string ByteArray.empty, .string ByteArray.empty]], []⟩ 8 (by kernel_rfl) (by kernel_rfl) (by kernel_rfl) (by kernel_rfl)) ?_
  intro W base args ds gs before hval0 hW hcnd hsz0 _
  have hval : ∀ (j : Nat) t v, Try.f7.params[j]? = some t → args[j]? = some v → Value.okWide Try.prog W .any base t v := hval0
  have hsz : (DataW.weightsEach Try.prog (Try.f7.params.toList ++ Rows.octetApartSpec.plain.varTypes Try.prog) (ds ++ gs)).all (· ≤ reachBytes) = true := hsz0
  have hW' := hW
  obtain ⟨p, q, hA0, hV, rfl, hfz, hnd⟩ := hW
  have hA : DataW.TrodAll enc Try.prog W 0 (fun _ => true) true Try.f7.params.toList args.toList ds p := hA0
  rw [Try.params7] at hA hval hsz
  obtain ⟨v0, vs0, d0, ds0, p0, q0, hargs, rfl, rfl, h0, r0⟩ := trodAll_cons hA
  obtain ⟨v1, vs1, d1, ds1, p1, q1, rfl, rfl, rfl, h1, r1⟩ := trodAll_cons r0
  obtain ⟨v2, vs2, d2, ds2, p2, q2, rfl, rfl, rfl, h2, r2⟩ := trodAll_cons r1
  obtain ⟨rfl, rfl, rfl⟩ := trodAll_nil r2
  obtain rfl : args = #[v0, v1, v2] := by cases args; simp_all
  obtain ⟨rfl, rfl⟩ := trodVars_none hV
  have k0 := h0
  have lt0 : ∀ x ∈ p0, x.block < W.heap.size := by obtain ⟨m, hm⟩ := k0; exact DataW.trod_lt m _ _ _ hm
  have ok0 := hval 0 22 v0 rfl rfl
  have k1 := h1
  have lt1 : ∀ x ∈ p1, x.block < W.heap.size := by obtain ⟨m, hm⟩ := k1; exact DataW.trod_lt m _ _ _ hm
  have ok1 := hval 1 22 v1 rfl rfl
  have k2 := h2
  have lt2 : ∀ x ∈ p2, x.block < W.heap.size := by obtain ⟨m, hm⟩ := k2; exact DataW.trod_lt m _ _ _ hm
  have ok2 := hval 2 45 v2 rfl rfl
  clear hA0 hval0 hsz0
  obtain ⟨a0, rfl, rfl, rfl, w0⟩ := open_int Try.underlying22 ok0 h0
  obtain ⟨a1, rfl, rfl, rfl, w1⟩ := open_int Try.underlying22 ok1 h1
  obtain ⟨s, t, rfl⟩ := open_str2 Try.underlying45 Try.underlying9 (by kernel_rfl) (by kernel_rfl) ok2 h2
  have x0 := bounds_u32 w0
  have x1 := bounds_u32 w1
  refine (walk a0 a1 s t (by omega) (by omega) (by omega) (by omega) W).mono fun e W' ⟨he, bel⟩ => ?_
  subst he
  exact ⟨_, rfl, _, _, _, [], _, [], hW', trodAll_mk1 (shut_bool Try.underlying4 _), (trodAll_cons_mk (Below.trod laidOut (by kernel_rfl) (of_decide_eq_true (by kernel_rfl)) k0 bel lt0) (trodAll_cons_mk (Below.trod laidOut (by kernel_rfl) (of_decide_eq_true (by kernel_rfl)) k1 bel lt1) (trodAll_cons_mk (Below.trod laidOut (by kernel_rfl) (of_decide_eq_true (by kernel_rfl)) k2 bel lt2) trodAll_mk0))), rfl, bel.frame _, fun h => by cases h⟩

/-- the statement -/
theorem proved : Rows.OctetApartSaid :=
  OpenClaim.holds_of_wide 7 Try.f7 rfl rfl rfl rfl rfl rfl rfl ⟨rfl, rfl, rfl, rfl, rfl⟩ rfl rfl rfl rfl rfl (by kernel_rfl) Try.func7 (by kernel_rfl)
    (of_decide_eq_true (by kernel_rfl)) (by unfold Func.isWrapper; first | (rw [if_pos (by decide +kernel)]; kernel_rfl) | (rw [if_neg (by decide +kernel)]; exact ⟨rfl, rfl⟩))
    (fun os started H enc _ => lifted os started H enc)
end Go.Proofs.Ytnpdjdcbbmjdaaa.octetApart
