/-
  The statements' own first look (awake): called in any memory it answers true and turns nothing that was there. Conditions: none.
-/
import Derived.Test.YtnpdjdcbbmjdaaaOctCalls
import Derived.KernelRfl
namespace Go.Proofs.Ytnpdjdcbbmjdaaa.Oct
open Go.RowKit

theorem awake_text2 : text ⟨⟨#[2, 0, 0, 0, 104, 105]⟩, false⟩ 2 = (⟨#[104, 105]⟩, ⟨⟨#[]⟩, false⟩) := by kernel_rfl
theorem awake_text1 : text ⟨⟨#[2, 0, 0, 0, 104, 105]⟩, false⟩ 1 = (⟨#[]⟩, ⟨⟨#[104, 105]⟩, true⟩) := by kernel_rfl
theorem awake_num : num4 258 = ⟨#[2, 1, 0, 0]⟩ := by kernel_rfl
theorem awake_txt : num4 (((⟨#[104, 105]⟩ : ByteArray).size : Int) % 4294967296) ++ (⟨#[104, 105]⟩ : ByteArray) = ⟨#[2, 0, 0, 0, 104, 105]⟩ := by kernel_rfl

set_option maxHeartbeats 1000000 in
theorem awake_calls (w : World) :
    Calls Try.prog 8 #[] w fun e w' => e = .returned (.bool true) ∧ Below w.heap.size w w' := by
  have e2 := Lib.hid awake_text2
  have e1 := Lib.hid awake_text1
  have en := Lib.hid awake_num
  have et := Lib.hid awake_txt
  go_enter Try.func8, Try.ntmps8
  go_wp2_with fail
  refine (New_calls _ w).mono ?_
  rintro e w1 ⟨rfl, rfl⟩
  have r1 := Rd.new ⟨#[2, 0, 0, 0, 104, 105]⟩ w
  have b1 := (Below.refl w.heap.size w).alloc (Nat.le_refl _) (.cells #[.string ⟨#[2, 0, 0, 0, 104, 105]⟩, .bool false] 49)
  have s1 : w.heap.size < (w.alloc (.cells #[.string ⟨#[2, 0, 0, 0, 104, 105]⟩, .bool false] 49)).heap.size := by simp
  generalize w.alloc (.cells #[.string ⟨#[2, 0, 0, 0, 104, 105]⟩, .bool false] 49) = w1 at *
  go_wp2_with fail
  refine (New_calls _ w1).mono ?_
  rintro e w2 ⟨rfl, rfl⟩
  have r2 := Rd.new ⟨#[2, 0, 0, 0, 104, 105]⟩ w1
  have b2' := (Below.refl w1.heap.size w1).alloc (Nat.le_refl _) (.cells #[.string ⟨#[2, 0, 0, 0, 104, 105]⟩, .bool false] 49)
  have r1 := r1.below b2' s1
  have b2 := b1.trans (b2'.mono (Nat.le_of_lt s1))
  clear b2' b1
  have nb : w.heap.size ≠ w1.heap.size := by omega
  have nb' : w.heap.size ≤ w1.heap.size := by omega
  have nk : w1.heap.size < (w1.alloc (.cells #[.string ⟨#[2, 0, 0, 0, 104, 105]⟩, .bool false] 49)).heap.size := by simp
  generalize w1.alloc (.cells #[.string ⟨#[2, 0, 0, 0, 104, 105]⟩, .bool false] 49) = w2 at *
  clear s1
  generalize w1.heap.size = k at *
  go_wp2_with fail
  refine (RText_calls _ 2 _ w2 r1).mono ?_
  rw [e2.out]
  rintro e w3 ⟨rfl, r1', o3⟩
  go_wp2_with fail
  refine (RText_calls _ 1 _ w3 (r2.only o3 nb.symm)).mono ?_
  rw [e1.out]
  rintro e w4 ⟨rfl, r2', o4⟩
  have r1'' := r1'.only o4 nb
  go_wp2_with fail
  refine (Num_calls 258 (by omega) (by omega) w4).mono ?_
  rw [en.out]
  rintro e w5 ⟨rfl, c, rfl⟩
  have b5 := (Below.refl w4.heap.size w4).alloc (Nat.le_refl _) (.cells c 5)
  generalize w4.alloc (.cells c 5) = w5 at *
  go_wp2_with fail
  refine (Text_calls ⟨#[104, 105]⟩ (by decide) w5).mono ?_
  rw [et.out]
  rintro e w6 ⟨rfl, c, rfl⟩
  have b6 := (Below.refl w5.heap.size w5).alloc (Nat.le_refl _) (.cells c 5)
  generalize w5.alloc (.cells c 5) = w6 at *
  have z3 := o3.size
  have z4 := o4.size
  have z5 := b5.size
  have b56 := b5.trans (b6.mono z5)
  have q1 := r1''.below b56 (by omega)
  have q2 := r2'.below b56 (by omega)
  have bb : Below w.heap.size w w6 := ((b2.trans (o3.below (Nat.le_refl _))).trans (o4.below nb')).trans (b56.mono (by omega))
  clear z3 z4 z5 b56 b5 b6 o3 o4 r1' r1'' r2' r2 r1 b2
  go_wp2_with fail
  refine (Whole_calls _ _ w6 q1).mono ?_
  rintro e w' ⟨rfl, rfl⟩
  go_wp2_with fail
  refine (Bad_calls _ _ _ q1).mono ?_
  rintro e w' ⟨rfl, rfl⟩
  go_wp2_with fail
  refine (Bad_calls _ _ _ q2).mono ?_
  rintro e w' ⟨rfl, rfl⟩
  go_wp2_with fail
  refine (Left_calls _ _ _ q2).mono ?_
  rintro e w' ⟨rfl, rfl⟩
  go_wp2
  go_ret
  exact ⟨rfl, bb⟩

end Go.Proofs.Ytnpdjdcbbmjdaaa.Oct
