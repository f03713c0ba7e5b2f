/-
  The library's comparisons of keys: cmp.Compare and cmp.Less at numbers and at texts. Conditions: none.
-/
import Derived.Test.YtkdghmbglaghlaaGreatRows
import Derived.Test.YtkdghmbglaghlaaGreatShPlain
import Derived.WalkKit
import Derived.WalkSpells
import Derived.WalkLawsBesides
import Derived.ProofKit
import Derived.OpenShut
import Derived.BigRegion
import Derived.Lib.Hide
namespace Go.Proofs.YtkdghmbglaghlaaGreat.Ci
open Go.RowKit Sh
open Key (lt)
theorem isNaN_calls (n : Int) (w : World) :
    Calls Tryz.prog 119 #[.int .i64 n] w fun e w' => e = .returned (.bool false) ∧ w' = w := by
  go_enter Tryz.func119, Tryz.ntmps119
  go_wp2
  go_ret
  exact ⟨rfl, rfl⟩
theorem Compare_calls (a b c : Int) (w : World) (h : (lt a b = true ∧ c = -1) ∨ (a = b ∧ c = 0) ∨ (lt b a = true ∧ c = 1)) :
    Calls Tryz.prog 91 #[.int .i64 a, .int .i64 b] w fun e w' => e = .returned (.int .i64 c) ∧ w' = w := by
  have hn := Lib.hid fun n => isNaN_calls n w
  rcases h with ⟨h1, rfl⟩ | ⟨rfl, rfl⟩ | ⟨h1, rfl⟩
  · have h2 : a < b := of_decide_eq_true h1
    clear h1
    go_enter Tryz.func91, Tryz.ntmps91
    go_wp2_with (go_at_call 119; refine (hn.out _).mono ?_; rintro e w' ⟨rfl, rfl⟩)
    go_ret
    exact ⟨rfl, rfl⟩
  · have h2 : ¬ a < a := by omega
    go_enter Tryz.func91, Tryz.ntmps91
    go_wp2_with (go_at_call 119; refine (hn.out _).mono ?_; rintro e w' ⟨rfl, rfl⟩)
    go_ret
    exact ⟨rfl, rfl⟩
  · have h2 : b < a := of_decide_eq_true h1
    have h3 : decide (a < b) = false := decide_eq_false (by omega)
    have h4 : b ≤ a := by omega
    clear h1
    go_enter Tryz.func91, Tryz.ntmps91
    go_wp2_with (go_at_call 119; refine (hn.out _).mono ?_; rintro e w' ⟨rfl, rfl⟩)
    go_ret
    exact ⟨rfl, rfl⟩
theorem Less_calls (a b : Int) (w : World) :
    Calls Tryz.prog 116 #[.int .i64 a, .int .i64 b] w fun e w' => e = .returned (.bool (lt a b)) ∧ w' = w := by
  have hn := Lib.hid fun n => isNaN_calls n w
  show Calls Tryz.prog 116 #[.int .i64 a, .int .i64 b] w fun e w' => e = .returned (.bool (decide (a < b))) ∧ w' = w
  go_enter Tryz.func116, Tryz.ntmps116
  go_wp2_with (go_at_call 119; refine (hn.out _).mono ?_; rintro e w' ⟨rfl, rfl⟩)
  go_ret
  exact ⟨rfl, rfl⟩
end Go.Proofs.YtkdghmbglaghlaaGreat.Ci
namespace Go.Proofs.YtkdghmbglaghlaaGreat.Cs
open Go.RowKit Sh
open Key (lt)
theorem isNaN_calls (n : ByteArray) (w : World) :
    Calls Tryz.prog 94 #[.string n] w fun e w' => e = .returned (.bool false) ∧ w' = w := by
  go_enter Tryz.func94, Tryz.ntmps94
  go_wp2
  go_ret
  exact ⟨rfl, rfl⟩
theorem beq_ne {a b : ByteArray} (h : a ≠ b) : (a.toList == b.toList) = false := by
  cases g : a.toList == b.toList with
  | false => rfl
  | true => exact absurd (bytes_ext (eq_of_beq g)) h
theorem Compare_calls (a b : ByteArray) (c : Int) (w : World) (h : (lt a b = true ∧ c = -1) ∨ (a = b ∧ c = 0) ∨ (lt b a = true ∧ c = 1)) :
    Calls Tryz.prog 77 #[.string a, .string b] w fun e w' => e = .returned (.int .i64 c) ∧ w' = w := by
  have hn := Lib.hid fun n => isNaN_calls n w
  rcases h with ⟨h1, rfl⟩ | ⟨rfl, rfl⟩ | ⟨h1, rfl⟩
  · have h2 : Op.bytesLess a.toList b.toList = true := h1
    clear h1
    go_enter Tryz.func77, Tryz.ntmps77
    go_wp2_with (go_at_call 94; refine (hn.out _).mono ?_; rintro e w' ⟨rfl, rfl⟩)
    go_ret
    exact ⟨rfl, rfl⟩
  · have h2 : Op.bytesLess a.toList a.toList = false := Key.irr a
    have h3 : (a.toList == a.toList) = true := by simp
    go_enter Tryz.func77, Tryz.ntmps77
    go_wp2_with (go_at_call 94; refine (hn.out _).mono ?_; rintro e w' ⟨rfl, rfl⟩)
    go_ret
    exact ⟨rfl, rfl⟩
  · have h2 : Op.bytesLess b.toList a.toList = true := h1
    have h3 : Op.bytesLess a.toList b.toList = false := lt_asym (a := b) (b := a) h1
    have h4 : (a.toList == b.toList) = false := beq_ne (lt_ne (a := b) (b := a) h1).symm
    clear h1
    go_enter Tryz.func77, Tryz.ntmps77
    go_wp2_with (go_at_call 94; refine (hn.out _).mono ?_; rintro e w' ⟨rfl, rfl⟩)
    go_ret
    exact ⟨rfl, rfl⟩
end Go.Proofs.YtkdghmbglaghlaaGreat.Cs
