/-
  The library's comparisons of keys: cmp.Compare and cmp.Less at numbers and at texts. Conditions: none.
-/
import Derived.Test.YtcoccaglbepbdaaGreatRows
import Derived.Test.YtcoccaglbepbdaaGreatShPlain
import Derived.WalkKit
import Derived.WalkSpells
import Derived.WalkLawsBesides
import Derived.ProofKit
import Derived.OpenShut
import Derived.BigRegion
import Derived.Lib.Hide
namespace Go.Proofs.YtcoccaglbepbdaaGreat.Ci
open Go.RowKit Sh
open Key (lt)
theorem isNaN_calls (n : Int) (w : World) :
    Calls Tryz.prog 112 #[.int .i64 n] w fun e w' => e = .returned (.bool false) ∧ w' = w := by
  go_enter Tryz.func112, Tryz.ntmps112
  go_wp2
  go_ret
  exact ⟨rfl, rfl⟩
theorem Compare_calls (a b c : Int) (w : World) (h : (lt a b = true ∧ c = -1) ∨ (a = b ∧ c = 0) ∨ (lt b a = true ∧ c = 1)) :
    Calls Tryz.prog 97 #[.int .i64 a, .int .i64 b] w fun e w' => e = .returned (.int .i64 c) ∧ w' = w := by
  have hn := Lib.hid fun n => isNaN_calls n w
  rcases h with ⟨h1, rfl⟩ | ⟨rfl, rfl⟩ | ⟨h1, rfl⟩
  · have h2 : a < b := of_decide_eq_true h1
    clear h1
    go_enter Tryz.func97, Tryz.ntmps97
    go_wp2_with (go_at_call 112; refine (hn.out _).mono ?_; rintro e w' ⟨rfl, rfl⟩)
    go_ret
    exact ⟨rfl, rfl⟩
  · have h2 : ¬ a < a := by omega
    go_enter Tryz.func97, Tryz.ntmps97
    go_wp2_with (go_at_call 112; refine (hn.out _).mono ?_; rintro e w' ⟨rfl, rfl⟩)
    go_ret
    exact ⟨rfl, rfl⟩
  · have h2 : b < a := of_decide_eq_true h1
    have h3 : decide (a < b) = false := decide_eq_false (by omega)
    have h4 : b ≤ a := by omega
    clear h1
    go_enter Tryz.func97, Tryz.ntmps97
    go_wp2_with (go_at_call 112; refine (hn.out _).mono ?_; rintro e w' ⟨rfl, rfl⟩)
    go_ret
    exact ⟨rfl, rfl⟩
theorem Less_calls (a b : Int) (w : World) :
    Calls Tryz.prog 103 #[.int .i64 a, .int .i64 b] w fun e w' => e = .returned (.bool (lt a b)) ∧ w' = w := by
  have hn := Lib.hid fun n => isNaN_calls n w
  show Calls Tryz.prog 103 #[.int .i64 a, .int .i64 b] w fun e w' => e = .returned (.bool (decide (a < b))) ∧ w' = w
  go_enter Tryz.func103, Tryz.ntmps103
  go_wp2_with (go_at_call 112; refine (hn.out _).mono ?_; rintro e w' ⟨rfl, rfl⟩)
  go_ret
  exact ⟨rfl, rfl⟩
end Go.Proofs.YtcoccaglbepbdaaGreat.Ci
namespace Go.Proofs.YtcoccaglbepbdaaGreat.Cs
open Go.RowKit Sh
open Key (lt)
theorem beq_ne {a b : ByteArray} (h : a ≠ b) : (a.toList == b.toList) = false := by
  cases g : a.toList == b.toList with
  | false => rfl
  | true => exact absurd (bytes_ext (eq_of_beq g)) h
end Go.Proofs.YtcoccaglbepbdaaGreat.Cs
