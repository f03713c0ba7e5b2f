/-
  The library's comparisons of keys: cmp.Compare and cmp.Less at numbers and at texts. Conditions: none.
-/
import Derived.Test.YtdmpkgdlelagjaaGreatDoorRows
import Derived.Test.YtdmpkgdlelagjaaGreatDoorShPlain
import Derived.WalkKit
import Derived.WalkSpells
import Derived.WalkLawsBesides
import Derived.ProofKit
import Derived.OpenShut
import Derived.BigRegion
import Derived.Lib.Hide
namespace Go.Proofs.YtdmpkgdlelagjaaGreatDoor.Ci
open Go.RowKit Sh
open Key (lt)
end Go.Proofs.YtdmpkgdlelagjaaGreatDoor.Ci
namespace Go.Proofs.YtdmpkgdlelagjaaGreatDoor.Cs
open Go.RowKit Sh
open Key (lt)
theorem isNaN_calls (n : ByteArray) (w : World) :
    Calls Tryz.prog 121 #[.string n] w fun e w' => e = .returned (.bool false) ∧ w' = w := by
  go_enter Tryz.func121, Tryz.ntmps121
  go_wp2
  go_ret
  exact ⟨rfl, rfl⟩
theorem beq_ne {a b : ByteArray} (h : a ≠ b) : (a.toList == b.toList) = false := by
  cases g : a.toList == b.toList with
  | false => rfl
  | true => exact absurd (bytes_ext (eq_of_beq g)) h
theorem Compare_calls (a b : ByteArray) (c : Int) (w : World) (h : (lt a b = true ∧ c = -1) ∨ (a = b ∧ c = 0) ∨ (lt b a = true ∧ c = 1)) :
    Calls Tryz.prog 115 #[.string a, .string b] w fun e w' => e = .returned (.int .i64 c) ∧ w' = w := by
  have hn := Lib.hid fun n => isNaN_calls n w
  rcases h with ⟨h1, rfl⟩ | ⟨rfl, rfl⟩ | ⟨h1, rfl⟩
  · have h2 : Op.bytesLess a.toList b.toList = true := h1
    clear h1
    go_enter Tryz.func115, Tryz.ntmps115
    go_wp2_with (go_at_call 121; refine (hn.out _).mono ?_; rintro e w' ⟨rfl, rfl⟩)
    go_ret
    exact ⟨rfl, rfl⟩
  · have h2 : Op.bytesLess a.toList a.toList = false := Key.irr a
    have h3 : (a.toList == a.toList) = true := by simp
    go_enter Tryz.func115, Tryz.ntmps115
    go_wp2_with (go_at_call 121; refine (hn.out _).mono ?_; rintro e w' ⟨rfl, rfl⟩)
    go_ret
    exact ⟨rfl, rfl⟩
  · have h2 : Op.bytesLess b.toList a.toList = true := h1
    have h3 : Op.bytesLess a.toList b.toList = false := lt_asym (a := b) (b := a) h1
    have h4 : (a.toList == b.toList) = false := beq_ne (lt_ne (a := b) (b := a) h1).symm
    clear h1
    go_enter Tryz.func115, Tryz.ntmps115
    go_wp2_with (go_at_call 121; refine (hn.out _).mono ?_; rintro e w' ⟨rfl, rfl⟩)
    go_ret
    exact ⟨rfl, rfl⟩
end Go.Proofs.YtdmpkgdlelagjaaGreatDoor.Cs
