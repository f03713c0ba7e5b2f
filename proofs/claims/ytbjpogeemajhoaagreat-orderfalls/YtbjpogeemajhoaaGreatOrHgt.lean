/-
  Heights: slices.Max, object's Height and the reference's answer one more than the greatest (as object's). Conditions: none.
-/
import Derived.Test.YtbjpogeemajhoaaGreatRows
import Derived.Test.YtbjpogeemajhoaaGreatOctKit
import Derived.WalkKit
import Derived.WalkSpells
import Derived.WalkLawsBesides
import Derived.ProofKit
import Derived.OpenShut
import Derived.Laws.BytesArg
import Derived.Laws.Externs
import Derived.Deep.QuietTactic
import Derived.BigQuiet
import Derived.BigRegion
import Derived.Lib.Hide
import Derived.IntWalk
import Derived.Deep.LoopGhost
namespace Go.Proofs.YtbjpogeemajhoaaGreat.Ob
open Go Go.RowKit
open Oct (IntsAt)

/-- the greatest of the first k + 1 -/
def top (N : Nat → Int) : Nat → Int
  | 0 => N 0
  | k + 1 => max (top N k) (N (k + 1))
theorem top_ge (N : Nat → Int) (k i : Nat) (h : i ≤ k) : N i ≤ top N k := by
  induction k with
  | zero => obtain rfl : i = 0 := by omega
            exact Int.le_refl _
  | succ k ih =>
    unfold top
    by_cases e : i = k + 1
    · subst e; omega
    · have := ih (by omega); omega
theorem top_in (N : Nat → Int) (k : Nat) : ∃ i, i ≤ k ∧ N i = top N k := by
  induction k with
  | zero => exact ⟨0, Nat.le_refl _, rfl⟩
  | succ k ih =>
    obtain ⟨i, hi, e⟩ := ih
    unfold top
    by_cases h : top N k ≤ N (k + 1)
    · exact ⟨k + 1, Nat.le_refl _, by omega⟩
    · exact ⟨i, by omega, by omega⟩
/-- what Height answers -/
def hgt (N : Nat → Int) (len : Nat) : Int := if len = 0 then 0 else wrap64 (top N (len - 1) + 1)
theorem top_next (N : Nat → Int) (k : Nat) (h : 1 ≤ k) : max (top N (k - 1)) (N k) = top N k := by
  obtain ⟨j, rfl⟩ : ∃ j, k = j + 1 := ⟨k - 1, by omega⟩
  rfl
theorem top_zero (N : Nat → Int) : N 0 = top N 0 := rfl
attribute [local irreducible] top
set_option maxRecDepth 100000 in
theorem Max_calls (a : Option Addr) (len cap b off : Nat) (N : Nat → Int) (w : World) (hT : IntsAt .i64 w a b off len N) (h0 : 0 < len) (hl : len ≤ 140737488351232) :
    Calls Tryz.prog 43 #[.slice a len cap] w fun e w' => e = .returned (.int .i64 (top N (len - 1))) ∧ w = w' := by
  obtain rfl := hT.addr h0
  have c0 : w.cell? ⟨b, off, none⟩ = some (.int .i64 (N 0)) := hT.cell 0 h0
  have l1 : ¬ (len : Int) < 1 := by omega
  have l2 : (0 : Int) < len := by omega
  have ht0 : Hid (N 0 = top N 0) := Lib.hid (top_zero N)
  replace hT := Lib.hid hT
  go_enter Tryz.func43, Tryz.ntmps43
  go_wp2
  clear l1 c0
  go_loopw [3, 4] (fun m i wr => ∃ k : Nat, 1 ≤ k ∧ k ≤ len ∧ i = .int .i64 k ∧ m = .int .i64 (top N (k - 1)) ∧ w = wr) (fun _ i _ => len - (intOf i).toNat)
  case atStart => exact ⟨1, by omega, by omega, rfl, by rw [ht0.out], rfl⟩
  case round =>
    clear ht0
    obtain ⟨k, hk1, hk, rfl, rfl, rfl⟩ := hrel
    by_cases hlt : k < len
    · have i1 : (k : Int) < len := by omega
      have i0 : 0 ≤ (k : Int) := by omega
      have c0 := hT.out.cell k hlt
      have hnx := Lib.hid (top_next N k hk1)
      generalize top N (k - 1) = t at *
      go_wp2
      exact ⟨⟨k + 1, by omega, by omega, by go_num, by rw [Nat.add_sub_cancel, ← hnx.out]; first | rfl | (congr 1; split <;> omega), by first | rfl | trivial⟩, by simp [intOf]; omega⟩
    · have d0 : decide ((k : Int) < len) = false := decide_eq_false (by omega)
      have d1 : (len : Int) ≤ k := by omega
      obtain rfl : k = len := by omega
      go_wp2
      go_ret
      exact ⟨rfl, rfl⟩
set_option maxRecDepth 100000 in
theorem Height_calls (a : Option Addr) (len cap b off : Nat) (N : Nat → Int) (w : World) (hT : IntsAt .i64 w a b off len N) (hl : len ≤ 140737488351232) :
    Calls Tryz.prog 19 #[.slice a len cap] w fun e w' => e = .returned (.int .i64 (hgt N len)) ∧ w = w' := by
  unfold hgt
  by_cases h0 : len = 0
  · subst h0
    rw [if_pos rfl]
    go_enter Tryz.func19, Tryz.ntmps19
    go_wp2
    go_ret
    exact ⟨rfl, rfl⟩
  · rw [if_neg h0]
    have hM := Lib.hid (Max_calls a len cap b off N w hT (by omega) hl)
    have e0 : ((len : Int) == 0) = false := by simp only [beq_eq_false_iff_ne]; omega
    generalize top N (len - 1) = t at *
    go_enter Tryz.func19, Tryz.ntmps19
    go_wp2_with fail
    refine hM.out.mono ?_
    rintro e w' ⟨rfl, rfl⟩
    go_wp2
    go_ret
    exact ⟨rfl, rfl⟩
end Go.Proofs.YtbjpogeemajhoaaGreat.Ob
