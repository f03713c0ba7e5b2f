/-
  The document's own calls that only read (reliquaryref03): value, digit, Good, Digit, Digits, Share, Has, Find, as the plain functions answer; the memory stays. Conditions: none.
-/
import Derived.Test.YtdmpkgdlelagjaaGreatDoorRows
import Derived.Test.YtdmpkgdlelagjaaGreatDoorIdFind
import Derived.WalkKit
import Derived.WalkSpells
import Derived.WalkLawsBesides
import Derived.ProofKit
import Derived.OpenShut
import Derived.Laws.BytesArg
import Derived.Laws.Externs
import Derived.Deep.QuietTactic
import Derived.BigQuiet
import Derived.BigRegion
import Derived.Lib.Hide
import Derived.IntWalk
namespace Go.Proofs.YtdmpkgdlelagjaaGreatDoor.Ident
open Go.RowKit
open Oct (TextsAt)
attribute [local go_sem] getElem_by
theorem Rvalue_calls (c : UInt8) (w : World) :
    Calls Tryz.prog 67 #[.int .u8 (c.toNat : Int)] w fun e w' => e = .returned (.int .i64 (val c)) ∧ w = w' := by
  have hc := c.toNat_lt
  by_cases h1 : 48 ≤ c.toNat ∧ c.toNat ≤ 57
  · have e := Lib.hid (show val c = (c.toNat : Int) - 48 from if_pos h1)
    obtain ⟨a, b⟩ := h1
    generalize c.toNat = n at *
    have a' : (48 : Int) ≤ n := by omega
    have b' : (n : Int) ≤ 57 := by omega
    go_enter Tryz.func67, Tryz.ntmps67
    go_wp2
    go_ret
    exact ⟨by rw [e.out]; rfl, rfl⟩
  · by_cases h2 : 97 ≤ c.toNat ∧ c.toNat ≤ 102
    · have e := Lib.hid (show val c = (c.toNat : Int) - 87 by unfold val; rw [if_neg h1, if_pos h2])
      have h3 := Lib.hid (show ∀ x : Int, x - 97 + 10 = x - 87 from fun x => by omega)
      obtain ⟨a, b⟩ := h2
      generalize c.toNat = n at *
      have a' : (97 : Int) ≤ n := by omega
      have b' : (n : Int) ≤ 102 := by omega
      have d : decide ((n : Int) ≤ 57) = false := decide_eq_false (by omega)
      have d2 : (48 : Int) ≤ n := by omega
      clear h1
      go_enter Tryz.func67, Tryz.ntmps67
      go_wp2
      go_ret
      exact ⟨by rw [e.out, ← h3.out]; rfl, rfl⟩
    · have e := Lib.hid (show val c = -1 by unfold val; rw [if_neg h1, if_neg h2])
      generalize c.toNat = n at *
      have hx : (n : Int) < 48 ∨ (57 < (n : Int) ∧ (n : Int) < 97) ∨ (102 < (n : Int)) := by omega
      clear h1 h2
      rcases hx with hx | ⟨hx, hy⟩ | hx
      · have d : decide ((48 : Int) ≤ n) = false := decide_eq_false (by omega)
        have d2 : decide ((97 : Int) ≤ n) = false := decide_eq_false (by omega)
        go_enter Tryz.func67, Tryz.ntmps67
        go_wp2
        go_ret
        exact ⟨by rw [e.out]; rfl, rfl⟩
      · have d : (48 : Int) ≤ n := by omega
        have d1 : decide ((n : Int) ≤ 57) = false := decide_eq_false (by omega)
        have d2 : decide ((97 : Int) ≤ n) = false := decide_eq_false (by omega)
        go_enter Tryz.func67, Tryz.ntmps67
        go_wp2
        go_ret
        exact ⟨by rw [e.out]; rfl, rfl⟩
      · have d : (48 : Int) ≤ n := by omega
        have d1 : decide ((n : Int) ≤ 57) = false := decide_eq_false (by omega)
        have d2 : (97 : Int) ≤ n := by omega
        have d3 : decide ((n : Int) ≤ 102) = false := decide_eq_false (by omega)
        go_enter Tryz.func67, Tryz.ntmps67
        go_wp2
        go_ret
        exact ⟨by rw [e.out]; rfl, rfl⟩
theorem tdiv16 (c : UInt8) : wrap64 ((wrap64 (c.toNat : Int)).tdiv 16) = ((c.toNat / 16 : Nat) : Int) := by
  have := all_bytes (p := fun c => decide (wrap64 ((wrap64 (c.toNat : Int)).tdiv 16) = ((c.toNat / 16 : Nat) : Int))) (by kernel_rfl) c
  exact of_decide_eq_true this
theorem tmod16 (c : UInt8) : (wrap64 (c.toNat : Int)).tmod 16 = ((c.toNat % 16 : Nat) : Int) := by
  have := all_bytes (p := fun c => decide ((wrap64 (c.toNat : Int)).tmod 16 = ((c.toNat % 16 : Nat) : Int))) (by kernel_rfl) c
  exact of_decide_eq_true this
theorem RGood_calls (s : ByteArray) (w : World) :
    Calls Tryz.prog 98 #[.string s] w fun e w' => e = .returned (.bool (decide (s.size = 32))) ∧ w = w' := by
  have e := size_beq s 32
  go_enter Tryz.func98, Tryz.ntmps98
  go_wp2
  go_ret
  exact ⟨congrArg (fun b => Ending.returned (.bool b)) e, rfl⟩
theorem RDigit_calls (s : ByteArray) (k : Int) (w : World) :
    Calls Tryz.prog 99 #[.string s, .int .i64 k] w fun e w' => e = .returned (.int .i64 (digitAt s k)) ∧ w = w' := by
  go_enter Tryz.func99, Tryz.ntmps99
  go_wp2_with fail
  refine (RGood_calls s w).mono ?_
  rintro e w' ⟨rfl, rfl⟩
  by_cases h : s.size = 32 ∧ 0 ≤ k ∧ k < 64
  · obtain ⟨h0, h1, h2⟩ := h
    have d0 : decide (k < 0) = false := decide_eq_false (by omega)
    have d1 : decide (63 < k) = false := decide_eq_false (by omega)
    have i0 : 0 ≤ k / 2 := by omega
    have i1 : k / 2 < 32 := by omega
    by_cases hp : k % 2 = 0
    · have e := Lib.hid (digitAt_even h0 h1 h2 hp)
      have hp' : (k % 2 == 0) = true := by simp [hp]
      clear hp
      go_wp2
      go_ret
      exact ⟨congrArg (fun z => Ending.returned (.int .i64 z)) ((tdiv16 _).trans e.out), rfl⟩
    · have e := Lib.hid (digitAt_odd h0 h1 h2 hp)
      have hp' : (k % 2 == 0) = false := by simp [hp]
      clear hp
      go_wp2
      go_ret
      exact ⟨congrArg (fun z => Ending.returned (.int .i64 z)) ((tmod16 _).trans e.out), rfl⟩
  · have e := Lib.hid (digitAt_out h)
    by_cases h0 : s.size = 32
    · have h1 : k < 0 ∨ (0 ≤ k ∧ 63 < k) := by omega
      clear h
      rcases h1 with h1 | ⟨h1, h2⟩
      · go_wp2
        go_ret
        exact ⟨by rw [e.out]; rfl, rfl⟩
      · have d0 : decide (k < 0) = false := decide_eq_false (by omega)
        go_wp2
        go_ret
        exact ⟨by rw [e.out]; rfl, rfl⟩
    · clear h
      have d0 : decide (s.size = 32) = false := decide_eq_false h0
      go_wp2
      go_ret
      exact ⟨by rw [e.out]; rfl, rfl⟩
theorem RDigits_calls (s : ByteArray) (w : World) :
    Calls Tryz.prog 33 #[.string s] w fun e w' => (∃ b : Bool, e = .returned (.bool b) ∧ (b = true ↔ s.size ≤ 64 ∧ digits s)) ∧ w = w' := by
  go_enter Tryz.func33, Tryz.ntmps33
  by_cases h64 : s.size ≤ 64
  · have d0 : decide ((64 : Int) < s.size) = false := decide_eq_false (by omega)
    have d1 : (s.size : Int) ≤ 64 := by omega
    go_wp2_with fail
    go_loopw [3] (fun i wr => ∃ k : Nat, k ≤ s.size ∧ i = .int .i64 k ∧ (∀ j, j < k → 0 ≤ val (by_ s j)) ∧ w = wr) (fun i _ => s.size - (intOf i).toNat)
    case atStart => exact ⟨0, by omega, rfl, fun j hj => by omega, rfl⟩
    case round =>
      obtain ⟨k, hk, rfl, hd, rfl⟩ := hrel
      replace hd := Lib.hid hd
      by_cases hlt : k < s.size
      · have i1 : (k : Int) < s.size := by omega
        have i0 : 0 ≤ (k : Int) := by omega
        go_wp2_with fail
        refine (Rvalue_calls (by_ s k) w).mono ?_
        rintro e w' ⟨rfl, rfl⟩
        by_cases hv : val (by_ s k) < 0
        · go_wp2
          go_ret
          exact ⟨⟨false, rfl, by simp only [Bool.false_eq_true, false_iff]; exact fun h => absurd (h.2 k hlt) (by omega)⟩, rfl⟩
        · have hv' : decide (val (by_ s k) < 0) = false := decide_eq_false hv
          have hv2 : 0 ≤ val (by_ s k) := by omega
          go_wp2_with fail
          exact ⟨⟨k + 1, by omega, by go_num, fun j hj => by
            by_cases e : j = k
            · subst e; exact hv2
            · exact hd.out j (by omega), by trivial⟩, by simp [intOf]; omega⟩
      · have d0 : decide ((k : Int) < s.size) = false := decide_eq_false (by omega)
        have d1 : (s.size : Int) ≤ k := by omega
        go_wp2
        go_ret
        exact ⟨⟨true, rfl, by simp only [true_iff]; exact ⟨h64, fun j hj => hd.out j (by omega)⟩⟩, rfl⟩
  · have d0 : (64 : Int) < s.size := by omega
    go_wp2
    go_ret
    exact ⟨⟨false, rfl, by simp only [Bool.false_eq_true, false_iff]; exact fun h => h64 h.1⟩, rfl⟩
theorem RHas_calls (id d : ByteArray) (w : World) :
    Calls Tryz.prog 68 #[.string id, .string d] w fun e w' => e = .returned (.bool (decide (has id d))) ∧ w = w' := by
  go_enter Tryz.func68, Tryz.ntmps68
  go_wp2_with fail
  refine (RGood_calls id w).mono ?_
  rintro e w' ⟨rfl, rfl⟩
  by_cases ha : id.size = 32
  · go_wp2_with fail
    refine (RDigits_calls d w).mono ?_
    rintro e w' ⟨⟨c, rfl, hc⟩, rfl⟩
    cases c with
    | true =>
      have hb : d.size ≤ 64 := (hc.1 rfl).1
      clear hc
      go_wp2_with fail
      go_loopw [5] (fun i wr => ∃ k : Nat, k ≤ d.size ∧ i = .int .i64 k ∧ (∀ j, j < k → val (by_ d j) = (digit id j : Int)) ∧ w = wr) (fun i _ => 64 - (intOf i).toNat)
      case atStart => exact ⟨0, by omega, rfl, fun j hj => by omega, rfl⟩
      case round =>
        obtain ⟨k, hk, rfl, hd, rfl⟩ := hrel
        replace hd := Lib.hid hd
        by_cases hlt : k < d.size
        · have i1 : (k : Int) < d.size := by omega
          have i0 : 0 ≤ (k : Int) := by omega
          go_wp2_with fail
          refine (Rvalue_calls (by_ d k) w).mono ?_
          rintro e w' ⟨rfl, rfl⟩
          go_wp2_with fail
          refine (RDigit_calls id k w).mono ?_
          rintro e w' ⟨rfl, rfl⟩
          have ea := digitAt_in ha (show k < 64 by omega)
          by_cases hv : val (by_ d k) = (digit id k : Int)
          · have hv' : (val (by_ d k) == digitAt id k) = true := by rw [ea, hv]; simp
            clear ea
            go_wp2_with fail
            exact ⟨⟨k + 1, by omega, by go_num, fun j hj => by
              by_cases e : j = k
              · subst e; exact hv
              · exact hd.out j (by omega), by trivial⟩, by simp [intOf]; omega⟩
          · have hv' : (val (by_ d k) == digitAt id k) = false := by rw [ea]; simp; omega
            have hno := Lib.hid (show decide (has id d) = false from decide_eq_false fun h => hv (h.2.2 k hlt))
            clear ea
            go_wp2
            go_ret
            exact ⟨by rw [hno.out]; rfl, rfl⟩
        · have d0 : decide ((k : Int) < d.size) = false := decide_eq_false (by omega)
          have d1 : (d.size : Int) ≤ k := by omega
          have hno := Lib.hid (show decide (has id d) = true from decide_eq_true ⟨ha, hb, fun j hj => hd.out j (by omega)⟩)
          go_wp2
          go_ret
          exact ⟨by rw [hno.out]; rfl, rfl⟩
    | false =>
      have hno := Lib.hid (show decide (has id d) = false from decide_eq_false fun h => by have := hc.2 ⟨h.2.1, h.digits⟩; cases this)
      clear hc
      go_wp2
      go_ret
      exact ⟨by rw [hno.out]; rfl, rfl⟩
  · have d0 : decide (id.size = 32) = false := decide_eq_false ha
    have hno := Lib.hid (show decide (has id d) = false from decide_eq_false fun h => ha h.1)
    go_wp2
    go_ret
    exact ⟨by rw [hno.out]; rfl, rfl⟩
end Go.Proofs.YtdmpkgdlelagjaaGreatDoor.Ident
