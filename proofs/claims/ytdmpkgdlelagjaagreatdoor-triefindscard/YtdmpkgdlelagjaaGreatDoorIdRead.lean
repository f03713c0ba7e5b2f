/-
  Package ident's calls that only read: value, Good, Digit, allDigits, Share, Has, as the plain functions answer; the memory stays. Conditions: none.
-/
import Derived.Test.YtdmpkgdlelagjaaGreatDoorRows
import Derived.Test.YtdmpkgdlelagjaaGreatDoorIdPlain
import Derived.WalkKit
import Derived.WalkSpells
import Derived.WalkLawsBesides
import Derived.ProofKit
import Derived.OpenShut
import Derived.Laws.BytesArg
import Derived.Laws.Externs
import Derived.Deep.QuietTactic
import Derived.BigQuiet
import Derived.BigRegion
import Derived.Lib.Hide
import Derived.IntWalk
namespace Go.Proofs.YtdmpkgdlelagjaaGreatDoor.Ident
open Go.RowKit

theorem index_letters (c : UInt8) : Lib.indexByte [48, 49, 50, 51, 52, 53, 54, 55, 56, 57, 97, 98, 99, 100, 101, 102] c = val c := val_index c
theorem byte_back (c : UInt8) : ((c.toNat : Int).toNat).toUInt8 = c := by simp
theorem indexByteString_calls (s : ByteArray) (c : UInt8) (w : World) :
    Calls Tryz.prog 119 #[.string s, .int .u8 (c.toNat : Int)] w fun e w' => e = .returned (.int .i64 (Lib.indexByte s.data.toList c)) ∧ w = w' := by
  have h1 := Lib.run_indexByteString (P := Tryz.prog) s (c.toNat : Int) w
  rw [byte_back] at h1
  have h4 := run_callFunc_extern (P := Tryz.prog) (w := w) (args := #[.string s, .int .u8 (c.toNat : Int)]) Tryz.func137 (by kernel_rfl) (by kernel_rfl) (by kernel_rfl) (e := Extern.BytealgIndexByte.indexByte) (by kernel_rfl)
  go_enter Tryz.func119, Tryz.ntmps119
  go_wp2
  go_ret
  exact ⟨rfl, rfl⟩
theorem IndexByte_calls (s : ByteArray) (c : UInt8) (w : World) :
    Calls Tryz.prog 93 #[.string s, .int .u8 (c.toNat : Int)] w fun e w' => e = .returned (.int .i64 (Lib.indexByte s.data.toList c)) ∧ w = w' := by
  go_enter Tryz.func93, Tryz.ntmps93
  go_wp2_with fail
  refine (indexByteString_calls s c w).mono ?_
  rintro e w' ⟨rfl, rfl⟩
  go_wp2
  go_ret
  exact ⟨rfl, rfl⟩
theorem value_calls (c : UInt8) (w : World) :
    Calls Tryz.prog 63 #[.int .u8 (c.toNat : Int)] w fun e w' => e = .returned (.int .i64 (val c)) ∧ w = w' := by
  go_enter Tryz.func63, Tryz.ntmps63
  go_wp2_with fail
  refine (IndexByte_calls letters c w).mono ?_
  rintro e w' ⟨rfl, rfl⟩
  rw [val_index]
  go_wp2
  go_ret
  exact ⟨rfl, rfl⟩
theorem getElem_by (s : ByteArray) (k : Nat) (h : k < s.size) : s[k]'h = by_ s k := by
  unfold by_
  have h2 : k < s.data.toList.length := by rw [← size_list]; exact h
  rw [List.getD_eq_getElem?_getD, List.getElem?_eq_getElem h2]; rfl
attribute [local go_sem] getElem_by
theorem and15 (c : UInt8) : bits .and .u8 (c.toNat : Int) 15 = ((c.toNat % 16 : Nat) : Int) := by
  have := all_bytes (p := fun c => decide (bits .and .u8 (c.toNat : Int) 15 = ((c.toNat % 16 : Nat) : Int))) (by kernel_rfl) c
  exact of_decide_eq_true this
theorem and15h (c : UInt8) : bits .and .u8 ((c.toNat : Int) / 16) 15 = ((c.toNat / 16 : Nat) : Int) := by
  have := all_bytes (p := fun c => decide (bits .and .u8 ((c.toNat : Int) / 16) 15 = ((c.toNat / 16 : Nat) : Int))) (by kernel_rfl) c
  exact of_decide_eq_true this
theorem wrap_small (n : Nat) (h : n < 256) : wrap64 (n : Int) = (n : Int) := IntWalk.wrap64_in _ ⟨by omega, by omega⟩
theorem wrap_mod16 (c : UInt8) : wrap64 ((c.toNat % 16 : Nat) : Int) = ((c.toNat % 16 : Nat) : Int) := wrap_small _ (by omega)
theorem wrap_div16 (c : UInt8) : wrap64 ((c.toNat : Int) / 16) = ((c.toNat / 16 : Nat) : Int) := wrap_small (c.toNat / 16) (by have := c.toNat_lt; omega)
attribute [local go_sem] and15 and15h wrap_mod16 wrap_div16
theorem size_beq (s : ByteArray) (n : Nat) : ((s.size : Int) == (n : Int)) = decide (s.size = n) := by
  rw [Bool.eq_iff_iff]; simp; omega
theorem Good_calls (s : ByteArray) (w : World) :
    Calls Tryz.prog 51 #[.string s] w fun e w' => e = .returned (.bool (decide (s.size = 32))) ∧ w = w' := by
  have e := size_beq s 32
  go_enter Tryz.func51, Tryz.ntmps51
  go_wp2
  go_ret
  exact ⟨congrArg (fun b => Ending.returned (.bool b)) e, rfl⟩
theorem digitAt_even {s : ByteArray} {k : Int} (h0 : s.size = 32) (h1 : 0 ≤ k) (h2 : k < 64) (h3 : k % 2 = 0) : (((by_ s (k / 2).toNat).toNat / 16 : Nat) : Int) = digitAt s k := by
  unfold digitAt digit; rw [if_pos ⟨h0, h1, h2⟩, if_pos (by omega), show k.toNat / 2 = (k / 2).toNat by omega]
theorem digitAt_odd {s : ByteArray} {k : Int} (h0 : s.size = 32) (h1 : 0 ≤ k) (h2 : k < 64) (h3 : k % 2 ≠ 0) : (((by_ s (k / 2).toNat).toNat % 16 : Nat) : Int) = digitAt s k := by
  unfold digitAt digit; rw [if_pos ⟨h0, h1, h2⟩, if_neg (by omega), show k.toNat / 2 = (k / 2).toNat by omega]
theorem Digit_calls (s : ByteArray) (k : Int) (w : World) :
    Calls Tryz.prog 53 #[.string s, .int .i64 k] w fun e w' => e = .returned (.int .i64 (digitAt s k)) ∧ w = w' := by
  go_enter Tryz.func53, Tryz.ntmps53
  go_wp2_with fail
  refine (Good_calls s w).mono ?_
  rintro e w' ⟨rfl, rfl⟩
  by_cases h : s.size = 32 ∧ 0 ≤ k ∧ k < 64
  · obtain ⟨h0, h1, h2⟩ := h
    have d0 : decide (k < 0) = false := decide_eq_false (by omega)
    have d1 : decide (64 ≤ k) = false := decide_eq_false (by omega)
    have i0 : 0 ≤ k / 2 := by omega
    have i1 : k / 2 < 32 := by omega
    by_cases hp : k % 2 = 0
    · have e := Lib.hid (digitAt_even h0 h1 h2 hp)
      have hp' : (k % 2 == 0) = true := by simp [hp]
      clear hp
      go_wp2
      go_ret
      exact ⟨congrArg (fun z => Ending.returned (.int .i64 z)) ((wrap_div16 _).trans e.out), rfl⟩
    · have e := Lib.hid (digitAt_odd h0 h1 h2 hp)
      have hp' : (k % 2 == 0) = false := by simp [hp]
      clear hp
      go_wp2
      go_ret
      exact ⟨congrArg (fun z => Ending.returned (.int .i64 z)) e.out, rfl⟩
  · have e := Lib.hid (digitAt_out h)
    by_cases h0 : s.size = 32
    · have h1 : k < 0 ∨ (0 ≤ k ∧ 64 ≤ k) := by omega
      clear h
      rcases h1 with h1 | ⟨h1, h2⟩
      · go_wp2
        go_ret
        exact ⟨by rw [e.out]; rfl, rfl⟩
      · have d0 : decide (k < 0) = false := decide_eq_false (by omega)
        go_wp2
        go_ret
        exact ⟨by rw [e.out]; rfl, rfl⟩
    · clear h
      have d0 : decide (s.size = 32) = false := decide_eq_false h0
      go_wp2
      go_ret
      exact ⟨by rw [e.out]; rfl, rfl⟩
theorem allDigits_calls (s : ByteArray) (w : World) (hs : s.size ≤ 140737488351232) :
    Calls Tryz.prog 95 #[.string s] w fun e w' => (∃ b : Bool, e = .returned (.bool b) ∧ (b = true ↔ digits s)) ∧ w = w' := by
  go_enter Tryz.func95, Tryz.ntmps95
  go_wp2
  go_loopw [6] (fun i wr => ∃ k : Nat, k ≤ s.size ∧ i = .int .i64 k ∧ (∀ j, j < k → 0 ≤ val (by_ s j)) ∧ w = wr) (fun i _ => s.size - (intOf i).toNat)
  case atStart => exact ⟨0, by omega, rfl, fun j hj => by omega, rfl⟩
  case round =>
    obtain ⟨k, hk, rfl, hd, rfl⟩ := hrel
    replace hd := Lib.hid hd
    by_cases hlt : k < s.size
    · have i1 : (k : Int) < s.size := by omega
      have i0 : 0 ≤ (k : Int) := by omega
      go_wp2_with fail
      refine (value_calls (by_ s k) w).mono ?_
      rintro e w' ⟨rfl, rfl⟩
      by_cases hv : val (by_ s k) < 0
      · go_wp2
        go_ret
        exact ⟨⟨false, rfl, by simp only [Bool.false_eq_true, false_iff]; exact fun h => absurd (h k hlt) (by omega)⟩, rfl⟩
      · have hv' : decide (val (by_ s k) < 0) = false := decide_eq_false hv
        have hv2 : 0 ≤ val (by_ s k) := by omega
        go_wp2_with fail
        exact ⟨⟨k + 1, by omega, by go_num, fun j hj => by
          by_cases e : j = k
          · subst e; exact hv2
          · exact hd.out j (by omega), by trivial⟩, by simp [intOf]; omega⟩
    · have d0 : decide ((k : Int) < s.size) = false := decide_eq_false (by omega)
      have d1 : (s.size : Int) ≤ k := by omega
      go_wp2
      go_ret
      exact ⟨⟨true, rfl, by simp only [true_iff]; exact fun j hj => hd.out j (by omega)⟩, rfl⟩
theorem Has_calls (id d : ByteArray) (w : World) :
    Calls Tryz.prog 26 #[.string id, .string d] w fun e w' => e = .returned (.bool (decide (has id d))) ∧ w = w' := by
  go_enter Tryz.func26, Tryz.ntmps26
  go_wp2_with fail
  refine (Good_calls id w).mono ?_
  rintro e w' ⟨rfl, rfl⟩
  by_cases ha : id.size = 32
  · by_cases hb : d.size ≤ 64
    · have d0 : decide ((64 : Int) < d.size) = false := decide_eq_false (by omega)
      have d1 : (d.size : Int) ≤ 64 := by omega
      go_wp2_with fail
      go_loopw [16] (fun i wr => ∃ k : Nat, k ≤ d.size ∧ i = .int .i64 k ∧ (∀ j, j < k → val (by_ d j) = (digit id j : Int)) ∧ w = wr) (fun i _ => 64 - (intOf i).toNat)
      case atStart => exact ⟨0, by omega, rfl, fun j hj => by omega, rfl⟩
      case round =>
        obtain ⟨k, hk, rfl, hd, rfl⟩ := hrel
        replace hd := Lib.hid hd
        by_cases hlt : k < d.size
        · have i1 : (k : Int) < d.size := by omega
          have i0 : 0 ≤ (k : Int) := by omega
          go_wp2_with fail
          refine (value_calls (by_ d k) w).mono ?_
          rintro e w' ⟨rfl, rfl⟩
          go_wp2_with fail
          refine (Digit_calls id k w).mono ?_
          rintro e w' ⟨rfl, rfl⟩
          have ea := digitAt_in ha (show k < 64 by omega)
          by_cases hv : val (by_ d k) = (digit id k : Int)
          · have hv' : (val (by_ d k) == digitAt id k) = true := by rw [ea, hv]; simp
            clear ea
            go_wp2_with fail
            exact ⟨⟨k + 1, by omega, by go_num, fun j hj => by
              by_cases e : j = k
              · subst e; exact hv
              · exact hd.out j (by omega), by trivial⟩, by simp [intOf]; omega⟩
          · have hv' : (val (by_ d k) == digitAt id k) = false := by rw [ea]; simp; omega
            have hno : decide (has id d) = false := decide_eq_false fun h => hv (h.2.2 k hlt)
            replace hno := Lib.hid hno
            clear ea
            go_wp2
            go_ret
            exact ⟨by rw [hno.out]; rfl, rfl⟩
        · have d0 : decide ((k : Int) < d.size) = false := decide_eq_false (by omega)
          have d1 : (d.size : Int) ≤ k := by omega
          have hyes : decide (has id d) = true := decide_eq_true ⟨ha, hb, fun j hj => hd.out j (by omega)⟩
          replace hno := Lib.hid hyes
          clear hyes
          go_wp2
          go_ret
          exact ⟨by rw [hno.out]; rfl, rfl⟩
    · have d0 : (64 : Int) < d.size := by omega
      have hno : decide (has id d) = false := decide_eq_false fun h => hb h.2.1
      replace hno := Lib.hid hno
      go_wp2
      go_ret
      exact ⟨by rw [hno.out]; rfl, rfl⟩
  · have d0 : decide (id.size = 32) = false := decide_eq_false ha
    have hno : decide (has id d) = false := decide_eq_false fun h => ha h.1
    replace hno := Lib.hid hno
    go_wp2
    go_ret
    exact ⟨by rw [hno.out]; rfl, rfl⟩
end Go.Proofs.YtdmpkgdlelagjaaGreatDoor.Ident
