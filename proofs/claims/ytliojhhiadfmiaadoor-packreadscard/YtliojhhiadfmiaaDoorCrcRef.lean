/-
  The document's answers (reliquaryref04): More and Sum, by their contracts. Conditions: a text is within the form's own reach.
-/
import Derived.Test.YtliojhhiadfmiaaDoorRows
import Derived.Test.YtliojhhiadfmiaaDoorCrcCalls
import Derived.WalkKit
import Derived.WalkSpells
import Derived.WalkLawsBesides
import Derived.ProofKit
import Derived.OpenShut
import Derived.Laws.BytesArg
import Derived.Deep.QuietTactic
import Derived.BigQuiet
import Derived.BigRegion
import Derived.Lib.Hide
import Derived.Deep.MidRow
import Derived.IntWalk
namespace Go.Proofs.YtliojhhiadfmiaaDoor.Crc
open Go.RowKit
open Sha (u u_xor u_not u_not2 u_shr u_lt u_nonneg u_inj u_byte w_byte m_byte ofInt_u toNat_wrap wrap32)
theorem m_shr1 (x : UInt32) : u x / (2 : Int) = u (x >>> 1) := u_shr x 1 (by decide)
theorem p_xor (x : UInt32) : bits .xor .u32 (u x) 2197175160 = u (x ^^^ poly) := u_xor x poly
theorem Tn_succ (n : Nat) (c : UInt32) : Tn (n + 1) c = T (Tn n c) := by
  rw [Tn_add n 1 c]; rfl
theorem run_succ (c : UInt32) (l : List UInt8) (k : Nat) (h : k < l.length) : Tn 8 (run c (l.take k) ^^^ (l.getD k 0).toUInt32) = run c (l.take (k + 1)) := by
  rw [run_take c l k h, feed]
theorem Tn_nil (c : UInt32) : Tn 0 c = c := rfl
theorem T_odd {c : UInt32} (h : c.toNat % 2 = 1) : T c = (c >>> 1) ^^^ poly := if_pos h
attribute [local irreducible] Tn feed run sum more T
attribute [local go_sem] u_xor u_not u_not2 m_shr1 p_xor w_byte m_byte
set_option maxHeartbeats 400000 in
theorem RMore_calls (x : UInt32) (s : ByteArray) (w : World) (hs : s.size ≤ 281474976710656) :
    Calls Tryd.prog 62 #[.int .u32 (u x), .string s] w fun e w' => e = .returned (.int .u32 (u (more x s.data.toList))) ∧ w' = w := by
  have hlen : s.size = s.data.toList.length := by rw [Array.length_toList]; rfl
  replace hlen := Lib.hid hlen
  go_enter Tryd.func62, Tryd.ntmps62
  go_wp2_with fail
  go_loop [5, 6] (fun v i => ∃ k : Nat, k ≤ s.size ∧ i = .int .i64 k ∧ v = .int .u32 (u (run (~~~ x) (s.data.toList.take k)))) (fun _ i => s.size - (intOf i).toNat)
  case atStart => exact ⟨0, by omega, rfl, by rw [List.take_zero]; simp only [run_nil]⟩
  case round =>
    obtain ⟨k, hk1, rfl, rfl⟩ := hrel
    by_cases hlt : k < s.size
    · have i1 : (k : Int) < s.size := by omega
      have i2 : 0 ≤ (k : Int) := by omega
      have hx := Lib.hid (run_succ (~~~ x) s.data.toList k (by rw [← hlen.out]; exact hlt))
      have hb := Lib.hid (get_getD s k hlt)
      generalize run (~~~ x) (s.data.toList.take k) = y at *
      rw [← hb.out] at hx
      go_wp2_with fail
      generalize hz : y ^^^ s[k].toUInt32 = z at *
      clear hz
      go_loop [5, 7] (fun v i => ∃ j : Nat, j ≤ 8 ∧ i = .int .i64 j ∧ v = .int .u32 (u (Tn j z))) (fun _ i => 8 - (intOf i).toNat)
      case atStart => exact ⟨0, by omega, rfl, by rw [Tn_nil]⟩
      case round =>
        obtain ⟨j, hj, rfl, rfl⟩ := hrel
        by_cases hjl : j < 8
        · have j1 : (j : Int) < 8 := by omega
          have hT := Lib.hid (Tn_succ j z)
          generalize Tn j z = c at *
          by_cases ho : c.toNat % 2 = 1
          · have ho1 : ((u c).tmod 2 == 1) = true := by rw [Int.tmod_eq_emod_of_nonneg (u_nonneg c)]; simp only [u, beq_iff_eq]; omega
            have hT2 := Lib.hid (T_odd ho)
            clear ho
            go_wp2_with fail
            exact ⟨⟨j + 1, by omega, by go_num, by rw [hT.out, hT2.out]⟩, by simp [intOf]; omega⟩
          · have ho1 : ((u c).tmod 2 == 1) = false := by rw [Int.tmod_eq_emod_of_nonneg (u_nonneg c)]; simp only [u, beq_eq_false_iff_ne]; omega
            have hT2 := Lib.hid (T_even (c := c) (by omega))
            clear ho
            go_wp2_with fail
            exact ⟨⟨j + 1, by omega, by go_num, by rw [hT.out, hT2.out]⟩, by simp [intOf]; omega⟩
        · have hd : decide ((j : Int) < 8) = false := decide_eq_false (by omega)
          have hd2 : (8 : Int) ≤ j := by omega
          have h8 := Lib.hid (show j = 8 by omega)
          go_wp2_with fail
          exact ⟨⟨k + 1, by omega, by go_num, by rw [← hx.out, h8.out]⟩, by simp [intOf]; omega⟩
    · have hd : decide ((k : Int) < s.size) = false := decide_eq_false (by omega)
      have hd2 : (s.size : Int) ≤ k := by omega
      obtain rfl : k = s.size := by omega
      go_wp2_with fail
      go_ret
      exact ⟨by rw [more, hlen.out, List.take_length]; rfl, rfl⟩
theorem RSum_calls (s : ByteArray) (w : World) (hs : s.size ≤ 281474976710656) :
    Calls Tryd.prog 33 #[.string s] w fun e w' => e = .returned (.int .u32 (u (sum s.data.toList))) ∧ w' = w := by
  go_enter Tryd.func33, Tryd.ntmps33
  go_wp2_with fail
  refine (RMore_calls 0 s w hs).mono ?_
  rintro e w' ⟨rfl, rfl⟩
  go_wp2
  go_ret
  exact ⟨by rw [sum]; rfl, rfl⟩
end Go.Proofs.YtliojhhiadfmiaaDoor.Crc
