/-
  What each function of package crc does, called with any arguments in any memory: the contracts of step, More and Sum over the plain functions of CrcPlain. Conditions: the two tables lie where the program's text lays them, a text is within the form's own reach.
-/
import Derived.Test.YtliojhhiadfmiaaDoorRows
import Derived.Test.YtliojhhiadfmiaaDoorShaPlain
import Derived.Test.YtliojhhiadfmiaaDoorCrcPlain
import Derived.WalkKit
import Derived.WalkSpells
import Derived.WalkLawsBesides
import Derived.ProofKit
import Derived.OpenShut
import Derived.Laws.BytesArg
import Derived.Deep.QuietTactic
import Derived.BigQuiet
import Derived.BigRegion
import Derived.Lib.Hide
import Derived.Deep.MidRow
import Derived.IntWalk
namespace Go.Proofs.YtliojhhiadfmiaaDoor.Crc
open Go.RowKit
open Sha (u u_xor u_not u_not2 u_shr u_lt u_nonneg u_inj u_byte w_byte m_byte ofInt_u toNat_wrap wrap32)

theorem lt_of_cell {w : World} {p : Addr} {v : Value} (h : w.cell? p = some v) : p.block < w.heap.size := by
  rcases Nat.lt_or_ge p.block w.heap.size with g | g
  · exact g
  · simp [World.cell?, Array.getElem?_eq_none g] at h
theorem below_drew {B : Nat} {w w' : World} (h : Below B w w') : Below B w w'.drew := ⟨h.os, h.tape, h.output, h.size, h.block⟩
theorem below_drewN {B : Nat} {w w' : World} (h : Below B w w') (n : Nat) : Below B w (w'.drewN n) := ⟨h.os, h.tape, h.output, h.size, h.block⟩

/-! ### bytes as the model's integers -/
theorem b_low (x : UInt32) : u x % (256 : Int) = (x.toUInt8.toNat : Int) := by
  simp only [u, UInt32.toNat_toUInt8]; omega
theorem wrap8 (n : Int) : IntKind.u8.wrap n = n % (256 : Int) := by simp [IntKind.wrap, IntKind.bits, IntKind.signed]
theorem b_low2 (x : UInt32) : IntKind.u8.wrap (u x) = (x.toUInt8.toNat : Int) := (wrap8 _).trans (b_low x)
theorem ofInt_b (x : UInt8) : BitVec.ofInt 8 (x.toNat : Int) = x.toBitVec := by
  apply BitVec.eq_of_toNat_eq
  have := x.toNat_lt
  simp only [BitVec.toNat_ofInt, UInt8.toNat_toBitVec]
  omega
theorem toNat_wrap8 (x : UInt8) : IntKind.u8.wrap (x.toBitVec.toNat : Int) = (x.toNat : Int) := by
  have := x.toNat_lt
  rw [wrap8]
  simp only [UInt8.toNat_toBitVec]
  omega
theorem b_xor (a b : UInt8) : bits .xor .u8 (a.toNat : Int) (b.toNat : Int) = ((a ^^^ b).toNat : Int) := by
  rw [← toNat_wrap8 (a ^^^ b)]
  simp only [bits, IntKind.bits]
  rw [ofInt_b, ofInt_b]; rfl
theorem b_and (a b : UInt8) : bits .and .u8 (a.toNat : Int) (b.toNat : Int) = ((a &&& b).toNat : Int) := by
  rw [← toNat_wrap8 (a &&& b)]
  simp only [bits, IntKind.bits]
  rw [ofInt_b, ofInt_b]; rfl
theorem b_and15 (a : UInt8) : bits .and .u8 (a.toNat : Int) 15 = ((a.toNat % 16 : Nat) : Int) := by
  have e : (15 : Int) = ((15 : UInt8).toNat : Int) := rfl
  rw [e, b_and]
  have : ∀ a : UInt8, (a &&& 15).toNat = a.toNat % 16 := by
    intro a
    rw [UInt8.toNat_and]
    exact Nat.and_two_pow_sub_one_eq_mod a.toNat 4
  rw [this]
theorem b_shr4 (a : UInt8) : (a.toNat : Int) / (16 : Int) = ((a.toNat / 16 : Nat) : Int) := by omega
theorem m_shr8 (x : UInt32) : u x / (256 : Int) = u (x >>> 8) := u_shr x 8 (by decide)

/-! ### the tables -/
def lower : List UInt32 := [0, 4067132163, 3778769143, 324072436, 3348797215, 904991772, 648144872, 3570033899, 2329499855, 2024987596, 1809983544, 2575936315, 1296289744, 3207089363, 2893594407, 1578318884]
def upper : List UInt32 := [0, 274646895, 549293790, 820201905, 1098587580, 1361435347, 1640403810, 1905808397, 2197175160, 2460548119, 2722870694, 2987750089, 3280807620, 3553878443, 3811616794, 4084100981]
theorem tables : (List.range 256).all (fun n => Tn 8 (UInt32.ofNat n) == lower.getD (n % 16) 0 ^^^ upper.getD (n / 16) 0) = true := by kernel_rfl
theorem by_tables (n : Nat) (h : n < 256) : Tn 8 (UInt32.ofNat n) = lower.getD (n % 16) 0 ^^^ upper.getD (n / 16) 0 :=
  eq_of_beq (List.all_eq_true.1 tables n (List.mem_range.2 h))
theorem low_byte (c : UInt32) (b : UInt8) : (c ^^^ b.toUInt32).toNat % 256 = (c.toUInt8 ^^^ b).toNat := by
  rw [UInt32.toNat_xor, UInt8.toNat_xor, UInt32.toNat_toUInt8, UInt8.toNat_toUInt32]
  have h1 := Nat.xor_mod_two_pow (a := c.toNat) (b := b.toNat) (n := 8)
  have hb := b.toNat_lt
  rw [show (2 : Nat) ^ 8 = 256 by decide] at h1
  rw [h1, Nat.mod_eq_of_lt (show b.toNat < 256 by omega)]
theorem feed_tables (c : UInt32) (b : UInt8) : (c >>> 8) ^^^ lower.getD ((c.toUInt8 ^^^ b).toNat % 16) 0 ^^^ upper.getD ((c.toUInt8 ^^^ b).toNat / 16) 0 = feed c b := by
  rw [feed_table, low_byte, by_tables _ (UInt8.toNat_lt _)]
  rw [UInt32.xor_assoc, UInt32.xor_comm]
/-- the tables lie where the program's variables are -/
structure Tb (w : World) : Prop where
  lo : ∀ i, i < 16 → w.cell? ⟨2, i, none⟩ = some (.int .u32 (u (lower.getD i 0)))
  up : ∀ i, i < 16 → w.cell? ⟨3, i, none⟩ = some (.int .u32 (u (upper.getD i 0)))
theorem Tb.pos {w : World} (h : Tb w) : 3 < w.heap.size := lt_of_cell (h.up 0 (by decide))
theorem Tb.below {w w' : World} {B : Nat} (h : Tb w) (t : Below B w w') (hB : 3 < B) : Tb w' :=
  ⟨fun i hi => (t.cell (p := ⟨2, i, none⟩) (by show 2 < B; omega)).trans (h.lo i hi), fun i hi => (t.cell (p := ⟨3, i, none⟩) hB).trans (h.up i hi)⟩
theorem Tb.drewN {w : World} (h : Tb w) (n : Nat) : Tb (w.drewN n) := ⟨h.lo, h.up⟩
attribute [local irreducible] lower upper Tn feed run sum
attribute [local go_sem] u_xor u_not u_not2 m_shr8
theorem step_calls (x : UInt32) (c : UInt8) (w : World) (hk : Tb w) :
    Calls Tryd.prog 100 #[.int .u32 (u x), .int .u8 (c.toNat : Int)] w fun e w' => e = .returned (.int .u32 (u (feed x c))) ∧ ∃ m, w' = w.drewN m := by
  have hf := Lib.hid (feed_tables x c)
  have e1 : bits .xor .u8 (u x % (256 : Int)) (c.toNat : Int) = ((x.toUInt8 ^^^ c).toNat : Int) := by rw [b_low, b_xor]
  generalize x.toUInt8 ^^^ c = y at *
  have hlt := y.toNat_lt
  have c1 := hk.lo (y.toNat % 16) (by omega)
  have c2 := hk.up (y.toNat / 16) (by omega)
  have e2 := b_and15 y
  have e3 := b_shr4 y
  generalize lower.getD (y.toNat % 16) 0 = a at *
  generalize upper.getD (y.toNat / 16) 0 = b at *
  have i1 : ((y.toNat % 16 : Nat) : Int) < 16 := by omega
  have i2 : ((y.toNat / 16 : Nat) : Int) < 16 := by omega
  generalize y.toNat % 16 = i at *
  generalize y.toNat / 16 = j at *
  generalize y.toNat = n at *
  have j1 : 0 ≤ (i : Int) := by omega
  have j2 : 0 ≤ (j : Int) := by omega
  go_enter Tryd.func100, Tryd.ntmps100
  go_wp2_with fail
  go_quiet (fail)
  go_wp2
  go_ret
  exact ⟨by rw [← hf.out]; rfl, _, rfl⟩
theorem run_take (c : UInt32) (l : List UInt8) (k : Nat) (h : k < l.length) : run c (l.take (k + 1)) = feed (run c (l.take k)) (l.getD k 0) := by
  rw [List.getD_eq_getElem?_getD, List.getElem?_eq_getElem h, List.take_add_one, List.getElem?_eq_getElem h, run_append]
  simp [run]
theorem run_nil (c : UInt32) : run c [] = c := by unfold run; rfl
theorem get_getD (s : ByteArray) (k : Nat) (h : k < s.size) : s[k] = s.data.toList.getD k 0 := by
  have : k < s.data.toList.length := by rw [Array.length_toList]; exact h
  rw [List.getD_eq_getElem?_getD, List.getElem?_eq_getElem this]; rfl
theorem More_calls (x : UInt32) (s : ByteArray) (w : World) (hk : Tb w) (hs : s.size ≤ 281474976710656) :
    Calls Tryd.prog 77 #[.int .u32 (u x), .string s] w fun e w' => e = .returned (.int .u32 (u (more x s.data.toList))) ∧ ∃ m, w' = w.drewN m := by
  have hlen : s.size = s.data.toList.length := by rw [Array.length_toList]; rfl
  replace hlen := Lib.hid hlen
  replace hk := Lib.hid hk
  go_enter Tryd.func77, Tryd.ntmps77
  go_wp2_with fail
  go_loopw [0, 10] (fun v i wr => ∃ k m : Nat, k ≤ s.size ∧ i = .int .i64 k ∧ v = .int .u32 (u (run (~~~ x) (s.data.toList.take k))) ∧ wr = w.drewN m) (fun _ i _ => s.size - (intOf i).toNat)
  case atStart => exact ⟨0, 0, by omega, rfl, by rw [List.take_zero]; simp only [run_nil], rfl⟩
  case round =>
    obtain ⟨k, m, hk1, rfl, rfl, rfl⟩ := hrel
    by_cases hlt : k < s.size
    · have i1 : (k : Int) < s.size := by omega
      have i2 : 0 ≤ (k : Int) := by omega
      have hx := Lib.hid (run_take (~~~ x) s.data.toList k (by rw [← hlen.out]; exact hlt))
      have hb := Lib.hid (get_getD s k hlt)
      generalize run (~~~ x) (s.data.toList.take k) = y at *
      go_wp2_with fail
      rw [hb.out]
      refine (step_calls y _ _ (hk.out.drewN m)).mono ?_
      rintro e w' ⟨rfl, m', rfl⟩
      go_wp2_with fail
      exact ⟨⟨k + 1, m + m', by omega, by go_num, by rw [hx.out, ← hb.out]; rfl, rfl⟩, by simp [intOf]; omega⟩
    · have hd : decide ((k : Int) < s.size) = false := decide_eq_false (by omega)
      have hd2 : (s.size : Int) ≤ k := by omega
      obtain rfl : k = s.size := by omega
      go_wp2_with fail
      go_ret
      exact ⟨by rw [more, hlen.out, List.take_length]; rfl, _, rfl⟩
theorem Sum_calls (s : ByteArray) (w : World) (hk : Tb w) (hs : s.size ≤ 281474976710656) :
    Calls Tryd.prog 52 #[.string s] w fun e w' => e = .returned (.int .u32 (u (sum s.data.toList))) ∧ ∃ m, w' = w.drewN m := by
  have e0 := Lib.hid (show (0 : Int) = u 0 from rfl)
  go_enter Tryd.func52, Tryd.ntmps52
  go_wp2_with fail
  refine (More_calls 0 s w hk hs).mono ?_
  rintro e w' ⟨rfl, m, rfl⟩
  go_wp2
  go_ret
  exact ⟨by rw [sum]; rfl, _, rfl⟩
end Go.Proofs.YtliojhhiadfmiaaDoor.Crc
