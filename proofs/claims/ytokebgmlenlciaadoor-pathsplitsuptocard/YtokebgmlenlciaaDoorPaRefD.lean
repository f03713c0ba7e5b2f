/-
  The document's own answer: Join, as the plain description says; the memory stays. Conditions: at most 1000 names.
-/
import Derived.Test.YtokebgmlenlciaaDoorRows
import Derived.Test.YtokebgmlenlciaaDoorPaPlain
import Derived.Test.YtokebgmlenlciaaDoorPaLib
import Derived.Test.YtokebgmlenlciaaDoorPaRune
import Derived.Test.YtokebgmlenlciaaDoorPaShelf
import Derived.Test.YtokebgmlenlciaaDoorPaGood
import Derived.Test.YtokebgmlenlciaaDoorPaSplit
import Derived.Test.YtokebgmlenlciaaDoorPaSort
import Derived.Test.YtokebgmlenlciaaDoorPaCheck
import Derived.Test.YtokebgmlenlciaaDoorPaAwake
import Derived.Test.YtokebgmlenlciaaDoorPaMore
import Derived.Test.YtokebgmlenlciaaDoorPaOwn
import Derived.Test.YtokebgmlenlciaaDoorPaRefA
import Derived.Test.YtokebgmlenlciaaDoorPaRefB
import Derived.Test.YtokebgmlenlciaaDoorOctKit
import Derived.WalkKit
import Derived.WalkSpells
import Derived.WalkLawsBesides
import Derived.ProofKit
import Derived.OpenShut
import Derived.Laws.BytesArg
import Derived.Laws.Externs
import Derived.Deep.QuietTactic
import Derived.BigQuiet
import Derived.BigRegion
import Derived.Lib.Hide
import Derived.Lib.Bytealg
import Derived.IntWalk
import Derived.Deep.LoopGhost
import Derived.Laws.OwnMore
import Derived.Deep.OwnRows
import Derived.Deep.Draws
import Derived.Deep.MidRow
namespace Go.Proofs.YtokebgmlenlciaaDoor.Pa
open Go Go.RowKit
open Oct (TextsAt)

theorem data_append (a b : ByteArray) : (a ++ b).data.toList = a.data.toList ++ b.data.toList := by simp [ByteArray.data_append]
theorem tx_succ (T : Nat → ByteArray) (k : Nat) : tx T (k + 1) = tx T k ++ [(T k).data.toList] := by simp [tx, List.range_succ]
theorem joined_snoc {ps : List Tx} (h : ps ≠ []) (x : Tx) : joined (ps ++ [x]) = joined ps ++ 47 :: x := joined_append ps [x] h (by simp)
/-- what is joined of so many names -/
def upto (T : Nat → ByteArray) (k : Nat) : Tx := joined (tx T (min k 65))
theorem upto_zero (T : Nat → ByteArray) : upto T 0 = [] := rfl
theorem upto_one (T : Nat → ByteArray) : upto T 1 = (T 0).data.toList := by
  show joined (tx T 1) = _
  rw [tx_succ]; rfl
theorem upto_next (T : Nat → ByteArray) {k : Nat} (h0 : 0 < k) (h : k < 65) : upto T (k + 1) = upto T k ++ 47 :: (T k).data.toList := by
  unfold upto
  rw [Nat.min_eq_left (by omega), Nat.min_eq_left (by omega), tx_succ, joined_snoc]
  intro e
  have := congrArg List.length e
  rw [tx_length] at this
  simp at this
  omega
theorem upto_more (T : Nat → ByteArray) {k : Nat} (h : 65 ≤ k) : upto T (k + 1) = upto T k := by
  unfold upto
  rw [Nat.min_eq_right (by omega), Nat.min_eq_right (by omega)]
def slash : ByteArray := ⟨#[47]⟩
set_option maxRecDepth 100000 in
set_option maxHeartbeats 2000000 in
theorem RJoin_calls (a : Option Addr) (len cap b off : Nat) (T : Nat → ByteArray) (w : World) (hlen : len ≤ 1000) (hT : TextsAt w a b off len T) :
    Calls Tryd.prog 14 #[.slice a len cap] w fun e w' => (∃ (r : ByteArray) (c : Nat), e = .returned (.tuple #[.string r, .int .i64 c]) ∧ IsJoin (tx T len) r.data.toList c) ∧ w = w' := by
  have hl := Lib.hid (tx_length T len)
  replace hT := Lib.hid hT
  go_enter Tryd.func14, Tryd.ntmps14
  go_wp2
  go_loopw [4, 5] (fun v i wr => ∃ (k : Nat) (s : ByteArray), k ≤ len ∧ v = .string s ∧ i = .int .i64 k ∧ s.size ≤ 256 * k ∧ Hid (s.data.toList = upto T k) ∧ Hid (∀ j, j < k → isName (T j).data.toList = true) ∧ w = wr) (fun _ i _ => len - (intOf i).toNat)
  case atStart => exact ⟨0, _, by omega, rfl, rfl, by show (0 : Nat) ≤ _; omega, Lib.hid rfl, Lib.hid fun j hj => by omega, rfl⟩
  case round =>
    obtain ⟨k, s, hk, rfl, rfl, hsz, hs, hN, rfl⟩ := hrel
    by_cases hlt : k < len
    · have i1 : (k : Int) < len := by omega
      have i0 : 0 ≤ (k : Int) := by omega
      obtain rfl := hT.out.addr (by omega)
      have cT := hT.out.cell k hlt
      have hG := RGood_calls (T k)
      cases hx : isName (T k).data.toList with
      | false =>
        have fin : Hid (¬ ∀ p ∈ tx T len, isName p = true) := Lib.hid fun h => by
          have := h _ (tx_mem.2 ⟨k, hlt, rfl⟩)
          rw [hx] at this
          exact absurd this (by decide)
        rw [hx] at hG
        replace hG := Lib.hid hG
        clear hx
        go_wp2_with fail
        refine (hG.out w).mono ?_
        rintro e w2 ⟨rfl, rfl⟩
        go_wp2
        go_ret2
        exact ⟨⟨_, 30, rfl, .bad (Or.inr fin.out)⟩, rfl⟩
      | true =>
        have hz : (T k).size ≤ 255 := by rw [size_list]; exact name_len hx
        have nN : Hid (∀ j, j < k + 1 → isName (T j).data.toList = true) := Lib.hid fun j hj => by
          by_cases e : j = k
          · subst e; exact hx
          · exact hN.out j (by omega)
        rw [hx] at hG
        replace hG := Lib.hid hG
        clear hx
        by_cases h65 : k < 65
        · have q1 : (k : Int) < 65 := by omega
          by_cases h0 : 0 < k
          · have q0 : (0 : Int) < k := by omega
            have nx : Hid ((s ++ ByteArray.mk #[47] ++ T k).data.toList = upto T (k + 1)) := Lib.hid (by
              rw [data_append, data_append, hs.out, upto_next T h0 h65]; simp)
            have nz : (s ++ ByteArray.mk #[47] ++ T k).size ≤ 256 * (k + 1) := by
              rw [ByteArray.size_append, ByteArray.size_append]
              show s.size + 1 + _ ≤ _
              omega
            go_wp2_with fail
            refine (hG.out w).mono ?_
            rintro e w2 ⟨rfl, rfl⟩
            go_wp2
            exact ⟨⟨k + 1, _, by omega, rfl, by go_num, nz, nx, nN, by trivial⟩, by simp [intOf]; omega⟩
          · have q0 : ¬ (0 : Int) < k := by omega
            have nx : Hid ((s ++ T k).data.toList = upto T (k + 1)) := Lib.hid (by
              have hk0 : k = 0 := by omega
              have h1 := hs.out
              rw [hk0] at h1 ⊢
              rw [data_append, upto_one, h1]; rfl)
            have nz : (s ++ T k).size ≤ 256 * (k + 1) := by
              rw [ByteArray.size_append]
              omega
            go_wp2_with fail
            refine (hG.out w).mono ?_
            rintro e w2 ⟨rfl, rfl⟩
            go_wp2
            exact ⟨⟨k + 1, _, by omega, rfl, by go_num, nz, nx, nN, by trivial⟩, by simp [intOf]; omega⟩
        · have q1 : ¬ (k : Int) < 65 := by omega
          have q0 : (0 : Int) < k := by omega
          have nx : Hid (s.data.toList = upto T (k + 1)) := Lib.hid (by rw [hs.out, upto_more T (by omega)])
          go_wp2_with fail
          refine (hG.out w).mono ?_
          rintro e w2 ⟨rfl, rfl⟩
          go_wp2
          exact ⟨⟨k + 1, s, by omega, rfl, by go_num, by omega, nx, nN, by trivial⟩, by simp [intOf]; omega⟩
    · have d0 : ¬ (k : Int) < len := by omega
      obtain rfl : k = len := by omega
      have hall : Hid (∀ p ∈ tx T k, isName p = true) := Lib.hid fun p hp => by
        obtain ⟨i, hi, rfl⟩ := tx_mem.1 hp
        exact hN.out i hi
      by_cases hz : k = 0
      · subst hz
        go_wp2
        go_ret2
        exact ⟨⟨_, 30, rfl, .bad (Or.inl rfl)⟩, rfl⟩
      · have z1 : ((k : Int) == 0) = false := by simp only [beq_eq_false_iff_ne]; omega
        by_cases h64 : 64 < k
        · have q1 : (64 : Int) < k := by omega
          go_wp2
          go_ret2
          exact ⟨⟨_, 33, rfl, .deep hall.out (by rw [hl.out]; exact h64)⟩, rfl⟩
        · have q1 : ¬ (64 : Int) < k := by omega
          have fin : Hid (IsJoin (tx T k) s.data.toList 0) := Lib.hid (by
            have : s.data.toList = joined (tx T k) := by rw [hs.out]; unfold upto; rw [Nat.min_eq_left (by omega)]
            rw [this]
            exact .ok (fun e => by have := hl.out; rw [e] at this; simp at this; omega) hall.out (by rw [hl.out]; omega))
          go_wp2
          go_ret2
          exact ⟨⟨s, 0, rfl, fin.out⟩, rfl⟩
end Go.Proofs.YtokebgmlenlciaaDoor.Pa
