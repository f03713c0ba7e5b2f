/-
  The tree of things that rise, made at once. Conditions: there are not too many.
-/
import Derived.Test.YtdmpkgdlelagjaaGreatDoorRows
import Derived.Test.YtdmpkgdlelagjaaGreatDoorShTree
import Derived.Test.YtdmpkgdlelagjaaGreatDoorShTurn
namespace Go.Proofs.YtdmpkgdlelagjaaGreatDoor.Sh
open Go Go.RowKit
theorem wrap64_small (k : Nat) (h : k < 1000000) : wrap64 (k : Int) = (k : Int) := IntWalk.wrap64_in _ ⟨by omega, by omega⟩
end Go.Proofs.YtdmpkgdlelagjaaGreatDoor.Sh
namespace Go.Proofs.YtdmpkgdlelagjaaGreatDoor.Ti
open Go.RowKit Sh
attribute [local go_sem] fold_none

end Go.Proofs.YtdmpkgdlelagjaaGreatDoor.Ti
namespace Go.Proofs.YtdmpkgdlelagjaaGreatDoor.Ts
open Go.RowKit Sh
attribute [local go_sem] fold_none

set_option maxHeartbeats 4000000 in
set_option maxRecDepth 100000 in
theorem grown_calls : ∀ (n : Nat) (M : List ByteArray) (W : World) (a : Option Addr) (g off cap : Nat), M.length = n → n < 900000 → n ≤ cap → 0 ≤ cap → (0 < n → a = some ⟨g, off, none⟩) → (∀ j, j < M.length → W.cell? ⟨g, off + j, none⟩ = some (.string ((M[j]?.getD default)))) →
    Calls Tryz.prog 77 #[.slice a n cap] W (GivesL W M) := by
  intro n
  induction n using Nat.strongRecOn with
  | ind n ih =>
    intro M W a g off cap hlen hn hcap hbig ha hc
    by_cases h0 : n = 0
    · subst h0
      obtain rfl : M = [] := List.length_eq_zero_iff.1 hlen
      have hend : Hid (GivesL W ([] : List ByteArray) (.returned (.pointer none)) W) := Lib.hid (GivesL.mk (T := .nil) rfl rfl (Below.refl _ _))
      clear ih ha hc hcap
      go_enter Tryz.func77, Tryz.ntmps77
      go_wp2
      go_ret
      exact hend.out
    · obtain rfl := ha (by omega)
      obtain ⟨m, hm⟩ : ∃ m, m = n / 2 := ⟨_, rfl⟩
      have hmn : m < n := by omega
      obtain ⟨m1, hm1⟩ : ∃ m1, m1 = m + 1 := ⟨_, rfl⟩
      obtain ⟨x, hx⟩ : ∃ x, x = M[m]?.getD default := ⟨_, rfl⟩
      have cx : W.cell? ⟨g, off + m, none⟩ = some (.string x) := by rw [hx]; exact hc m (by omega)
      obtain ⟨M1, hM1⟩ : ∃ M1, M1 = M.take m := ⟨_, rfl⟩
      obtain ⟨M2, hM2⟩ : ∃ M2, M2 = M.drop (m + 1) := ⟨_, rfl⟩
      have hM : M = M1 ++ x :: M2 := by
        rw [hM1, hM2, hx, List.getElem?_eq_getElem (by omega)]
        simp
      have hl1 : M1.length = m := by rw [hM1]; simp; omega
      have hl2 : M2.length = n - (m + 1) := by rw [hM2]; simp; omega
      have hlt : g < W.heap.size := World.block_lt_of_cell? W _ cx
      have hB : Hid (∀ w' off' cap', Below W.heap.size W w' → ((cap = m1 ∧ off' = off ∧ cap' = 0) ∨ (cap ≠ m1 ∧ off' = off + m1 ∧ cap' = cap - m1)) → Calls Tryz.prog 77 #[.slice (some ⟨g, off', none⟩) (n - m1) cap'] w' (GivesL w' M2)) := by
        subst hm1
        refine Lib.hid fun w' off' cap' h hq => ?_
        rcases hq with ⟨hq, rfl, rfl⟩ | ⟨hq, rfl, rfl⟩
        · exact ih (n - (m + 1)) (by omega) M2 w' _ g off' 0 hl2 (by omega) (by omega) (by omega) (fun _ => rfl) (fun j hj => by omega)
        · exact ih (n - (m + 1)) (by omega) M2 w' (some ⟨g, off + (m + 1), none⟩) g (off + (m + 1)) (cap - (m + 1)) hl2 (by omega) (by omega) (by omega) (fun _ => rfl) (fun j hj => by
            rw [h.cell (p := ⟨g, off + (m + 1) + j, none⟩) hlt, show off + (m + 1) + j = off + (m + 1 + j) by omega, hc (m + 1 + j) (by omega), hM]
            rw [List.getElem?_append_right (by omega)]
            rw [show m + 1 + j - M1.length = j + 1 by omega, List.getElem?_cons_succ])
      have hA := Lib.hid fun w' (h : Below W.heap.size W w') => ih m (by omega) M1 w' (some ⟨g, off, none⟩) g off cap hl1 (by omega) (by omega) (Nat.zero_le _) (fun _ => rfl) (fun j hj => by
        rw [h.cell (p := ⟨g, off + j, none⟩) hlt, hc j (by omega), hM]
        rw [List.getElem?_append_left (by omega)])
      have hE : Hid (∀ w' b pA pB TA TB, Below W.heap.size W w' → Node w' b x none none 0 → IsTree w' pA TA → TA.flat = M1 → IsTree w' pB TB → TB.flat = M2 → Calls Tryz.prog 106 #[.pointer (some ⟨b, 0, none⟩), .pointer pA, .pointer pB] w' (GivesL W M)) := Lib.hid fun w' b pA pB TA TB hb hN tA fA tB fB => by
        have n1 : TA.num = m := by show TA.flat.length = m; rw [fA, hl1]
        have n2 : TB.num = n - (m + 1) := by show TB.flat.length = _; rw [fB, hl2]
        refine (over_calls w' b 0 x none none pA pB TA TB hN tA tB (by omega)).mono fun e w2 h => h.flat hb ?_
        rw [hM, ← fA, ← fB]; rfl
      have hN := Lib.hid fun w' (h : Below (W.heap.size + 1) (W.alloc (.cells #[.string x, .pointer none, .pointer none, .int .i64 0] 137)) w') => (show Node w' W.heap.size x none none 0 from (h.block W.heap.size (by omega)).trans (Node.new W x none none 0))
      have b0 := b_alloc W (.cells #[.string x, .pointer none, .pointer none, .int .i64 0] 137)
      have i0 : (n : Int) / 2 = (m : Int) := by omega
      have i2 : (m : Int) < n := by omega
      have i3 : (0 : Int) ≤ m := by omega
      have hm3 : m < 1000000 := by omega
      have i5 : (m1 : Int) ≤ n := by omega
      have i9 : m1 ≤ n := by omega
      have i10 : (n : Int) ≤ cap := by omega
      have i11 : (0 : Int) ≤ m1 := by omega
      have i6 : (m : Int) ≤ cap := by omega
      have i7 : ((n : Int) == 0) = false := by simp; omega
      have i12 : ¬ n = 0 := h0
      have i4 : IntKind.i64.wrap ((m : Int) + 1) = (m1 : Int) := by rw [hm1]; exact wrap_nat (m + 1) (Nat.le_trans hm3 (by decide))
      have i1 : wrap64 ((n : Int) / 2) = (m : Int) := by rw [i0]; exact wrap64_small m hm3
      clear ih hc hM hl1 hl2 hM1 hM2 hm hx hlen hlt hn hbig ha hm1 hm3 i0
      by_cases hce : cap = m1
      · subst hce
        have hzz : Hid (n - cap = 0) := Lib.hid (by omega)
        have hB2 : Hid (∀ w' k, Below W.heap.size W w' → k = 0 → Calls Tryz.prog 77 #[.slice (some ⟨g, off, none⟩) k 0] w' (GivesL w' M2)) := Lib.hid fun w' k h hk => by
          have := hB.out w' off 0 h (Or.inl ⟨rfl, rfl, rfl⟩)
          rw [hzz.out] at this; rw [hk]; exact this
        clear hB
        go_enter Tryz.func77, Tryz.ntmps77
        go_wp2_with fail
        have bc := b_then b0 (b_drew _)
        have bn : Below (W.heap.size + 1) (W.alloc (.cells #[.string x, .pointer none, .pointer none, .int .i64 0] 137)) (W.alloc (.cells #[.string x, .pointer none, .pointer none, .int .i64 0] 137)).drew := ⟨rfl, rfl, rfl, Nat.le_refl _, fun _ _ => rfl⟩
        have hsz : Hid (W.heap.size + 1 ≤ (W.alloc (.cells #[.string x, .pointer none, .pointer none, .int .i64 0] 137)).drew.heap.size) := Lib.hid (by simp)
        go_region_held3 (fun _ => True) (exact trivial)
          (first
            | (go_at_call 77; refine (hA.out _ bc).mono ?_; clear hA; rintro e w1 ⟨pA, TA, rfl, tA, fA, b1⟩; replace fA := Lib.hid fA; have b1n := bn.trans (b1.mono hsz.out); have hz1 : Hid (W.heap.size + 1 ≤ w1.heap.size) := Lib.hid (Nat.le_trans hsz.out b1.size); replace bc := b_then bc b1; clear b1)
            | (go_at_call 77; refine (hB2.out _ _ bc (by first | rfl | exact hzz.out)).mono ?_; clear hB2; rintro e w2 ⟨pB, TB, rfl, tB, fB, b2⟩; replace fB := Lib.hid fB; have b2n := b1n.trans (b2.mono hz1.out); replace tA := IsTree.next tA b2; replace bc := b_then bc b2; clear b2)
            | (go_at_call 106; refine (hE.out _ _ _ _ _ _ bc (hN.out _ b2n) tA fA.out tB fB.out).mono ?_; rintro e w3 h3; have h4 := Lib.hid h3; obtain ⟨p3, T3, rfl, -⟩ := h3))
        all_goals
          go_wp2
          go_ret
          exact h4.out
      · have hB2 := Lib.hid fun w' (h : Below W.heap.size W w') => hB.out w' (off + m1) (cap - m1) h (Or.inr ⟨hce, rfl, rfl⟩)
        clear hB
        have j1 : m1 < cap := by omega
        have j2 : ¬ cap ≤ m1 := by omega
        have j3 : ¬ cap - m1 = 0 := by omega
        go_enter Tryz.func77, Tryz.ntmps77
        go_wp2_with fail
        have bc := b_then b0 (b_drew _)
        have bn : Below (W.heap.size + 1) (W.alloc (.cells #[.string x, .pointer none, .pointer none, .int .i64 0] 137)) (W.alloc (.cells #[.string x, .pointer none, .pointer none, .int .i64 0] 137)).drew := ⟨rfl, rfl, rfl, Nat.le_refl _, fun _ _ => rfl⟩
        have hsz : Hid (W.heap.size + 1 ≤ (W.alloc (.cells #[.string x, .pointer none, .pointer none, .int .i64 0] 137)).drew.heap.size) := Lib.hid (by simp)
        go_region_held3 (fun _ => True) (exact trivial)
          (first
            | (go_at_call 77; refine (hA.out _ bc).mono ?_; clear hA; rintro e w1 ⟨pA, TA, rfl, tA, fA, b1⟩; replace fA := Lib.hid fA; have b1n := bn.trans (b1.mono hsz.out); have hz1 : Hid (W.heap.size + 1 ≤ w1.heap.size) := Lib.hid (Nat.le_trans hsz.out b1.size); replace bc := b_then bc b1; clear b1)
            | (go_at_call 77; refine (hB2.out _ bc).mono ?_; clear hB2; rintro e w2 ⟨pB, TB, rfl, tB, fB, b2⟩; replace fB := Lib.hid fB; have b2n := b1n.trans (b2.mono hz1.out); replace tA := IsTree.next tA b2; replace bc := b_then bc b2; clear b2)
            | (go_at_call 106; refine (hE.out _ _ _ _ _ _ bc (hN.out _ b2n) tA fA.out tB fB.out).mono ?_; rintro e w3 h3; have h4 := Lib.hid h3; obtain ⟨p3, T3, rfl, -⟩ := h3))
        all_goals
          go_wp2
          go_ret
          exact h4.out
end Go.Proofs.YtdmpkgdlelagjaaGreatDoor.Ts
