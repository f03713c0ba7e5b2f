/-
  The laws' first look: the answers that the document fixes by number. Conditions: none.
-/
import Derived.Test.YtbjpogeemajhoaaGreatRows
import Derived.Test.YtbjpogeemajhoaaGreatOrLog
import Derived.Test.YtbjpogeemajhoaaGreatOrBest
import Derived.Test.YtbjpogeemajhoaaGreatOrAwk
import Derived.Deep.Cut
namespace Go.Proofs.YtbjpogeemajhoaaGreat.Or
open Go Go.RowKit

def fourX (N : Nat) : List Fx := [⟨fA, none, 0⟩, ⟨fB, some ⟨N, 0, none⟩, 1⟩, ⟨fC, some ⟨N + 1, 0, none⟩, 1⟩, ⟨fD, some ⟨N + 1 + 1, 0, none⟩, 2⟩]
theorem plain_four (N : Nat) : plain (fourX N) = four := rfl
abbrev w4 (w : World) : World := (((w.alloc (.cells #[.string sA] 9)).alloc (.cells #[.string sA] 9)).alloc (.cells #[.string sB, .string sC] 9)).alloc (.cells #[.string sA, .int .i64 0, .slice none 0 0, .string sB, .int .i64 1, .slice (some ⟨w.heap.size, 0, none⟩) 1 1, .string sC, .int .i64 1, .slice (some ⟨w.heap.size + 1, 0, none⟩) 1 1, .string sD, .int .i64 2, .slice (some ⟨w.heap.size + 1 + 1, 0, none⟩) 2 2] 28)
theorem heap4 (w : World) : (w4 w).heap = w.heap ++ #[.cells #[.string sA] 9, .cells #[.string sA] 9, .cells #[.string sB, .string sC] 9, .cells #[.string sA, .int .i64 0, .slice none 0 0, .string sB, .int .i64 1, .slice (some ⟨w.heap.size, 0, none⟩) 1 1, .string sC, .int .i64 1, .slice (some ⟨w.heap.size + 1, 0, none⟩) 1 1, .string sD, .int .i64 2, .slice (some ⟨w.heap.size + 1 + 1, 0, none⟩) 2 2] 28] := by
  show (((w.heap.push _).push _).push _).push _ = _
  apply Array.ext'
  simp
theorem at4 (w : World) (i : Nat) (o : Obj) (h : (#[.cells #[.string sA] 9, .cells #[.string sA] 9, .cells #[.string sB, .string sC] 9, .cells #[.string sA, .int .i64 0, .slice none 0 0, .string sB, .int .i64 1, .slice (some ⟨w.heap.size, 0, none⟩) 1 1, .string sC, .int .i64 1, .slice (some ⟨w.heap.size + 1, 0, none⟩) 1 1, .string sD, .int .i64 2, .slice (some ⟨w.heap.size + 1 + 1, 0, none⟩) 2 2] 28] : Array Obj)[i]? = some o) : (w4 w).heap[w.heap.size + i]? = some o := by
  rw [heap4, Array.getElem?_append_right (by omega), Nat.add_sub_cancel_left]; exact h
theorem cell_of {w : World} {g i : Nat} {cs : Array Value} {t : TypeId} {v : Value} (h : w.heap[g]? = some (.cells cs t (0, 0))) (hv : cs[i]? = some v) : w.cell? ⟨g, i, none⟩ = some v := by
  simp [World.cell?, h, hv]
theorem fine4 (w : World) : Fine (w4 w) (some ⟨w.heap.size + 1 + 1 + 1, 0, none⟩) (w.heap.size + 1 + 1 + 1) 0 (fourX w.heap.size) := by
  have h0 := at4 w 0 _ rfl
  have h1 := at4 w 1 _ rfl
  have h2 : (w4 w).heap[w.heap.size + 1 + 1]? = _ := at4 w 2 _ rfl
  have h3 : (w4 w).heap[w.heap.size + 1 + 1 + 1]? = _ := at4 w 3 _ rfl
  refine ⟨⟨fun _ => rfl, fun i x hx => ?_, fun i x hx => ?_, fun i x hx => ?_⟩, ⟨fun x hx => ?_, fun x hx => ?_, fun x hx y hy => ?_, fun x hx => ?_⟩, by simp [fourX], fun x hx => ?_, fun x hx => ?_⟩
  · match i, hx with
    | 0, hx => cases hx; exact cell_of h3 rfl
    | 1, hx => cases hx; exact cell_of h3 rfl
    | 2, hx => cases hx; exact cell_of h3 rfl
    | 3, hx => cases hx; exact cell_of h3 rfl
    | i + 4, hx => simp [fourX] at hx
  · match i, hx with
    | 0, hx => cases hx; exact cell_of h3 rfl
    | 1, hx => cases hx; exact cell_of h3 rfl
    | 2, hx => cases hx; exact cell_of h3 rfl
    | 3, hx => cases hx; exact cell_of h3 rfl
    | i + 4, hx => simp [fourX] at hx
  · match i, hx with
    | 0, hx => cases hx; exact cell_of h3 rfl
    | 1, hx => cases hx; exact cell_of h3 rfl
    | 2, hx => cases hx; exact cell_of h3 rfl
    | 3, hx => cases hx; exact cell_of h3 rfl
    | i + 4, hx => simp [fourX] at hx
  · simp only [fourX, List.mem_cons, List.not_mem_nil, or_false] at hx
    rcases hx with rfl | rfl | rfl | rfl
    · exact ⟨Nat.le_refl _, 0, 0, TxAt.nil _ _ _ _⟩
    · exact ⟨Nat.le_refl _, w.heap.size, 0, ⟨fun _ => rfl, fun i s hs => by
        match i, hs with
        | 0, hs => cases hs; exact cell_of h0 rfl
        | i + 1, hs => simp at hs⟩⟩
    · exact ⟨Nat.le_refl _, w.heap.size + 1, 0, ⟨fun _ => rfl, fun i s hs => by
        match i, hs with
        | 0, hs => cases hs; exact cell_of h1 rfl
        | i + 1, hs => simp at hs⟩⟩
    · exact ⟨Nat.le_refl _, w.heap.size + 1 + 1, 0, ⟨fun _ => rfl, fun i s hs => by
        match i, hs with
        | 0, hs => cases hs; exact cell_of h2 rfl
        | 1, hs => cases hs; exact cell_of h2 rfl
        | i + 2, hs => simp at hs⟩⟩
  · simp only [fourX, List.mem_cons, List.not_mem_nil, or_false] at hx
    rcases hx with rfl | rfl | rfl | rfl <;> (show (1 : Nat) ≤ _; omega)
  · simp only [fourX, List.mem_cons, List.not_mem_nil, or_false] at hx
    rcases hx with rfl | rfl | rfl | rfl <;> simp at hy
    · subst hy; unfold Short; decide
    · subst hy; unfold Short; decide
    · rcases hy with rfl | rfl <;> (unfold Short; decide)
  · simp only [fourX, List.mem_cons, List.not_mem_nil, or_false] at hx
    rcases hx with rfl | rfl | rfl | rfl <;> rfl
  · simp only [fourX, List.mem_cons, List.not_mem_nil, or_false] at hx
    rcases hx with rfl | rfl | rfl | rfl <;> simp
  · simp only [fourX, List.mem_cons, List.not_mem_nil, or_false] at hx
    rcases hx with rfl | rfl | rfl | rfl <;> simp
theorem below4 (w : World) : Below w.heap.size w (w4 w) := b_then (b_then (b_then (b_alloc _ _) (b_alloc _ _)) (b_alloc _ _)) (b_alloc _ _)
set_option maxRecDepth 100000 in
set_option maxHeartbeats 2000000 in
theorem awake_calls (w : World) : Calls Tryz.prog 4 #[] w fun e w' => e = .returned (.bool true) ∧ Below w.heap.size w w' := by
  have hF := Lib.hid (fine4 w)
  have hB := Lib.hid (below4 w)
  have hsA : Short sA := by unfold Short; decide
  have hsB : Short sB := by unfold Short; decide
  have hsC : Short sC := by unfold Short; decide
  have hsD : Short sD := by unfold Short; decide
  have hsX : Short sX := by unfold Short; decide
  go_enter Tryz.func4, Tryz.ntmps4
  go_upto_region 2 with (fail)
  change Code.wp _ _ _ _ (w4 w)
  generalize hwA : w4 w = wA at *
  clear hwA
  have hL1 := Lib.hid (Log_calls wA _ 4 _ _ _ sD hF.out hsD)
  go_wp2_with fail
  refine (show Calls Tryz.prog 6 #[.slice (some ⟨w.heap.size + 1 + 1 + 1, 0, none⟩) 4 4, .string ⟨#[100]⟩] wA _ from hL1.out).mono ?_
  rintro e w1 ⟨v1, n1, G1, rfl, hG1, hO1, b1⟩
  obtain ⟨rfl, rfl⟩ := IsLog.unique hG1 log_d
  replace hB := Lib.hid (b_then hB.out b1)
  replace hF := Lib.hid (hF.out.next b1)
  replace hO1 := Lib.hid hO1
  obtain ⟨ka, kc, kb, ko, rfl, hK, -, -⟩ := hO1.out.at_
  replace hK := Lib.hid hK
  have hL2 := Lib.hid (Above_calls w1 _ 4 _ _ _ sD sA hF.out hsD hsA)
  clear hL1 hO1 hG1 b1
  go_wp2_with fail
  refine (show Calls Tryz.prog 14 #[.slice (some ⟨w.heap.size + 1 + 1 + 1, 0, none⟩) 4 4, .string ⟨#[100]⟩, .string ⟨#[97]⟩] w1 _ from hL2.out).mono ?_
  rintro e w2 ⟨r2, n2, rfl, hc2, hr2, b2⟩
  obtain rfl := hc2.unique log_d.code.1
  obtain rfl := (hr2 _ log_d).trans above_d
  replace hB := Lib.hid (b_then hB.out b2)
  replace hF := Lib.hid (hF.out.next b2)
  replace hK := Lib.hid (hK.out.next b2)
  have hL3 := Lib.hid (Base_calls w2 _ 4 _ _ _ sB sC hF.out hsB hsC)
  clear hL2 hc2 hr2 b2
  go_wp2_with fail
  refine (show Calls Tryz.prog 15 #[.slice (some ⟨w.heap.size + 1 + 1 + 1, 0, none⟩) 4 4, .string ⟨#[98]⟩, .string ⟨#[99]⟩] w2 _ from hL3.out).mono ?_
  rintro e w3 ⟨s3, n3, rfl, hb3, b3⟩
  have h3 : n3 = 0 ∧ s3 = sA := by
    cases hb3 with
    | bad1 h h0 => exact absurd (h.unique log_b.code.1) h0
    | bad2 _ h h0 => exact absurd (h.unique log_c.code.1) h0
    | ok hG _ hK =>
      obtain ⟨_, rfl⟩ := hG.unique log_b
      exact ⟨rfl, (hK _ log_c).trans first_bc⟩
  obtain ⟨rfl, rfl⟩ := h3
  replace hB := Lib.hid (b_then hB.out b3)
  replace hF := Lib.hid (hF.out.next b3)
  replace hK := Lib.hid (hK.out.next b3)
  have hL4 := Lib.hid (Log_calls w3 _ 4 _ _ _ sX hF.out hsX)
  clear hL3 hb3 b3
  go_wp2_with fail
  refine (show Calls Tryz.prog 6 #[.slice (some ⟨w.heap.size + 1 + 1 + 1, 0, none⟩) 4 4, .string ⟨#[120]⟩] w3 _ from hL4.out).mono ?_
  rintro e w4' ⟨v4, n4, G4, rfl, hG4, -, b4⟩
  obtain ⟨rfl, rfl⟩ := IsLog.unique hG4 log_x
  replace hB := Lib.hid (b_then hB.out b4)
  replace hF := Lib.hid (hF.out.next b4)
  replace hK := Lib.hid (hK.out.next b4)
  have hL5 := Lib.hid (Best_calls w4' _ 4 _ _ _ hF.out.at_ hF.out.facts hF.out.pars (by simp [fourX]) (by simp [fourX]))
  clear hL4 hG4 b4
  go_wp2_with fail
  refine (show Calls Tryz.prog 16 #[.slice (some ⟨w.heap.size + 1 + 1 + 1, 0, none⟩) 4 4] w4' _ from hL5.out).mono ?_
  rintro e w5 ⟨i, x, hx, hbe, pa, pc, rfl, -, b5⟩
  obtain ⟨rfl, hxf⟩ := hbe.unique four_best
  replace hB := Lib.hid (b_then hB.out b5)
  replace hF := Lib.hid (hF.out.next b5)
  replace hK := Lib.hid (hK.out.next b5)
  clear hL5 hx hbe b5
  rw [hxf]
  clear hxf x
  have hX := Lib.hid (FxVar.new w5 ⟨fD, pa, pc⟩)
  have bA := b_alloc w5 (.cells #[.string sD, .int .i64 2, .slice pa 2 pc] 28)
  replace hB := Lib.hid (b_then hB.out bA)
  replace hF := Lib.hid (hF.out.next bA)
  replace hK := Lib.hid (hK.out.next bA)
  have hC := Lib.hid fun w' => Compare_calls ⟨fB, some ⟨w.heap.size, 0, none⟩, 1⟩ ⟨fC, some ⟨w.heap.size + 1, 0, none⟩, 1⟩ w'
  rw [show cmp (Fx.f ⟨fB, some ⟨w.heap.size, 0, none⟩, 1⟩) (Fx.f ⟨fC, some ⟨w.heap.size + 1, 0, none⟩, 1⟩) = -1 from cmp_lo uBC] at hC
  have hW5 := Lib.hid (Nat.le_refl w5.heap.size)
  generalize hgW : w5.alloc (.cells #[.string sD, .int .i64 2, .slice pa 2 pc] 28) = w6 at *
  obtain ⟨xb, hxb⟩ : ∃ xb, xb = w5.heap.size := ⟨_, rfl⟩
  have hX6 : Hid (FxVar w6 xb ⟨fD, pa, pc⟩) := Lib.hid (by rw [hxb]; exact hX.out)
  clear hX
  obtain rfl := hK.out.addr (by decide)
  have hkeep : Hid (∀ w', Below w6.heap.size w6 w' → (w'.cell? ⟨kb, ko, none⟩ = some (.string sD) ∧ w'.cell? ⟨kb, ko + 1, none⟩ = some (.string sC) ∧ w'.cell? ⟨kb, ko + 2, none⟩ = some (.string sB) ∧ w'.cell? ⟨kb, ko + 3, none⟩ = some (.string sA)
      ∧ w'.cell? ⟨xb, 0, none⟩ = some (.string sD)
      ∧ w'.cell? ⟨w.heap.size + 1 + 1 + 1, 3, none⟩ = some (.string sB) ∧ w'.cell? ⟨w.heap.size + 1 + 1 + 1, 4, none⟩ = some (.int .i64 1) ∧ w'.cell? ⟨w.heap.size + 1 + 1 + 1, 5, none⟩ = some (.slice (some ⟨w.heap.size, 0, none⟩) 1 1)
      ∧ w'.cell? ⟨w.heap.size + 1 + 1 + 1, 6, none⟩ = some (.string sC) ∧ w'.cell? ⟨w.heap.size + 1 + 1 + 1, 7, none⟩ = some (.int .i64 1) ∧ w'.cell? ⟨w.heap.size + 1 + 1 + 1, 8, none⟩ = some (.slice (some ⟨w.heap.size + 1, 0, none⟩) 1 1))) :=
    Lib.hid fun w' b => ⟨(hK.out.next b).cell 0 _ rfl, (hK.out.next b).cell 1 _ rfl, (hK.out.next b).cell 2 _ rfl, (hK.out.next b).cell 3 _ rfl, (hX6.out.next b).cell.1,
      (hF.out.next b).at_.id 1 _ rfl, (hF.out.next b).at_.high 1 _ rfl, (hF.out.next b).at_.pars 1 _ rfl, (hF.out.next b).at_.id 2 _ rfl, (hF.out.next b).at_.high 2 _ rfl, (hF.out.next b).at_.pars 2 _ rfl⟩
  clear hsA hsB hsC hsD hsX bA hF hK
  go_wp2_with fail
  rw [← hxb]
  clear hgW hxb hX6
  have hk0 := hkeep.out _ (b_drew1 w6)
  have bd := Lib.hid (b_drew1 w6)
  have hC1 := Lib.hid (hC.out w6.drew)
  dsimp only [Fx.val, List.length_cons, List.length_nil, Nat.zero_add] at hC1
  simp only [List.append_eq, List.cons_append, List.nil_append]
  go_region_held3 (fun w' => w'.cell? ⟨kb, ko, none⟩ = some (.string sD) ∧ w'.cell? ⟨kb, ko + 1, none⟩ = some (.string sC) ∧ w'.cell? ⟨kb, ko + 2, none⟩ = some (.string sB) ∧ w'.cell? ⟨kb, ko + 3, none⟩ = some (.string sA)
      ∧ w'.cell? ⟨xb, 0, none⟩ = some (.string sD)
      ∧ w'.cell? ⟨w.heap.size + 1 + 1 + 1, 3, none⟩ = some (.string sB) ∧ w'.cell? ⟨w.heap.size + 1 + 1 + 1, 4, none⟩ = some (.int .i64 1) ∧ w'.cell? ⟨w.heap.size + 1 + 1 + 1, 5, none⟩ = some (.slice (some ⟨w.heap.size, 0, none⟩) 1 1)
      ∧ w'.cell? ⟨w.heap.size + 1 + 1 + 1, 6, none⟩ = some (.string sC) ∧ w'.cell? ⟨w.heap.size + 1 + 1 + 1, 7, none⟩ = some (.int .i64 1) ∧ w'.cell? ⟨w.heap.size + 1 + 1 + 1, 8, none⟩ = some (.slice (some ⟨w.heap.size + 1, 0, none⟩) 1 1)) (first | exact hk0 | exact hkeep.out _ b7)
    (first | (go_at_call 12; refine hC1.out.mono ?_; rintro e w7 ⟨rfl, q, os, hw7⟩; have b7 : Below w6.heap.size w6 w7 := (by rw [hw7]; exact b_then bd.out (below_grow _ _ _)); clear hw7))
  all_goals
    go_wp2
    go_ret
    exact ⟨rfl, b_then hB.out b7⟩
end Go.Proofs.YtbjpogeemajhoaaGreat.Or
