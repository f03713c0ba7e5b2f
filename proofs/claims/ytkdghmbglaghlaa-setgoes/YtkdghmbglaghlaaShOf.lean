/-
  shelf.Of: the set of a list's members. Conditions: the list is not too long.
-/
import Derived.Test.YtkdghmbglaghlaaRows
import Derived.Test.YtkdghmbglaghlaaShLib
import Derived.Test.YtkdghmbglaghlaaShGrown
import Derived.Test.YtkdghmbglaghlaaShSet
namespace Go.Proofs.Ytkdghmbglaghlaa.Sh
open Go.RowKit
open Go.Sort
/-- the sort's own order is the keys' -/
theorem merge_sorted (zs : List Int) : ∀ i j, i < j → j < (zs.mergeSort fun x y => decide (x ≤ y)).toArray.size → Key.lt (zs.mergeSort fun x y => decide (x ≤ y)).toArray[j]! (zs.mergeSort fun x y => decide (x ≤ y)).toArray[i]! = false := by
  intro i j hij hj
  have h := List.pairwise_mergeSort (le := fun x y : Int => decide (x ≤ y)) (fun a b c h1 h2 => by simp at *; omega) (fun a b => by simp; omega) zs
  have hj' : j < (zs.mergeSort fun x y => decide (x ≤ y)).length := by simpa using hj
  have h2 := List.pairwise_iff_getElem.1 h i j (by omega) hj' hij
  rw [getElem!_pos _ j (by simpa using hj'), getElem!_pos _ i (by simp; simp at hj'; omega)]
  show decide (_ < _) = false
  simp at h2 ⊢
  omega
end Go.Proofs.Ytkdghmbglaghlaa.Sh
namespace Go.Proofs.Ytkdghmbglaghlaa.Ti
open Go.RowKit Go.Shelf Sh
open Key (lt)
open Ent (key)
attribute [local go_sem] fold_none

theorem Collect_calls (w : World) (B : Nat) (v : Value) (M : List Int) (hM : M.length ≤ 1000000) (hB : w.cell? ⟨B, 0, none⟩ = some v) (hv : Reads w.heap.size w v M) :
    Calls Try.prog 67 #[.func (.func 69) #[] #[.pointer (some ⟨B, 0, none⟩)]] w fun e w' => ∃ u, e = .returned u ∧ w'.ownsRow w.heap.size 3 1 u (keysV M).length (keysV M) ∧ (M = [] → u = .slice none 0 0) ∧ Below w.heap.size w w' := by
  have hA := Lib.hid (AppendSeq_calls w B v M hM hB hv)
  clear hB hv hM
  go_enter Try.func67, Try.ntmps67
  go_wp2_with fail
  refine hA.out.mono ?_
  rintro e w' ⟨u, rfl, h1, h2, h3⟩
  have hu : ∃ a n c, u = .slice a n c := by
    rcases h1.2 with ⟨rfl, _⟩ | ⟨g, cap, cur, rfl, _⟩
    · exact ⟨_, _, _, rfl⟩
    · exact ⟨_, _, _, rfl⟩
  obtain ⟨a, n, c, rfl⟩ := hu
  replace h1 := Lib.hid h1
  replace h2 := Lib.hid h2
  go_wp2
  go_ret
  exact ⟨_, rfl, h1.out, h2.out, h3⟩

open Go.Sort in
theorem holds_row {W : World} {g : Nat} {M : List Int} : Row W g M ↔ (∃ cur z, W.heap[g]? = some (.cells cur 3 z)) ∧ Holds (Value.int .i64) W g 0 M.toArray := by
  refine and_congr Iff.rfl ⟨fun h j hj => ?_, fun h j hj => ?_⟩
  · have hj' : j < M.length := by simpa using hj
    have := h j hj'
    rw [Nat.zero_add, getElem!_pos _ j hj]
    simpa [List.getElem?_eq_getElem hj'] using this
  · have hj' : j < M.toArray.size := by simpa using hj
    have := h j hj'
    rw [Nat.zero_add, getElem!_pos _ j hj'] at this
    simpa [List.getElem?_eq_getElem hj] using this

/-- a row of another list laid in the place of one: where it was -/
theorem row_grown {W W' : World} {g : Nat} {M M' : List Int} (_h : Row W g M) (_hg : W.grownBy W' (some g)) (hH : Go.Sort.Holds (Value.int .i64) W' g 0 M'.toArray) (hs : ∃ cur z, W'.heap[g]? = some (.cells cur 3 z)) : Row W' g M' := holds_row.2 ⟨hs, hH⟩
open Go.Sort in
theorem shape_turned {W : World} {g q : Nat} {cur : Array Value} {z : Nat × Nat} {d' : Array Int} {os : Array Obj} (h : W.heap[g]? = some (.cells cur 3 z)) : ∃ cur z, (grow (putRow (Value.int .i64) (Sort.ahead W q) g 0 d') os).heap[g]? = some (.cells cur 3 z) := by
  have hlt := (Array.getElem?_eq_some_iff.1 h).1
  rw [Sort.heap_grow_old _ _ (by rw [Sort.size_putRow]; exact hlt)]
  simp only [Sort.putRow, Sort.mapBlock, Array.getElem?_modify]
  rw [if_pos trivial]
  show ∃ cur z, Option.map _ W.heap[g]? = _
  rw [h]
  exact ⟨_, _, rfl⟩

/-- a sorted row -/
def Srt (w : World) (M : List Int) (e : Ending) (w' : World) : Prop :=
  (M = [] ∧ e = .returned (.slice none 0 0) ∧ Below w.heap.size w w') ∨
  ∃ g cap D, e = .returned (.slice (some ⟨g, 0, none⟩) D.length cap) ∧ D.length ≤ cap ∧ w.heap.size ≤ g ∧ Row w' g D ∧ (∀ x, x ∈ D ↔ x ∈ M) ∧ D.length = M.length ∧ (∀ i j, i < j → j < D.toArray.size → lt D.toArray[j]! D.toArray[i]! = false) ∧ Below w.heap.size w w'

open Go.Sort in
set_option maxHeartbeats 2000000 in
theorem Sorted_calls (w : World) (B : Nat) (v : Value) (M : List Int) (hM : M.length ≤ 1000000) (hB : w.cell? ⟨B, 0, none⟩ = some v) (hv : Reads w.heap.size w v M) :
    Calls Try.prog 43 #[.func (.func 69) #[] #[.pointer (some ⟨B, 0, none⟩)]] w (Srt w M) := by
  have hC := Lib.hid (Collect_calls w B v M hM hB hv)
  clear hB hv
  by_cases h0 : M = []
  · have hS := Lib.hid fun w' => Any.slices_Sort_int_none Try.sortInt none 0 w'
    go_enter Try.func43, Try.ntmps43
    go_wp2_with fail
    refine hC.out.mono ?_
    rintro e w' ⟨u, rfl, h1, h2, h3⟩
    obtain rfl := h2 h0
    clear h1 h2 hC
    go_wp2_with (go_at_call 68; refine (hS.out _).mono ?_; rintro e w2 ⟨rfl, rfl⟩)
    go_ret
    exact Or.inl ⟨h0, rfl, h3⟩
  · have hpos : 0 < M.length := by cases M with | nil => exact absurd rfl h0 | cons => simp
    go_enter Try.func43, Try.ntmps43
    go_wp2_with fail
    refine hC.out.mono ?_
    rintro e w' ⟨u, rfl, h1, h2, h3⟩
    obtain ⟨g, cap, rfl, hle, hg, hrow⟩ := row_of_owns h1 hpos
    clear h1 h2 hC
    obtain ⟨⟨cur, z, hsh⟩, hH⟩ := holds_row.1 hrow
    have hlt := hrow.lt
    have hS := Lib.hid (Any.slices_Sort_int Try.sortInt g 0 cap M w' hH hlt (by omega))
    have hE : Hid (∀ n os, Srt w M (.returned (.slice (some ⟨g, 0, none⟩) M.length cap)) (grow (putRow (Value.int .i64) (Sort.ahead w' n) g 0 (M.mergeSort fun x y => decide (x ≤ y)).toArray) os)) := Lib.hid fun n os => by
      have hp := List.mergeSort_perm M (fun x y => decide (x ≤ y))
      obtain ⟨t1, t2⟩ := row_turned (Value.int .i64) w' g 0 n M.toArray (M.mergeSort fun x y => decide (x ≤ y)).toArray os hlt hH (by simp)
      have hsh2 := shape_turned (q := n) (d' := (M.mergeSort fun x y => decide (x ≤ y)).toArray) (os := os) hsh
      refine Or.inr ⟨g, cap, M.mergeSort fun x y => decide (x ≤ y), by rw [hp.length_eq], by rw [hp.length_eq]; exact hle, hg, row_grown hrow t2 t1 hsh2, fun x => hp.mem_iff, hp.length_eq, merge_sorted M, ?_⟩
      exact h3.grown t2 h3.size (fun k e => by cases e; exact hg)
    clear hH hsh hrow h3 hle hg hlt hpos h0 hM
    go_wp2_with (go_at_call 68; refine hS.out.mono ?_; rintro e w2 ⟨rfl, n, os, rfl⟩)
    go_ret
    exact hE.out n os

/-- a new set handed back -/
def Makes (w : World) (L : List Int) (e : Ending) (w' : World) : Prop := ∃ b, e = .returned (.pointer (some ⟨b, 0, none⟩)) ∧ w.heap.size ≤ b ∧ SetAt w' (some ⟨b, 0, none⟩) L ∧ Below w.heap.size w w'
theorem Makes.from {w w0 w' : World} {L M : List Int} {e : Ending} (h : Makes w L e w') (hb : Below w0.heap.size w0 w) (hL : L = M) : Makes w0 M e w' := by
  obtain ⟨b, rfl, h1, h2, h3⟩ := h
  exact ⟨b, rfl, Nat.le_trans hb.size h1, hL ▸ h2, b_then hb h3⟩

theorem ofRising_calls (M : List Int) (w : World) (a : Option Addr) (g off cap n : Nat) (hlen : M.length = n) (hn : n < 900000) (hcap : n ≤ cap) (ha : 0 < n → a = some ⟨g, off, none⟩) (hc : ∀ j, j < M.length → w.cell? ⟨g, off + j, none⟩ = some (.int .i64 ((M[j]?.getD default)))) :
    Calls Try.prog 41 #[.slice a n cap] w (Makes w M) := by
  have hG := Lib.hid (grown_calls n M w a g off cap hlen hn hcap (Nat.zero_le _) ha hc)
  clear hc ha hcap hn hlen
  go_enter Try.func41, Try.ntmps41
  go_wp2_with fail
  refine hG.out.mono ?_
  rintro e w1 ⟨p, T, rfl, hT, hf, hb⟩
  have hE : Hid (Makes w M (.returned (.pointer (some ⟨w1.heap.size, 0, none⟩))) (w1.alloc (.cells #[.pointer p] 98))) := Lib.hid
    ⟨w1.heap.size, rfl, hb.size, Or.inr ⟨w1.heap.size, p, T, rfl, Boxed.new w1 _ _, hT.next (b_alloc _ _), hf⟩, b_then hb (b_alloc _ _)⟩
  clear hT hf hb hG
  go_wp2
  go_ret
  exact hE.out

/-- the rising list of a list's members -/
def IsOf (M L : List Int) : Prop := Rises L ∧ (∀ x, x ∈ L ↔ x ∈ M) ∧ L.length ≤ M.length
open Go.Sort in
set_option maxHeartbeats 2000000 in
theorem Of_calls (w : World) (a : Option Addr) (cap : Nat) (M : List Int) (hM : M.length < 900000) (hv : Reads w.heap.size w (.slice a M.length cap) M) :
    Calls Try.prog 9 #[.slice a M.length cap] w fun e w' => ∃ L, IsOf M L ∧ Makes w L e w' := by
  have b1 := b_alloc w (.cells #[.slice a M.length cap] 22)
  have hV := Lib.hid (Values_calls w a M.length cap)
  have hBx := Boxed.new w 22 (.slice a M.length cap)
  have hS := Lib.hid (Sorted_calls (w.alloc (.cells #[.slice a M.length cap] 22)) w.heap.size _ M (by omega) hBx.cell (by
    obtain ⟨a', c', e, h1⟩ := hv.below b1
    exact ⟨a', c', e, fun h0 => by
      obtain ⟨g, off, ea, hg, hc⟩ := h1 h0
      exact ⟨g, off, ea, Nat.lt_of_lt_of_le hg b1.size, hc⟩⟩))
  have hC0 := Lib.hid fun w' => Any.slices_Compact_int_empty Try.compactInt none 0 w'
  have hO0 := Lib.hid fun w' => ofRising_calls ([] : List Int) w' none 0 0 0 0 rfl (by omega) (by omega) (fun h => by omega) (fun j hj => by simp at hj)
  clear hBx hv
  go_enter Try.func9, Try.ntmps9
  go_wp2_with fail
  refine hV.out.mono ?_
  rintro e w1 ⟨rfl, rfl⟩
  go_wp2_with fail
  refine hS.out.mono ?_
  rintro e w2 h2
  rcases h2 with ⟨rfl, rfl, b2⟩ | ⟨g, c, D, rfl, hle, hg, hrow, hmem, hlen, hsort, b2⟩
  · have b02 := b_then b1 b2
    clear hS hV b2 b1
    go_wp2_with fail
    refine (hC0.out _).mono ?_
    rintro e w3 ⟨rfl, rfl⟩
    go_wp2_with fail
    refine (hO0.out _).mono ?_
    rintro e w4 h4
    have h5 := Lib.hid (h4.from b02 rfl)
    obtain ⟨b, rfl, -⟩ := h4
    go_wp2
    go_ret
    exact ⟨[], ⟨by simp [Rises], by simp, Nat.le_refl _⟩, h5.out⟩
  · have b02 := b_then b1 b2
    obtain ⟨⟨cur, z, hsh⟩, hH⟩ := holds_row.1 hrow
    have hcm := compact_rises (fun a => rfl) hsort
    obtain ⟨L, hL⟩ : ∃ L, L = Lib.compact D := ⟨_, rfl⟩
    have hcm2 : Rises L ∧ ∀ x, x ∈ L ↔ x ∈ D := by
      rw [hL]
      have : Lib.compact D = Lib.compactUpTo D.toArray D.toArray.size := by simp [Lib.compact]
      rw [this]
      exact ⟨hcm.1, fun x => by rw [hcm.2 x]⟩
    have hll : L.length ≤ D.length := by rw [hL]; exact Lib.compact_length_le D
    have hlt := hrow.lt
    have hC := Lib.hid (Any.slices_Compact_int Try.compactInt g 0 c D w2 hH (by omega) hle)
    have hO : Hid (∀ q, Calls Try.prog 41 #[.slice (some ⟨g, 0, none⟩) (Lib.compact D).length c] (putRow (Value.int .i64) (Sort.ahead w2 q) g 0 (Lib.compact D ++ List.replicate (D.length - (Lib.compact D).length) 0).toArray) (Makes w L)) := Lib.hid fun q => by
      have hsz : (Lib.compact D ++ List.replicate (D.length - (Lib.compact D).length) 0).toArray.size = D.toArray.size := by
        have := Lib.compact_length_le D
        simp; omega
      obtain ⟨t1, t2⟩ := row_turned (Value.int .i64) w2 g 0 q D.toArray (Lib.compact D ++ List.replicate (D.length - (Lib.compact D).length) 0).toArray #[] hlt hH hsz
      rw [Sort.grow_empty] at t1 t2
      rw [← hL] at t1 t2 hsz ⊢
      refine (ofRising_calls L _ (some ⟨g, 0, none⟩) g 0 c L.length rfl (by omega) (by omega) (fun _ => rfl) (fun j hj => ?_)).mono fun e w' h => h.from ?_ rfl
      · have := (t1 j (by rw [hsz]; simp; omega)).1
        rw [getElem!_pos _ j (by rw [hsz]; simp; omega)] at this
        simpa [List.getElem?_eq_getElem hj, List.getElem_append_left hj] using this
      · exact b02.grown t2 b02.size (fun k e => by cases e; exact Nat.le_trans b1.size hg)
    have hIs : Hid (IsOf M L) := Lib.hid ⟨hcm2.1, fun x => (hcm2.2 x).trans (hmem x), by omega⟩
    clear hS hV b2 b1 hH hsh hcm hcm2 hll hrow hmem hsort hL hle hg hlt hlen b02
    go_wp2_with fail
    refine hC.out.mono ?_
    rintro e w3 ⟨rfl, q, rfl⟩
    go_wp2_with fail
    refine (hO.out q).mono ?_
    rintro e w4 h4
    have h5 := Lib.hid h4
    obtain ⟨b, rfl, -⟩ := h4
    go_wp2
    go_ret
    exact ⟨L, hIs.out, h5.out⟩
end Go.Proofs.Ytkdghmbglaghlaa.Ti
