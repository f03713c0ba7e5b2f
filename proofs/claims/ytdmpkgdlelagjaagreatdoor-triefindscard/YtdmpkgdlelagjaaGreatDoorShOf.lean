/-
  shelf.Of: the set of a list's members. Conditions: the list is not too long.
-/
import Derived.Test.YtdmpkgdlelagjaaGreatDoorRows
import Derived.Test.YtdmpkgdlelagjaaGreatDoorShLib
import Derived.Test.YtdmpkgdlelagjaaGreatDoorShGrown
import Derived.Test.YtdmpkgdlelagjaaGreatDoorShSet
namespace Go.Proofs.YtdmpkgdlelagjaaGreatDoor.Sh
open Go.RowKit
open Go.Sort
/-- the sort's own order is the keys' -/
theorem merge_sorted (zs : List Int) : ∀ i j, i < j → j < (zs.mergeSort fun x y => decide (x ≤ y)).toArray.size → Key.lt (zs.mergeSort fun x y => decide (x ≤ y)).toArray[j]! (zs.mergeSort fun x y => decide (x ≤ y)).toArray[i]! = false := by
  intro i j hij hj
  have h := List.pairwise_mergeSort (le := fun x y : Int => decide (x ≤ y)) (fun a b c h1 h2 => by simp at *; omega) (fun a b => by simp; omega) zs
  have hj' : j < (zs.mergeSort fun x y => decide (x ≤ y)).length := by simpa using hj
  have h2 := List.pairwise_iff_getElem.1 h i j (by omega) hj' hij
  rw [getElem!_pos _ j (by simpa using hj'), getElem!_pos _ i (by simp; simp at hj'; omega)]
  show decide (_ < _) = false
  simp at h2 ⊢
  omega
/-- a text as the library's sort has it -/
def raw (b : ByteArray) : List UInt8 := b.data.toList
def unraw (l : List UInt8) : ByteArray := ⟨l.toArray⟩
theorem unraw_raw (b : ByteArray) : unraw (raw b) = b := by cases b; simp [raw, unraw]
theorem raw_unraw (l : List UInt8) : raw (unraw l) = l := by simp [raw, unraw]
theorem toList_raw (b : ByteArray) : b.toList = raw b := by rw [ByteArray.toList_eq]; rfl
theorem raw_tri (a b : List UInt8) : Op.bytesLess a b = true ∨ a = b ∨ Op.bytesLess b a = true := by
  have := bytes_tri (unraw a) (unraw b)
  rw [toList_raw, toList_raw, raw_unraw, raw_unraw] at this
  exact this.imp id (Or.imp (fun e => by rw [← raw_unraw a, e, raw_unraw]) id)
theorem enc_raw (b : ByteArray) : encStr (raw b) = Value.string b := by cases b; simp [raw, encStr]
instance : Key (List UInt8) := { dec := inferInstance, default := [], lt := fun a b => Op.bytesLess a b, irr := fun _ => Pa.less_irrefl _, tri := raw_tri, tra := fun _ _ _ h g => Pa.less_trans _ _ _ h g }
instance : Ent (List UInt8) (List UInt8) := { default := [], key := fun a => a }
theorem lt_raw (a b : List UInt8) : Key.lt (unraw a) (unraw b) = Key.lt a b := by
  show Op.bytesLess _ _ = Op.bytesLess _ _
  rw [toList_raw, toList_raw, raw_unraw, raw_unraw]
theorem lt_raw' (a b : ByteArray) : Key.lt (raw a) (raw b) = Key.lt a b := by rw [← lt_raw, unraw_raw, unraw_raw]
theorem merge_texts (zs : List (List UInt8)) : (zs.mergeSort fun x y => decide (x ≤ y)).Pairwise fun x y => Key.lt y x = false := by
  have h := List.pairwise_mergeSort (le := fun x y : List UInt8 => decide (x ≤ y)) (fun a b c h1 h2 => by simp at *; exact List.le_trans h1 h2) (fun a b => by simp; exact List.le_total a b) zs
  refine h.imp fun {a b} hab => ?_
  show Op.bytesLess b a = false
  rw [Proofs.bytesLess_eq]
  simpa using hab
end Go.Proofs.YtdmpkgdlelagjaaGreatDoor.Sh
namespace Go.Proofs.YtdmpkgdlelagjaaGreatDoor.Ti
open Go.RowKit Go.Shelf Sh
open Key (lt)
open Ent (key)
attribute [local go_sem] fold_none

end Go.Proofs.YtdmpkgdlelagjaaGreatDoor.Ti
namespace Go.Proofs.YtdmpkgdlelagjaaGreatDoor.Ts
open Go.RowKit Go.Shelf Sh
open Key (lt)
open Ent (key)
attribute [local go_sem] fold_none

theorem Collect_calls (w : World) (B : Nat) (v : Value) (M : List ByteArray) (hM : M.length ≤ 1000000) (hB : w.cell? ⟨B, 0, none⟩ = some v) (hv : Reads w.heap.size w v M) :
    Calls Tryz.prog 78 #[.func (.func 80) #[] #[.pointer (some ⟨B, 0, none⟩)]] w fun e w' => ∃ u, e = .returned u ∧ w'.ownsRow w.heap.size 9 1 u (keysV M).length (keysV M) ∧ (M = [] → u = .slice none 0 0) ∧ Below w.heap.size w w' := by
  have hA := Lib.hid (AppendSeq_calls w B v M hM hB hv)
  clear hB hv hM
  go_enter Tryz.func78, Tryz.ntmps78
  go_wp2_with fail
  refine hA.out.mono ?_
  rintro e w' ⟨u, rfl, h1, h2, h3⟩
  have hu : ∃ a n c, u = .slice a n c := by
    rcases h1.2 with ⟨rfl, _⟩ | ⟨g, cap, cur, rfl, _⟩
    · exact ⟨_, _, _, rfl⟩
    · exact ⟨_, _, _, rfl⟩
  obtain ⟨a, n, c, rfl⟩ := hu
  replace h1 := Lib.hid h1
  replace h2 := Lib.hid h2
  go_wp2
  go_ret
  exact ⟨_, rfl, h1.out, h2.out, h3⟩

end Go.Proofs.YtdmpkgdlelagjaaGreatDoor.Ts
namespace Go.Proofs.YtdmpkgdlelagjaaGreatDoor.Ti
open Go.RowKit Go.Shelf Sh
open Go.Sort in
theorem holds_row {W : World} {g : Nat} {M : List Int} : Row W g M ↔ (∃ cur z, W.heap[g]? = some (.cells cur 3 z)) ∧ Holds (Value.int .i64) W g 0 M.toArray := by
  refine and_congr Iff.rfl ⟨fun h j hj => ?_, fun h j hj => ?_⟩
  · have hj' : j < M.length := by simpa using hj
    have := h j hj'
    rw [Nat.zero_add, getElem!_pos _ j hj]
    simpa [List.getElem?_eq_getElem hj'] using this
  · have hj' : j < M.toArray.size := by simpa using hj
    have := h j hj'
    rw [Nat.zero_add, getElem!_pos _ j hj'] at this
    simpa [List.getElem?_eq_getElem hj] using this

open Go.Sort in
theorem shape_turned {W : World} {g q : Nat} {cur : Array Value} {z : Nat × Nat} {d' : Array Int} {os : Array Obj} (h : W.heap[g]? = some (.cells cur 3 z)) : ∃ cur z, (grow (putRow (Value.int .i64) (Sort.ahead W q) g 0 d') os).heap[g]? = some (.cells cur 3 z) := by
  have hlt := (Array.getElem?_eq_some_iff.1 h).1
  rw [Sort.heap_grow_old _ _ (by rw [Sort.size_putRow]; exact hlt)]
  simp only [Sort.putRow, Sort.mapBlock, Array.getElem?_modify]
  rw [if_pos trivial]
  show ∃ cur z, Option.map _ W.heap[g]? = _
  rw [h]
  exact ⟨_, _, rfl⟩


end Go.Proofs.YtdmpkgdlelagjaaGreatDoor.Ti
namespace Go.Proofs.YtdmpkgdlelagjaaGreatDoor.Ts
open Go.RowKit Go.Shelf Sh
open Go.Sort in
theorem holds_row {W : World} {g : Nat} {M : List ByteArray} : Row W g M ↔ (∃ cur z, W.heap[g]? = some (.cells cur 9 z)) ∧ Holds encStr W g 0 (M.map raw).toArray := by
  refine and_congr Iff.rfl ⟨fun h j hj => ?_, fun h j hj => ?_⟩
  · have hj' : j < M.length := by simpa using hj
    have := h j hj'
    rw [Nat.zero_add, getElem!_pos _ j hj]
    simpa [List.getElem?_eq_getElem hj', enc_raw] using this
  · have hj' : j < (M.map raw).toArray.size := by simpa using hj
    have := h j hj'
    rw [Nat.zero_add, getElem!_pos _ j hj'] at this
    simpa [List.getElem?_eq_getElem hj, enc_raw] using this
open Go.Sort in
theorem shape_turned {W : World} {g q : Nat} {cur : Array Value} {z : Nat × Nat} {d' : Array (List UInt8)} {os : Array Obj} (h : W.heap[g]? = some (.cells cur 9 z)) : ∃ cur z, (grow (putRow encStr (Sort.ahead W q) g 0 d') os).heap[g]? = some (.cells cur 9 z) := by
  have hlt := (Array.getElem?_eq_some_iff.1 h).1
  rw [Sort.heap_grow_old _ _ (by rw [Sort.size_putRow]; exact hlt)]
  simp only [Sort.putRow, Sort.mapBlock, Array.getElem?_modify]
  rw [if_pos trivial]
  show ∃ cur z, Option.map _ W.heap[g]? = _
  rw [h]
  exact ⟨_, _, rfl⟩

open Go.Sort in
theorem SortRow_calls (w : World) (g cap : Nat) (M : List ByteArray) (hM : M.length ≤ 1000000) (hrow : Row w g M) :
    Calls Tryz.prog 79 #[.slice (some ⟨g, 0, none⟩) M.length cap] w fun e w' => e = .returned (.tuple #[]) ∧ ∃ D : List ByteArray, Row w' g D ∧ (∀ x, x ∈ D ↔ x ∈ M) ∧ D.length = M.length ∧ (∀ i j, i < j → j < D.toArray.size → Key.lt D.toArray[j]! D.toArray[i]! = false) ∧ w.grownBy w' (some g) := by
  obtain ⟨⟨cur, z, hsh⟩, hH⟩ := holds_row.1 hrow
  have hlt := hrow.lt
  have h := Any.slices_Sort_string Tryz.sortString g 0 cap (M.map raw) w hH hlt (by simp; omega)
  rw [List.length_map] at h
  refine h.mono ?_
  rintro e w2 ⟨rfl, n, os, rfl⟩
  obtain ⟨N, hN⟩ : ∃ N, N = (M.map raw).mergeSort fun x y => decide (x ≤ y) := ⟨_, rfl⟩
  have hp : N.Perm (M.map raw) := by rw [hN]; exact List.mergeSort_perm _ _
  have hN2 : (N.map unraw).map raw = N := by rw [List.map_map, show raw ∘ unraw = id from funext raw_unraw, List.map_id]
  rw [← hN]
  obtain ⟨t1, t2⟩ := row_turned encStr w g 0 n (M.map raw).toArray N.toArray os hlt hH (by rw [List.size_toArray, List.size_toArray]; exact hp.length_eq)
  have hsh2 := shape_turned (q := n) (d' := N.toArray) (os := os) hsh
  refine ⟨rfl, N.map unraw, holds_row.2 ⟨hsh2, by rw [hN2]; exact t1⟩, fun x => ?_, by rw [List.length_map, hp.length_eq, List.length_map], ?_, t2⟩
  · rw [List.mem_map]
    constructor
    · rintro ⟨l, h1, rfl⟩
      obtain ⟨y, h2, rfl⟩ := List.mem_map.1 (hp.mem_iff.1 h1)
      rw [unraw_raw]; exact h2
    · intro h1
      exact ⟨raw x, hp.mem_iff.2 (List.mem_map.2 ⟨x, h1, rfl⟩), unraw_raw x⟩
  · intro i j hij hj
    have hj' : j < N.length := by simpa using hj
    have h2 := List.pairwise_iff_getElem.1 (merge_texts (M.map raw)) i j (by rw [← hN]; omega) (by rw [← hN]; exact hj') hij
    have hi' : i < (N.map unraw).toArray.size := by simpa using Nat.lt_trans hij hj'
    rw [getElem!_pos _ j hj, getElem!_pos _ i hi']
    simp only [← hN] at h2
    simpa [lt_raw] using h2
theorem SortNone_calls (w : World) : Calls Tryz.prog 79 #[.slice none 0 0] w fun e w' => e = .returned (.tuple #[]) ∧ w' = w := Any.slices_Sort_string_none Tryz.sortString none 0 w
theorem CompactNone_calls (w : World) : Calls Tryz.prog 48 #[.slice none 0 0] w fun e w' => e = .returned (.slice none 0 0) ∧ w' = w := Any.slices_Compact_string_empty Tryz.compactString none 0 w
open Go.Sort in
theorem CompactRow_calls (w : World) (g cap : Nat) (D : List ByteArray) (hD : D.length ≤ 1000000) (hle : D.length ≤ cap) (hrow : Row w g D) (hsort : ∀ i j, i < j → j < D.toArray.size → Key.lt D.toArray[j]! D.toArray[i]! = false) :
    Calls Tryz.prog 48 #[.slice (some ⟨g, 0, none⟩) D.length cap] w fun e w' => ∃ L : List ByteArray, e = .returned (.slice (some ⟨g, 0, none⟩) L.length cap) ∧ Rises L ∧ (∀ x, x ∈ L ↔ x ∈ D) ∧ L.length ≤ D.length ∧ (∀ j, j < L.length → w'.cell? ⟨g, 0 + j, none⟩ = some (.string (L[j]?.getD default))) ∧ w.grownBy w' (some g) := by
  obtain ⟨⟨cur, z, hsh⟩, hH⟩ := holds_row.1 hrow
  obtain ⟨N, hN⟩ : ∃ N, D.map raw = N := ⟨_, rfl⟩
  have hND : N.length = D.length := by rw [← hN]; simp
  have hsN : ∀ i j, i < j → j < N.toArray.size → Key.lt N.toArray[j]! N.toArray[i]! = false := fun i j hij hj => by
    have hj' : j < D.length := by rw [← hND]; simpa using hj
    have := hsort i j hij (by simpa using hj')
    rw [getElem!_pos _ j (by simpa using hj'), getElem!_pos _ i (by simp; omega)] at this
    rw [getElem!_pos _ j hj, getElem!_pos _ i (by simp at hj ⊢; omega)]
    subst hN
    simpa [lt_raw'] using this
  have hcm := compact_rises (K := List UInt8) (fun a => rfl) hsN
  have hce : Lib.compact N = Lib.compactUpTo N.toArray N.toArray.size := by simp [Lib.compact]
  have hlt := hrow.lt
  rw [hN] at hH
  have h := Any.slices_Compact_string Tryz.compactString g 0 cap N w hH (by omega) (by omega)
  rw [hND] at h
  refine h.mono ?_
  rintro e w3 ⟨rfl, q, rfl⟩
  have hll := Lib.compact_length_le N
  have hsz : (Lib.compact N ++ List.replicate (D.length - (Lib.compact N).length) []).toArray.size = N.toArray.size := by simp; omega
  obtain ⟨t1, t2⟩ := row_turned encStr w g 0 q N.toArray (Lib.compact N ++ List.replicate (D.length - (Lib.compact N).length) []).toArray #[] hlt hH hsz
  rw [Sort.grow_empty] at t1 t2
  refine ⟨(Lib.compact N).map unraw, by rw [List.length_map], ?_, fun x => ?_, by rw [List.length_map]; omega, fun j hj => ?_, t2⟩
  · rw [hce]
    exact List.pairwise_map.2 (hcm.1.imp fun {a b} h => by rw [← lt_raw] at h; exact h)
  · rw [List.mem_map]
    constructor
    · rintro ⟨l, h1, rfl⟩
      rw [hce, hcm.2] at h1
      rw [List.mem_toArray.symm.trans Array.mem_toList_iff.symm] at h1
      subst hN
      obtain ⟨y, h2, rfl⟩ := List.mem_map.1 (by simpa using h1)
      rw [unraw_raw]; exact h2
    · intro h1
      refine ⟨raw x, ?_, unraw_raw x⟩
      rw [hce, hcm.2]
      subst hN
      simpa using ⟨x, h1, rfl⟩
  · have hj2 : j < (Lib.compact N).length := by simpa using hj
    have := (t1 j (by rw [hsz]; simp; omega)).1
    rw [getElem!_pos _ j (by rw [hsz]; simp; omega)] at this
    simpa [List.getElem?_eq_getElem hj2, List.getElem_append_left hj2, unraw] using this
end Go.Proofs.YtdmpkgdlelagjaaGreatDoor.Ts
namespace Go.Proofs.YtdmpkgdlelagjaaGreatDoor.Ti
open Go.RowKit Go.Shelf Sh
open Key (lt)
open Ent (key)
attribute [local go_sem] fold_none
/-- a sorted row -/
def Srt (w : World) (M : List Int) (e : Ending) (w' : World) : Prop :=
  (M = [] ∧ e = .returned (.slice none 0 0) ∧ Below w.heap.size w w') ∨
  ∃ g cap D, e = .returned (.slice (some ⟨g, 0, none⟩) D.length cap) ∧ D.length ≤ cap ∧ w.heap.size ≤ g ∧ Row w' g D ∧ (∀ x, x ∈ D ↔ x ∈ M) ∧ D.length = M.length ∧ (∀ i j, i < j → j < D.toArray.size → lt D.toArray[j]! D.toArray[i]! = false) ∧ Below w.heap.size w w'

/-- the rising list of a list's members -/
def IsOf (M L : List Int) : Prop := Rises L ∧ (∀ x, x ∈ L ↔ x ∈ M) ∧ L.length ≤ M.length
end Go.Proofs.YtdmpkgdlelagjaaGreatDoor.Ti
namespace Go.Proofs.YtdmpkgdlelagjaaGreatDoor.Ts
open Go.RowKit Go.Shelf Sh
open Key (lt)
open Ent (key)
attribute [local go_sem] fold_none
/-- a sorted row -/
def Srt (w : World) (M : List ByteArray) (e : Ending) (w' : World) : Prop :=
  (M = [] ∧ e = .returned (.slice none 0 0) ∧ Below w.heap.size w w') ∨
  ∃ g cap D, e = .returned (.slice (some ⟨g, 0, none⟩) D.length cap) ∧ D.length ≤ cap ∧ w.heap.size ≤ g ∧ Row w' g D ∧ (∀ x, x ∈ D ↔ x ∈ M) ∧ D.length = M.length ∧ (∀ i j, i < j → j < D.toArray.size → lt D.toArray[j]! D.toArray[i]! = false) ∧ Below w.heap.size w w'

set_option maxHeartbeats 2000000 in
theorem Sorted_calls (w : World) (B : Nat) (v : Value) (M : List ByteArray) (hM : M.length ≤ 1000000) (hB : w.cell? ⟨B, 0, none⟩ = some v) (hv : Reads w.heap.size w v M) :
    Calls Tryz.prog 49 #[.func (.func 80) #[] #[.pointer (some ⟨B, 0, none⟩)]] w (Srt w M) := by
  have hC := Lib.hid (Collect_calls w B v M hM hB hv)
  clear hB hv
  by_cases h0 : M = []
  · have hS := Lib.hid fun w' => SortNone_calls w'
    go_enter Tryz.func49, Tryz.ntmps49
    go_wp2_with fail
    refine hC.out.mono ?_
    rintro e w' ⟨u, rfl, h1, h2, h3⟩
    obtain rfl := h2 h0
    clear h1 h2 hC
    go_wp2_with (go_at_call 79; refine (hS.out _).mono ?_; rintro e w2 ⟨rfl, rfl⟩)
    go_ret
    exact Or.inl ⟨h0, rfl, h3⟩
  · have hpos : 0 < M.length := by cases M with | nil => exact absurd rfl h0 | cons => simp
    go_enter Tryz.func49, Tryz.ntmps49
    go_wp2_with fail
    refine hC.out.mono ?_
    rintro e w' ⟨u, rfl, h1, h2, h3⟩
    obtain ⟨g, cap, rfl, hle, hg, hrow⟩ := row_of_owns h1 hpos
    clear h1 h2 hC
    have hS := Lib.hid (SortRow_calls w' g cap M hM hrow)
    have hE : Hid (∀ w2 (D : List ByteArray), Row w2 g D → (∀ x, x ∈ D ↔ x ∈ M) → D.length = M.length → (∀ i j, i < j → j < D.toArray.size → lt D.toArray[j]! D.toArray[i]! = false) → w'.grownBy w2 (some g) → Srt w M (.returned (.slice (some ⟨g, 0, none⟩) M.length cap)) w2) := Lib.hid fun w2 D a1 a2 a3 a4 a5 =>
      Or.inr ⟨g, cap, D, by rw [a3], by rw [a3]; exact hle, hg, a1, a2, a3, a4, h3.grown a5 h3.size (fun k e => by cases e; exact hg)⟩
    clear hrow h3 hle hg hpos h0 hM
    go_wp2_with (go_at_call 79; refine hS.out.mono ?_; rintro e w2 ⟨rfl, D, a1, a2, a3, a4, a5⟩; replace a5 := Lib.hid a5; replace a1 := Lib.hid a1)
    go_ret
    exact hE.out _ D a1.out a2 a3 a4 a5.out

/-- a new set handed back -/
def Makes (w : World) (L : List ByteArray) (e : Ending) (w' : World) : Prop := ∃ b, e = .returned (.pointer (some ⟨b, 0, none⟩)) ∧ w.heap.size ≤ b ∧ SetAt w' (some ⟨b, 0, none⟩) L ∧ Below w.heap.size w w'
theorem Makes.from {w w0 w' : World} {L M : List ByteArray} {e : Ending} (h : Makes w L e w') (hb : Below w0.heap.size w0 w) (hL : L = M) : Makes w0 M e w' := by
  obtain ⟨b, rfl, h1, h2, h3⟩ := h
  exact ⟨b, rfl, Nat.le_trans hb.size h1, hL ▸ h2, b_then hb h3⟩

theorem ofRising_calls (M : List ByteArray) (w : World) (a : Option Addr) (g off cap n : Nat) (hlen : M.length = n) (hn : n < 900000) (hcap : n ≤ cap) (ha : 0 < n → a = some ⟨g, off, none⟩) (hc : ∀ j, j < M.length → w.cell? ⟨g, off + j, none⟩ = some (.string ((M[j]?.getD default)))) :
    Calls Tryz.prog 47 #[.slice a n cap] w (Makes w M) := by
  have hG := Lib.hid (grown_calls n M w a g off cap hlen hn hcap (Nat.zero_le _) ha hc)
  clear hc ha hcap hn hlen
  go_enter Tryz.func47, Tryz.ntmps47
  go_wp2_with fail
  refine hG.out.mono ?_
  rintro e w1 ⟨p, T, rfl, hT, hf, hb⟩
  have hE : Hid (Makes w M (.returned (.pointer (some ⟨w1.heap.size, 0, none⟩))) (w1.alloc (.cells #[.pointer p] 107))) := Lib.hid
    ⟨w1.heap.size, rfl, hb.size, Or.inr ⟨w1.heap.size, p, T, rfl, Boxed.new w1 _ _, hT.next (b_alloc _ _), hf⟩, b_then hb (b_alloc _ _)⟩
  clear hT hf hb hG
  go_wp2
  go_ret
  exact hE.out

/-- the rising list of a list's members -/
def IsOf (M L : List ByteArray) : Prop := Rises L ∧ (∀ x, x ∈ L ↔ x ∈ M) ∧ L.length ≤ M.length
set_option maxHeartbeats 2000000 in
theorem Of_calls (w : World) (a : Option Addr) (cap : Nat) (M : List ByteArray) (hM : M.length < 900000) (hv : Reads w.heap.size w (.slice a M.length cap) M) :
    Calls Tryz.prog 19 #[.slice a M.length cap] w fun e w' => ∃ L, IsOf M L ∧ Makes w L e w' := by
  have b1 := b_alloc w (.cells #[.slice a M.length cap] 22)
  have hV := Lib.hid (Values_calls w a M.length cap)
  have hBx := Boxed.new w 22 (.slice a M.length cap)
  have hS := Lib.hid (Sorted_calls (w.alloc (.cells #[.slice a M.length cap] 22)) w.heap.size _ M (by omega) hBx.cell (by
    obtain ⟨a', c', e, h1⟩ := hv.below b1
    exact ⟨a', c', e, fun h0 => by
      obtain ⟨g, off, ea, hg, hc⟩ := h1 h0
      exact ⟨g, off, ea, Nat.lt_of_lt_of_le hg b1.size, hc⟩⟩))
  have hC0 := Lib.hid fun w' => CompactNone_calls w'
  have hO0 := Lib.hid fun w' => ofRising_calls ([] : List ByteArray) w' none 0 0 0 0 rfl (by omega) (by omega) (fun h => by omega) (fun j hj => by simp at hj)
  clear hBx hv
  go_enter Tryz.func19, Tryz.ntmps19
  go_wp2_with fail
  refine hV.out.mono ?_
  rintro e w1 ⟨rfl, rfl⟩
  go_wp2_with fail
  refine hS.out.mono ?_
  rintro e w2 h2
  rcases h2 with ⟨rfl, rfl, b2⟩ | ⟨g, c, D, rfl, hle, hg, hrow, hmem, hlen, hsort, b2⟩
  · have b02 := b_then b1 b2
    clear hS hV b2 b1
    go_wp2_with fail
    refine (hC0.out _).mono ?_
    rintro e w3 ⟨rfl, rfl⟩
    go_wp2_with fail
    refine (hO0.out _).mono ?_
    rintro e w4 h4
    have h5 := Lib.hid (h4.from b02 rfl)
    obtain ⟨b, rfl, -⟩ := h4
    go_wp2
    go_ret
    exact ⟨[], ⟨by simp [Rises], by simp, Nat.le_refl _⟩, h5.out⟩
  · have b02 := b_then b1 b2
    have hC := Lib.hid (CompactRow_calls w2 g c D (by omega) hle hrow hsort)
    have hO : Hid (∀ w3 (L : List ByteArray), L.length ≤ D.length → (∀ j, j < L.length → w3.cell? ⟨g, 0 + j, none⟩ = some (.string ((L[j]?.getD default)))) → w2.grownBy w3 (some g) → Calls Tryz.prog 47 #[.slice (some ⟨g, 0, none⟩) L.length c] w3 (Makes w L)) := Lib.hid fun w3 L a1 a2 a3 =>
      (ofRising_calls L _ (some ⟨g, 0, none⟩) g 0 c L.length rfl (by omega) (by omega) (fun _ => rfl) a2).mono fun e w' h => h.from (b02.grown a3 b02.size (fun k e => by cases e; exact Nat.le_trans b1.size hg)) rfl
    have hIs : Hid (∀ L : List ByteArray, Rises L → (∀ x, x ∈ L ↔ x ∈ D) → L.length ≤ D.length → IsOf M L) := Lib.hid fun L a1 a2 a3 => ⟨a1, fun x => (a2 x).trans (hmem x), by omega⟩
    clear hS hV b2 b1 hrow hmem hsort hle hg hlen b02
    go_wp2_with fail
    refine hC.out.mono ?_
    rintro e w3 ⟨L, rfl, a1, a2, a3, a4, a5⟩
    have hO2 := Lib.hid (hO.out w3 L a3 a4 a5)
    have hI2 := Lib.hid (hIs.out L a1 a2 a3)
    clear a1 a2 a4 a5 hO hIs hC
    go_wp2_with fail
    refine hO2.out.mono ?_
    rintro e w4 h4
    have h5 := Lib.hid h4
    obtain ⟨b, rfl, -⟩ := h4
    go_wp2
    go_ret
    exact ⟨L, hI2.out, h5.out⟩
end Go.Proofs.YtdmpkgdlelagjaaGreatDoor.Ts
