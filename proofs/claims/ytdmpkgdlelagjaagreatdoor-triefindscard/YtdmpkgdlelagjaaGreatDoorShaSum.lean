/-
  (*sha.Hash).End and sha.Sum: the digest of all that was added, of the whole text; nothing that was there turns. Conditions: the constants lie where the program's text lays them; at most 2^47 bytes.
-/
import Derived.Test.YtdmpkgdlelagjaaGreatDoorRows
import Derived.Test.YtdmpkgdlelagjaaGreatDoorShaAdd
import Derived.WalkKit
import Derived.WalkSpells
import Derived.WalkLawsBesides
import Derived.ProofKit
import Derived.OpenShut
import Derived.Laws.BytesArg
import Derived.Deep.QuietTactic
import Derived.BigQuiet
import Derived.BigRegion
import Derived.Lib.Hide
import Derived.Lib.Builder
import Derived.Lib.UnsafeStr
import Derived.Lib.AppendStr
import Derived.Laws.Externs
import Derived.Deep.OwnRows
import Derived.Lib.SlBuf
import Derived.Lib.LazyBuf
import Derived.Deep.Cut
import Derived.Deep.MidRow
import Derived.IntWalk
import Derived.StillTailTactics
namespace Go.Proofs.YtdmpkgdlelagjaaGreatDoor.Sha
open Go.RowKit
/-- the cells of a Hash -/
def hsCells (v : V) (f : Nat → UInt8) (n : Int) : List Value := (List.range 8).map (fun i => uv (v.at i)) ++ ((List.range 64).map (fun i => c8 (f i)) ++ [.int .u64 n])
theorem hsCells_length (v : V) (f : Nat → UInt8) (n : Int) : (hsCells v f n).length = 73 := by simp [hsCells]
theorem hsCells_one (v : V) (f : Nat → UInt8) (n : Int) : ∀ x ∈ hsCells v f n, x.oneCell' = true := fun x hx => by
  simp only [hsCells, List.mem_append, List.mem_map, List.mem_singleton] at hx
  rcases hx with ⟨i, _, rfl⟩ | ⟨i, _, rfl⟩ | rfl <;> rfl
theorem hsCells_st (v : V) (f : Nat → UInt8) (n : Int) (i : Nat) (h : i < 8) : (hsCells v f n)[i]? = some (.int .u32 (u (v.at i))) := by
  rw [hsCells, List.getElem?_append_left (by simp; omega), List.getElem?_map, List.getElem?_range h]; rfl
theorem hsCells_bl (v : V) (f : Nat → UInt8) (n : Int) (i : Nat) (h : i < 64) : (hsCells v f n)[8 + i]? = some (.int .u8 ((f i).toNat : Int)) := by
  rw [hsCells, List.getElem?_append_right (by simp), List.getElem?_append_left (by simp; omega), List.getElem?_map, List.length_map, List.length_range, Nat.add_sub_cancel_left, List.getElem?_range h]; rfl
theorem hsCells_sz (v : V) (f : Nat → UInt8) (n : Int) : (hsCells v f n)[72]? = some (.int .u64 n) := by
  rw [hsCells, List.getElem?_append_right (by simp), List.getElem?_append_right (by simp)]; simp
theorem Hs.range {w : World} {b : Nat} {v : V} {f : Nat → UInt8} {n : Int} (h : Hs w b v f n) : w.rangeAt b 0 (hsCells v f n) := fun j x hx => by
  rw [Nat.zero_add]
  have hj : j < 73 := by
    rcases Nat.lt_or_ge j 73 with g | g
    · exact g
    · rw [List.getElem?_eq_none (by rw [hsCells_length]; exact g)] at hx; cases hx
  by_cases h1 : j < 8
  · rw [hsCells_st v f n j h1] at hx; rw [← hx]; exact h.st j h1
  · by_cases h2 : j < 72
    · obtain ⟨i, rfl⟩ : ∃ i, j = 8 + i := ⟨j - 8, by omega⟩
      rw [hsCells_bl v f n i (by omega)] at hx; rw [← hx]; exact h.bl i (by omega)
    · obtain rfl : j = 72 := by omega
      rw [hsCells_sz] at hx; rw [← hx]; exact h.sz
theorem Hs.of_range {w : World} {b : Nat} {v : V} {f : Nat → UInt8} {n : Int} (h : w.rangeAt b 0 (hsCells v f n)) (hf : ∀ i, i < 73 → w.frozen? ⟨b, i, none⟩ = false) : Hs w b v f n :=
  ⟨fun i hi => by have := h i _ (hsCells_st v f n i hi); rwa [Nat.zero_add] at this,
   fun i hi => by have := h (8 + i) _ (hsCells_bl v f n i hi); rwa [Nat.zero_add] at this,
   by have := h 72 _ (hsCells_sz v f n); rwa [Nat.zero_add] at this, hf⟩
theorem there_new (w : World) (c : Array Value) (t : TypeId) (n : Nat) (h : n ≤ c.size) : (w.alloc (.cells c t)).there w.heap.size 0 n := fun j hj => by
  rw [Nat.zero_add]
  have : c[j]? = some c[j] := Array.getElem?_eq_getElem (by omega)
  exact ⟨by simp [go_sem, this], by simp [go_sem]⟩
def zeroHash : List Value := List.replicate 8 (Value.int .u32 0) ++ (List.replicate 64 (Value.int .u8 0) ++ [Value.int .u64 0])
def EndS (v : V) (f : Nat → UInt8) (n : Int) (w : World) (w1 : World) : Prop := Hs w1 w.heap.size v f n ∧ Below w.heap.size w w1
theorem EndS.new (v : V) (f : Nat → UInt8) (n : Int) (w : World) (t : TypeId) : EndS v f n w ((w.alloc (.cells zeroHash.toArray t)).setCells w.heap.size 0 (hsCells v f n)) := by
  have hth := there_new w zeroHash.toArray t 73 (by decide)
  refine ⟨Hs.of_range (World.rangeAt_setCells_same _ _ _ _ (by rw [hsCells_length]; exact hth)) (fun i hi => ?_), below_setCells _ (Nat.le_refl _) _ _ _ ((Below.refl _ _).alloc (Nat.le_refl _) _)⟩
  rw [World.frozen?_setCells]
  have := (hth i hi).2
  rwa [Nat.zero_add] at this
attribute [local irreducible] fold block laid ending sum hsCells
set_option maxRecDepth 100000 in
set_option maxHeartbeats 1000000 in
theorem End_calls (b : Nat) (l : List UInt8) (w : World) (hk : Kc w) (h : Ad w b l) (hn : l.length ≤ 140737488355328) :
    Calls Tryz.prog 57 #[.pointer (some ⟨b, 0, none⟩)] w fun e w' => e = .returned (.string ⟨(sum l).toArray⟩) ∧ Below w.heap.size w w' := by
  have hb := h.lt
  obtain ⟨f, hH, hf⟩ := h
  replace hf := Lib.hid hf
  have hr := hH.range
  have hS := EndS.new (fold l (l.length / 64)) f l.length w 115
  have hth := there_new w zeroHash.toArray 115 (hsCells (fold l (l.length / 64)) f l.length).toArray.size (by rw [List.size_toArray, hsCells_length]; decide)
  have hi := Lib.hid (show (Tryz.prog.info? 115).map (·.size) = some (hsCells (fold l (l.length / 64)) f l.length).length by rw [hsCells_length]; kernel_rfl)
  have hone := all_oneCell_toArray (hsCells_one (fold l (l.length / 64)) f l.length)
  replace hk := Lib.hid hk
  have hz : ∀ w', (zeroValue 115).run Tryz.prog w' = .ok (.agg zeroHash.toArray) w' := fun w' => by kernel_rfl
  go_enter Tryz.func57, Tryz.ntmps57
  go_wp2_with (first
    | (refine wpList_load_mid (op := ⟨some 8, .load 115 (.tmp 7), _, _, _, _⟩) (by rfl) 115 (.tmp 7) (by rfl) b 0 (by rfl) (hsCells (fold l (l.length / 64)) f l.length) _ hr Tryz.underlying115 (by rfl) hi.out ?_)
    | (refine wpList_store_mid (op := ⟨Option.none, .store 115 (.tmp 3) (.tmp 8), _, _, _, _⟩) (by rfl) 115 (.tmp 3) (.tmp 8) (by rfl) w.heap.size 0 (hsCells (fold l (l.length / 64)) f l.length).toArray (by rfl) (by rfl) hth (by simpa using hi.out) hone (wpList_gen (EndS (fold l (l.length / 64)) f l.length w) hS ?_)))
  clear hS hth hi hone hr hz
  rintro w1 ⟨hH1, hB1⟩
  have hk1 := hk.out.turned (Turned.of_below (b := w.heap.size) hB1) (by have := hk.out.pos; omega)
  replace hH := hH.below hB1 hb
  have c72 := hH.sz
  go_wp2_with fail
  refine (ending_calls l.length (by omega) w1).mono ?_
  rintro e w2 ⟨rfl, hB2⟩
  have hL1 := hH1.lt
  have hA2 : Ad w2 w.heap.size l := ⟨f, hH1.below hB2 hL1, hf.out⟩
  have hk2 := hk1.turned (Turned.of_below (b := w.heap.size) hB2) (by have := hk.out.pos; omega)
  clear hH hH1 c72
  go_wp2_with fail
  refine (Add_calls w.heap.size l ⟨(ending l.length).toArray⟩ w2 hk2 (by have := hk.out.pos; omega) hA2 ?_).mono ?_
  · have e1 : (⟨(ending l.length).toArray⟩ : ByteArray).size = (ending l.length).length := by simp [ByteArray.size]
    have e2 := ending_length l.length
    have e3 : zs l.length < 64 := Nat.mod_lt _ (by decide)
    omega
  rintro e w3 ⟨rfl, hA3, hT3⟩
  have hB3 : Below w.heap.size w w3 := (hB1.trans (hB2.mono (Nat.le_of_lt hL1))).trans (hT3.below (Nat.le_refl _) (Nat.le_trans (Nat.le_of_lt hL1) hB2.size))
  replace hA3 : Ad w3 w.heap.size (l ++ ending l.length) := hA3
  obtain ⟨f3, hH3, _⟩ := hA3
  have hst := Lib.hid hH3.st
  have hL3 := hH3.lt
  clear hH3 hA2 hT3 hB1 hB2
  go_wp2_with fail
  refine (bytes_calls w.heap.size _ w3 hst.out).mono ?_
  rintro e w4 ⟨rfl, hB4⟩
  go_wp2
  go_ret
  exact ⟨by rw [sum, List.length_append]; rfl, hB3.trans (hB4.mono (Nat.le_of_lt hL3))⟩
theorem End_nil (w : World) :
    Calls Tryz.prog 57 #[.pointer none] w fun e w' => e = .returned (.string ⟨#[]⟩) ∧ w = w' := by
  go_enter Tryz.func57, Tryz.ntmps57
  go_wp2
  go_ret
  exact ⟨rfl, rfl⟩
theorem Add_nil (s : ByteArray) (w : World) :
    Calls Tryz.prog 56 #[.pointer none, .string s] w fun e w' => e = .returned (.tuple #[]) ∧ w = w' := by
  go_enter Tryz.func56, Tryz.ntmps56
  go_wp2
  exact bodyPost_ret (v := .tuple #[]) (by simp [results, Tryz.results56]) rfl ⟨rfl, rfl⟩
theorem Ad.new {w : World} {b : Nat} (h : Hs w b first (fun _ => 0) 0) : Ad w b [] := ⟨fun _ => 0, by rw [show ([] : List UInt8).length / 64 = 0 from rfl, fold]; exact h, fun i hi => absurd hi (Nat.not_lt_zero i)⟩
theorem Sum_calls (s : ByteArray) (w : World) (hk : Kc w) (hn : s.size ≤ 140737488351232) :
    Calls Tryz.prog 22 #[.string s] w fun e w' => e = .returned (.string ⟨(sum s.data.toList).toArray⟩) ∧ Below w.heap.size w w' := by
  replace hk := Lib.hid hk
  go_enter Tryz.func22, Tryz.ntmps22
  go_wp2_with fail
  refine (New_calls w).mono ?_
  rintro e w1 ⟨rfl, hH1, hB1⟩
  have hA1 := Ad.new hH1
  have hk1 := hk.out.turned (Turned.of_below (b := w.heap.size + 1) hB1) (by omega)
  have hL1 := hH1.lt
  clear hH1
  go_wp2_with fail
  refine (Add_calls (w.heap.size + 1) [] s w1 hk1 (by omega) hA1 (by simp only [List.length_nil]; omega)).mono ?_
  rintro e w2 ⟨rfl, hA2, hT2⟩
  have hk2 := hk1.turned hT2 (by omega)
  have hB2 : Below w.heap.size w w2 := hB1.trans (hT2.below (by omega) (by omega))
  have hz := hT2.size
  replace hA2 := Lib.hid (show Ad w2 (w.heap.size + 1) s.data.toList from hA2)
  clear hA1 hB1 hT2 hk1
  go_wp2_with fail
  refine (End_calls (w.heap.size + 1) s.data.toList w2 hk2 hA2.out (by rw [← Lib.size_eq]; omega)).mono ?_
  rintro e w3 ⟨rfl, hB3⟩
  go_wp2
  go_ret
  exact ⟨rfl, hB2.trans (hB3.mono (by omega))⟩
end Go.Proofs.YtdmpkgdlelagjaaGreatDoor.Sha
