/-
  sha.firstWords, New, zeros and ending: a new Hash has the first words, no bytes and size 0; what stands behind a message of n bytes. Conditions: n below 2^61.
-/
import Derived.Test.YtdmpkgdlelagjaaGreatDoorRows
import Derived.Test.YtdmpkgdlelagjaaGreatDoorShaMix
import Derived.WalkKit
import Derived.WalkSpells
import Derived.WalkLawsBesides
import Derived.ProofKit
import Derived.OpenShut
import Derived.Laws.BytesArg
import Derived.Deep.QuietTactic
import Derived.BigQuiet
import Derived.BigRegion
import Derived.Lib.Hide
import Derived.Deep.OwnRows
import Derived.Lib.SlBuf
import Derived.Lib.LazyBuf
import Derived.Deep.Cut
import Derived.Deep.MidRow
import Derived.IntWalk
import Derived.StillTailTactics
namespace Go.Proofs.YtdmpkgdlelagjaaGreatDoor.Sha
open Go.RowKit
attribute [local go_sem] u_xor u_or u_and u_not u_not2 u_add w_add w_byte m_byte m_shl24 m_shl16 m_shl8 w_shl24 w_shl16 w_shl8 m_shr3 m_shr10
/-- the first words as a value -/
abbrev firstV : Value := .agg #[.int .u32 1779033703, .int .u32 3144134277, .int .u32 1013904242, .int .u32 2773480762, .int .u32 1359893119, .int .u32 2600822924, .int .u32 528734635, .int .u32 1541459225]
theorem firstWords_calls (w : World) :
    Calls Tryz.prog 82 #[] w fun e w' => e = .returned firstV ∧ ∃ c, w.alloc (.cells c 110) = w' := by
  go_enter Tryz.func82, Tryz.ntmps82
  go_wp2
  exact bodyPost_ret (v := firstV) (by simp [results, Tryz.results82, go_sem]) rfl ⟨rfl, _, rfl⟩
/-- the cells of a new Hash -/
def newCells : List Value := [.int .u32 1779033703, .int .u32 3144134277, .int .u32 1013904242, .int .u32 2773480762, .int .u32 1359893119, .int .u32 2600822924, .int .u32 528734635, .int .u32 1541459225] ++ (List.replicate 64 (.int .u8 0) ++ [.int .u64 0])
theorem Hs.new (w : World) (t : TypeId) : Hs (w.alloc (.cells newCells.toArray t)) w.heap.size first (fun _ => 0) 0 :=
  ⟨fun i hi => by
    match i, hi with
    | 0, _ => simp [go_sem, newCells, V.at, first, u]
    | 1, _ => simp [go_sem, newCells, V.at, first, u]
    | 2, _ => simp [go_sem, newCells, V.at, first, u]
    | 3, _ => simp [go_sem, newCells, V.at, first, u]
    | 4, _ => simp [go_sem, newCells, V.at, first, u]
    | 5, _ => simp [go_sem, newCells, V.at, first, u]
    | 6, _ => simp [go_sem, newCells, V.at, first, u]
    | 7, _ => simp [go_sem, newCells, V.at, first, u],
   fun i hi => by
    have e : newCells[8 + i]? = some (.int .u8 0) := by
      rw [newCells, List.getElem?_append_right (by simp), List.getElem?_append_left (by simp; omega), List.getElem?_replicate, if_pos (by simp; omega)]
    simp [go_sem, e],
   by simp [go_sem, newCells],
   fun i hi => by simp [go_sem]⟩
set_option maxRecDepth 100000 in
theorem New_calls (w : World) :
    Calls Tryz.prog 55 #[] w fun e w' => e = .returned (.pointer (some ⟨w.heap.size + 1, 0, none⟩)) ∧ Hs w' (w.heap.size + 1) first (fun _ => 0) 0 ∧ Below w.heap.size w w' := by
  have hz : ∀ w', (zeroValue 115).run Tryz.prog w' = .ok (.agg (List.replicate 8 (Value.int .u32 0) ++ (List.replicate 64 (Value.int .u8 0) ++ [Value.int .u64 0])).toArray) w' := fun w' => by kernel_rfl
  simp only [List.replicate, List.cons_append, List.nil_append] at hz
  go_enter Tryz.func55, Tryz.ntmps55
  go_wp2_with (go_at_call 82; refine (firstWords_calls w).mono ?_; rintro e w' ⟨rfl, c, rfl⟩)
  have hs : (w.alloc (.cells c 110)).heap.size = w.heap.size + 1 := by simp
  have h := Hs.new (w.alloc (.cells c 110)) 115
  rw [hs] at h
  go_ret
  exact ⟨rfl, h, ((Below.refl _ _).alloc (Nat.le_refl _) _).alloc (by simp) _⟩
theorem zeros_calls (n : Nat) (hn : n < 2 ^ 61) (w : World) :
    Calls Tryz.prog 113 #[.int .u64 n] w fun e w' => e = .returned (.int .i64 (zs n)) ∧ w = w' := by
  have e := Lib.hid (show ((64 - ((n : Int) + 1 + 8) % 64) % 64) = (zs n : Int) by simp only [zs]; omega)
  go_enter Tryz.func113, Tryz.ntmps113
  go_wp2
  go_ret
  exact ⟨congrArg (fun z => Ending.returned (Value.int .i64 z)) e.out, rfl⟩

/-- a byte as the model's value -/
def c8 (x : UInt8) : Value := .int .u8 (x.toNat : Int)
theorem ending_length (n : Nat) : (ending n).length = zs n + 9 := by simp [ending, len8]
/-- the row's bytes while its last ones are written: those ahead of place L - k are 0 still but the first -/
def endPart (n k i : Nat) : UInt8 := if i = 0 ∨ zs n + 9 - k < i then (ending n).getD i 0 else 0
theorem ending_zero (n : Nat) : (ending n).getD 0 0 = 128 := rfl
theorem ending_mid (n i : Nat) (h0 : 0 < i) (h : i ≤ zs n) : (ending n).getD i 0 = 0 := by
  obtain ⟨j, rfl⟩ : ∃ j, i = j + 1 := ⟨i - 1, by omega⟩
  simp only [ending, List.getD_eq_getElem?_getD, List.getElem?_cons_succ]
  rw [List.getElem?_append_left (by simp; omega), List.getElem?_replicate, if_pos (by omega)]; rfl
theorem ending_last (n k : Nat) (h0 : 1 ≤ k) (h : k ≤ 8) : (ending n).getD (zs n + 9 - k) 0 = UInt8.ofNat (8 * n / 2 ^ (8 * (k - 1))) := by
  obtain ⟨j, hj⟩ : ∃ j, zs n + 9 - k = j + 1 := ⟨zs n + 8 - k, by omega⟩
  rw [hj]
  simp only [ending, List.getD_eq_getElem?_getD, List.getElem?_cons_succ]
  rw [List.getElem?_append_right (by simp; omega), List.length_replicate, show j - zs n = 8 - k by omega]
  match k, h0, h with
  | 1, _, _ => simp [len8]
  | 2, _, _ => rfl
  | 3, _, _ => rfl
  | 4, _, _ => rfl
  | 5, _, _ => rfl
  | 6, _, _ => rfl
  | 7, _, _ => rfl
  | 8, _, _ => rfl
theorem endPart_start (n i : Nat) (h : i < zs n + 9) : (if i = 0 then 128 else 0) = endPart n 1 i := by
  unfold endPart
  by_cases g : i = 0
  · subst g; rw [if_pos rfl, if_pos (Or.inl rfl), ending_zero]
  · rw [if_neg g, if_neg (by omega)]
theorem endPart_next (n k i : Nat) (h0 : 1 ≤ k) (h : k ≤ 8) : (if i = zs n + 9 - k then UInt8.ofNat (8 * n / 2 ^ (8 * (k - 1))) else endPart n k i) = endPart n (k + 1) i := by
  unfold endPart
  by_cases g : i = zs n + 9 - k
  · subst g; rw [if_pos rfl, if_pos (Or.inr (by omega)), ending_last n k h0 h]
  · rw [if_neg g]
    by_cases g2 : i = 0 ∨ zs n + 9 - k < i
    · rw [if_pos g2, if_pos (by omega)]
    · rw [if_neg g2, if_neg (by omega)]
theorem endPart_all (n i : Nat) : endPart n 9 i = (ending n).getD i 0 := by
  unfold endPart
  by_cases g : i = 0 ∨ zs n + 9 - 9 < i
  · rw [if_pos g]
  · rw [if_neg g, ending_mid n i (by omega) (by omega)]
theorem wrap8 (m : Nat) : IntKind.u8.wrap (m : Int) = ((UInt8.ofNat m).toNat : Int) := by
  simp [IntKind.wrap, IntKind.bits, IntKind.signed]
theorem div_next (n k : Nat) (h0 : 1 ≤ k) : 8 * n / 2 ^ (8 * (k - 1)) / 256 = 8 * n / 2 ^ (8 * (k + 1 - 1)) := by
  rw [Nat.div_div_eq_div_mul, show (256 : Nat) = 2 ^ 8 by decide, ← Nat.pow_add, show 8 * (k - 1) + 8 = 8 * (k + 1 - 1) by omega]
attribute [local irreducible] ending endPart
set_option maxRecDepth 100000 in
set_option maxHeartbeats 1000000 in
theorem ending_calls (n : Nat) (hn : n < 2 ^ 61) (w : World) :
    Calls Tryz.prog 84 #[.int .u64 n] w fun e w' => e = .returned (.string ⟨(ending n).toArray⟩) ∧ Below w.heap.size w w' := by
  have hz : zs n < 64 := Nat.mod_lt _ (by decide)
  obtain ⟨L, hL0⟩ : ∃ L, L = zs n + 9 := ⟨_, rfl⟩
  have hL := Lib.hid hL0
  have hLl : L ≤ 72 := by omega
  have hLg : 9 ≤ L := by omega
  have eL : 1 + (zs n : Int) + 8 = (L : Int) := by omega
  have hm : ∀ w', (Instr.makeSlice 42 (.int .i64 (1 + (zs n : Int) + 8)) (.int .i64 (1 + (zs n : Int) + 8))).run Tryz.prog w' = .ok (.slice (some ⟨w'.heap.size, 0, none⟩) L L) (w'.alloc (.cells (madeCells #[.int .u8 0] L) 5)) := fun w' => by
    rw [eL]
    exact run_make_row' 42 5 (.int .u8 0) 1 Tryz.underlying42 (by kernel_rfl) rfl .i64 .i64 L (by omega) (by omega) w'
  have hR := World.rowIs_made w (.int .u8 0) L 5
  have hB := (Below.refl w.heap.size w).alloc (Nat.le_refl _) (.cells (madeCells #[.int .u8 0] L) 5)
  have hs : w.heap.size < (w.alloc (.cells (madeCells #[.int .u8 0] L) 5)).heap.size := by simp
  have c0 := hR.cell (i := 0) (by omega)
  have f0 := hR.frozen 0
  have l0 : (0 : Int) < (L : Int) := by omega
  clear hL0 eL
  go_enter Tryz.func84, Tryz.ntmps84
  go_wp2_with (go_at_call 113; refine (zeros_calls n hn _).mono ?_; rintro e w' ⟨rfl, rfl⟩)
  have hR1 : (w.alloc (.cells ((madeCells #[.int .u8 0] L).setIfInBounds 0 (.int .u8 128)) 5)).rowIs w.heap.size 5 L (fun i => c8 (endPart n 1 i)) := by
    have h1 := World.rowIs_alloc w ((madeCells #[.int .u8 0] L).setIfInBounds 0 (.int .u8 128)) 5 (fun i => c8 (endPart n 1 i)) (fun i hi => by
      have hi' : i < L := by simpa [size_madeCells] using hi
      rw [← endPart_start n i (by rw [← hL.out]; exact hi'), Array.getElem?_setIfInBounds]
      by_cases g : i = 0
      · subst g; simp [c8, size_madeCells]; omega
      · rw [if_neg (fun h => g h.symm), if_neg g]; simp [c8, madeCells, hi', Nat.mod_one])
    simpa [size_madeCells] using h1
  have hB1 := (Below.refl w.heap.size w).alloc (Nat.le_refl _) (.cells ((madeCells #[.int .u8 0] L).setIfInBounds 0 (.int .u8 128)) 5)
  clear hR hB c0 f0 hs hm
  go_loopw [4, 5] (fun m i wr => ∃ k : Nat, 1 ≤ k ∧ k ≤ 9 ∧ i = .int .i64 k ∧ m = .int .u64 ((8 * n / 2 ^ (8 * (k - 1)) : Nat) : Int) ∧ wr.rowIs w.heap.size 5 L (fun i => c8 (endPart n k i)) ∧ Below w.heap.size w wr) (fun _ i _ => 9 - (intOf i).toNat)
  case atStart => exact ⟨1, by omega, by omega, rfl, by simp, hR1, hB1⟩
  case round =>
    clear hR1 hB1
    obtain ⟨k, h1, h9, rfl, rfl, hR, hB⟩ := hrel
    by_cases hlt : k ≤ 8
    · have c0 := hR.cell (i := L - k) (by omega)
      have f0 := hR.frozen (L - k)
      have hS := (hR.set (L - k) (c8 (UInt8.ofNat (8 * n / 2 ^ (8 * (k - 1)))))).congr (g := fun i => c8 (endPart n (k + 1) i)) (fun i hi => by
        rw [hL.out, ← endPart_next n k i h1 hlt]
        by_cases g : i = zs n + 9 - k
        · rw [if_pos g, if_pos g]
        · rw [if_neg g, if_neg g])
      have hB' := hB.setCell (p := ⟨w.heap.size, L - k, none⟩) (Nat.le_refl _) (c8 (UInt8.ofNat (8 * n / 2 ^ (8 * (k - 1)))))
      have hd := Lib.hid (div_next n k h1)
      have hm : 8 * n / 2 ^ (8 * (k - 1)) ≤ 8 * n := Nat.div_le_self _ _
      generalize 8 * n / 2 ^ (8 * (k - 1)) = m at *
      have hkL : (k : Int) ≤ L := by omega
      have hkL2 : (L : Int) - k < L := by omega
      have hkL3 : 0 ≤ (L : Int) - k := by omega
      have hkL4 : ((L : Int) - k).toNat = L - k := by omega
      have hw := wrap8 m
      have e8 : Value.int .u8 ((m : Int) % 256) = c8 (UInt8.ofNat m) := by simp [c8]
      have e9 := Lib.hid e8
      clear e8 hw
      go_wp2
      refine ⟨⟨k + 1, by omega, by omega, by go_num, ?_, ?_, ?_⟩, by simp [intOf]; omega⟩
      · rw [← hd.out]; simp
      · rw [e9.out]; exact hS
      · rw [e9.out]; exact hB'
    · have h9' := Lib.hid (show k = 9 by omega)
      have hcv := run_convert_bytes_arg (P := Tryz.prog) wr 42 5 Tryz.underlying42 Tryz.underlying5 w.heap.size 0 L L ((ending n).map fun b => (b.toNat : Int)) (by rw [List.length_map, ending_length, hL.out]) (fun i hi => by
        rw [Nat.zero_add, hR.cell hi, h9'.out, endPart_all]
        have hi' : i < (ending n).length := by rw [ending_length, ← hL.out]; exact hi
        simp [c8, List.getD_eq_getElem?_getD, List.getElem?_eq_getElem hi']) 9 Tryz.underlying9
      have hstr := Lib.Lz.strOfNums_map (ending n)
      rw [hstr] at hcv
      clear hstr
      go_wp2
      go_ret
      exact ⟨rfl, hB⟩
end Go.Proofs.YtdmpkgdlelagjaaGreatDoor.Sha
