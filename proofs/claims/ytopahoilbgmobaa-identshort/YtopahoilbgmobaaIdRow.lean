/-
  Rows of 32 bytes in memory, and their text; reliquarylaw03.filled. Conditions: none.
-/
import Derived.Test.YtopahoilbgmobaaRows
import Derived.Test.YtopahoilbgmobaaIdShort
import Derived.WalkKit
import Derived.WalkSpells
import Derived.WalkLawsBesides
import Derived.ProofKit
import Derived.OpenShut
import Derived.Laws.BytesArg
import Derived.Laws.IdiomStrings
import Derived.Laws.MakeOwn
import Derived.Lib.ConvBytes
import Derived.Deep.QuietTactic
import Derived.BigQuiet
import Derived.BigRegion
import Derived.Lib.Hide
import Derived.IntWalk
namespace Go.Proofs.Ytopahoilbgmobaa.Ident
open Go.RowKit
open Oct (TextsAt)
/-- 32 bytes in a block of their own -/
structure Row (w : World) (b : Nat) (f : Nat → UInt8) : Prop where
  cell : ∀ i, i < 32 → w.cell? ⟨b, i, none⟩ = some (.int .u8 ((f i).toNat : Int))
  frozen : ∀ i, i < 32 → w.frozen? ⟨b, i, none⟩ = false
theorem Row.new (w : World) (t : TypeId) : Row (w.alloc (.cells (Array.replicate 32 (.int .u8 0)) t)) w.heap.size (fun _ => 0) :=
  ⟨fun i hi => by simp [go_sem, hi], fun i hi => by simp [go_sem]⟩
theorem Row.congr {w : World} {b : Nat} {g g' : Nat → UInt8} (h : Row w b g) (e : ∀ i, i < 32 → g i = g' i) : Row w b g' :=
  ⟨fun i hi => by rw [← e i hi]; exact h.cell i hi, h.frozen⟩
theorem Row.set {w : World} {b : Nat} {g : Nat → UInt8} (h : Row w b g) (t : Nat) (ht : t < 32) (x : UInt8) : Row (w.setCell ⟨b, t, none⟩ (.int .u8 (x.toNat : Int))) b (fun i => if i = t then x else g i) :=
  ⟨fun i hi => by
    by_cases e : i = t
    · subst e; rw [if_pos rfl]; exact World.cell?_setCell_same _ _ _ (h.cell i hi)
    · rw [if_neg e, World.cell?_setCell_other]
      · exact h.cell i hi
      · exact fun g => e (congrArg Addr.off g).symm,
   fun i hi => by rw [World.frozen?_setCell]; exact h.frozen i hi⟩
theorem Row.lt {w : World} {b : Nat} {g : Nat → UInt8} (h : Row w b g) : b < w.heap.size := Oct.lt_of_cell (h.cell 0 (by omega))
theorem Row.below {w w' : World} {b B : Nat} {g : Nat → UInt8} (h : Row w b g) (t : Below B w w') (hb : b < B) : Row w' b g :=
  ⟨fun i hi => (t.cell (p := ⟨b, i, none⟩) hb).trans (h.cell i hi), fun i hi => (t.frozen (p := ⟨b, i, none⟩) hb).trans (h.frozen i hi)⟩
/-- the text of 32 bytes -/
def txt (f : Nat → UInt8) : ByteArray := ⟨((List.range 32).map f).toArray⟩
theorem txt_size (f : Nat → UInt8) : (txt f).size = 32 := by unfold txt; rw [ByteArray.size]; simp
theorem txt_by (f : Nat → UInt8) {k : Nat} (h : k < 32) : by_ (txt f) k = f k := by
  unfold by_ txt
  rw [List.getD_eq_getElem?_getD]
  show (((List.range 32).map f).toArray.toList[k]?).getD 0 = _
  simp [List.getElem?_range h]
theorem txt_congr {f g : Nat → UInt8} (h : ∀ i, i < 32 → f i = g i) : txt f = txt g :=
  ext_by (by rw [txt_size, txt_size]) fun k hk => by rw [txt_size] at hk; rw [txt_by f hk, txt_by g hk, h k hk]
theorem Row.conv {w : World} {b : Nat} {f : Nat → UInt8} (h : Row w b f) (cap : Nat) : (convert 37 9 (.slice (some ⟨b, 0, none⟩) 32 cap)).run Try.prog w = .ok (.string (txt f)) w := by
  have := run_convert_bytes_back (P := Try.prog) w 37 9 5 ⟨b, 0, none⟩ cap ((List.range 32).map f) Try.underlying37 Try.underlying5 Try.underlying9 (fun j hj => by
    simp only [List.length_map, List.length_range] at hj
    rw [Addr.add_mid, Nat.zero_add, h.cell j hj]
    simp)
  simp only [List.length_map, List.length_range] at this
  exact this
theorem made32 : madeCells (Value.int .u8 0).cells (32 * 1) = Array.replicate 32 (.int .u8 0) := by kernel_rfl
theorem make32 (w : World) : (Instr.makeSlice 37 (.int .i64 32) (.int .i64 32)).run Try.prog w = .ok (.slice (some ⟨w.heap.size, 0, none⟩) 32 32) (w.alloc (.cells (Array.replicate 32 (.int .u8 0)) 5)) := by
  obtain ⟨i0, hi, hz0, hz1, hz2⟩ := info_parts infoByte
  have := run_makeSlice (P := Try.prog) w 37 5 i0 (.int .u8 0) Try.underlying37 hi hz0 .i64 .i64 32 32 (by omega) (by omega) (by rw [hz1]; decide) (by rw [hz2]; decide) (by decide)
  rw [hz1] at this
  simp only [Int.reduceToNat] at this
  rw [made32] at this
  exact this
set_option maxHeartbeats 1000000 in
theorem filled_calls (c : UInt8) (w : World) :
    Calls Try.prog 26 #[.int .u8 (c.toNat : Int)] w fun e w' => e = .returned (.string (txt fun _ => c)) ∧ Below w.heap.size w w' := by
  go_enter Try.func26, Try.ntmps26
  have hm := make32 w
  have hr := Lib.hid (Row.new w 5)
  have hB0 := Lib.hid ((Below.refl w.heap.size w).alloc (Nat.le_refl _) (.cells (Array.replicate 32 (.int .u8 0)) 5))
  go_wp2_with fail
  clear hm
  generalize w.alloc (.cells (Array.replicate 32 (.int .u8 0)) 5) = w1 at *
  go_loopw [4] (fun i wr => ∃ k : Nat, k ≤ 32 ∧ i = .int .i64 k ∧ Row wr w.heap.size (fun i => if i < k then c else 0) ∧ Below w.heap.size w wr) (fun i _ => 32 - (intOf i).toNat)
  case atStart => exact ⟨0, by omega, rfl, hr.out.congr fun i hi => by simp, hB0.out⟩
  case round =>
    clear hr hB0
    obtain ⟨k, hk, rfl, hR, hB⟩ := hrel
    by_cases hlt : k < 32
    · have i1 : (k : Int) < 32 := by omega
      have i0 : 0 ≤ (k : Int) := by omega
      have c0 := hR.cell k hlt
      have f0 := hR.frozen k hlt
      have hR2 := Lib.hid ((hR.set k hlt c).congr (g' := fun i => if i < k + 1 then c else 0) fun i hi => by
        by_cases e : i = k
        · subst e; simp
        · by_cases e2 : i < k
          · simp [e, e2, show i < k + 1 by omega]
          · simp [e, e2, show ¬ i < k + 1 by omega])
      have hB2 := Lib.hid (hB.setCell (p := ⟨w.heap.size, k, none⟩) (Nat.le_refl _) (.int .u8 (c.toNat : Int)))
      clear hR hB
      go_wp2_with fail
      exact ⟨⟨k + 1, by omega, by go_num, hR2.out, hB2.out⟩, by simp [intOf]; omega⟩
    · have hd : decide ((k : Int) < 32) = false := decide_eq_false (by omega)
      have hd2 : (32 : Int) ≤ k := by omega
      have hc := (hR.congr (g' := fun _ => c) fun i hi => by simp [show i < k by omega]).conv 32
      clear hR
      replace hB := Lib.hid hB
      go_wp2
      go_ret
      exact ⟨rfl, hB.out⟩
end Go.Proofs.Ytopahoilbgmobaa.Ident
