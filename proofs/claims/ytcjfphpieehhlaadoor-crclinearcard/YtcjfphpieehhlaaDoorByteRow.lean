/-
  A row of bytes in a block of its own: made, set, read as a text; bytes made of a text ([]byte(s)). Of no layer. Conditions: none.
-/
import Derived.Test.YtcjfphpieehhlaaDoorRows
import Derived.WalkKit
import Derived.WalkSpells
import Derived.ProofKit
import Derived.Laws.BytesArg
import Derived.Laws.IdiomStrings
import Derived.Laws.OwnMore
import Derived.Lib.ConvBytes
import Derived.Lib.Hide
import Derived.Deep.OwnRows
import Derived.Deep.Draws
import Derived.Deep.MidRow
namespace Go.Proofs.YtcjfphpieehhlaaDoor.Byt
open Go Go.RowKit
theorem lt_of_cell {w : World} {p : Addr} {v : Value} (h : w.cell? p = some v) : p.block < w.heap.size := by
  rcases Nat.lt_or_ge p.block w.heap.size with g | g
  · exact g
  · simp [World.cell?, Array.getElem?_eq_none g] at h
theorem below_drew {B : Nat} {w w' : World} (h : Below B w w') : Below B w w'.drew := ⟨h.os, h.tape, h.output, h.size, h.block⟩
theorem below_drewN {B : Nat} {w w' : World} (h : Below B w w') (n : Nat) : Below B w (w'.drewN n) := ⟨h.os, h.tape, h.output, h.size, h.block⟩
/-- n bytes at the beginning of block b -/
structure Row (w : World) (b n : Nat) (f : Nat → UInt8) : Prop where
  lt : b < w.heap.size
  cell : ∀ i, i < n → w.cell? ⟨b, i, none⟩ = some (.int .u8 ((f i).toNat : Int))
  frozen : ∀ i, i < n → w.frozen? ⟨b, i, none⟩ = false
theorem Row.new (w : World) (n : Nat) (t : TypeId) : Row (w.alloc (.cells (madeCells #[.int .u8 0] n) t)) w.heap.size n (fun _ => 0) :=
  have hR := World.rowIs_made w (.int .u8 0) n t
  ⟨by simp, fun i hi => hR.cell hi, fun i _ => hR.frozen i⟩
theorem Row.congr {w : World} {b n : Nat} {g g' : Nat → UInt8} (h : Row w b n g) (e : ∀ i, i < n → g i = g' i) : Row w b n g' :=
  ⟨h.lt, fun i hi => by rw [← e i hi]; exact h.cell i hi, h.frozen⟩
theorem Row.set {w : World} {b n : Nat} {g : Nat → UInt8} (h : Row w b n g) (t : Nat) (ht : t < n) (x : UInt8) : Row (w.setCell ⟨b, t, none⟩ (.int .u8 (x.toNat : Int))) b n (fun i => if i = t then x else g i) :=
  ⟨by simpa [World.setCell] using h.lt,
   fun i hi => by
    by_cases e : i = t
    · subst e; rw [if_pos rfl]; exact World.cell?_setCell_same _ _ _ (h.cell i hi)
    · rw [if_neg e, World.cell?_setCell_other]
      · exact h.cell i hi
      · exact fun g => e (congrArg Addr.off g).symm,
   fun i hi => by rw [World.frozen?_setCell]; exact h.frozen i hi⟩
theorem Row.below {w w' : World} {b B n : Nat} {g : Nat → UInt8} (h : Row w b n g) (t : Below B w w') (hb : b < B) : Row w' b n g :=
  ⟨Nat.lt_of_lt_of_le h.lt t.size, fun i hi => (t.cell (p := ⟨b, i, none⟩) hb).trans (h.cell i hi), fun i hi => (t.frozen (p := ⟨b, i, none⟩) hb).trans (h.frozen i hi)⟩
theorem Row.drew {w : World} {b n : Nat} {g : Nat → UInt8} (h : Row w b n g) : Row w.drew b n g := ⟨h.lt, h.cell, h.frozen⟩
theorem Row.drewN {w : World} {b n : Nat} {g : Nat → UInt8} (h : Row w b n g) (m : Nat) : Row (w.drewN m) b n g := ⟨h.lt, h.cell, h.frozen⟩
/-- the text of n bytes -/
def txt (n : Nat) (f : Nat → UInt8) : ByteArray := ⟨((List.range n).map f).toArray⟩
theorem txt_list (n : Nat) (f : Nat → UInt8) : (txt n f).data.toList = (List.range n).map f := rfl
theorem txt_size (n : Nat) (f : Nat → UInt8) : (txt n f).size = n := by unfold txt; rw [ByteArray.size]; simp
theorem txt_length (n : Nat) (f : Nat → UInt8) : (txt n f).data.toList.length = n := by rw [txt_list]; simp
theorem txt_getD (n : Nat) (f : Nat → UInt8) {k : Nat} (h : k < n) : (txt n f).data.toList.getD k 0 = f k := by
  rw [txt_list, List.getD_eq_getElem?_getD]
  simp [List.getElem?_range h]
theorem Row.conv {w : World} {b n : Nat} {f : Nat → UInt8} (h : Row w b n f) (cap : Nat) : (convert 28 9 (.slice (some ⟨b, 0, none⟩) n cap)).run Tryd.prog w = .ok (.string (txt n f)) w := by
  have := run_convert_bytes_back (P := Tryd.prog) w 28 9 5 ⟨b, 0, none⟩ cap ((List.range n).map f) Tryd.underlying28 Tryd.underlying5 Tryd.underlying9 (fun j hj => by
    simp only [List.length_map, List.length_range] at hj
    rw [Addr.add_mid, Nat.zero_add, h.cell j hj]
    simp)
  simp only [List.length_map, List.length_range] at this
  exact this
theorem make (n : Nat) (hn : n ≤ 281474976710656) (w : World) : (Instr.makeSlice 28 (.int .i64 (n : Int)) (.int .i64 (n : Int))).run Tryd.prog w = .ok (.slice (some ⟨w.heap.size, 0, none⟩) n n) (w.alloc (.cells (madeCells #[.int .u8 0] n) 5)) :=
  run_make_row' 28 5 (.int .u8 0) 1 Tryd.underlying28 (by kernel_rfl) rfl .i64 .i64 n (by omega) (by omega) w
theorem conv_there (w : World) (s : ByteArray) : ∃ (w' : World) (cap : Nat), (convert 9 28 (.string s)).run Tryd.prog w = .ok (.slice (some ⟨w.heap.size, 0, none⟩) s.size cap) w' ∧ Below w.heap.size w w' ∧
    Row w' w.heap.size s.size (fun j => s.data.toList.getD j 0) := by
  refine ⟨_, _, Lib.run_convert_string_bytes w 9 28 5 s Tryd.underlying9 Tryd.underlying28 Tryd.underlying5,
   ⟨rfl, rfl, rfl, by rw [Lib.bytesWorld_size]; omega, fun k hk => Lib.bytesWorld_at_old w 5 s k hk⟩, ?_, fun j hj => Lib.bytesWorld_cell w 5 s j hj, ?_⟩
  · rw [Lib.bytesWorld_size]; omega
  · intro i hi
    have hsz : i < (Lib.bytesCells w 5 s).size := by
      have : s.data.size = s.size := rfl
      simp only [Lib.bytesCells, Array.size_append, Array.size_map]; omega
    simp only [World.frozen?, Lib.bytesWorld_at_new]
    simp; omega
end Go.Proofs.YtcjfphpieehhlaaDoor.Byt
