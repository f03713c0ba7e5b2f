/-
  A kid's prefix made of bytes written out; texts gathered ahead of a sum. Conditions: none.
-/
import Derived.Test.YtdmpkgdlelagjaaGreatDoorRows
import Derived.Test.YtdmpkgdlelagjaaGreatDoorTrThree
import Derived.Test.YtdmpkgdlelagjaaGreatDoorTrAlike
namespace Go.Proofs.YtdmpkgdlelagjaaGreatDoor.Tr
open Go Go.RowKit
open Ident (by_ val dg digit has digits hex)
open Sh (b_alloc b_drew b_drewN b_next b_then Rises)

/-- what is summed: a letter and the texts of a list -/
def acc (c : UInt8) (L : List ByteArray) : ByteArray := ⟨(c :: jn L).toArray⟩
theorem acc_nil (c : UInt8) : acc c [] = ⟨#[c]⟩ := rfl
theorem acc_list (c : UInt8) (L : List ByteArray) : (acc c L).data.toList = c :: jn L := rfl
theorem acc_snoc (c : UInt8) (L : List ByteArray) (x : ByteArray) : acc c L ++ x = acc c (L ++ [x]) := by
  apply ByteArray.ext
  apply Array.toList_inj.1
  rw [ByteArray.data_append, Array.toList_append, acc_list, acc_list]
  unfold jn
  rw [List.flatMap_append]
  simp
theorem acc_size (c : UInt8) (L : List ByteArray) (h : ∀ x ∈ L, x.size = 32) : (acc c L).size = 32 * L.length + 1 := by
  rw [Ident.size_list, acc_list, List.length_cons, jn_len h]
theorem acc_few (L : List ByteArray) (h : ∀ x ∈ L, x.size = 32) (hn : L.length ≤ 30000) (w : World) (hk : Sha.Kc w) :
    Calls Tryz.prog 22 #[.string (acc 108 L)] w fun e w' => e = .returned (.string (few L)) ∧ Below w.heap.size w w' :=
  Sha.Sum_calls (acc 108 L) w hk (by rw [acc_size _ _ h]; omega)
theorem acc_many (L : List ByteArray) (h : ∀ x ∈ L, x.size = 32) (hn : L.length ≤ 30000) (w : World) (hk : Sha.Kc w) :
    Calls Tryz.prog 22 #[.string (acc 107 L)] w fun e w' => e = .returned (.string (many L)) ∧ Below w.heap.size w w' :=
  Sha.Sum_calls (acc 107 L) w hk (by rw [acc_size _ _ h]; omega)
theorem take_next' {L : List ByteArray} {k : Nat} (h : k < L.length) : L.take (k + 1) = L.take k ++ [L[k]] := by
  rw [List.take_add_one, List.getElem?_eq_getElem h]; rfl
/-- a block of zero bytes, a block of one byte -/
abbrev Z31 : Go.Obj := .cells (Array.replicate 31 (.int .u8 0)) 5
abbrev O1 (i : Nat) : Go.Obj := .cells #[.int .u8 (i : Int)] 5
theorem make31 (w : World) : (Instr.makeSlice 42 (.int .i64 31) (.int .i64 31)).run Tryz.prog w = .ok (.slice (some ⟨w.heap.size, 0, none⟩) 31 31) (w.alloc Z31) := make_zs 31 31 rfl (by decide) w
/-- five cells of a block written over -/
theorem CellAt.over {W : World} {b : Nat} {z0 z1 z2 z3 z4 : Value} (h : CellAt W b z0 z1 z2 z3 z4) (u0 u1 u2 u3 u4 : Value) :
    CellAt (((((W.setCell ⟨b, 0, none⟩ u0).setCell ⟨b, 1, none⟩ u1).setCell ⟨b, 2, none⟩ u2).setCell ⟨b, 3, none⟩ u3).setCell ⟨b, 4, none⟩ u4) b u0 u1 u2 u3 u4 := by
  obtain ⟨h0, h1, h2, h3, h4⟩ := h
  have hr := five_range (W := W) (b := b) (fun j hj => by
    match j, hj with
    | 0, _ => exact ⟨_, h0⟩
    | 1, _ => exact ⟨_, h1⟩
    | 2, _ => exact ⟨_, h2⟩
    | 3, _ => exact ⟨_, h3⟩
    | 4, _ => exact ⟨_, h4⟩
    | j + 5, hj => omega) u0 u1 u2 u3 u4
  have r0 := hr 0 u0 rfl
  have r1 := hr 1 u1 rfl
  have r2 := hr 2 u2 rfl
  have r3 := hr 3 u3 rfl
  have r4 := hr 4 u4 rfl
  exact ⟨r0, r1, r2, r3, r4⟩
theorem below_over {w W : World} {b : Nat} (h : Below w.heap.size w W) (hb : w.heap.size ≤ b) (u0 u1 u2 u3 u4 : Value) :
    Below w.heap.size w (((((W.setCell ⟨b, 0, none⟩ u0).setCell ⟨b, 1, none⟩ u1).setCell ⟨b, 2, none⟩ u2).setCell ⟨b, 3, none⟩ u3).setCell ⟨b, 4, none⟩ u4) :=
  (((((h.setCell (p := ⟨b, 0, none⟩) hb _).setCell (p := ⟨b, 1, none⟩) hb _).setCell (p := ⟨b, 2, none⟩) hb _).setCell (p := ⟨b, 3, none⟩) hb _).setCell (p := ⟨b, 4, none⟩) hb _)
theorem new_free (w : World) (u0 u1 u2 u3 u4 : Value) (t : TypeId) {w' : World} (h : Below (w.alloc (.cells #[u0, u1, u2, u3, u4] t)).heap.size (w.alloc (.cells #[u0, u1, u2, u3, u4] t)) w') (o : Nat) : w'.frozen? ⟨w.heap.size, o, none⟩ = false :=
  (h.frozen (p := ⟨w.heap.size, o, none⟩) (by simp)).trans (by simp [go_sem])
/-- a cell's block of zeros -/
abbrev C0 : Go.Obj := .cells #[.string ⟨#[]⟩, .int .i64 0, .string ⟨#[]⟩, .slice none 0 0, .slice none 0 0] 25
structure ZAt (W : World) (b : Nat) : Prop where
  cell : ∀ j, j < 31 → W.cell? ⟨b, j, none⟩ = some (.int .u8 0)
structure OAt (W : World) (b i : Nat) : Prop where
  cell : W.cell? ⟨b, 0, none⟩ = some (.int .u8 (i : Int))
structure Blank (W : World) (b : Nat) : Prop where
  cell : CellAt W b (.string ⟨#[]⟩) (.int .i64 0) (.string ⟨#[]⟩) (.slice none 0 0) (.slice none 0 0)
  free : ∀ o, W.frozen? ⟨b, o, none⟩ = false
theorem ZAt.new (w : World) : ZAt (w.alloc Z31) w.heap.size := ⟨fun j hj => by simp [go_sem, hj]⟩
theorem ZAt.next {w w' : World} {b : Nat} (h : ZAt w b) (t : Below w.heap.size w w') : ZAt w' b := ⟨fun j hj => (t.cell (p := ⟨b, j, none⟩) (Oct.lt_of_cell (h.cell j hj))).trans (h.cell j hj)⟩
theorem OAt.new (w : World) (i : Nat) : OAt (w.alloc (O1 i)) w.heap.size i := ⟨by simp [go_sem]⟩
theorem OAt.next {w w' : World} {b i : Nat} (h : OAt w b i) (t : Below w.heap.size w w') : OAt w' b i := ⟨(t.cell (p := ⟨b, 0, none⟩) (Oct.lt_of_cell h.cell)).trans h.cell⟩
theorem Blank.new (w : World) : Blank (w.alloc C0) w.heap.size := ⟨CellAt.new _ _ _ _ _ _ _, fun o => by simp [go_sem]⟩
theorem Blank.next {w w' : World} {b : Nat} (h : Blank w b) (t : Below w.heap.size w w') : Blank w' b := ⟨h.cell.next t, fun o => (t.frozen (p := ⟨b, o, none⟩) h.cell.lt).trans (h.free o)⟩
theorem ZAt.conv {w : World} {b : Nat} (h : ZAt w b) : (convert 42 9 (.slice (some ⟨b, 0, none⟩) 31 31)).run Tryz.prog w.drew = .ok (.string (zs 31)) w.drew := conv_zs 31 h.cell
theorem OAt.conv {w : World} {b i : Nat} (h : OAt w b i) (hi : i < 16) : (convert 42 9 (.slice (some ⟨b, 0, none⟩) 1 1)).run Tryz.prog w.drew = .ok (.string ⟨#[UInt8.ofNat i]⟩) w.drew := conv_one i (by omega) h.cell
theorem at_Z_Z (w : World) (_i : Nat) : ZAt (w.alloc Z31) (w.heap.size) := ZAt.new w
theorem at_O_O (w : World) (i : Nat) : OAt (w.alloc (O1 i)) (w.heap.size) i := OAt.new w i
theorem at_C_C (w : World) (_i : Nat) : Blank (w.alloc C0) (w.heap.size) := Blank.new w
theorem at_ZO_Z (w : World) (i : Nat) : ZAt ((w.alloc Z31).alloc (O1 i)) (w.heap.size) := (at_Z_Z w i).next (b_alloc _ _)
theorem at_ZO_O (w : World) (i : Nat) : OAt ((w.alloc Z31).alloc (O1 i)) (w.heap.size + 1) i := by
  have h := OAt.new (w.alloc Z31) i
  simp only [World.size_alloc] at h
  exact h
theorem at_ZC_Z (w : World) (i : Nat) : ZAt ((w.alloc Z31).alloc C0) (w.heap.size) := (at_Z_Z w i).next (b_alloc _ _)
theorem at_ZC_C (w : World) (_i : Nat) : Blank ((w.alloc Z31).alloc C0) (w.heap.size + 1) := by
  have h := Blank.new (w.alloc Z31)
  simp only [World.size_alloc] at h
  exact h
theorem at_OZ_O (w : World) (i : Nat) : OAt ((w.alloc (O1 i)).alloc Z31) (w.heap.size) i := (at_O_O w i).next (b_alloc _ _)
theorem at_OZ_Z (w : World) (i : Nat) : ZAt ((w.alloc (O1 i)).alloc Z31) (w.heap.size + 1) := by
  have h := ZAt.new (w.alloc (O1 i))
  simp only [World.size_alloc] at h
  exact h
theorem at_OC_O (w : World) (i : Nat) : OAt ((w.alloc (O1 i)).alloc C0) (w.heap.size) i := (at_O_O w i).next (b_alloc _ _)
theorem at_OC_C (w : World) (i : Nat) : Blank ((w.alloc (O1 i)).alloc C0) (w.heap.size + 1) := by
  have h := Blank.new (w.alloc (O1 i))
  simp only [World.size_alloc] at h
  exact h
theorem at_CZ_C (w : World) (i : Nat) : Blank ((w.alloc C0).alloc Z31) (w.heap.size) := (at_C_C w i).next (b_alloc _ _)
theorem at_CZ_Z (w : World) (_i : Nat) : ZAt ((w.alloc C0).alloc Z31) (w.heap.size + 1) := by
  have h := ZAt.new (w.alloc C0)
  simp only [World.size_alloc] at h
  exact h
theorem at_CO_C (w : World) (i : Nat) : Blank ((w.alloc C0).alloc (O1 i)) (w.heap.size) := (at_C_C w i).next (b_alloc _ _)
theorem at_CO_O (w : World) (i : Nat) : OAt ((w.alloc C0).alloc (O1 i)) (w.heap.size + 1) i := by
  have h := OAt.new (w.alloc C0) i
  simp only [World.size_alloc] at h
  exact h
theorem at_ZOC_Z (w : World) (i : Nat) : ZAt (((w.alloc Z31).alloc (O1 i)).alloc C0) (w.heap.size) := (at_ZO_Z w i).next (b_alloc _ _)
theorem at_ZOC_O (w : World) (i : Nat) : OAt (((w.alloc Z31).alloc (O1 i)).alloc C0) (w.heap.size + 1) i := (at_ZO_O w i).next (b_alloc _ _)
theorem at_ZOC_C (w : World) (i : Nat) : Blank (((w.alloc Z31).alloc (O1 i)).alloc C0) (w.heap.size + 1 + 1) := by
  have h := Blank.new ((w.alloc Z31).alloc (O1 i))
  simp only [World.size_alloc] at h
  exact h
theorem at_ZCO_Z (w : World) (i : Nat) : ZAt (((w.alloc Z31).alloc C0).alloc (O1 i)) (w.heap.size) := (at_ZC_Z w i).next (b_alloc _ _)
theorem at_ZCO_C (w : World) (i : Nat) : Blank (((w.alloc Z31).alloc C0).alloc (O1 i)) (w.heap.size + 1) := (at_ZC_C w i).next (b_alloc _ _)
theorem at_ZCO_O (w : World) (i : Nat) : OAt (((w.alloc Z31).alloc C0).alloc (O1 i)) (w.heap.size + 1 + 1) i := by
  have h := OAt.new ((w.alloc Z31).alloc C0) i
  simp only [World.size_alloc] at h
  exact h
theorem at_OZC_O (w : World) (i : Nat) : OAt (((w.alloc (O1 i)).alloc Z31).alloc C0) (w.heap.size) i := (at_OZ_O w i).next (b_alloc _ _)
theorem at_OZC_Z (w : World) (i : Nat) : ZAt (((w.alloc (O1 i)).alloc Z31).alloc C0) (w.heap.size + 1) := (at_OZ_Z w i).next (b_alloc _ _)
theorem at_OZC_C (w : World) (i : Nat) : Blank (((w.alloc (O1 i)).alloc Z31).alloc C0) (w.heap.size + 1 + 1) := by
  have h := Blank.new ((w.alloc (O1 i)).alloc Z31)
  simp only [World.size_alloc] at h
  exact h
theorem at_OCZ_O (w : World) (i : Nat) : OAt (((w.alloc (O1 i)).alloc C0).alloc Z31) (w.heap.size) i := (at_OC_O w i).next (b_alloc _ _)
theorem at_OCZ_C (w : World) (i : Nat) : Blank (((w.alloc (O1 i)).alloc C0).alloc Z31) (w.heap.size + 1) := (at_OC_C w i).next (b_alloc _ _)
theorem at_OCZ_Z (w : World) (i : Nat) : ZAt (((w.alloc (O1 i)).alloc C0).alloc Z31) (w.heap.size + 1 + 1) := by
  have h := ZAt.new ((w.alloc (O1 i)).alloc C0)
  simp only [World.size_alloc] at h
  exact h
theorem at_CZO_C (w : World) (i : Nat) : Blank (((w.alloc C0).alloc Z31).alloc (O1 i)) (w.heap.size) := (at_CZ_C w i).next (b_alloc _ _)
theorem at_CZO_Z (w : World) (i : Nat) : ZAt (((w.alloc C0).alloc Z31).alloc (O1 i)) (w.heap.size + 1) := (at_CZ_Z w i).next (b_alloc _ _)
theorem at_CZO_O (w : World) (i : Nat) : OAt (((w.alloc C0).alloc Z31).alloc (O1 i)) (w.heap.size + 1 + 1) i := by
  have h := OAt.new ((w.alloc C0).alloc Z31) i
  simp only [World.size_alloc] at h
  exact h
theorem at_COZ_C (w : World) (i : Nat) : Blank (((w.alloc C0).alloc (O1 i)).alloc Z31) (w.heap.size) := (at_CO_C w i).next (b_alloc _ _)
theorem at_COZ_O (w : World) (i : Nat) : OAt (((w.alloc C0).alloc (O1 i)).alloc Z31) (w.heap.size + 1) i := (at_CO_O w i).next (b_alloc _ _)
theorem at_COZ_Z (w : World) (i : Nat) : ZAt (((w.alloc C0).alloc (O1 i)).alloc Z31) (w.heap.size + 1 + 1) := by
  have h := ZAt.new ((w.alloc C0).alloc (O1 i))
  simp only [World.size_alloc] at h
  exact h
theorem b_ZO (w : World) (i : Nat) : Below w.heap.size w ((w.alloc Z31).alloc (O1 i)).drew := b_then (b_then (b_alloc w Z31) (b_alloc _ (O1 i))) (b_drew _)
theorem b_OZ (w : World) (i : Nat) : Below w.heap.size w ((w.alloc (O1 i)).alloc Z31).drew := b_then (b_then (b_alloc w (O1 i)) (b_alloc _ Z31)) (b_drew _)
theorem b_ZOC (w : World) (i : Nat) : Below w.heap.size w (((w.alloc Z31).alloc (O1 i)).alloc C0).drew := b_then (b_then (b_then (b_alloc w Z31) (b_alloc _ (O1 i))) (b_alloc _ C0)) (b_drew _)
theorem b_ZCO (w : World) (i : Nat) : Below w.heap.size w (((w.alloc Z31).alloc C0).alloc (O1 i)).drew := b_then (b_then (b_then (b_alloc w Z31) (b_alloc _ C0)) (b_alloc _ (O1 i))) (b_drew _)
theorem b_OZC (w : World) (i : Nat) : Below w.heap.size w (((w.alloc (O1 i)).alloc Z31).alloc C0).drew := b_then (b_then (b_then (b_alloc w (O1 i)) (b_alloc _ Z31)) (b_alloc _ C0)) (b_drew _)
theorem b_OCZ (w : World) (i : Nat) : Below w.heap.size w (((w.alloc (O1 i)).alloc C0).alloc Z31).drew := b_then (b_then (b_then (b_alloc w (O1 i)) (b_alloc _ C0)) (b_alloc _ Z31)) (b_drew _)
theorem b_CZO (w : World) (i : Nat) : Below w.heap.size w (((w.alloc C0).alloc Z31).alloc (O1 i)).drew := b_then (b_then (b_then (b_alloc w C0) (b_alloc _ Z31)) (b_alloc _ (O1 i))) (b_drew _)
theorem b_COZ (w : World) (i : Nat) : Below w.heap.size w (((w.alloc C0).alloc (O1 i)).alloc Z31).drew := b_then (b_then (b_then (b_alloc w C0) (b_alloc _ (O1 i))) (b_alloc _ Z31)) (b_drew _)
end Go.Proofs.YtdmpkgdlelagjaaGreatDoor.Tr
