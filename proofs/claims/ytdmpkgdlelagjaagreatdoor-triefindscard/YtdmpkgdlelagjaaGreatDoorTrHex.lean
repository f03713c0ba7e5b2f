/-
  Zero bytes made and written as digits: the last digit of such, a prefix made of three bytes. Conditions: none.
-/
import Derived.Test.YtdmpkgdlelagjaaGreatDoorRows
import Derived.Test.YtdmpkgdlelagjaaGreatDoorTrAwake
import Derived.Test.YtdmpkgdlelagjaaGreatDoorIdHex
import Derived.Laws.MakeOwn
namespace Go.Proofs.YtdmpkgdlelagjaaGreatDoor.Tr
open Go Go.RowKit
open Ident (by_ val dg digit has digits hex)
open Sh (b_alloc b_drew b_drewN b_next b_then Rises)

/-- so many zero bytes -/
def zs (n : Nat) : ByteArray := ⟨(List.replicate n (0 : UInt8)).toArray⟩
theorem zs_size (n : Nat) : (zs n).size = n := by unfold zs; rw [ByteArray.size]; simp
theorem info8 : (Tryz.prog.info? 5).map (fun i => (i.zero, i.size, i.bytes)) = some (some (.int .u8 0), 1, 1) := by kernel_rfl
theorem made_zs (n : Nat) : madeCells (Value.int .u8 0).cells (n * 1) = Array.replicate n (.int .u8 0) := by
  apply Array.ext_getElem?
  intro i
  have hs : (madeCells (Value.int .u8 0).cells (n * 1)).size = n * 1 := size_madeCells _ _
  rcases Nat.lt_or_ge i n with g | g
  · rw [Array.getElem?_eq_getElem (by omega), Array.getElem?_eq_getElem (by simpa using g)]
    simp [madeCells, Value.cells, Nat.mod_one]
  · rw [Array.getElem?_eq_none (by omega), Array.getElem?_eq_none (by simpa using g)]
theorem make_zs (n : Nat) (l : Int) (hl : l = n) (hn : n ≤ 64) (w : World) : (Instr.makeSlice 42 (.int .i64 l) (.int .i64 l)).run Tryz.prog w = .ok (.slice (some ⟨w.heap.size, 0, none⟩) n n) (w.alloc (.cells (Array.replicate n (.int .u8 0)) 5)) := by
  subst hl
  obtain ⟨i0, hi, hz0, hz1, hz2⟩ := info_parts info8
  have := run_makeSlice (P := Tryz.prog) w 42 5 i0 (.int .u8 0) Tryz.underlying42 hi hz0 .i64 .i64 n n (by omega) (by omega) (by rw [hz1]; simp; omega) (by rw [hz2]; omega) (by omega)
  rw [hz1] at this
  simp only [Int.toNat_natCast] at this
  rw [made_zs] at this
  exact this
/-- bytes in memory as a text -/
theorem conv_list {w : World} {b o : Nat} (l : List UInt8) (n cap : Nat) (hn : l.length = n) (h : ∀ j x, l[j]? = some x → w.cell? ⟨b, o + j, none⟩ = some (.int .u8 (x.toNat : Int))) :
    (convert 42 9 (.slice (some ⟨b, o, none⟩) n cap)).run Tryz.prog w = .ok (.string ⟨l.toArray⟩) w := by
  subst hn
  exact run_convert_bytes_back (P := Tryz.prog) w 42 9 5 ⟨b, o, none⟩ cap l Tryz.underlying42 Tryz.underlying5 Tryz.underlying9 (fun j hj => by
    rw [Addr.add_mid, h j _ (List.getElem?_eq_getElem hj)])
theorem conv_zs {w : World} {b : Nat} (n : Nat) (h : ∀ j, j < n → w.cell? ⟨b, j, none⟩ = some (.int .u8 0)) : (convert 42 9 (.slice (some ⟨b, 0, none⟩) n n)).run Tryz.prog w = .ok (.string (zs n)) w :=
  conv_list (List.replicate n 0) n n (by simp) fun j x hx => by
    have hj : j < n := by have := (List.getElem?_eq_some_iff.1 hx).1; simpa using this
    rw [List.getElem?_replicate_of_lt hj] at hx
    simp only [Option.some.injEq] at hx
    subst hx
    rw [Nat.zero_add]; exact h j hj
theorem conv_one {w : World} {b : Nat} (i : Nat) (hi : i < 256) (h : w.cell? ⟨b, 0, none⟩ = some (.int .u8 (i : Int))) : (convert 42 9 (.slice (some ⟨b, 0, none⟩) 1 1)).run Tryz.prog w = .ok (.string ⟨#[UInt8.ofNat i]⟩) w :=
  conv_list [UInt8.ofNat i] 1 1 rfl fun j x hx => by
    match j, hx with
    | 0, hx =>
      simp only [List.getElem?_cons_zero, Option.some.injEq] at hx
      subst hx
      have e : (UInt8.ofNat i).toNat = i := by rw [UInt8.toNat_ofNat']; omega
      rw [e]; exact h
    | j + 1, hx => simp at hx
/-- the digits of 31 zero bytes and one -/
theorem tail_size (i : Nat) : (zs 31 ++ (⟨#[UInt8.ofNat i]⟩ : ByteArray)).size = 32 := by rw [ByteArray.size_append, zs_size]; rfl
theorem tail_digit (i : Nat) (hi : i < 16) : (hex (zs 31 ++ (⟨#[UInt8.ofNat i]⟩ : ByteArray))).extract 63 64 = ⟨#[dg i]⟩ := by
  have : (List.range 16).all (fun i => decide ((hex (zs 31 ++ (⟨#[UInt8.ofNat i]⟩ : ByteArray))).extract 63 64 = ⟨#[dg i]⟩)) = true := by kernel_rfl
  have := List.all_eq_true.1 this i (List.mem_range.2 hi)
  exact of_decide_eq_true this
/-- digits of an id are a prefix -/
theorem hex_pre {s : ByteArray} (hs : s.size = 32) (k : Nat) (hk : k ≤ 64) : IsPre ((hex s).extract 0 k) := by
  have hz := Ident.size_extract (hex s) k (by rw [Ident.hex_size hs]; exact hk)
  refine ⟨by omega, fun j hj => ?_⟩
  rw [hz] at hj
  rw [Ident.by_extract _ _ _ hj]
  exact Ident.hex_digits hs j (by rw [Ident.hex_size hs]; omega)
end Go.Proofs.YtdmpkgdlelagjaaGreatDoor.Tr
