/-
  Three bytes by value and 29 zero bytes, as the digits that begin a prefix. Conditions: none.
-/
import Derived.Test.YtdmpkgdlelagjaaGreatDoorRows
import Derived.Test.YtdmpkgdlelagjaaGreatDoorTrHex
import Derived.Test.YtdmpkgdlelagjaaGreatDoorTrAwk
import Derived.Test.YtdmpkgdlelagjaaGreatDoorIdOpen
namespace Go.Proofs.YtdmpkgdlelagjaaGreatDoor.Tr
open Go Go.RowKit Go.ChangeShapes Go.WideShapes Go.ChangeAt
open Ident (by_ val dg digit has digits hex byte_of_wf)
open Sh (b_alloc b_drew b_drewN b_next b_then Rises)

theorem open_three {H : Type} {enc : TypeId × Value → H} {P : Program} {w : World} {base b0 : Nat} {spare : Nat → Bool} {held : Bool} {r : Reach} {t e : TypeId} {v : Value} {d : DataW H} {p : List MemPlace}
    (ht : P.underlying t = some (.array 3 e)) (he : P.underlying e = some (.int .u8)) (hC : P.cellsOf t = 3) (hE : P.cellsOf e = 1)
    (ok : Value.okWide P w r b0 t v) (h : DataW.Trod enc P w base spare held t v d p) : ∃ x y z : UInt8, v = .agg #[.int .u8 (x.toNat : Int), .int .u8 (y.toNat : Int), .int .u8 (z.toNat : Int)] := by
  simp only [Value.okWide, ht] at ok
  obtain ⟨cs, rfl, h2, _⟩ := ok
  rw [hC] at h2
  obtain ⟨fuel, hf⟩ := h
  obtain ⟨xs, m, _, _, _, hlen, hx⟩ := DataW.trod_array ht hf
  have hel : ∀ i, i < 3 → ∃ c : UInt8, cs[i]? = some (.int .u8 (c.toNat : Int)) := fun i hi => by
    have a := hx i hi
    rw [List.getElem?_eq_getElem (by omega), hE, Nat.mul_one] at a
    obtain ⟨n, g, _, wf⟩ := DataW.trod_int he a
    obtain ⟨c, rfl⟩ := byte_of_wf wf
    refine ⟨c, ?_⟩
    have := congrArg List.head? g
    rw [List.head?_take, if_neg (by decide), List.head?_drop] at this
    simpa [Value.cells] using this
  obtain ⟨x, hx0⟩ := hel 0 (by decide)
  obtain ⟨y, hy0⟩ := hel 1 (by decide)
  obtain ⟨z, hz0⟩ := hel 2 (by decide)
  refine ⟨x, y, z, ?_⟩
  congr 1
  apply Array.ext_getElem?
  intro i
  match i with
  | 0 => exact hx0
  | 1 => exact hy0
  | 2 => exact hz0
  | i + 3 => rw [Array.getElem?_eq_none (by omega)]; simp
/-- three bytes in memory -/
structure ThreeAt (w : World) (b : Nat) (x y z : UInt8) : Prop where
  c0 : w.cell? ⟨b, 0, none⟩ = some (.int .u8 (x.toNat : Int))
  c1 : w.cell? ⟨b, 1, none⟩ = some (.int .u8 (y.toNat : Int))
  c2 : w.cell? ⟨b, 2, none⟩ = some (.int .u8 (z.toNat : Int))
theorem ThreeAt.new (w : World) (x y z : UInt8) (t : TypeId) : ThreeAt (w.alloc (.cells #[.int .u8 (x.toNat : Int), .int .u8 (y.toNat : Int), .int .u8 (z.toNat : Int)] t)) w.heap.size x y z := by
  constructor <;> simp [go_sem]
theorem ThreeAt.lt {w : World} {b : Nat} {x y z : UInt8} (h : ThreeAt w b x y z) : b < w.heap.size := Oct.lt_of_cell h.c0
theorem ThreeAt.next {w w' : World} {b : Nat} {x y z : UInt8} (h : ThreeAt w b x y z) (t : Below w.heap.size w w') : ThreeAt w' b x y z :=
  ⟨(t.cell (p := ⟨b, 0, none⟩) h.lt).trans h.c0, (t.cell (p := ⟨b, 1, none⟩) h.lt).trans h.c1, (t.cell (p := ⟨b, 2, none⟩) h.lt).trans h.c2⟩
/-- the text of three bytes -/
def th (x y z : UInt8) : ByteArray := ⟨#[x, y, z]⟩
theorem ThreeAt.conv {w : World} {b : Nat} {x y z : UInt8} (h : ThreeAt w b x y z) : (convert 42 9 (.slice (some ⟨b, 0, none⟩) 3 3)).run Tryz.prog w = .ok (.string (th x y z)) w :=
  conv_list [x, y, z] 3 3 rfl fun j u hu => by
    match j, hu with
    | 0, hu => simp only [List.getElem?_cons_zero, Option.some.injEq] at hu; subst hu; exact h.c0
    | 1, hu => simp only [List.getElem?_cons_succ, List.getElem?_cons_zero, Option.some.injEq] at hu; subst hu; exact h.c1
    | 2, hu => simp only [List.getElem?_cons_succ, List.getElem?_cons_zero, Option.some.injEq] at hu; subst hu; exact h.c2
    | j + 3, hu => simp at hu
theorem three_size (x y z : UInt8) : (th x y z ++ zs 29).size = 32 := by rw [ByteArray.size_append, zs_size]; rfl
theorem zs_conv (w : World) (n : Nat) : (convert 42 9 (.slice (some ⟨w.heap.size, 0, none⟩) n n)).run Tryz.prog (w.alloc (.cells (Array.replicate n (.int .u8 0)) 5)).drew = .ok (.string (zs n)) (w.alloc (.cells (Array.replicate n (.int .u8 0)) 5)).drew :=
  conv_zs n fun j hj => by
    show (w.alloc _).cell? ⟨w.heap.size, j, none⟩ = _
    simp [go_sem, hj]
end Go.Proofs.YtdmpkgdlelagjaaGreatDoor.Tr
