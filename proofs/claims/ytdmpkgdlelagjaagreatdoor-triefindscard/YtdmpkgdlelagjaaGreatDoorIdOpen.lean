/-
  Arguments of 32 bytes by value, and lists of such, opened: the bytes as functions of the place. Of no layer. Conditions: none.
-/
import Derived.Test.YtdmpkgdlelagjaaGreatDoorRows
import Derived.Test.YtdmpkgdlelagjaaGreatDoorOctKit
import Derived.ProofKit
import Derived.OpenShut
import Derived.SizedLaws
import Derived.Carry
import Derived.WalkKit
import Derived.Deep.Draws
import Derived.Deep.Slices
import Derived.Deep.SlicePairs
namespace Go.Proofs.YtdmpkgdlelagjaaGreatDoor.Ident
open Go Go.RowKit Go.WideShapes Go.ChangeShapes
/-- the cells of an array of 32 bytes -/
structure ArrV (cs : Array Value) (f : Nat → UInt8) : Prop where
  size : cs.size = 32
  cell : ∀ i, i < 32 → cs[i]? = some (.int .u8 ((f i).toNat : Int))
theorem byte_of_wf {n : Int} (h : (Lit.int .u8 n).wf = true) : ∃ c : UInt8, n = (c.toNat : Int) := by
  have b := bounds_u8 h
  refine ⟨UInt8.ofNat n.toNat, ?_⟩
  rw [UInt8.toNat_ofNat']
  omega
theorem arr_cells {H : Type} {enc : TypeId × Value → H} {P : Program} {w : World} {base fuel : Nat} {spare : Nat → Bool} {held : Bool} {t e : TypeId} {cs : List Value} {x : DataW H × List MemPlace}
    (ht : P.underlying t = some (.array 32 e)) (he : P.underlying e = some (.int .u8)) (hE : P.cellsOf e = 1) (h : DataW.trod enc P w base spare held fuel t cs = some x) :
    ∃ f : Nat → UInt8, ∀ i, i < 32 → cs[i]? = some (.int .u8 ((f i).toNat : Int)) := by
  obtain ⟨xs, m, _, _, _, hlen, hx⟩ := DataW.trod_array ht h
  refine Deep.choose_lt (p := fun i c => cs[i]? = some (.int .u8 ((c : UInt8).toNat : Int))) fun i hi => ?_
  have a := hx i hi
  rw [List.getElem?_eq_getElem (by omega), hE, Nat.mul_one] at a
  obtain ⟨n, g, _, wf⟩ := DataW.trod_int he a
  obtain ⟨c, rfl⟩ := byte_of_wf wf
  refine ⟨c, ?_⟩
  have := congrArg List.head? g
  rw [List.head?_take, if_neg (by decide), List.head?_drop] at this
  exact this
theorem open_arr {H : Type} {enc : TypeId × Value → H} {P : Program} {w : World} {base b0 : Nat} {spare : Nat → Bool} {held : Bool} {r : Reach} {t e : TypeId} {v : Value} {d : DataW H} {p : List MemPlace}
    (ht : P.underlying t = some (.array 32 e)) (he : P.underlying e = some (.int .u8)) (hC : P.cellsOf t = 32) (hE : P.cellsOf e = 1)
    (ok : Value.okWide P w r b0 t v) (h : DataW.Trod enc P w base spare held t v d p) : ∃ cs f, v = .agg cs ∧ ArrV cs f := by
  simp only [Value.okWide, ht] at ok
  obtain ⟨cs, rfl, h2, _⟩ := ok
  rw [hC] at h2
  obtain ⟨fuel, hf⟩ := h
  obtain ⟨f, hf⟩ := arr_cells ht he hE hf
  exact ⟨cs, f, rfl, h2, fun i hi => by
    have := hf i hi
    simp only [Value.cells, Array.getElem?_toList] at this
    exact this⟩
/-- the rows of 32 bytes of a list that came in -/
structure RowsAt (w : World) (a : Option Addr) (b off len : Nat) (F : Nat → Nat → UInt8) : Prop where
  addr : 0 < len → a = some ⟨b, off, none⟩
  cell : ∀ i, i < len → ∀ j, j < 32 → w.cell? ⟨b, off + (i * 32 + j), none⟩ = some (.int .u8 ((F i j).toNat : Int))
theorem open_rows {H : Type} {enc : TypeId × Value → H} {P : Program} {w : World} {base b0 : Nat} {held : Bool} {r : Reach} {t e u : TypeId} {v : Value} {d : DataW H} {p : List MemPlace}
    (ht : P.underlying t = some (.slice e)) (he : P.underlying e = some (.array 32 u)) (hu : P.underlying u = some (.int .u8)) (hC : P.cellsOf e = 32) (hE : P.cellsOf u = 1) (hb : 0 < P.bytesOf e)
    (ok : Value.okWide P w r b0 t v) (h : DataW.Trod enc P w base (fun _ => true) held t v d p) (hw : ∀ n ∈ d.weights P t, n ≤ reachBytes) :
    ∃ (a : Option Addr) (len cap b off : Nat) (F : Nat → Nat → UInt8), v = .slice a len cap ∧ RowsAt w a b off len F ∧ len ≤ 140737488351232 := by
  obtain ⟨a, len, cap, rfl⟩ := okWide_slice ht ok
  obtain ⟨fuel, hf⟩ := h
  rcases Deep.open_slice ht hf with ⟨hcs, _⟩ | ⟨x, l, c, m, n, D, Pl, hcs, _, hl, hm, hmm, hx, hcell⟩
  · simp [Value.cells] at hcs
    obtain ⟨rfl, rfl, rfl⟩ := hcs
    exact ⟨_, _, _, 0, 0, fun _ _ => 0, rfl, ⟨fun g => by omega, fun i hi => by omega⟩, by omega⟩
  · simp [Value.cells] at hcs
    obtain ⟨rfl, rfl, rfl⟩ := hcs
    simp only [if_true] at hmm
    subst hmm
    simp only [Prod.mk.injEq] at hx
    obtain ⟨rfl, _⟩ := hx
    have hle : m ≤ reachBytes := by
      have g := hw (((List.range len).map D).length * P.bytesOf e + ((List.range (m - len)).map fun j => D (len + j)).length * P.bytesOf e) (by simp [DataW.weights, ht, Nat.add_mul])
      simp only [List.length_map, List.length_range, ← Nat.add_mul] at g
      have : m ≤ m * P.bytesOf e := Nat.le_mul_of_pos_right _ hb
      have e2 : len + (m - len) = m := by omega
      rw [e2] at g
      omega
    simp only [reachBytes] at hle
    have each : ∀ i, i < m → ∃ f : Nat → UInt8, ∀ j, j < 32 → w.cell? (x.add (i * 32 + j)) = some (.int .u8 ((f j).toNat : Int)) := fun i hi => by
      obtain ⟨cs', hc, ht'⟩ := hcell i hi
      obtain ⟨f, hf⟩ := arr_cells he hu hE ht'
      refine ⟨f, fun j hj => ?_⟩
      rw [hC] at hc
      obtain ⟨_, hlen, hcl⟩ := World.cells?_some hc
      have e0 := hcl j hj
      rw [Deep.add_add] at e0
      rw [e0]
      exact hf j hj
    obtain ⟨F, hF⟩ := Deep.choose_lt each
    by_cases hp : 0 < m
    · obtain ⟨b, off, spot⟩ := x
      have hspot : spot = none := by simpa [Addr.add] using World.cell?_spot (hF 0 hp 0 (by omega))
      subst hspot
      refine ⟨_, _, _, b, off, F, rfl, ⟨fun _ => rfl, fun i hi j hj => ?_⟩, by omega⟩
      rw [← add_plain]; exact hF i (by omega) j hj
    · exact ⟨_, _, _, 0, 0, F, rfl, ⟨fun g => by omega, fun i hi => by omega⟩, by omega⟩
end Go.Proofs.YtdmpkgdlelagjaaGreatDoor.Ident
