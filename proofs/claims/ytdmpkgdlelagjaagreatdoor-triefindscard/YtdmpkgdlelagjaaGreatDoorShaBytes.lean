/-
  (*sha.words).bytes: the eight words one behind the other, the highest byte of each first; nothing that was there turns. Conditions: the eight words lie there.
-/
import Derived.Test.YtdmpkgdlelagjaaGreatDoorRows
import Derived.Test.YtdmpkgdlelagjaaGreatDoorShaBuf
import Derived.WalkKit
import Derived.WalkSpells
import Derived.WalkLawsBesides
import Derived.ProofKit
import Derived.OpenShut
import Derived.Laws.BytesArg
import Derived.Deep.QuietTactic
import Derived.BigQuiet
import Derived.BigRegion
import Derived.Lib.Hide
import Derived.Lib.Builder
import Derived.Lib.UnsafeStr
import Derived.Lib.AppendStr
import Derived.Laws.Externs
import Derived.Deep.OwnRows
import Derived.Lib.SlBuf
import Derived.Lib.LazyBuf
import Derived.Deep.Cut
import Derived.Deep.MidRow
import Derived.IntWalk
import Derived.StillTailTactics
namespace Go.Proofs.YtdmpkgdlelagjaaGreatDoor.Sha
open Go.RowKit
theorem byte_of (x : UInt32) (k : Nat) (h : k < 32) (M : Int) (hM : M = 2 ^ k) : u x / M % 256 = ((x >>> (UInt32.ofNat k)).toUInt8.toNat : Int) := by
  rw [hM, u_shr x k h]; simp [u]
theorem byte_24 (x : UInt32) : u x / (16777216 : Int) % (256 : Int) = ((x >>> 24).toUInt8.toNat : Int) := byte_of x 24 (by decide) _ (by decide)
theorem byte_16 (x : UInt32) : u x / (65536 : Int) % (256 : Int) = ((x >>> 16).toUInt8.toNat : Int) := byte_of x 16 (by decide) _ (by decide)
theorem byte_8 (x : UInt32) : u x / (256 : Int) % (256 : Int) = ((x >>> 8).toUInt8.toNat : Int) := byte_of x 8 (by decide) _ (by decide)
theorem byte_0 (x : UInt32) : u x % (256 : Int) = (x.toUInt8.toNat : Int) := by simp [u]
/-- the bytes of the first k words -/
def bytesTo (v : V) : Nat → List UInt8
  | 0 => []
  | k + 1 => bytesTo v k ++ bytes4 (v.at k)
theorem bytesTo_length (v : V) : ∀ k, (bytesTo v k).length = 4 * k
  | 0 => rfl
  | k + 1 => by simp [bytesTo, bytesTo_length v k, bytes4]; omega
theorem bytesTo_all (v : V) : bytesTo v 8 = v.bytes := by simp [bytesTo, V.bytes, V.at]
theorem builderAt_alloc {T e : TypeId} {B b : Nat} {p : Value} {bs : List Value} {w : World} (h : Lib.BuilderAt T e B b p bs w) (o : Obj) : Lib.BuilderAt T e B b p bs (w.alloc o) := by
  obtain ⟨hB, v, hb, hown, hne⟩ := h
  have hlt : b < w.heap.size := by
    rcases Nat.lt_or_ge b w.heap.size with h' | h'
    · exact h'
    · simp [Array.getElem?_eq_none h'] at hb
  exact ⟨hB, v, (Lib.alloc_old w o b hlt).trans hb, hown.alloc o, hne⟩
theorem builder_alloc {T e : TypeId} {B b : Nat} {bs : List Value} {w : World} (h : Lib.IsBuilder T e B b bs w) (o : Obj) : Lib.IsBuilder T e B b bs (w.alloc o) :=
  h.elim (fun x => Or.inl (builderAt_alloc x o)) (fun x => Or.inr (builderAt_alloc x o))
attribute [local irreducible] bytesTo
set_option maxRecDepth 100000 in
set_option maxHeartbeats 1000000 in
theorem bytes_calls (b : Nat) (v : V) (w : World) (h : ∀ i, i < 8 → w.cell? ⟨b, i, none⟩ = some (.int .u32 (u (v.at i)))) :
    Calls Tryz.prog 85 #[.pointer (some ⟨b, 0, none⟩)] w fun e w' => e = .returned (.string ⟨v.bytes.toArray⟩) ∧ Below w.heap.size w w' := by
  have hb : b < w.heap.size := lt_of_cell (h 0 (by decide))
  replace h := Lib.hid h
  go_enter Tryz.func85, Tryz.ntmps85
  go_wp2
  go_loopw [7] (fun i wr => ∃ k : Nat, k ≤ 8 ∧ i = .int .i64 k ∧ Lib.IsBuilder 73 5 w.heap.size w.heap.size (Lib.byteCells (bytesTo v k)) wr ∧ (0 < k → Lib.BuilderAt 73 5 w.heap.size w.heap.size (.pointer (some ⟨w.heap.size, 0, none⟩)) (Lib.byteCells (bytesTo v k)) wr) ∧ Below w.heap.size w wr ∧ w.heap.size < wr.heap.size) (fun i _ => 8 - (intOf i).toNat)
  case atStart =>
    refine ⟨0, by omega, rfl, Or.inl ?_, fun h => absurd h (Nat.lt_irrefl 0), (Below.refl _ _).alloc (Nat.le_refl _) _, by simp⟩
    have e0 : bytesTo v 0 = [] := by unfold bytesTo; rfl
    rw [e0]
    exact ⟨Nat.le_refl _, .slice none 0 0, (show _ = _ by show (w.heap.push _)[w.heap.size]? = _; simp), World.ownsRow_nil _ _ _ _, fun h => by cases h⟩
  case round =>
    obtain ⟨k, hk, rfl, hI, hU, hB, hs⟩ := hrel
    by_cases hlt : k < 8
    · have c0 : wr.cell? ⟨b, k, none⟩ = some (.int .u32 (u (v.at k))) := (hB.cell (p := ⟨b, k, none⟩) hb).trans (h.out k hlt)
      have ik : (k : Int) < 8 := by omega
      have jk : 0 ≤ (k : Int) := by omega
      generalize hx : v.at k = x at *
      have e24 := Lib.hid (byte_24 x)
      have e16 := Lib.hid (byte_16 x)
      have e8 := Lib.hid (byte_8 x)
      have e0 := Lib.hid (byte_0 x)
      have hnx := Lib.hid (show bytesTo v (k + 1) = bytesTo v k ++ bytes4 x by rw [← hx, bytesTo])
      clear hx
      go_wp2_with fail
      rw [e24.out, e16.out, e8.out, e0.out]
      have hlen := bytesTo_length v k
      have hI2 := builder_alloc hI (.cells #[.int .u8 ((x >>> 24).toUInt8.toNat : Int), .int .u8 ((x >>> 16).toUInt8.toNat : Int), .int .u8 ((x >>> 8).toUInt8.toNat : Int), .int .u8 (x.toUInt8.toNat : Int)] 5)
      refine (Write_calls w.heap.size w.heap.size _ ⟨wr.heap.size, 0, none⟩ 4 4 (Lib.byteCells (bytes4 x)) _ hI2 rfl ?_ (by show wr.heap.size ≠ w.heap.size; omega) ?_ ?_ ?_).mono ?_
      · intro j u hj
        match j, hj with
        | 0, hj => simp [Lib.byteCells, bytes4] at hj; subst hj; simp [Addr.add]
        | 1, hj => simp [Lib.byteCells, bytes4] at hj; subst hj; simp [Addr.add]
        | 2, hj => simp [Lib.byteCells, bytes4] at hj; subst hj; simp [Addr.add]
        | 3, hj => simp [Lib.byteCells, bytes4] at hj; subst hj; simp [Addr.add]
        | j + 4, hj => simp [Lib.byteCells, bytes4] at hj
      · intro u hu
        obtain ⟨c, _, rfl⟩ := List.mem_map.1 hu
        rfl
      · rw [Lib.byteCells_length, hlen]; omega
      · simp; omega
      · rintro e w5 ⟨rfl, hA, hB5⟩
        have hB6 : Below w.heap.size w w5 := (hB.alloc (Nat.le_of_lt hs) _).trans hB5
        have hs6 : w.heap.size < w5.heap.size := by have := hB5.size; simp at this; omega
        have eA : Lib.byteCells (bytesTo v k) ++ Lib.byteCells (bytes4 x) = Lib.byteCells (bytesTo v (k + 1)) := by rw [hnx.out]; simp [Lib.byteCells]
        rw [eA] at hA
        replace hA := Lib.hid hA
        clear hI hI2 hU hB hB5 eA hlen c0
        go_wp2_with fail
        go_roundw
        case rel => exact ⟨k + 1, by omega, by go_num, Or.inr hA.out, fun _ => hA.out, hB6, hs6⟩
        case measure => simp [intOf]; omega
    · have hd : decide ((k : Int) < 8) = false := decide_eq_false (by omega)
      have h8 : bytesTo v k = v.bytes := by rw [show k = 8 by omega]; exact bytesTo_all v
      have hA := hU (by omega)
      rw [h8] at hA
      replace hA := Lib.hid hA
      clear hI hU h8
      go_wp2_with fail
      refine (String_calls w.heap.size w.heap.size v.bytes wr hA.out (by simp [V.bytes, bytes4])).mono ?_
      rintro e w5 ⟨rfl, hB5⟩
      go_wp2
      go_ret
      exact ⟨rfl, hB.trans hB5⟩
end Go.Proofs.YtdmpkgdlelagjaaGreatDoor.Sha
