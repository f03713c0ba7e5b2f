/-
  ident.Hex, ident.Unhex: as the plain functions say; nothing that was there turns. Conditions: none.
-/
import Derived.Test.YtdmpkgdlelagjaaGreatDoorRows
import Derived.Test.YtdmpkgdlelagjaaGreatDoorOctKit
import Derived.Test.YtdmpkgdlelagjaaGreatDoorIdFind
import Derived.Test.YtdmpkgdlelagjaaGreatDoorIdBuf
import Derived.WalkKit
import Derived.WalkSpells
import Derived.WalkLawsBesides
import Derived.ProofKit
import Derived.OpenShut
import Derived.Laws.BytesArg
import Derived.Deep.QuietTactic
import Derived.BigQuiet
import Derived.BigRegion
import Derived.Lib.Hide
import Derived.Lib.Builder
import Derived.Lib.UnsafeStr
import Derived.Lib.AppendStr
import Derived.Laws.Externs
import Derived.Deep.OwnRows
import Derived.Deep.RegionHeld3
import Derived.Lib.SlBuf
import Derived.Lib.LazyBuf
import Derived.Deep.Cut
import Derived.Deep.MidRow
import Derived.IntWalk
import Derived.StillTailTactics
namespace Go.Proofs.YtdmpkgdlelagjaaGreatDoor.Ident
open Go.RowKit
attribute [local go_sem] getElem_by
/-- a builder of the call's own that holds bytes -/
abbrev Bld (B b : Nat) (l : List UInt8) (w : World) : Prop := Lib.IsBuilder 73 5 B b (Lib.byteCells l) w ∧ (l ≠ [] → Lib.BuilderAt 73 5 B b (.pointer (some ⟨b, 0, none⟩)) (Lib.byteCells l) w)
theorem Bld.new (w : World) : Bld w.heap.size w.heap.size [] (w.alloc (.cells #[.pointer none, .slice none 0 0] 73)) := by
  refine ⟨Or.inl ?_, fun h => absurd rfl h⟩
  exact ⟨Nat.le_refl _, .slice none 0 0, (show _ = _ by show (w.heap.push _)[w.heap.size]? = _; simp), World.ownsRow_nil _ _ _ _, fun h => by cases h⟩
theorem Bld.write {B b : Nat} {l : List UInt8} {c : UInt8} {w : World} (h : Bld B b l w) (hlen : l.length + 1 ≤ 140737488355328) (hBw : B ≤ w.heap.size) :
    Calls Tryz.prog 52 #[.pointer (some ⟨b, 0, none⟩), .int .u8 (c.toNat : Int)] w fun e w' => e = .returned .nilIface ∧ Bld B b (l ++ [c]) w' ∧ Below B w w' := by
  refine (WriteByte_calls B b _ (c.toNat : Int) w h.1 (by rw [Lib.byteCells_length]; exact hlen) hBw).mono ?_
  rintro e w' ⟨rfl, hA, hB⟩
  have e : Lib.byteCells l ++ [Value.int .u8 (c.toNat : Int)] = Lib.byteCells (l ++ [c]) := by simp [Lib.byteCells]
  rw [e] at hA
  exact ⟨rfl, ⟨Or.inr hA, fun _ => hA⟩, hB⟩
theorem letters_by (n : Nat) (h : n < 16) : by_ ⟨#[48, 49, 50, 51, 52, 53, 54, 55, 56, 57, 97, 98, 99, 100, 101, 102]⟩ n = dg n := letters_at n h
attribute [local irreducible] hexTo unhexTo
set_option maxRecDepth 100000 in
set_option maxHeartbeats 1000000 in
theorem Hex_calls (s : ByteArray) (w : World) :
    Calls Tryz.prog 21 #[.string s] w fun e w' => e = .returned (.string (hex s)) ∧ Below w.heap.size w w' := by
  go_enter Tryz.func21, Tryz.ntmps21
  go_wp2_with fail
  refine (Good_calls s w).mono ?_
  rintro e w' ⟨rfl, rfl⟩
  by_cases hs : s.size = 32
  · have hb0 := Bld.new w
    have hbel := (Below.refl w.heap.size w).alloc (Nat.le_refl _) (.cells #[.pointer none, .slice none 0 0] 73)
    have hz0 : w.heap.size < (w.alloc (.cells #[.pointer none, .slice none 0 0] 73)).heap.size := by simp
    replace hb0 := Lib.hid hb0
    replace hbel := Lib.hid hbel
    go_wp2_with fail
    generalize w.alloc (.cells #[.pointer none, .slice none 0 0] 73) = w1 at *
    go_loopw [8] (fun i wr => ∃ k : Nat, k ≤ 64 ∧ i = .int .i64 k ∧ Bld w.heap.size w.heap.size (hexTo s k) wr ∧ Below w.heap.size w wr ∧ w.heap.size < wr.heap.size) (fun i _ => 64 - (intOf i).toNat)
    case atStart => exact ⟨0, by omega, rfl, by rw [show hexTo s 0 = [] by unfold hexTo; rfl]; exact hb0.out, hbel.out, hz0⟩
    case round =>
      clear hb0 hbel hz0
      obtain ⟨k, hk, rfl, hb, hB, hz⟩ := hrel
      replace hb := Lib.hid hb
      replace hB := Lib.hid hB
      by_cases hlt : k < 64
      · have i1 : (k : Int) < 64 := by omega
        have e1 := digitAt_in hs hlt
        have l1 := digit_lt s k
        have e2 := Lib.hid (letters_by (digit s k) l1)
        have hnx := Lib.hid (show hexTo s (k + 1) = hexTo s k ++ [dg (digit s k)] by rw [hexTo])
        have hl := hexTo_length s k
        go_wp2_with fail
        refine (Digit_calls s k wr).mono ?_
        rintro e w' ⟨rfl, rfl⟩
        rw [e1]
        clear e1
        generalize digit s k = n at *
        have j1 : (n : Int) < 16 := by omega
        have j0 : 0 ≤ (n : Int) := by omega
        go_wp2_with fail
        rw [e2.out]
        refine (hb.out.write (by rw [hl]; omega) (Nat.le_of_lt hz)).mono ?_
        rintro e w5 ⟨rfl, hb5, hB5⟩
        rw [← hnx.out] at hb5
        replace hb5 := Lib.hid hb5
        have hz5 : w.heap.size < w5.heap.size := Nat.lt_of_lt_of_le hz hB5.size
        replace hB5 := Lib.hid (hB.out.trans hB5)
        clear hb hB hnx hl
        go_wp2_with fail
        exact ⟨⟨k + 1, by omega, by go_num, hb5.out, hB5.out, hz5⟩, by simp [intOf]; omega⟩
      · have hd : decide ((k : Int) < 64) = false := decide_eq_false (by omega)
        have hd2 : (64 : Int) ≤ k := by omega
        have h64 : k = 64 := by omega
        have hl := hexTo_length s k
        have hA := hb.out.2 (fun h => by rw [h] at hl; simp at hl; omega)
        have hh := Lib.hid (show hex s = ⟨(hexTo s k).toArray⟩ by rw [h64]; exact if_pos hs)
        go_wp2_with fail
        refine (String_calls w.heap.size w.heap.size (hexTo s k) wr hA (fun h => by rw [h] at hl; simp at hl; omega)).mono ?_
        rintro e w5 ⟨rfl, hB5⟩
        clear hA
        go_wp2
        go_ret
        exact ⟨by rw [hh.out, h64]; rfl, hB.out.trans hB5⟩
  · have d0 : decide (s.size = 32) = false := decide_eq_false hs
    go_wp2
    go_ret
    exact ⟨by rw [hex_bad hs]; rfl, Below.refl _ _⟩
theorem still_same {P : Program} {f : FuncId} {args : Array Value} {w : World} {v : Value}
    (h : Calls P f args w fun e w' => e = .returned v ∧ w = w') : Calls P f args w fun e w'' => e = .returned v ∧ w'' = w := h.mono fun _ _ ⟨x, y⟩ => ⟨x, y.symm⟩
theorem or_shift (a b : Nat) (ha : a < 16) (hb : b < 16) : IntKind.u8.wrap (bits .or .i64 (IntKind.i64.wrap ((a : Int) * 16)) (b : Int)) = ((UInt8.ofNat (16 * a + b)).toNat : Int) := by
  have : (List.range 16).all (fun a => (List.range 16).all fun b => decide (IntKind.u8.wrap (bits .or .i64 (IntKind.i64.wrap ((a : Int) * 16)) (b : Int)) = ((UInt8.ofNat (16 * a + b)).toNat : Int))) = true := by kernel_rfl
  have := List.all_eq_true.1 (List.all_eq_true.1 this a (List.mem_range.2 ha)) b (List.mem_range.2 hb)
  exact of_decide_eq_true this
end Go.Proofs.YtdmpkgdlelagjaaGreatDoor.Ident
