/-
  ident.Hex, ident.Unhex: as the plain functions say; nothing that was there turns. Conditions: none.
-/
import Derived.Test.YtopahoilbgmobaaRows
import Derived.Test.YtopahoilbgmobaaOctKit
import Derived.Test.YtopahoilbgmobaaIdFind
import Derived.Test.YtopahoilbgmobaaIdBuf
import Derived.WalkKit
import Derived.WalkSpells
import Derived.WalkLawsBesides
import Derived.ProofKit
import Derived.OpenShut
import Derived.Laws.BytesArg
import Derived.Deep.QuietTactic
import Derived.BigQuiet
import Derived.BigRegion
import Derived.Lib.Hide
import Derived.Lib.Builder
import Derived.Lib.UnsafeStr
import Derived.Lib.AppendStr
import Derived.Laws.Externs
import Derived.Deep.OwnRows
import Derived.Deep.RegionHeld3
import Derived.Lib.SlBuf
import Derived.Lib.LazyBuf
import Derived.Deep.Cut
import Derived.Deep.MidRow
import Derived.IntWalk
import Derived.StillTailTactics
namespace Go.Proofs.Ytopahoilbgmobaa.Ident
open Go.RowKit
attribute [local go_sem] getElem_by
/-- a builder of the call's own that holds bytes -/
abbrev Bld (B b : Nat) (l : List UInt8) (w : World) : Prop := Lib.IsBuilder 47 5 B b (Lib.byteCells l) w ∧ (l ≠ [] → Lib.BuilderAt 47 5 B b (.pointer (some ⟨b, 0, none⟩)) (Lib.byteCells l) w)
theorem Bld.new (w : World) : Bld w.heap.size w.heap.size [] (w.alloc (.cells #[.pointer none, .slice none 0 0] 47)) := by
  refine ⟨Or.inl ?_, fun h => absurd rfl h⟩
  exact ⟨Nat.le_refl _, .slice none 0 0, (show _ = _ by show (w.heap.push _)[w.heap.size]? = _; simp), World.ownsRow_nil _ _ _ _, fun h => by cases h⟩
theorem Bld.write {B b : Nat} {l : List UInt8} {c : UInt8} {w : World} (h : Bld B b l w) (hlen : l.length + 1 ≤ 140737488355328) (hBw : B ≤ w.heap.size) :
    Calls Try.prog 28 #[.pointer (some ⟨b, 0, none⟩), .int .u8 (c.toNat : Int)] w fun e w' => e = .returned .nilIface ∧ Bld B b (l ++ [c]) w' ∧ Below B w w' := by
  refine (WriteByte_calls B b _ (c.toNat : Int) w h.1 (by rw [Lib.byteCells_length]; exact hlen) hBw).mono ?_
  rintro e w' ⟨rfl, hA, hB⟩
  have e : Lib.byteCells l ++ [Value.int .u8 (c.toNat : Int)] = Lib.byteCells (l ++ [c]) := by simp [Lib.byteCells]
  rw [e] at hA
  exact ⟨rfl, ⟨Or.inr hA, fun _ => hA⟩, hB⟩
theorem letters_by (n : Nat) (h : n < 16) : by_ ⟨#[48, 49, 50, 51, 52, 53, 54, 55, 56, 57, 97, 98, 99, 100, 101, 102]⟩ n = dg n := letters_at n h
attribute [local irreducible] hexTo unhexTo
set_option maxRecDepth 100000 in
set_option maxHeartbeats 1000000 in
theorem Hex_calls (s : ByteArray) (w : World) :
    Calls Try.prog 14 #[.string s] w fun e w' => e = .returned (.string (hex s)) ∧ Below w.heap.size w w' := by
  go_enter Try.func14, Try.ntmps14
  go_wp2_with fail
  refine (Good_calls s w).mono ?_
  rintro e w' ⟨rfl, rfl⟩
  by_cases hs : s.size = 32
  · have hb0 := Bld.new w
    have hbel := (Below.refl w.heap.size w).alloc (Nat.le_refl _) (.cells #[.pointer none, .slice none 0 0] 47)
    have hz0 : w.heap.size < (w.alloc (.cells #[.pointer none, .slice none 0 0] 47)).heap.size := by simp
    replace hb0 := Lib.hid hb0
    replace hbel := Lib.hid hbel
    go_wp2_with fail
    generalize w.alloc (.cells #[.pointer none, .slice none 0 0] 47) = w1 at *
    go_loopw [8] (fun i wr => ∃ k : Nat, k ≤ 64 ∧ i = .int .i64 k ∧ Bld w.heap.size w.heap.size (hexTo s k) wr ∧ Below w.heap.size w wr ∧ w.heap.size < wr.heap.size) (fun i _ => 64 - (intOf i).toNat)
    case atStart => exact ⟨0, by omega, rfl, by rw [show hexTo s 0 = [] by unfold hexTo; rfl]; exact hb0.out, hbel.out, hz0⟩
    case round =>
      clear hb0 hbel hz0
      obtain ⟨k, hk, rfl, hb, hB, hz⟩ := hrel
      replace hb := Lib.hid hb
      replace hB := Lib.hid hB
      by_cases hlt : k < 64
      · have i1 : (k : Int) < 64 := by omega
        have e1 := digitAt_in hs hlt
        have l1 := digit_lt s k
        have e2 := Lib.hid (letters_by (digit s k) l1)
        have hnx := Lib.hid (show hexTo s (k + 1) = hexTo s k ++ [dg (digit s k)] by rw [hexTo])
        have hl := hexTo_length s k
        go_wp2_with fail
        refine (Digit_calls s k wr).mono ?_
        rintro e w' ⟨rfl, rfl⟩
        rw [e1]
        clear e1
        generalize digit s k = n at *
        have j1 : (n : Int) < 16 := by omega
        have j0 : 0 ≤ (n : Int) := by omega
        go_wp2_with fail
        rw [e2.out]
        refine (hb.out.write (by rw [hl]; omega) (Nat.le_of_lt hz)).mono ?_
        rintro e w5 ⟨rfl, hb5, hB5⟩
        rw [← hnx.out] at hb5
        replace hb5 := Lib.hid hb5
        have hz5 : w.heap.size < w5.heap.size := Nat.lt_of_lt_of_le hz hB5.size
        replace hB5 := Lib.hid (hB.out.trans hB5)
        clear hb hB hnx hl
        go_wp2_with fail
        exact ⟨⟨k + 1, by omega, by go_num, hb5.out, hB5.out, hz5⟩, by simp [intOf]; omega⟩
      · have hd : decide ((k : Int) < 64) = false := decide_eq_false (by omega)
        have hd2 : (64 : Int) ≤ k := by omega
        have h64 : k = 64 := by omega
        have hl := hexTo_length s k
        have hA := hb.out.2 (fun h => by rw [h] at hl; simp at hl; omega)
        have hh := Lib.hid (show hex s = ⟨(hexTo s k).toArray⟩ by rw [h64]; exact if_pos hs)
        go_wp2_with fail
        refine (String_calls w.heap.size w.heap.size (hexTo s k) wr hA (fun h => by rw [h] at hl; simp at hl; omega)).mono ?_
        rintro e w5 ⟨rfl, hB5⟩
        clear hA
        go_wp2
        go_ret
        exact ⟨by rw [hh.out, h64]; rfl, hB.out.trans hB5⟩
  · have d0 : decide (s.size = 32) = false := decide_eq_false hs
    go_wp2
    go_ret
    exact ⟨by rw [hex_bad hs]; rfl, Below.refl _ _⟩
theorem still_same {P : Program} {f : FuncId} {args : Array Value} {w : World} {v : Value}
    (h : Calls P f args w fun e w' => e = .returned v ∧ w = w') : Calls P f args w fun e w'' => e = .returned v ∧ w'' = w := h.mono fun _ _ ⟨x, y⟩ => ⟨x, y.symm⟩
theorem or_shift (a b : Nat) (ha : a < 16) (hb : b < 16) : IntKind.u8.wrap (bits .or .i64 (IntKind.i64.wrap ((a : Int) * 16)) (b : Int)) = ((UInt8.ofNat (16 * a + b)).toNat : Int) := by
  have : (List.range 16).all (fun a => (List.range 16).all fun b => decide (IntKind.u8.wrap (bits .or .i64 (IntKind.i64.wrap ((a : Int) * 16)) (b : Int)) = ((UInt8.ofNat (16 * a + b)).toNat : Int))) = true := by kernel_rfl
  have := List.all_eq_true.1 (List.all_eq_true.1 this a (List.mem_range.2 ha)) b (List.mem_range.2 hb)
  exact of_decide_eq_true this
set_option maxRecDepth 100000 in
set_option maxHeartbeats 1000000 in
theorem Unhex_calls (s : ByteArray) (hs : s.size ≤ 140737488351232) (w : World) :
    Calls Try.prog 10 #[.string s] w fun e w' => (∃ r n, e = .returned (.tuple #[.string r, .int .i64 n]) ∧ IsUnhex s r n) ∧ Below w.heap.size w w' := by
  go_enter Try.func10, Try.ntmps10
  by_cases h64 : s.size = 64
  · go_wp2_with fail
    refine (allDigits_calls s w hs).mono ?_
    rintro e w' ⟨⟨c, rfl, hc⟩, rfl⟩
    cases c with
    | false =>
      have hbad : ¬ digits s := fun h => by have := hc.2 h; cases this
      clear hc
      go_wp2
      go_ret2
      exact ⟨⟨_, _, rfl, fun h => absurd h64 h, fun _ _ => ⟨rfl, rfl⟩, fun _ h => absurd h hbad⟩, Below.refl _ _⟩
    | true =>
      have hdg := Lib.hid (hc.1 rfl)
      clear hc
      have hb0 := Lib.hid (Bld.new w)
      have hbel := Lib.hid ((Below.refl w.heap.size w).alloc (Nat.le_refl _) (.cells #[.pointer none, .slice none 0 0] 47))
      have hz0 : w.heap.size < (w.alloc (.cells #[.pointer none, .slice none 0 0] 47)).heap.size := by simp
      go_wp2_with fail
      generalize w.alloc (.cells #[.pointer none, .slice none 0 0] 47) = w1 at *
      go_loopw [5] (fun i wr => ∃ k : Nat, k ≤ 32 ∧ i = .int .i64 (2 * (k : Int)) ∧ Bld w.heap.size w.heap.size (unhexTo s k) wr ∧ Below w.heap.size w wr ∧ w.heap.size < wr.heap.size) (fun i _ => 64 - (intOf i).toNat)
      case atStart => exact ⟨0, by omega, rfl, by rw [show unhexTo s 0 = [] by unfold unhexTo; rfl]; exact hb0.out, hbel.out, hz0⟩
      case round =>
        clear hb0 hbel hz0
        obtain ⟨k, hk, rfl, hb, hB, hz⟩ := hrel
        replace hb := Lib.hid hb
        replace hB := Lib.hid hB
        by_cases hlt : k < 32
        · have i1 : 2 * (k : Int) < 64 := by omega
          have i0 : 0 ≤ 2 * (k : Int) := by omega
          have n1 : (2 * (k : Int)).toNat = 2 * k := by omega
          have n2 : (2 * (k : Int) + 1).toNat = 2 * k + 1 := by omega
          have i2 : 0 ≤ 2 * (k : Int) + 1 := by omega
          have i3 : 2 * (k : Int) + 1 < 64 := by omega
          have w1 : IntKind.i64.wrap (2 * (k : Int) + 1) = 2 * (k : Int) + 1 := IntWalk.i64_in _ (by omega)
          have hnx := Lib.hid (show unhexTo s (k + 1) = unhexTo s k ++ [UInt8.ofNat (16 * (val (by_ s (2 * k))).toNat + (val (by_ s (2 * k + 1))).toNat)] by rw [unhexTo])
          have hl := Lib.hid (unhexTo_length s k)
          obtain ⟨x, hx⟩ : ∃ x : Nat, val (by_ s (2 * k)) = x := ⟨_, (Int.toNat_of_nonneg (hdg.out (2 * k) (by omega))).symm⟩
          obtain ⟨y, hy⟩ : ∃ y : Nat, val (by_ s (2 * k + 1)) = y := ⟨_, (Int.toNat_of_nonneg (hdg.out (2 * k + 1) (by omega))).symm⟩
          have hx16 : x < 16 := by have := (val_range (by_ s (2 * k))).2; omega
          have hy16 : y < 16 := by have := (val_range (by_ s (2 * k + 1))).2; omega
          have ho := Lib.hid (or_shift x y hx16 hy16)
          have q1 := value_calls (by_ s (2 * k)) wr.drew
          have q2 := value_calls (by_ s (2 * k + 1)) wr.drew
          rw [hx] at q1
          rw [hy] at q2
          rw [hx, hy, Int.toNat_natCast, Int.toNat_natCast] at hnx
          replace q1 := Lib.hid q1
          replace q2 := Lib.hid q2
          clear hx hy
          go_wp2_with fail
          refine wp_region_still_tail 12 (by kernel_rfl) (by kernel_rfl) ?_
          simp only [List.take_succ_cons, List.take_zero, List.drop_succ_cons, List.drop_zero]
          still_step
          still_step
          still_step
          still_call (still_same q1.out)
          still_step
          still_step
          still_step
          still_step
          still_step
          still_call (still_same q2.out)
          still_step
          still_step
          refine wpStill_nil ?_
          change wpList _ _ _ _ _ wr.drew
          rw [ho.out]
          have hbd : Bld w.heap.size w.heap.size (unhexTo s k) wr.drew := hb.out
          have hBd := Lib.hid (show Below w.heap.size w wr.drew from below_drewN hB.out 1)
          have hzd : w.heap.size < wr.drew.heap.size := hz
          replace hbd := Lib.hid hbd
          clear hb hB hz q1 q2 ho n1 n2 w1 i2 i3
          generalize wr.drew = w2 at *
          generalize UInt8.ofNat (16 * x + y) = c at *
          go_wp2_with fail
          refine (hbd.out.write (c := c) (by rw [hl.out]; omega) (Nat.le_of_lt hzd)).mono ?_
          rintro e w5 ⟨rfl, hb5, hB5⟩
          rw [← hnx.out] at hb5
          replace hb5 := Lib.hid hb5
          have hz5 : w.heap.size < w5.heap.size := Nat.lt_of_lt_of_le hzd hB5.size
          replace hB5 := Lib.hid (hBd.out.trans hB5)
          clear hbd hBd hnx hl
          go_wp2_with fail
          exact ⟨⟨k + 1, by omega, by go_num, hb5.out, hB5.out, hz5⟩, by simp [intOf]; omega⟩
        · have hd : decide (2 * (k : Int) < 64) = false := decide_eq_false (by omega)
          have hd2 : (64 : Int) ≤ 2 * (k : Int) := by omega
          have h32 := Lib.hid (show k = 32 by omega)
          have hl := unhexTo_length s k
          have hA := hb.out.2 (fun h => by rw [h] at hl; simp at hl; omega)
          have hfin := Lib.hid (show IsUnhex s ⟨(unhexTo s k).toArray⟩ 0 from ⟨fun h => absurd h64 h, fun _ h => absurd hdg.out h, fun _ _ => ⟨by rw [h32.out]; rfl, rfl⟩⟩)
          have hne : unhexTo s k ≠ [] := fun h => by rw [h] at hl; simp at hl; omega
          generalize unhexTo s k = l at *
          clear hl
          go_wp2_with fail
          refine (String_calls w.heap.size w.heap.size l wr hA hne).mono ?_
          rintro e w5 ⟨rfl, hB5⟩
          clear hA
          go_wp2
          go_ret2
          exact ⟨⟨_, _, rfl, hfin.out⟩, hB.out.trans hB5⟩
  · have d0 : ((s.size : Int) == 64) = false := by simp; omega
    go_wp2
    go_ret2
    exact ⟨⟨_, _, rfl, fun _ => ⟨rfl, rfl⟩, fun h => absurd h h64, fun h => absurd h h64⟩, Below.refl _ _⟩
end Go.Proofs.Ytopahoilbgmobaa.Ident
