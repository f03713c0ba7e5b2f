/-
  strings.IndexRune in the two bytes that no name has, at whatever rune; strings.IndexAny and ContainsAny of a short text, whatever its bytes. Conditions: none.
-/
import Derived.Test.YtmbbnabongnojaaDoorRows
import Derived.Test.YtmbbnabongnojaaDoorPaPlain
import Derived.Test.YtmbbnabongnojaaDoorPaLib
import Derived.Test.YtmbbnabongnojaaDoorOctKit
import Derived.WalkKit
import Derived.WalkSpells
import Derived.WalkLawsBesides
import Derived.ProofKit
import Derived.OpenShut
import Derived.Laws.BytesArg
import Derived.Laws.Externs
import Derived.Deep.QuietTactic
import Derived.BigQuiet
import Derived.BigRegion
import Derived.Lib.Hide
import Derived.Lib.Bytealg
import Derived.IntWalk
import Derived.Laws.Runes
import Derived.WalkMore
import Derived.Laws.RangeAny
import Derived.Lib.OthersKept
import Derived.Deep.LoopGhost
namespace Go.Proofs.YtmbbnabongnojaaDoor.Pa
open Go.RowKit

theorem idx_two (c : UInt8) : 0 ≤ Lib.indexByte [47, 0] c ↔ c = 47 ∨ c = 0 := by
  by_cases h1 : c = 47
  · subst h1; decide
  · by_cases h2 : c = 0
    · subst h2; decide
    · have e1 : ((47 : UInt8) == c) = false := by simpa using fun e => h1 e.symm
      have e2 : ((0 : UInt8) == c) = false := by simpa using fun e => h2 e.symm
      simp [Lib.indexByte, e1, e2, h1, h2]
set_option maxRecDepth 100000 in
theorem IndexRune_low (c : UInt8) (h : c.toNat < 128) (w : World) :
    Calls Tryd.prog 113 #[.string ⟨#[47, 0]⟩, .int .i32 (c.toNat : Int)] w fun e w' => (∃ n : Int, e = .returned (.int .i64 n) ∧ (0 ≤ n ↔ c = 47 ∨ c = 0)) ∧ w = w' := by
  have key := IndexByte_calls ⟨#[47, 0]⟩ c w
  generalize c.toNat = n at *
  have h0 : (0 : Int) ≤ n := by omega
  have h1 : (n : Int) < 128 := by omega
  have h2 : IntKind.u8.wrap (n : Int) = n := by rw [IntKind.wrap_u8]; omega
  go_enter Tryd.func113, Tryd.ntmps113
  go_wp2_with fail
  refine key.mono ?_
  rintro e w' ⟨rfl, rfl⟩
  have hid := Lib.hid (idx_two c)
  generalize Lib.indexByte (ByteArray.mk #[47, 0]).data.toList c = k at *
  go_wp2
  go_ret
  exact ⟨⟨_, rfl, hid.out⟩, rfl⟩
theorem ValidRune_low (r : Int) (h0 : 0 ≤ r) (h1 : r < 55296) (w : World) :
    Calls Tryd.prog 118 #[.int .i32 r] w fun e w' => e = .returned (.bool true) ∧ w = w' := by
  go_enter Tryd.func118, Tryd.ntmps118
  go_wp2
  go_ret
  exact ⟨rfl, rfl⟩
theorem ValidRune_high (r : Int) (h0 : 57343 < r) (h1 : r ≤ 1114111) (w : World) :
    Calls Tryd.prog 118 #[.int .i32 r] w fun e w' => e = .returned (.bool true) ∧ w = w' := by
  have h2 : (0 : Int) ≤ r := by omega
  have h3 : (55296 : Int) ≤ r := by omega
  have h4 : ¬ r < 55296 := by omega
  go_enter Tryd.func118, Tryd.ntmps118
  go_wp2
  go_ret
  exact ⟨rfl, rfl⟩
theorem ValidRune_calls (r : Int) (h : Utf8.valid r = true) (w : World) :
    Calls Tryd.prog 118 #[.int .i32 r] w fun e w' => e = .returned (.bool true) ∧ w = w' := by
  simp only [Utf8.valid, Bool.or_eq_true, Bool.and_eq_true, decide_eq_true_eq] at h
  rcases h with h | h
  · exact ValidRune_low r h.1 h.2 w
  · exact ValidRune_high r (by omega) h.2 w
theorem drop_two : (ByteArray.mk #[47, 0]).extract 2 2 = ⟨#[]⟩ := rfl
theorem two_bytes (s : ByteArray) (h : s.size = 2) : ∃ x y : UInt8, s = ⟨#[x, y]⟩ := by
  obtain ⟨⟨l⟩⟩ := s
  match l, h with
  | [x, y], _ => exact ⟨x, y, rfl⟩
theorem none_calls (c : UInt8) (w : World) :
    Calls Tryd.prog 117 #[.string ⟨#[]⟩, .int .u8 (c.toNat : Int)] w fun e w' => e = .returned (.int .i64 (-1)) ∧ w' = w := (IndexByte_calls ⟨#[]⟩ c w).mono fun _ _ ⟨h, g⟩ => ⟨h, g.symm⟩
set_option maxRecDepth 100000 in
theorem IndexRune_two (r : Int) (h : 128 ≤ r) (h2 : (r == 65533) = false) (x c : UInt8) (hrs : Utf8.encode r = ⟨#[x, c]⟩) (hc : 128 ≤ c.toNat) (w : World)
    (hV : Calls Tryd.prog 118 #[.int .i32 r] w fun e w' => e = .returned (.bool true) ∧ w = w') :
    Calls Tryd.prog 113 #[.string ⟨#[47, 0]⟩, .int .i32 r] w fun e w' => e = .returned (.int .i64 (-1)) ∧ ∃ n, w' = w.drewN n := by
  have h0 : (0 : Int) ≤ r := by omega
  have h1 : ¬ r < 128 := by omega
  have n1 : ((((⟨#[47, 0]⟩ : ByteArray)[1]'(by decide)).toNat : Int) != (((⟨#[x, c]⟩ : ByteArray)[1]'(by show 1 < 2; omega)).toNat : Int)) = true := by
    show ((0 : Int) != (c.toNat : Int)) = true
    simp only [bne_iff_ne]; omega
  have hI : ∀ w, Calls Tryd.prog 117 #[.string ByteArray.empty, .int .u8 (((⟨#[x, c]⟩ : ByteArray)[1]'(by show 1 < 2; omega)).toNat : Int)] w fun e w' => e = .returned (.int .i64 (-1)) ∧ w' = w := fun w => none_calls c w
  have w2 : IntKind.i64.wrap 2 = 2 := by decide
  replace hI := Lib.hid hI
  go_enter Tryd.func113, Tryd.ntmps113
  go_wp2_with fail
  refine hV.mono ?_
  rintro e w' ⟨rfl, rfl⟩
  go_wp2
  go_step3
  go_wp2
  go_loopw [9, 10] (fun i f wr => i = .int .i64 1 ∧ f = .int .i64 0 ∧ w = wr) (fun _ _ _ => 0)
  case atStart => exact ⟨rfl, rfl, rfl⟩
  case round =>
    obtain ⟨rfl, rfl, rfl⟩ := hrel
    go_wp2
    go_step3
    go_wp2
    go_region
    go_wp2
    go_quiet ((go_at_call 117; exact (hI.out _).mono fun _ _ ⟨h, g⟩ => ⟨h, _, g⟩))
    go_wp2
    rw [Exit.noGoto_ret]
    go_wp2
    rw [Exit.noGoto_ret]
    go_wp2
    go_ret
    exact ⟨rfl, _, rfl⟩
set_option maxRecDepth 100000 in
theorem IndexRune_high (r : Int) (h : 128 ≤ r) (hv : Utf8.valid r = true) (h6 : r ≠ 65533) (w : World) :
    Calls Tryd.prog 113 #[.string ⟨#[47, 0]⟩, .int .i32 r] w fun e w' => e = .returned (.int .i64 (-1)) ∧ ∃ n, w' = w.drewN n := by
  have h0 : (0 : Int) ≤ r := by omega
  have h1 : ¬ r < 128 := by omega
  have h2 : (r == 65533) = false := by simpa using h6
  obtain ⟨z1, z2, z3⟩ := encode_facts r hv h
  have hV := ValidRune_calls r hv w
  clear hv h6
  generalize hrs : Utf8.encode r = rs at *
  by_cases hz : rs.size = 2
  · obtain ⟨x, c, rfl⟩ := two_bytes rs hz
    exact IndexRune_two r h h2 x c hrs (z3 (by show 1 < 2; omega)) w hV
  have y1 : (1 : Int) ≤ (rs.size : Int) - 1 := by omega
  replace z3 := Lib.hid z3
  go_enter Tryd.func113, Tryd.ntmps113
  go_wp2_with fail
  refine hV.mono ?_
  rintro e w' ⟨rfl, rfl⟩
  go_wp2
  go_step3
  go_wp2
  go_loopw [9, 10] (fun i f wr => (∃ k : Nat, 2 ≤ k ∧ i = .int .i64 k) ∧ f = .int .i64 0 ∧ w = wr) (fun _ _ _ => 0)
  case atStart => exact ⟨⟨rs.size - 1, by omega, by go_num⟩, rfl, rfl⟩
  case round =>
    obtain ⟨⟨k, hk, rfl⟩, rfl, rfl⟩ := hrel
    have k1 : ¬ ((k : Int) < 2) := by omega
    go_wp2
    go_ret
    exact ⟨rfl, 0, rfl⟩
set_option maxRecDepth 100000 in
/-- U+FFFD: the two bytes are gone over, and none is it -/
theorem IndexRune_none (w : World) :
    Calls Tryd.prog 113 #[.string ⟨#[47, 0]⟩, .int .i32 65533] w fun e w' => e = .returned (.int .i64 (-1)) ∧ Below w.heap.size w w' := by
  go_enter Tryd.func113, Tryd.ntmps113
  go_wp2
  go_loopg [5, 6] 2 (fun g _ _ wx => ∃ i : Nat, i + g = 2 ∧ wx = w.iter ⟨#[47, 0]⟩ i)
  case atStart => exact ⟨0, rfl, rfl⟩
  case round =>
    obtain ⟨i, hig, rfl⟩ := hrel
    cases gk with
    | zero =>
      obtain rfl : i = 2 := by omega
      have hnx := fun ty => run_next_end (P := Tryd.prog) w ⟨#[47, 0]⟩ 2 ty (by decide)
      go_wp2
      go_ret
      exact ⟨rfl, (Below.refl _ _).alloc (Nat.le_refl _) _⟩
    | succ g =>
      obtain rfl | rfl : i = 0 ∨ i = 1 := by omega
      · have hnx := fun ty => run_next_ascii (P := Tryd.prog) w ⟨#[47, 0]⟩ 0 ty (by decide) (by decide)
        go_wp2
        go_roundg g
        case measure => omega
        case rel => exact ⟨1, by omega, rfl⟩
      · have hnx := fun ty => run_next_ascii (P := Tryd.prog) w ⟨#[47, 0]⟩ 1 ty (by decide) (by decide)
        go_wp2
        go_roundg g
        case measure => omega
        case rel => exact ⟨2, by omega, rfl⟩
theorem get_list (s : ByteArray) (k : Nat) (h : k < s.size) : s[k]'h = s.data.toList.getD k 0 := by
  have h2 : k < s.data.toList.length := by rw [← size_list]; exact h
  rw [List.getD_eq_getElem?_getD, List.getElem?_eq_getElem h2]; rfl
theorem get_bang (s : ByteArray) (k : Nat) (h : k < s.size) : s.get! k = s.data.toList.getD k 0 := by
  rw [← get_list s k h]
  simp [ByteArray.get!, getElem!_pos, h]
  rfl
/-- a rune that begins with a high byte has high bytes alone, is valid and high -/
theorem decode_span (s : ByteArray) (pos : Nat) (h : pos < s.size) (ha : 128 ≤ (s.data.toList.getD pos 0).toNat) :
    128 ≤ (Utf8.decode s pos).1 ∧ Utf8.valid (((Utf8.decode s pos).1 : Nat) : Int) = true ∧ 1 ≤ (Utf8.decode s pos).2 ∧ pos + (Utf8.decode s pos).2 ≤ s.size ∧ ∀ j, pos ≤ j → j < pos + (Utf8.decode s pos).2 → 128 ≤ (s.data.toList.getD j 0).toNat := by
  have hv : Utf8.valid ((Utf8.runeError : Nat) : Int) = true := by decide
  have one : ∀ c : Nat × Nat, c = (Utf8.runeError, 1) → 128 ≤ c.1 ∧ Utf8.valid ((c.1 : Nat) : Int) = true ∧ 1 ≤ c.2 ∧ pos + c.2 ≤ s.size ∧ ∀ j, pos ≤ j → j < pos + c.2 → 128 ≤ (s.data.toList.getD j 0).toNat := by
    rintro _ rfl
    refine ⟨by decide, hv, by decide, by show pos + 1 ≤ _; omega, fun j h1 h2 => ?_⟩
    have h2 : j < pos + 1 := h2
    obtain rfl : j = pos := by omega
    exact ha
  have cont : ∀ k, (decide (pos + k < s.size) && (s.get! (pos + k)).toNat / 64 == 2) = true → pos + k < s.size ∧ 128 ≤ (s.data.toList.getD (pos + k) 0).toNat := by
    intro k hk
    simp only [Bool.and_eq_true, decide_eq_true_eq, beq_iff_eq] at hk
    refine ⟨hk.1, ?_⟩
    rw [← get_bang s _ hk.1]; omega
  have hb0 : (s.get! (pos + 0)).toNat = (s.data.toList.getD pos 0).toNat := by rw [Nat.add_zero, get_bang s pos h]
  have hlt : ∀ k, (s.get! k).toNat < 256 := fun k => (s.get! k).toNat_lt
  simp only [Utf8.decode]
  rw [if_neg (by omega)]
  split
  · rename_i hc
    simp only [Bool.and_eq_true, beq_iff_eq] at hc
    obtain ⟨c1, c2⟩ := hc
    obtain ⟨k1, k2⟩ := cont 1 (by simpa using c2)
    split
    · rename_i hge
      refine ⟨hge, ?_, by show 1 ≤ 2; omega, by show pos + 2 ≤ _; omega, fun j h1 h2 => ?_⟩
      · have := hlt (pos + 1)
        simp only [Utf8.valid, Bool.or_eq_true, Bool.and_eq_true, decide_eq_true_eq]
        left; omega
      · have h2 : j < pos + 2 := h2
        obtain rfl | rfl : j = pos ∨ j = pos + 1 := by omega
        · exact ha
        · exact k2
    · exact one _ rfl
  · split
    · rename_i hc
      simp only [Bool.and_eq_true, beq_iff_eq] at hc
      obtain ⟨⟨c1, c2⟩, c3⟩ := hc
      obtain ⟨k1, k2⟩ := cont 1 (by simpa using c2)
      obtain ⟨k3, k4⟩ := cont 2 (by simpa using c3)
      split
      · rename_i hge
        simp only [Bool.and_eq_true, decide_eq_true_eq] at hge
        refine ⟨by have := hge.1; omega, hge.2, by show 1 ≤ 3; omega, by show pos + 3 ≤ _; omega, fun j h1 h2 => ?_⟩
        have h2 : j < pos + 3 := h2
        obtain rfl | rfl | rfl : j = pos ∨ j = pos + 1 ∨ j = pos + 2 := by omega
        · exact ha
        · exact k2
        · exact k4
      · exact one _ rfl
    · split
      · rename_i hc
        simp only [Bool.and_eq_true, beq_iff_eq] at hc
        obtain ⟨⟨⟨c1, c2⟩, c3⟩, c4⟩ := hc
        obtain ⟨k1, k2⟩ := cont 1 (by simpa using c2)
        obtain ⟨k3, k4⟩ := cont 2 (by simpa using c3)
        obtain ⟨k5, k6⟩ := cont 3 (by simpa using c4)
        split
        · rename_i hge
          simp only [Bool.and_eq_true, decide_eq_true_eq] at hge
          refine ⟨by have := hge.1; omega, hge.2, by show 1 ≤ 4; omega, by show pos + 4 ≤ _; omega, fun j h1 h2 => ?_⟩
          have h2 : j < pos + 4 := h2
          obtain rfl | rfl | rfl | rfl : j = pos ∨ j = pos + 1 ∨ j = pos + 2 ∨ j = pos + 3 := by omega
          · exact ha
          · exact k2
          · exact k4
          · exact k6
        · exact one _ rfl
      · exact one _ rfl
/-- neither of the two bytes up to a place -/
def Clean (s : ByteArray) (k : Nat) : Prop := ∀ j, j < k → s.data.toList.getD j 0 ≠ 47 ∧ s.data.toList.getD j 0 ≠ 0
theorem shouldUse_calls (n : Int) (w : World) :
    Calls Tryd.prog 114 #[.int .i64 n] w fun e w' => e = .returned (.bool (decide (8 < n))) ∧ w = w' := by
  go_enter Tryd.func114, Tryd.ntmps114
  go_wp2
  go_ret
  exact ⟨rfl, rfl⟩
theorem high_ne {c : UInt8} (h : 128 ≤ c.toNat) : c ≠ 47 ∧ c ≠ 0 := by
  constructor <;> (rintro rfl; revert h; decide)
set_option maxRecDepth 100000 in
theorem IndexAny_short (s : ByteArray) (h8 : s.size ≤ 8) (w : World) :
    Calls Tryd.prog 110 #[.string s, .string ⟨#[47, 0]⟩] w fun e w' => (∃ n : Int, e = .returned (.int .i64 n) ∧ (0 ≤ n ↔ ¬ Clean s s.size)) ∧ Below w.heap.size w w' := by
  have h8z : decide ((8 : Int) < (s.size : Int)) = false := decide_eq_false (by omega)
  go_enter Tryd.func110, Tryd.ntmps110
  go_wp2_with fail
  refine (shouldUse_calls _ w).mono ?_
  rintro e w' ⟨rfl, rfl⟩
  go_wp2
  go_loopg [9, 10] s.size (fun g _ _ wx => ∃ i : Nat, s.size ≤ i + g ∧ i ≤ s.size ∧ wx.heap[w.heap.size]? = some (.stringIter s i) ∧ Below w.heap.size w wx ∧ Hid (Clean s i))
  case atStart => exact ⟨0, by omega, by omega, World.iter_heap w s 0, (Below.refl _ w).alloc (Nat.le_refl _) _, Lib.hid fun j hj => by omega⟩
  case round =>
    obtain ⟨i, hig, hi, hit, hbw, hcl⟩ := hrel
    by_cases hlt : i < s.size
    · obtain ⟨g', rfl⟩ : ∃ g', gk = g' + 1 := ⟨gk - 1, by omega⟩
      obtain ⟨c, hc⟩ : ∃ c : UInt8, s.data.toList.getD i 0 = c := ⟨_, rfl⟩
      by_cases hlow : c.toNat < 128
      · have hnx : ∀ ty, (Instr.next (.pointer (some ⟨w.heap.size, 0, none⟩)) true ty).run Tryd.prog wr = _ := fun ty => Lib.run_next_ascii_at wr w.heap.size s i ty hit hlt (by rw [get_list, hc]; exact hlow)
        have e1 : s[i]'hlt = c := by rw [get_list, hc]
        rw [e1] at hnx
        have hit2 := Lib.hid (Lib.iterAt_heap wr w.heap.size s i (i + 1) hit)
        have hbw2 := Lib.hid (Lib.below_iterAt hbw (k := w.heap.size) (Nat.le_refl _) s (i + 1))
        have hR := fun w => IndexRune_low c hlow w
        replace hc := Lib.hid hc
        clear e1 hit hbw
        obtain ⟨W, hW⟩ : ∃ W, wr.iterAt w.heap.size s (i + 1) = W := ⟨_, rfl⟩
        rw [hW] at hnx hit2 hbw2
        clear hW
        replace hlow := Lib.hid hlow
        generalize (c.toNat : Int) = n at *
        go_wp2_with fail
        refine (hR W).mono ?_
        rintro e w' ⟨⟨m, rfl, hm⟩, rfl⟩
        by_cases hbad : c = 47 ∨ c = 0
        · have m0 : 0 ≤ m := hm.2 hbad
          clear hm
          go_wp2
          go_ret
          refine ⟨⟨_, rfl, ?_⟩, hbw2.out⟩
          simp only [show (0 : Int) ≤ i by omega, true_iff]
          intro hh
          have := hh i hlt
          rw [hc.out] at this
          rcases hbad with h | h
          · exact this.1 h
          · exact this.2 h
        · have m0 : ¬ 0 ≤ m := fun h => hbad (hm.1 h)
          clear hm
          go_wp2
          go_roundg g'
          case measure => omega
          case rel =>
            refine ⟨i + 1, by omega, by omega, hit2.out, hbw2.out, Lib.hid fun j hj => ?_⟩
            by_cases e : j = i
            · subst e; rw [hc.out]; exact ⟨fun h => hbad (Or.inl h), fun h => hbad (Or.inr h)⟩
            · exact hcl.out j (by omega)
      · obtain ⟨d1, d2, d3, d4, d5⟩ := decode_span s i hlt (by rw [hc]; omega)
        have hnx : ∀ ty, (Instr.next (.pointer (some ⟨w.heap.size, 0, none⟩)) true ty).run Tryd.prog wr = _ := fun ty => Lib.run_next_any_at wr w.heap.size s i ty hit hlt
        obtain ⟨R, hR⟩ : ∃ R, (Utf8.decode s i).1 = R := ⟨_, rfl⟩
        obtain ⟨K, hK⟩ : ∃ K, (Utf8.decode s i).2 = K := ⟨_, rfl⟩
        rw [hR] at d1 d2
        rw [hK] at d3 d4 d5
        rw [hR, hK] at hnx
        clear hR hK
        have hit2 := Lib.hid (Lib.iterAt_heap wr w.heap.size s i (i + K) hit)
        have hbw2 := Lib.hid (Lib.below_iterAt hbw (k := w.heap.size) (Nat.le_refl _) s (i + K))
        clear hit hbw
        obtain ⟨W, hW⟩ : ∃ W, wr.iterAt w.heap.size s (i + K) = W := ⟨_, rfl⟩
        rw [hW] at hnx hit2 hbw2
        clear hW
        have hcall : Calls Tryd.prog 113 #[.string ⟨#[47, 0]⟩, .int .i32 (R : Int)] W fun e w' => e = .returned (.int .i64 (-1)) ∧ Below W.heap.size W w' := by
          by_cases e : R = 65533
          · subst e; exact IndexRune_none W
          · exact (IndexRune_high (R : Int) (by omega) d2 (by omega) W).mono fun _ _ ⟨h, n, g⟩ => ⟨h, by rw [g]; exact ⟨rfl, rfl, rfl, Nat.le_refl _, fun _ _ => rfl⟩⟩
        replace hc := Lib.hid hc
        replace d5 := Lib.hid d5
        clear d1 d2
        generalize (R : Int) = n at *
        go_wp2_with fail
        refine hcall.mono ?_
        rintro e w' ⟨rfl, hbc⟩
        have hltW : w.heap.size < W.heap.size := (Array.getElem?_eq_some_iff.1 hit2.out).1
        go_wp2
        go_roundg g'
        case measure => omega
        case rel =>
          refine ⟨i + K, by omega, by omega, (hbc.block _ hltW).trans hit2.out, hbw2.out.trans (hbc.mono hbw2.out.size), Lib.hid fun j hj => ?_⟩
          by_cases e : j < i
          · exact hcl.out j e
          · exact high_ne (d5.out j (by omega) hj)
    · obtain rfl : i = s.size := by omega
      have hnx : ∀ ty, (Instr.next (.pointer (some ⟨w.heap.size, 0, none⟩)) true ty).run Tryd.prog wr = _ := fun ty => Lib.run_next_end_at wr w.heap.size s s.size ty hit hlt
      clear hit
      replace hbw := Lib.hid hbw
      go_wp2
      go_ret
      refine ⟨⟨_, rfl, ?_⟩, hbw.out⟩
      constructor
      · intro h; omega
      · intro h; exact absurd hcl.out h
end Go.Proofs.YtmbbnabongnojaaDoor.Pa
