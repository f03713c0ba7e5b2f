/-
  The document's own Hex, Unhex and Short (reliquaryref03): as the plain functions say; nothing that was there turns. Conditions: none.
-/
import Derived.Test.YtopahoilbgmobaaRows
import Derived.Test.YtopahoilbgmobaaIdShort
import Derived.Test.YtopahoilbgmobaaIdRefR
import Derived.WalkKit
import Derived.WalkSpells
import Derived.WalkLawsBesides
import Derived.ProofKit
import Derived.OpenShut
import Derived.Laws.BytesArg
import Derived.Laws.IdiomStrings
import Derived.Deep.QuietTactic
import Derived.BigQuiet
import Derived.BigRegion
import Derived.Lib.Hide
import Derived.Lib.Builder
import Derived.Lib.UnsafeStr
import Derived.Lib.AppendStr
import Derived.Laws.Externs
import Derived.Deep.OwnRows
import Derived.Lib.SlBuf
import Derived.Lib.LazyBuf
import Derived.Deep.Cut
import Derived.Deep.MidRow
import Derived.IntWalk
namespace Go.Proofs.Ytopahoilbgmobaa.Ident
open Go.RowKit
open Oct (TextsAt)
attribute [local go_sem] getElem_by
/-- a slice of bytes in a row of the call's own -/
def Own (B : Nat) (w : World) (v : Value) (l : List UInt8) : Prop := w.ownsRow B 5 1 v l.length (Lib.byteCells l) ∧ v ≠ .slice none 0 0
theorem Own.new (w : World) : Own w.heap.size (w.alloc (.cells #[] 5)) (.slice (some ⟨w.heap.size, 0, none⟩) 0 0) [] := by
  refine ⟨⟨by simp [Lib.byteCells], Or.inr ⟨w.heap.size, 0, #[], rfl, Nat.le_refl _, (show _ = _ by show (w.heap.push _)[w.heap.size]? = _; simp), by simp, by simp [maxLen], by simp, by simp [Lib.byteCells]⟩⟩, by simp⟩
theorem Own.slice {B : Nat} {w : World} {v : Value} {l : List UInt8} (h : Own B w v l) : ∃ g cap, v = .slice (some ⟨g, 0, none⟩) l.length cap ∧ ∀ j, j < l.length → w.cell? ⟨g, j, none⟩ = some (.int .u8 ((l.getD j 0).toNat : Int)) := by
  obtain ⟨ho, hne⟩ := h
  rcases ho.2 with ⟨hv, _⟩ | ⟨g, cap, cur, hv, _⟩
  · exact absurd hv hne
  · refine ⟨g, cap, hv, fun j hj => ?_⟩
    subst hv
    have := ho.cells (g := g) rfl j (.int .u8 ((l.getD j 0).toNat : Int)) (by simp [Lib.byteCells, List.getElem?_eq_getElem hj])
    rw [Addr.add_mid, Nat.zero_add] at this
    exact this
theorem Own.conv {B : Nat} {w : World} {l : List UInt8} {g cap : Nat} (h : ∀ j, j < l.length → w.cell? ⟨g, j, none⟩ = some (.int .u8 ((l.getD j 0).toNat : Int))) :
    (convert 37 9 (.slice (some ⟨g, 0, none⟩) l.length cap)).run Try.prog w = .ok (.string ⟨l.toArray⟩) w :=
  run_convert_bytes_back (P := Try.prog) w 37 9 5 ⟨g, 0, none⟩ cap l Try.underlying37 Try.underlying5 Try.underlying9 (fun j hj => by
    rw [Addr.add_mid, Nat.zero_add, h j hj, List.getD_eq_getElem?_getD, List.getElem?_eq_getElem hj]; rfl)
attribute [local irreducible] hexTo unhexTo
set_option maxRecDepth 100000 in
set_option maxHeartbeats 1000000 in
theorem RHex_calls (s : ByteArray) (w : World) :
    Calls Try.prog 15 #[.string s] w fun e w' => e = .returned (.string (hex s)) ∧ Below w.heap.size w w' := by
  obtain ⟨i0, hi, hz0, hz1, hz2⟩ := info_parts infoByte
  have ho0 := Lib.hid (Own.new w)
  have hB0 := Lib.hid ((Below.refl w.heap.size w).alloc (Nat.le_refl _) (.cells #[] 5))
  go_enter Try.func15, Try.ntmps15
  go_wp2_with fail
  generalize w.alloc (.cells #[] 5) = w1 at *
  by_cases hs : s.size = 32
  · go_loopw [3, 4] (fun v i wr => ∃ k : Nat, k ≤ 64 ∧ i = .int .i64 k ∧ Own w.heap.size wr v (hexTo s k) ∧ Below w.heap.size w wr) (fun _ i _ => 64 - (intOf i).toNat)
    case atStart => exact ⟨0, by omega, rfl, by rw [show hexTo s 0 = [] by unfold hexTo; rfl]; exact ho0.out, hB0.out⟩
    case round =>
      clear ho0 hB0
      obtain ⟨k, hk, rfl, ho, hB⟩ := hrel
      go_wp2_with fail
      refine (RGood_calls s wr).mono ?_
      rintro e w' ⟨rfl, rfl⟩
      by_cases hlt : k < 64
      · have i1 : (k : Int) < 64 := by omega
        have e1 := digitAt_in hs hlt
        have l1 := digit_lt s k
        have hnx := Lib.hid (show hexTo s (k + 1) = hexTo s k ++ [dg (digit s k)] by rw [hexTo])
        have hl := Lib.hid (hexTo_length s k)
        replace ho := Lib.hid ho
        replace hB := Lib.hid hB
        go_wp2_with fail
        refine (RDigit_calls s k wr).mono ?_
        rintro e w' ⟨rfl, rfl⟩
        rw [e1]
        clear e1
        generalize digit s k = n at *
        go_wp2_with fail
        refine (Rdigit_calls n l1 wr).mono ?_
        rintro e w' ⟨rfl, rfl⟩
        generalize dg n = c at *
        have hoA := ho.out.1.alloc (.cells #[.int .u8 (c.toNat : Int)] 5)
        have hnews : ∀ (j : Nat) (u : Value), ([.int .u8 (c.toNat : Int)] : List Value)[j]? = some u → (wr.alloc (.cells #[.int .u8 (c.toNat : Int)] 5)).cell? ((⟨wr.heap.size, 0, none⟩ : Addr).add j) = some u := fun j u hj => by
          match j, hj with
          | 0, hj => simp at hj; subst hj; simp [Addr.add]
          | j + 1, hj => simp at hj
        have hBA := Lib.hid (hB.out.alloc hB.out.size (.cells #[.int .u8 (c.toNat : Int)] 5))
        have hsA : (wr.alloc (.cells #[.int .u8 (c.toNat : Int)] 5)).heap.size = wr.heap.size + 1 := by simp
        have hwr := hB.out.size
        go_wp2_with (at_builtin; refine wpList_append_own _ rfl _ _ 37 rfl w.heap.size 5 i0 (.int .u8 0) 1 1 Try.underlying37 hi hz0 hz1 hz2 rfl (by decide) _ _ _ rfl hoA ⟨wr.heap.size, 0, none⟩ 1 1 [.int .u8 (c.toNat : Int)] rfl rfl hnews ?c1 ?c3 ?c4 ?c5 ?_)
        case c1 => intro u hu; rw [List.mem_singleton] at hu; subst hu; rfl
        case c3 => have := hl.out; unfold maxLen; omega
        case c4 => have := hl.out; omega
        case c5 => omega
        intro v' w2 hown' hgrow hnil
        have ho2 : Own w.heap.size w2 v' (hexTo s (k + 1)) := by
          rw [hnx.out]
          refine ⟨by simpa [Lib.byteCells] using hown', fun h => ?_⟩
          exact hnil h
        have hB2 := hBA.out.grown hgrow (by omega) (fun k hk => (hoA.lt k hk).1)
        replace ho2 := Lib.hid ho2
        replace hB2 := Lib.hid hB2
        clear hoA hnews hBA hsA hown' hgrow hnil ho hB hnx hl
        go_wp2_with fail
        exact ⟨⟨k + 1, by omega, by go_num, ho2.out, hB2.out⟩, by simp [intOf]; omega⟩
      · have hd : decide ((k : Int) < 64) = false := decide_eq_false (by omega)
        have hd2 : (64 : Int) ≤ k := by omega
        have h64 := Lib.hid (show k = 64 by omega)
        have hh := Lib.hid (show hex s = ⟨(hexTo s k).toArray⟩ by rw [h64.out]; exact if_pos hs)
        obtain ⟨g, cap, rfl, hc⟩ := ho.slice
        have hcv := Own.conv (B := 0) (cap := cap) hc
        clear hc ho
        replace hB := Lib.hid hB
        generalize hexTo s k = l at *
        go_wp2
        go_ret
        exact ⟨by rw [hh.out]; rfl, hB.out⟩
  · have d0 : decide (s.size = 32) = false := decide_eq_false hs
    have hh := Lib.hid (hex_bad hs)
    go_loopw [3, 4] (fun v i wr => v = .slice (some ⟨w.heap.size, 0, none⟩) 0 0 ∧ wr = w1) (fun _ i _ => 0)
    case atStart => exact ⟨rfl, rfl⟩
    case round =>
      obtain ⟨rfl, rfl⟩ := hrel
      go_wp2_with fail
      refine (RGood_calls s wr).mono ?_
      rintro e w' ⟨rfl, rfl⟩
      have hcv := Own.conv (B := 0) (w := wr) (l := []) (g := w.heap.size) (cap := 0) (fun j hj => absurd hj (Nat.not_lt_zero j))
      simp only [List.length_nil] at hcv
      go_wp2
      go_ret
      exact ⟨by rw [hh.out]; rfl, hB0.out⟩
theorem add_shift (a b : Nat) (ha : a < 16) (hb : b < 16) : 16 * (a : Int) + (b : Int) = ((UInt8.ofNat (16 * a + b)).toNat : Int) := by
  rw [UInt8.toNat_ofNat']
  omega
set_option maxRecDepth 100000 in
set_option maxHeartbeats 1000000 in
theorem RUnhex_calls (s : ByteArray) (w : World) :
    Calls Try.prog 11 #[.string s] w fun e w' => (∃ r n, e = .returned (.tuple #[.string r, .int .i64 n]) ∧ IsUnhex s r n) ∧ Below w.heap.size w w' := by
  obtain ⟨i0, hi, hz0, hz1, hz2⟩ := info_parts infoByte
  have ho0 := Lib.hid (Own.new w)
  have hB0 := Lib.hid ((Below.refl w.heap.size w).alloc (Nat.le_refl _) (.cells #[] 5))
  go_enter Try.func11, Try.ntmps11
  by_cases h64 : s.size = 64
  · go_wp2_with fail
    generalize w.alloc (.cells #[] 5) = w1 at *
    go_loopw [4, 5] (fun v i wr => ∃ k : Nat, k ≤ 32 ∧ i = .int .i64 (2 * (k : Int)) ∧ Own w.heap.size wr v (unhexTo s k) ∧ (∀ j, j < 2 * k → 0 ≤ val (by_ s j)) ∧ Below w.heap.size w wr) (fun _ i _ => 64 - (intOf i).toNat)
    case atStart => exact ⟨0, by omega, rfl, by rw [show unhexTo s 0 = [] by unfold unhexTo; rfl]; exact ho0.out, fun j hj => by omega, hB0.out⟩
    case round =>
      clear ho0 hB0
      obtain ⟨k, hk, rfl, ho, hdg, hB⟩ := hrel
      replace hdg := Lib.hid hdg
      replace hB := Lib.hid hB
      by_cases hlt : k < 32
      · replace ho := Lib.hid ho
        have i1 : 2 * (k : Int) < 64 := by omega
        have i0' : 0 ≤ 2 * (k : Int) := by omega
        have n1 : (2 * (k : Int)).toNat = 2 * k := by omega
        have n2 : (2 * (k : Int) + 1).toNat = 2 * k + 1 := by omega
        have i2 : 0 ≤ 2 * (k : Int) + 1 := by omega
        have i3 : 2 * (k : Int) + 1 < 64 := by omega
        go_wp2_with fail
        refine (Rvalue_calls (by_ s (2 * k)) wr).mono ?_
        rintro e w' ⟨rfl, rfl⟩
        go_wp2_with fail
        refine (Rvalue_calls (by_ s (2 * k + 1)) wr).mono ?_
        rintro e w' ⟨rfl, rfl⟩
        have r1 := val_range (by_ s (2 * k))
        have r2 := val_range (by_ s (2 * k + 1))
        by_cases hx : val (by_ s (2 * k)) < 0
        · have hbad := Lib.hid (show ¬ digits s from fun h => absurd (h (2 * k) (by omega)) (by omega))
          clear r1 r2 n1 n2
          go_wp2
          go_ret2
          exact ⟨⟨_, _, rfl, fun h => absurd h64 h, fun _ _ => ⟨rfl, rfl⟩, fun _ h => absurd h hbad.out⟩, hB.out⟩
        · by_cases hy : val (by_ s (2 * k + 1)) < 0
          · have hbad := Lib.hid (show ¬ digits s from fun h => absurd (h (2 * k + 1) (by omega)) (by omega))
            have dx : decide (val (by_ s (2 * k)) < 0) = false := decide_eq_false hx
            clear r1 r2 n1 n2
            go_wp2
            go_ret2
            exact ⟨⟨_, _, rfl, fun h => absurd h64 h, fun _ _ => ⟨rfl, rfl⟩, fun _ h => absurd h hbad.out⟩, hB.out⟩
          · have hnx := Lib.hid (show unhexTo s (k + 1) = unhexTo s k ++ [UInt8.ofNat (16 * (val (by_ s (2 * k))).toNat + (val (by_ s (2 * k + 1))).toNat)] by rw [unhexTo])
            have hl := Lib.hid (unhexTo_length s k)
            have hd2 := Lib.hid (show ∀ j, j < 2 * (k + 1) → 0 ≤ val (by_ s j) from fun j hj => by
              by_cases e1 : j = 2 * k
              · subst e1; omega
              · by_cases e2 : j = 2 * k + 1
                · subst e2; omega
                · exact hdg.out j (by omega))
            obtain ⟨x, hxe⟩ : ∃ x : Nat, val (by_ s (2 * k)) = x := ⟨_, (Int.toNat_of_nonneg (by omega)).symm⟩
            obtain ⟨y, hye⟩ : ∃ y : Nat, val (by_ s (2 * k + 1)) = y := ⟨_, (Int.toNat_of_nonneg (by omega)).symm⟩
            rw [hxe] at r1 hx hnx ⊢
            rw [hye] at r2 hy hnx ⊢
            rw [Int.toNat_natCast, Int.toNat_natCast] at hnx
            have hx16 : x < 16 := by omega
            have hy16 : y < 16 := by omega
            have x16 : (x : Int) < 16 := by omega
            have y16 : (y : Int) < 16 := by omega
            have hsh := Lib.hid (add_shift x y hx16 hy16)
            generalize UInt8.ofNat (16 * x + y) = c at *
            clear hxe hye r1 r2 n1 n2 hx hy
            have dx : decide ((x : Int) < 0) = false := decide_eq_false (by omega)
            have dy : decide ((y : Int) < 0) = false := decide_eq_false (by omega)
            have hoA := ho.out.1.alloc (.cells #[.int .u8 (c.toNat : Int)] 5)
            have hnews : ∀ (j : Nat) (u : Value), ([.int .u8 (c.toNat : Int)] : List Value)[j]? = some u → (wr.alloc (.cells #[.int .u8 (c.toNat : Int)] 5)).cell? ((⟨wr.heap.size, 0, none⟩ : Addr).add j) = some u := fun j u hj => by
              match j, hj with
              | 0, hj => simp at hj; subst hj; simp [Addr.add]
              | j + 1, hj => simp at hj
            have hBA := Lib.hid (hB.out.alloc hB.out.size (.cells #[.int .u8 (c.toNat : Int)] 5))
            have hsA : (wr.alloc (.cells #[.int .u8 (c.toNat : Int)] 5)).heap.size = wr.heap.size + 1 := by simp
            have hwr := hB.out.size
            go_wp2_with (at_builtin; rw [hsh.out]; refine wpList_append_own _ rfl _ _ 37 rfl w.heap.size 5 i0 (.int .u8 0) 1 1 Try.underlying37 hi hz0 hz1 hz2 rfl (by decide) _ _ _ rfl hoA ⟨wr.heap.size, 0, none⟩ 1 1 [.int .u8 (c.toNat : Int)] rfl rfl hnews ?c1 ?c3 ?c4 ?c5 ?_)
            case c1 => intro u hu; rw [List.mem_singleton] at hu; subst hu; rfl
            case c3 => have := hl.out; unfold maxLen; omega
            case c4 => have := hl.out; omega
            case c5 => omega
            intro v' w2 hown' hgrow hnil
            have ho2 : Own w.heap.size w2 v' (unhexTo s (k + 1)) := by
              rw [hnx.out]
              exact ⟨by simpa [Lib.byteCells] using hown', fun h => hnil h⟩
            have hB2 := hBA.out.grown hgrow (by omega) (fun k hk => (hoA.lt k hk).1)
            replace ho2 := Lib.hid ho2
            replace hB2 := Lib.hid hB2
            clear hoA hnews hBA hsA hown' hgrow hnil ho hB hnx hl hsh
            go_wp2_with fail
            exact ⟨⟨k + 1, by omega, by go_num, ho2.out, hd2.out, hB2.out⟩, by simp [intOf]; omega⟩
      · have hd : decide (2 * (k : Int) < 64) = false := decide_eq_false (by omega)
        have hd2 : (64 : Int) ≤ 2 * (k : Int) := by omega
        have h32 := Lib.hid (show k = 32 by omega)
        have hfin := Lib.hid (show IsUnhex s ⟨(unhexTo s k).toArray⟩ 0 from ⟨fun h => absurd h64 h, fun _ h => absurd (fun j hj => hdg.out j (by omega)) h, fun _ _ => ⟨by rw [h32.out]; rfl, rfl⟩⟩)
        obtain ⟨g, cap, rfl, hc⟩ := ho.slice
        have hcv := Own.conv (B := 0) (cap := cap) hc
        clear hc ho
        generalize unhexTo s k = l at *
        go_wp2
        go_ret2
        exact ⟨⟨_, _, rfl, hfin.out⟩, hB.out⟩
  · have d0 : ((s.size : Int) == 64) = false := by simp; omega
    go_wp2
    go_ret2
    exact ⟨⟨_, _, rfl, fun _ => ⟨rfl, rfl⟩, fun h => absurd h h64, fun h => absurd h h64⟩, Below.refl _ _⟩
/-- that n digits, and no fewer (of four at least), find the id -/
theorem tells_of_find {T : Nat → ByteArray} {len : Nat} {id : ByteArray} {n : Nat} (h4 : 4 ≤ n) (h64 : n ≤ 64)
    (ha : ∀ j, j < len → T j ≠ id → ∀ k, IsShare id (T j) k → k < n ∨ (T j).size ≠ 32)
    (hb : n = 4 ∨ ∃ j, j < len ∧ T j ≠ id ∧ ∃ k, IsShare id (T j) k ∧ n - 1 ≤ k) : Tells T len id n := by
  have ap : ∀ j, j < len → T j ≠ id → ∀ k, IsShare id (T j) k → k < n := fun j hj hne k hk => by
    rcases ha j hj hne k hk with h | h
    · exact h
    · rw [hk.none fun g => h g.2]; omega
  refine ⟨h4, h64, ap, ?_⟩
  rcases hb with h | ⟨j, hj, hne, k, hk, hle⟩
  · exact Or.inl h
  · have := ap j hj hne k hk
    have e : k = n - 1 := by omega
    subst e
    exact Or.inr ⟨j, hj, hne, hk⟩
theorem or_in {T : Nat → ByteArray} {id : ByteArray} {k : Nat} {c : Bool} (h : c = true ↔ ∃ j, j < k ∧ T j = id) : (c || decide (T k = id)) = true ↔ ∃ j, j < k + 1 ∧ T j = id := by
  rw [Bool.or_eq_true, h, decide_eq_true_iff]
  constructor
  · rintro (⟨j, hj, e⟩ | e)
    · exact ⟨j, by omega, e⟩
    · exact ⟨k, by omega, e⟩
  · rintro ⟨j, hj, e⟩
    by_cases g : j = k
    · subst g; exact Or.inr e
    · exact Or.inl ⟨j, by omega, e⟩
set_option maxRecDepth 100000 in
set_option maxHeartbeats 1000000 in
theorem RShort_calls (a : Option Addr) (len cap b off : Nat) (T : Nat → ByteArray) (id : ByteArray) (w : World) (hT : TextsAt w a b off len T) (hlen : len ≤ 140737488351232) :
    Calls Try.prog 25 #[.slice a len cap, .string id] w fun e w' => (∃ r, e = .returned (.string r) ∧ IsShort T len id r) ∧ Below w.heap.size w w' := by
  replace hT := Lib.hid hT
  go_enter Try.func25, Try.ntmps25
  go_wp2_with fail
  go_loopw [5, 6] (fun f i wr => ∃ (k : Nat) (c : Bool), k ≤ len ∧ i = .int .i64 k ∧ f = .bool c ∧ (c = true ↔ ∃ j, j < k ∧ T j = id) ∧ w = wr) (fun _ i _ => len - (intOf i).toNat)
  case atStart => exact ⟨0, false, by omega, rfl, rfl, by simp, rfl⟩
  case round =>
    obtain ⟨k, c, hk, rfl, rfl, hc, rfl⟩ := hrel
    by_cases hlt : k < len
    · have i1 : (k : Int) < len := by omega
      have i0 : 0 ≤ (k : Int) := by omega
      have ha := hT.out.addr (by omega)
      subst ha
      have c0 := hT.out.cell k hlt
      have hc2 := Lib.hid (or_in (T := T) (id := id) (k := k) hc)
      clear hc
      generalize T k = x at *
      cases c with
      | true =>
        simp only [Bool.true_or, true_iff] at hc2
        go_wp2_with fail
        exact ⟨⟨k + 1, true, by omega, by go_num, rfl, by simpa using hc2.out, by trivial⟩, by simp [intOf]; omega⟩
      | false =>
        by_cases he : x = id
        · have hb := eq_toList he
          rw [decide_eq_true he] at hc2
          replace he := Lib.hid he
          go_wp2_with fail
          exact ⟨⟨k + 1, true, by omega, by go_num, rfl, hc2.out, by trivial⟩, by simp [intOf]; omega⟩
        · have hb := ne_toList he
          rw [decide_eq_false he] at hc2
          replace he := Lib.hid he
          go_wp2_with fail
          exact ⟨⟨k + 1, false, by omega, by go_num, rfl, hc2.out, by trivial⟩, by simp [intOf]; omega⟩
    · have d0 : decide ((k : Int) < len) = false := decide_eq_false (by omega)
      have d1 : (len : Int) ≤ k := by omega
      have hkl : k = len := by omega
      subst hkl
      replace hc := Lib.hid hc
      go_wp2_with fail
      refine (RHex_calls id w).mono ?_
      rintro e w1 ⟨rfl, hB⟩
      have hT1 := Lib.hid (show TextsAt w1 a b off k T from ⟨hT.out.addr, fun i hi => (hB.cell (p := ⟨b, off + i, none⟩) (Oct.lt_of_cell (hT.out.cell i hi))).trans (hT.out.cell i hi), hT.out.size⟩)
      replace hB := Lib.hid hB
      clear hT
      by_cases hs : id.size = 32
      · cases c with
        | false =>
          have hno := Lib.hid (show ¬ ∃ j, j < k ∧ T j = id from fun h => by have := hc.out.2 h; cases this)
          have hz := hex_size hs
          generalize hex id = h at *
          go_wp2_with fail
          go_loopw [8] (fun i wr => w1 = wr) (fun i _ => 0)
          case atStart => exact rfl
          case round =>
            obtain rfl := hrel
            go_wp2
            go_ret
            exact ⟨⟨_, rfl, fun _ => rfl, fun _ h => absurd h hno.out⟩, hB.out⟩
        | true =>
          have hin := Lib.hid (hc.out.1 rfl)
          have hz := hex_size hs
          have hfo := Lib.hid (fun (n : Nat) (hn : n ≤ 64) (r : ByteArray) (e : Int) => find_ok (T := T) (len := k) (r := r) (e := e) hs hn hin.out)
          have hfin := Lib.hid (fun n (h : Tells T k id n) => (show IsShort T k id ((hex id).extract 0 n) from ⟨fun h => absurd ⟨hs, hin.out⟩ h, fun _ _ => ⟨n, h, rfl⟩⟩))
          clear hc
          generalize hex id = h at *
          go_wp2_with fail
          go_loopw [8] (fun i wr => ∃ n : Nat, 4 ≤ n ∧ n ≤ 64 ∧ i = .int .i64 n ∧ (n = 4 ∨ ∃ j, j < k ∧ T j ≠ id ∧ ∃ q, IsShare id (T j) q ∧ n - 1 ≤ q) ∧ w1 = wr) (fun i _ => 64 - (intOf i).toNat)
          case atStart => exact ⟨4, by omega, by omega, rfl, Or.inl rfl, rfl⟩
          case round =>
            obtain ⟨n, n4, n64, rfl, hf, rfl⟩ := hrel
            replace hf := Lib.hid hf
            have j1 : (n : Int) ≤ 64 := by omega
            have j0 : 0 ≤ (n : Int) := by omega
            go_wp2_with fail
            refine (RFind_calls a k cap b off T _ w1 hT1.out hlen).mono ?_
            rintro e w' ⟨⟨r, m, rfl, hF⟩, rfl⟩
            rcases hfo.out n n64 r m hF with ⟨rfl, rfl, hap⟩ | ⟨rfl, rfl, hmo⟩
            · have hsh := Lib.hid (hfin.out n (tells_of_find n4 n64 hap hf.out))
              clear hF hap hfo hfin
              go_wp2
              go_ret
              exact ⟨⟨_, rfl, hsh.out⟩, hB.out⟩
            · obtain ⟨j, hj, hne, q, hq, hle, hq32⟩ := hmo
              have q64 := share_lt hq hs hne
              have hf2 := Lib.hid (show n + 1 = 4 ∨ ∃ j, j < k ∧ T j ≠ id ∧ ∃ q, IsShare id (T j) q ∧ (n + 1) - 1 ≤ q from Or.inr ⟨j, hj, hne, q, hq, by omega⟩)
              clear hF hfo hfin hq hne hq32 hf
              go_wp2_with fail
              exact ⟨⟨n + 1, by omega, by omega, by go_num, hf2.out, by trivial⟩, by simp [intOf]; omega⟩
      · have hh := hex_bad hs
        rw [hh]
        clear hh hT1
        go_wp2_with fail
        go_loopw [8] (fun i wr => i = .int .i64 4 ∧ w1 = wr) (fun i _ => 0)
        case atStart => exact ⟨rfl, rfl⟩
        case round =>
          obtain ⟨rfl, rfl⟩ := hrel
          cases c with
          | true =>
            go_wp2
            go_ret
            exact ⟨⟨_, rfl, fun _ => rfl, fun h => absurd h hs⟩, hB.out⟩
          | false =>
            go_wp2
            go_ret
            exact ⟨⟨_, rfl, fun _ => rfl, fun h => absurd h hs⟩, hB.out⟩
end Go.Proofs.Ytopahoilbgmobaa.Ident
