/-
  What the functions of a shelf's set do: a thing put in, taken out, looked for; how many there are, all, the one at a place. Conditions: a set is not too great for its count; its things rise.
-/
import Derived.Test.YtkdghmbglaghlaaGreatRows
import Derived.Test.YtkdghmbglaghlaaGreatShMap
import Derived.Test.YtkdghmbglaghlaaGreatShKeys
namespace Go.Proofs.YtkdghmbglaghlaaGreat.Ti
open Go.RowKit Sh
open Key (lt)
open Ent (key)
attribute [local go_sem] fold_none

theorem setKeys_calls (w : World) (a : Option Addr) (h : a = none ∨ ∃ b, a = some ⟨b, 0, none⟩) :
    Calls Tryz.prog 44 #[.pointer a] w fun e w' => e = .returned (.pointer a) ∧ w' = w := by
  rcases h with rfl | ⟨b, rfl⟩
  · go_enter Tryz.func44, Tryz.ntmps44
    go_wp2
    go_ret
    exact ⟨rfl, rfl⟩
  · go_enter Tryz.func44, Tryz.ntmps44
    go_wp2
    go_ret
    exact ⟨rfl, rfl⟩
theorem At.addr {W : World} {t : TypeId} {a : Option Addr} {L : List Int} (h : At W t a L) : a = none ∨ ∃ b, a = some ⟨b, 0, none⟩ := by
  rcases h with ⟨rfl, _⟩ | ⟨b, _, _, rfl, _⟩
  · exact Or.inl rfl
  · exact Or.inr ⟨b, rfl⟩
/-- a set -/
abbrev SetAt (W : World) (a : Option Addr) (L : List Int) : Prop := At W 113 a L

theorem SetLen_calls (w : World) (a : Option Addr) (L : List Int) (h : SetAt w a L) :
    Calls Tryz.prog 16 #[.pointer a] w fun e w' => e = .returned (.int .i64 (L.length : Int)) ∧ w' = w := by
  have hK := Lib.hid (setKeys_calls w a h.addr)
  have hL := Lib.hid (Len_calls w _ a L h)
  clear h
  go_enter Tryz.func16, Tryz.ntmps16
  go_wp2_with (first
    | (go_at_call 44; refine hK.out.mono ?_; rintro e w' ⟨rfl, rfl⟩)
    | (go_at_call 45; refine hL.out.mono ?_; rintro e w' ⟨rfl, rfl⟩))
  go_ret
  exact ⟨rfl, rfl⟩
theorem SetList_calls (w : World) (a : Option Addr) (L : List Int) (h : SetAt w a L) (hb : L.length ≤ 1000000) :
    Calls Tryz.prog 50 #[.pointer a] w (Lists w 3 (keysV L)) := by
  have hK := Lib.hid (setKeys_calls w a h.addr)
  have hL := Lib.hid (Keys_calls w _ a L h hb)
  clear h
  go_enter Tryz.func50, Tryz.ntmps50
  go_wp2_with (first
    | (go_at_call 44; refine hK.out.mono ?_; rintro e w' ⟨rfl, hw⟩; obtain rfl := hw.symm; clear hw)
    | (go_at_call 76; refine hL.out.mono ?_; rintro e w' ⟨v, rfl, h1, h2⟩))
  go_ret
  exact ⟨v, rfl, h1, h2⟩
theorem Has_calls (w : World) (a : Option Addr) (L : List Int) (k : Int) (h : SetAt w a L) (hR : Rises L) :
    Calls Tryz.prog 23 #[.pointer a, .int .i64 k] w fun e w' => e = .returned (.bool (has k L)) ∧ Below w.heap.size w w' := by
  have hK := Lib.hid (setKeys_calls w a h.addr)
  have hL := Lib.hid (Get_calls w _ a L k h hR)
  clear h hR
  generalize has k L = z at *
  go_enter Tryz.func23, Tryz.ntmps23
  go_wp2_with (first
    | (go_at_call 44; refine hK.out.mono ?_; rintro e w' ⟨rfl, hw⟩; obtain rfl := hw.symm; clear hw)
    | (go_at_call 54; refine hL.out.mono ?_; rintro e w' ⟨rfl, h1⟩))
  go_ret
  exact ⟨rfl, b_then h1 (b_alloc _ _)⟩
theorem Add_calls (w : World) (b : Nat) (L : List Int) (x : Int) (h : SetAt w (some ⟨b, 0, none⟩) L) (hR : Rises L) (hb : L.length < 600000) :
    Calls Tryz.prog 17 #[.pointer (some ⟨b, 0, none⟩), .int .i64 x] w fun r w' => r = .returned (.bool (!has (key x) L)) ∧ Turns w 113 b (ins x L) w' := by
  have hK := Lib.hid (setKeys_calls w _ h.addr)
  have hL := Lib.hid (Put_calls w _ b L x (by decide) h hR hb)
  clear h hR hb
  generalize (!has (key x) L) = z at *
  go_enter Tryz.func17, Tryz.ntmps17
  go_wp2_with (first
    | (go_at_call 44; refine hK.out.mono ?_; rintro e w' ⟨rfl, hw⟩; obtain rfl := hw.symm; clear hw)
    | (go_at_call 46; refine hL.out.mono ?_; rintro e w' ⟨rfl, h1⟩))
  go_ret
  exact ⟨rfl, h1⟩
/-- of a nil set nothing is put in or taken out -/
theorem AddNil_calls (w : World) (x : Int) :
    Calls Tryz.prog 17 #[.pointer none, .int .i64 x] w fun r w' => r = .returned (.bool false) ∧ Below w.heap.size w w' := by
  have hK := Lib.hid (setKeys_calls w none (Or.inl rfl))
  have hL : Hid (Calls Tryz.prog 46 #[.pointer none, .int .i64 x, .agg #[]] w fun r w' => r = .returned (.bool false) ∧ Below w.heap.size w w') := Lib.hid (by
    have b0 := b_alloc w (.cells #[] 55)
    go_enter Tryz.func46, Tryz.ntmps46
    go_wp2
    go_ret
    exact ⟨rfl, b0⟩)
  go_enter Tryz.func17, Tryz.ntmps17
  go_wp2_with (first
    | (go_at_call 44; refine hK.out.mono ?_; rintro e w' ⟨rfl, hw⟩; obtain rfl := hw.symm; clear hw)
    | (go_at_call 46; refine hL.out.mono ?_; rintro e w' ⟨rfl, h1⟩))
  go_ret
  exact ⟨rfl, h1⟩
theorem SetAt_calls (w : World) (a : Option Addr) (L : List Int) (i : Int) (h : SetAt w a L) (hb : L.length < 900000) (hi : i < 9223372036854775808) (v : Int) (z : Bool) (hv : (nth i L = none ∧ v = default ∧ z = false) ∨ (nth i L = some v ∧ z = true)) :
    Calls Tryz.prog 18 #[.pointer a, .int .i64 i] w fun e w' => e = .returned (.tuple #[.int .i64 v, .bool z]) ∧ w' = w := by
  have hK := Lib.hid (setKeys_calls w a h.addr)
  have hT := Lib.hid (tree_calls w _ a L h)
  have hF := Lib.hid fun p T (h2 : IsTree w p T) (h3 : T.flat = L) => at_calls w p T i h2 (by show T.flat.length < _; rw [h3]; exact hb) hi
  replace hv := Lib.hid hv
  clear h hb hi
  go_enter Tryz.func18, Tryz.ntmps18
  go_wp2_with (first
    | (go_at_call 44; refine hK.out.mono ?_; rintro e w' ⟨rfl, hw⟩; obtain rfl := hw.symm; clear hw)
    | (go_at_call 47; refine hT.out.mono ?_; rintro e w' ⟨⟨p, T, rfl, h2, h3⟩, hw⟩; obtain rfl := hw.symm; clear hw; have hF2 := Lib.hid (hF.out p T h2 h3); replace h3 := Lib.hid h3; clear h2)
    | (go_at_call 48; refine hF2.out.mono ?_; rintro e w' ⟨hf, hw⟩; obtain rfl := hw.symm; clear hw; rw [h3.out] at hf; (rcases hf with ⟨h4, rfl⟩ | ⟨x, b, pl, pr, n, h4, rfl, hN⟩) <;> (try have c1 := Node.key hN)))
  · rcases hv.out with ⟨_, rfl, rfl⟩ | ⟨hy, _⟩
    · go_ret2
      exact ⟨rfl, rfl⟩
    · rw [hy] at h4; cases h4
  · rcases hv.out with ⟨hy, _⟩ | ⟨hy, rfl⟩
    · rw [hy] at h4; cases h4
    · obtain rfl : v = x := Option.some.inj (hy.symm.trans h4)
      go_ret2
      exact ⟨rfl, rfl⟩
end Go.Proofs.YtkdghmbglaghlaaGreat.Ti
namespace Go.Proofs.YtkdghmbglaghlaaGreat.Ts
open Go.RowKit Sh
open Key (lt)
open Ent (key)
attribute [local go_sem] fold_none

theorem setKeys_calls (w : World) (a : Option Addr) (h : a = none ∨ ∃ b, a = some ⟨b, 0, none⟩) :
    Calls Tryz.prog 33 #[.pointer a] w fun e w' => e = .returned (.pointer a) ∧ w' = w := by
  rcases h with rfl | ⟨b, rfl⟩
  · go_enter Tryz.func33, Tryz.ntmps33
    go_wp2
    go_ret
    exact ⟨rfl, rfl⟩
  · go_enter Tryz.func33, Tryz.ntmps33
    go_wp2
    go_ret
    exact ⟨rfl, rfl⟩
theorem At.addr {W : World} {t : TypeId} {a : Option Addr} {L : List ByteArray} (h : At W t a L) : a = none ∨ ∃ b, a = some ⟨b, 0, none⟩ := by
  rcases h with ⟨rfl, _⟩ | ⟨b, _, _, rfl, _⟩
  · exact Or.inl rfl
  · exact Or.inr ⟨b, rfl⟩
/-- a set -/
abbrev SetAt (W : World) (a : Option Addr) (L : List ByteArray) : Prop := At W 97 a L

theorem SetLen_calls (w : World) (a : Option Addr) (L : List ByteArray) (h : SetAt w a L) :
    Calls Tryz.prog 10 #[.pointer a] w fun e w' => e = .returned (.int .i64 (L.length : Int)) ∧ w' = w := by
  have hK := Lib.hid (setKeys_calls w a h.addr)
  have hL := Lib.hid (Len_calls w _ a L h)
  clear h
  go_enter Tryz.func10, Tryz.ntmps10
  go_wp2_with (first
    | (go_at_call 33; refine hK.out.mono ?_; rintro e w' ⟨rfl, rfl⟩)
    | (go_at_call 34; refine hL.out.mono ?_; rintro e w' ⟨rfl, rfl⟩))
  go_ret
  exact ⟨rfl, rfl⟩
theorem SetList_calls (w : World) (a : Option Addr) (L : List ByteArray) (h : SetAt w a L) (hb : L.length ≤ 1000000) :
    Calls Tryz.prog 12 #[.pointer a] w (Lists w 9 (keysV L)) := by
  have hK := Lib.hid (setKeys_calls w a h.addr)
  have hL := Lib.hid (Keys_calls w _ a L h hb)
  clear h
  go_enter Tryz.func12, Tryz.ntmps12
  go_wp2_with (first
    | (go_at_call 33; refine hK.out.mono ?_; rintro e w' ⟨rfl, hw⟩; obtain rfl := hw.symm; clear hw)
    | (go_at_call 36; refine hL.out.mono ?_; rintro e w' ⟨v, rfl, h1, h2⟩))
  go_ret
  exact ⟨v, rfl, h1, h2⟩
theorem Has_calls (w : World) (a : Option Addr) (L : List ByteArray) (k : ByteArray) (h : SetAt w a L) (hR : Rises L) :
    Calls Tryz.prog 13 #[.pointer a, .string k] w fun e w' => e = .returned (.bool (has k L)) ∧ Below w.heap.size w w' := by
  have hK := Lib.hid (setKeys_calls w a h.addr)
  have hL := Lib.hid (Get_calls w _ a L k h hR)
  clear h hR
  generalize has k L = z at *
  go_enter Tryz.func13, Tryz.ntmps13
  go_wp2_with (first
    | (go_at_call 33; refine hK.out.mono ?_; rintro e w' ⟨rfl, hw⟩; obtain rfl := hw.symm; clear hw)
    | (go_at_call 37; refine hL.out.mono ?_; rintro e w' ⟨rfl, h1⟩))
  go_ret
  exact ⟨rfl, b_then h1 (b_alloc _ _)⟩
theorem SetAt_calls (w : World) (a : Option Addr) (L : List ByteArray) (i : Int) (h : SetAt w a L) (hb : L.length < 900000) (hi : i < 9223372036854775808) (v : ByteArray) (z : Bool) (hv : (nth i L = none ∧ v = default ∧ z = false) ∨ (nth i L = some v ∧ z = true)) :
    Calls Tryz.prog 14 #[.pointer a, .int .i64 i] w fun e w' => e = .returned (.tuple #[.string v, .bool z]) ∧ w' = w := by
  have hK := Lib.hid (setKeys_calls w a h.addr)
  have hT := Lib.hid (tree_calls w _ a L h)
  have hF := Lib.hid fun p T (h2 : IsTree w p T) (h3 : T.flat = L) => at_calls w p T i h2 (by show T.flat.length < _; rw [h3]; exact hb) hi
  replace hv := Lib.hid hv
  clear h hb hi
  go_enter Tryz.func14, Tryz.ntmps14
  go_wp2_with (first
    | (go_at_call 33; refine hK.out.mono ?_; rintro e w' ⟨rfl, hw⟩; obtain rfl := hw.symm; clear hw)
    | (go_at_call 38; refine hT.out.mono ?_; rintro e w' ⟨⟨p, T, rfl, h2, h3⟩, hw⟩; obtain rfl := hw.symm; clear hw; have hF2 := Lib.hid (hF.out p T h2 h3); replace h3 := Lib.hid h3; clear h2)
    | (go_at_call 39; refine hF2.out.mono ?_; rintro e w' ⟨hf, hw⟩; obtain rfl := hw.symm; clear hw; rw [h3.out] at hf; (rcases hf with ⟨h4, rfl⟩ | ⟨x, b, pl, pr, n, h4, rfl, hN⟩) <;> (try have c1 := Node.key hN)))
  · rcases hv.out with ⟨_, rfl, rfl⟩ | ⟨hy, _⟩
    · go_ret2
      exact ⟨rfl, rfl⟩
    · rw [hy] at h4; cases h4
  · rcases hv.out with ⟨hy, _⟩ | ⟨hy, rfl⟩
    · rw [hy] at h4; cases h4
    · obtain rfl : v = x := Option.some.inj (hy.symm.trans h4)
      go_ret2
      exact ⟨rfl, rfl⟩
end Go.Proofs.YtkdghmbglaghlaaGreat.Ts
