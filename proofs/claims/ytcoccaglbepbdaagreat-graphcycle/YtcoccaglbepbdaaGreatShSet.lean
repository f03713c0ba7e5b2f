/-
  What the functions of a shelf's set do: a thing put in, taken out, looked for; how many there are, all, the one at a place. Conditions: a set is not too great for its count; its things rise.
-/
import Derived.Test.YtcoccaglbepbdaaGreatRows
import Derived.Test.YtcoccaglbepbdaaGreatShMap
import Derived.Test.YtcoccaglbepbdaaGreatShKeys
namespace Go.Proofs.YtcoccaglbepbdaaGreat.Ti
open Go.RowKit Sh
open Key (lt)
open Ent (key)
attribute [local go_sem] fold_none

theorem setKeys_calls (w : World) (a : Option Addr) (h : a = none ∨ ∃ b, a = some ⟨b, 0, none⟩) :
    Calls Tryz.prog 61 #[.pointer a] w fun e w' => e = .returned (.pointer a) ∧ w' = w := by
  rcases h with rfl | ⟨b, rfl⟩
  · go_enter Tryz.func61, Tryz.ntmps61
    go_wp2
    go_ret
    exact ⟨rfl, rfl⟩
  · go_enter Tryz.func61, Tryz.ntmps61
    go_wp2
    go_ret
    exact ⟨rfl, rfl⟩
theorem At.addr {W : World} {t : TypeId} {a : Option Addr} {L : List Int} (h : At W t a L) : a = none ∨ ∃ b, a = some ⟨b, 0, none⟩ := by
  rcases h with ⟨rfl, _⟩ | ⟨b, _, _, rfl, _⟩
  · exact Or.inl rfl
  · exact Or.inr ⟨b, rfl⟩
/-- a set -/
abbrev SetAt (W : World) (a : Option Addr) (L : List Int) : Prop := At W 110 a L

theorem SetLen_calls (w : World) (a : Option Addr) (L : List Int) (h : SetAt w a L) :
    Calls Tryz.prog 31 #[.pointer a] w fun e w' => e = .returned (.int .i64 (L.length : Int)) ∧ w' = w := by
  have hK := Lib.hid (setKeys_calls w a h.addr)
  have hL := Lib.hid (Len_calls w _ a L h)
  clear h
  go_enter Tryz.func31, Tryz.ntmps31
  go_wp2_with (first
    | (go_at_call 61; refine hK.out.mono ?_; rintro e w' ⟨rfl, rfl⟩)
    | (go_at_call 66; refine hL.out.mono ?_; rintro e w' ⟨rfl, rfl⟩))
  go_ret
  exact ⟨rfl, rfl⟩
theorem SetList_calls (w : World) (a : Option Addr) (L : List Int) (h : SetAt w a L) (hb : L.length ≤ 1000000) :
    Calls Tryz.prog 33 #[.pointer a] w (Lists w 3 (keysV L)) := by
  have hK := Lib.hid (setKeys_calls w a h.addr)
  have hL := Lib.hid (Keys_calls w _ a L h hb)
  clear h
  go_enter Tryz.func33, Tryz.ntmps33
  go_wp2_with (first
    | (go_at_call 61; refine hK.out.mono ?_; rintro e w' ⟨rfl, hw⟩; obtain rfl := hw.symm; clear hw)
    | (go_at_call 68; refine hL.out.mono ?_; rintro e w' ⟨v, rfl, h1, h2⟩))
  go_ret
  exact ⟨v, rfl, h1, h2⟩
theorem Has_calls (w : World) (a : Option Addr) (L : List Int) (k : Int) (h : SetAt w a L) (hR : Rises L) :
    Calls Tryz.prog 27 #[.pointer a, .int .i64 k] w fun e w' => e = .returned (.bool (has k L)) ∧ Below w.heap.size w w' := by
  have hK := Lib.hid (setKeys_calls w a h.addr)
  have hL := Lib.hid (Get_calls w _ a L k h hR)
  clear h hR
  generalize has k L = z at *
  go_enter Tryz.func27, Tryz.ntmps27
  go_wp2_with (first
    | (go_at_call 61; refine hK.out.mono ?_; rintro e w' ⟨rfl, hw⟩; obtain rfl := hw.symm; clear hw)
    | (go_at_call 62; refine hL.out.mono ?_; rintro e w' ⟨rfl, h1⟩))
  go_ret
  exact ⟨rfl, b_then h1 (b_alloc _ _)⟩
theorem Add_calls (w : World) (b : Nat) (L : List Int) (x : Int) (h : SetAt w (some ⟨b, 0, none⟩) L) (hR : Rises L) (hb : L.length < 600000) :
    Calls Tryz.prog 28 #[.pointer (some ⟨b, 0, none⟩), .int .i64 x] w fun r w' => r = .returned (.bool (!has (key x) L)) ∧ Turns w 110 b (ins x L) w' := by
  have hK := Lib.hid (setKeys_calls w _ h.addr)
  have hL := Lib.hid (Put_calls w _ b L x (by decide) h hR hb)
  clear h hR hb
  generalize (!has (key x) L) = z at *
  go_enter Tryz.func28, Tryz.ntmps28
  go_wp2_with (first
    | (go_at_call 61; refine hK.out.mono ?_; rintro e w' ⟨rfl, hw⟩; obtain rfl := hw.symm; clear hw)
    | (go_at_call 63; refine hL.out.mono ?_; rintro e w' ⟨rfl, h1⟩))
  go_ret
  exact ⟨rfl, h1⟩
theorem SetDel_calls (w : World) (b : Nat) (L : List Int) (x : Int) (h : SetAt w (some ⟨b, 0, none⟩) L) (hR : Rises L) (hb : L.length < 600000) :
    Calls Tryz.prog 81 #[.pointer (some ⟨b, 0, none⟩), .int .i64 x] w fun r w' => r = .returned (.bool (has x L)) ∧ Turns w 110 b (del x L) w' := by
  have hK := Lib.hid (setKeys_calls w _ h.addr)
  have hL := Lib.hid (Del_calls w _ b L x (by decide) h hR hb)
  clear h hR hb
  generalize has x L = z at *
  go_enter Tryz.func81, Tryz.ntmps81
  go_wp2_with (first
    | (go_at_call 61; refine hK.out.mono ?_; rintro e w' ⟨rfl, hw⟩; obtain rfl := hw.symm; clear hw)
    | (go_at_call 102; refine hL.out.mono ?_; rintro e w' ⟨rfl, h1⟩))
  go_ret
  exact ⟨rfl, h1⟩
/-- of a nil set nothing is put in or taken out -/
theorem AddNil_calls (w : World) (x : Int) :
    Calls Tryz.prog 28 #[.pointer none, .int .i64 x] w fun r w' => r = .returned (.bool false) ∧ Below w.heap.size w w' := by
  have hK := Lib.hid (setKeys_calls w none (Or.inl rfl))
  have hL : Hid (Calls Tryz.prog 63 #[.pointer none, .int .i64 x, .agg #[]] w fun r w' => r = .returned (.bool false) ∧ Below w.heap.size w w') := Lib.hid (by
    have b0 := b_alloc w (.cells #[] 80)
    go_enter Tryz.func63, Tryz.ntmps63
    go_wp2
    go_ret
    exact ⟨rfl, b0⟩)
  go_enter Tryz.func28, Tryz.ntmps28
  go_wp2_with (first
    | (go_at_call 61; refine hK.out.mono ?_; rintro e w' ⟨rfl, hw⟩; obtain rfl := hw.symm; clear hw)
    | (go_at_call 63; refine hL.out.mono ?_; rintro e w' ⟨rfl, h1⟩))
  go_ret
  exact ⟨rfl, h1⟩
theorem DelNil_calls (w : World) (x : Int) :
    Calls Tryz.prog 81 #[.pointer none, .int .i64 x] w fun r w' => r = .returned (.bool false) ∧ w' = w := by
  have hK := Lib.hid (setKeys_calls w none (Or.inl rfl))
  have hL : Hid (Calls Tryz.prog 102 #[.pointer none, .int .i64 x] w fun r w' => r = .returned (.bool false) ∧ w' = w) := Lib.hid (by
    go_enter Tryz.func102, Tryz.ntmps102
    go_wp2
    go_ret
    exact ⟨rfl, rfl⟩)
  go_enter Tryz.func81, Tryz.ntmps81
  go_wp2_with (first
    | (go_at_call 61; refine hK.out.mono ?_; rintro e w' ⟨rfl, hw⟩; obtain rfl := hw.symm; clear hw)
    | (go_at_call 102; refine hL.out.mono ?_; rintro e w' ⟨rfl, hw⟩; obtain rfl := hw.symm; clear hw))
  go_ret
  exact ⟨rfl, rfl⟩
theorem SetAt_calls (w : World) (a : Option Addr) (L : List Int) (i : Int) (h : SetAt w a L) (hb : L.length < 900000) (hi : i < 9223372036854775808) (v : Int) (z : Bool) (hv : (nth i L = none ∧ v = default ∧ z = false) ∨ (nth i L = some v ∧ z = true)) :
    Calls Tryz.prog 80 #[.pointer a, .int .i64 i] w fun e w' => e = .returned (.tuple #[.int .i64 v, .bool z]) ∧ w' = w := by
  have hK := Lib.hid (setKeys_calls w a h.addr)
  have hT := Lib.hid (tree_calls w _ a L h)
  have hF := Lib.hid fun p T (h2 : IsTree w p T) (h3 : T.flat = L) => at_calls w p T i h2 (by show T.flat.length < _; rw [h3]; exact hb) hi
  replace hv := Lib.hid hv
  clear h hb hi
  go_enter Tryz.func80, Tryz.ntmps80
  go_wp2_with (first
    | (go_at_call 61; refine hK.out.mono ?_; rintro e w' ⟨rfl, hw⟩; obtain rfl := hw.symm; clear hw)
    | (go_at_call 87; refine hT.out.mono ?_; rintro e w' ⟨⟨p, T, rfl, h2, h3⟩, hw⟩; obtain rfl := hw.symm; clear hw; have hF2 := Lib.hid (hF.out p T h2 h3); replace h3 := Lib.hid h3; clear h2)
    | (go_at_call 101; refine hF2.out.mono ?_; rintro e w' ⟨hf, hw⟩; obtain rfl := hw.symm; clear hw; rw [h3.out] at hf; (rcases hf with ⟨h4, rfl⟩ | ⟨x, b, pl, pr, n, h4, rfl, hN⟩) <;> (try have c1 := Node.key hN)))
  · rcases hv.out with ⟨_, rfl, rfl⟩ | ⟨hy, _⟩
    · go_ret2
      exact ⟨rfl, rfl⟩
    · rw [hy] at h4; cases h4
  · rcases hv.out with ⟨hy, _⟩ | ⟨hy, rfl⟩
    · rw [hy] at h4; cases h4
    · obtain rfl : v = x := Option.some.inj (hy.symm.trans h4)
      go_ret2
      exact ⟨rfl, rfl⟩
end Go.Proofs.YtcoccaglbepbdaaGreat.Ti
namespace Go.Proofs.YtcoccaglbepbdaaGreat.Ts
open Go.RowKit Sh
open Key (lt)
open Ent (key)
attribute [local go_sem] fold_none

end Go.Proofs.YtcoccaglbepbdaaGreat.Ts
