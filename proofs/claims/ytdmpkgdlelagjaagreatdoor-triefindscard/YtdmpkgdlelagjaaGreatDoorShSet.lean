/-
  What the functions of a shelf's set do: a thing put in, taken out, looked for; how many there are, all, the one at a place. Conditions: a set is not too great for its count; its things rise.
-/
import Derived.Test.YtdmpkgdlelagjaaGreatDoorRows
import Derived.Test.YtdmpkgdlelagjaaGreatDoorShMap
import Derived.Test.YtdmpkgdlelagjaaGreatDoorShKeys
namespace Go.Proofs.YtdmpkgdlelagjaaGreatDoor.Ti
open Go.RowKit Sh
open Key (lt)
open Ent (key)
attribute [local go_sem] fold_none

end Go.Proofs.YtdmpkgdlelagjaaGreatDoor.Ti
namespace Go.Proofs.YtdmpkgdlelagjaaGreatDoor.Ts
open Go.RowKit Sh
open Key (lt)
open Ent (key)
attribute [local go_sem] fold_none

theorem setKeys_calls (w : World) (a : Option Addr) (h : a = none ∨ ∃ b, a = some ⟨b, 0, none⟩) :
    Calls Tryz.prog 58 #[.pointer a] w fun e w' => e = .returned (.pointer a) ∧ w' = w := by
  rcases h with rfl | ⟨b, rfl⟩
  · go_enter Tryz.func58, Tryz.ntmps58
    go_wp2
    go_ret
    exact ⟨rfl, rfl⟩
  · go_enter Tryz.func58, Tryz.ntmps58
    go_wp2
    go_ret
    exact ⟨rfl, rfl⟩
theorem At.addr {W : World} {t : TypeId} {a : Option Addr} {L : List ByteArray} (h : At W t a L) : a = none ∨ ∃ b, a = some ⟨b, 0, none⟩ := by
  rcases h with ⟨rfl, _⟩ | ⟨b, _, _, rfl, _⟩
  · exact Or.inl rfl
  · exact Or.inr ⟨b, rfl⟩
/-- a set -/
abbrev SetAt (W : World) (a : Option Addr) (L : List ByteArray) : Prop := At W 107 a L

theorem SetLen_calls (w : World) (a : Option Addr) (L : List ByteArray) (h : SetAt w a L) :
    Calls Tryz.prog 27 #[.pointer a] w fun e w' => e = .returned (.int .i64 (L.length : Int)) ∧ w' = w := by
  have hK := Lib.hid (setKeys_calls w a h.addr)
  have hL := Lib.hid (Len_calls w _ a L h)
  clear h
  go_enter Tryz.func27, Tryz.ntmps27
  go_wp2_with (first
    | (go_at_call 58; refine hK.out.mono ?_; rintro e w' ⟨rfl, rfl⟩)
    | (go_at_call 64; refine hL.out.mono ?_; rintro e w' ⟨rfl, rfl⟩))
  go_ret
  exact ⟨rfl, rfl⟩
theorem SetList_calls (w : World) (a : Option Addr) (L : List ByteArray) (h : SetAt w a L) (hb : L.length ≤ 1000000) :
    Calls Tryz.prog 46 #[.pointer a] w (Lists w 9 (keysV L)) := by
  have hK := Lib.hid (setKeys_calls w a h.addr)
  have hL := Lib.hid (Keys_calls w _ a L h hb)
  clear h
  go_enter Tryz.func46, Tryz.ntmps46
  go_wp2_with (first
    | (go_at_call 58; refine hK.out.mono ?_; rintro e w' ⟨rfl, hw⟩; obtain rfl := hw.symm; clear hw)
    | (go_at_call 76; refine hL.out.mono ?_; rintro e w' ⟨v, rfl, h1, h2⟩))
  go_ret
  exact ⟨v, rfl, h1, h2⟩
theorem Has_calls (w : World) (a : Option Addr) (L : List ByteArray) (k : ByteArray) (h : SetAt w a L) (hR : Rises L) :
    Calls Tryz.prog 61 #[.pointer a, .string k] w fun e w' => e = .returned (.bool (has k L)) ∧ Below w.heap.size w w' := by
  have hK := Lib.hid (setKeys_calls w a h.addr)
  have hL := Lib.hid (Get_calls w _ a L k h hR)
  clear h hR
  generalize has k L = z at *
  go_enter Tryz.func61, Tryz.ntmps61
  go_wp2_with (first
    | (go_at_call 58; refine hK.out.mono ?_; rintro e w' ⟨rfl, hw⟩; obtain rfl := hw.symm; clear hw)
    | (go_at_call 88; refine hL.out.mono ?_; rintro e w' ⟨rfl, h1⟩))
  go_ret
  exact ⟨rfl, b_then h1 (b_alloc _ _)⟩
theorem Add_calls (w : World) (b : Nat) (L : List ByteArray) (x : ByteArray) (h : SetAt w (some ⟨b, 0, none⟩) L) (hR : Rises L) (hb : L.length < 600000) :
    Calls Tryz.prog 23 #[.pointer (some ⟨b, 0, none⟩), .string x] w fun r w' => r = .returned (.bool (!has (key x) L)) ∧ Turns w 107 b (ins x L) w' := by
  have hK := Lib.hid (setKeys_calls w _ h.addr)
  have hL := Lib.hid (Put_calls w _ b L x (by decide) h hR hb)
  clear h hR hb
  generalize (!has (key x) L) = z at *
  go_enter Tryz.func23, Tryz.ntmps23
  go_wp2_with (first
    | (go_at_call 58; refine hK.out.mono ?_; rintro e w' ⟨rfl, hw⟩; obtain rfl := hw.symm; clear hw)
    | (go_at_call 59; refine hL.out.mono ?_; rintro e w' ⟨rfl, h1⟩))
  go_ret
  exact ⟨rfl, h1⟩
/-- of a nil set nothing is put in or taken out -/
theorem AddNil_calls (w : World) (x : ByteArray) :
    Calls Tryz.prog 23 #[.pointer none, .string x] w fun r w' => r = .returned (.bool false) ∧ Below w.heap.size w w' := by
  have hK := Lib.hid (setKeys_calls w none (Or.inl rfl))
  have hL : Hid (Calls Tryz.prog 59 #[.pointer none, .string x, .agg #[]] w fun r w' => r = .returned (.bool false) ∧ Below w.heap.size w w') := Lib.hid (by
    have b0 := b_alloc w (.cells #[] 85)
    go_enter Tryz.func59, Tryz.ntmps59
    go_wp2
    go_ret
    exact ⟨rfl, b0⟩)
  go_enter Tryz.func23, Tryz.ntmps23
  go_wp2_with (first
    | (go_at_call 58; refine hK.out.mono ?_; rintro e w' ⟨rfl, hw⟩; obtain rfl := hw.symm; clear hw)
    | (go_at_call 59; refine hL.out.mono ?_; rintro e w' ⟨rfl, h1⟩))
  go_ret
  exact ⟨rfl, h1⟩
end Go.Proofs.YtdmpkgdlelagjaaGreatDoor.Ts
