/-
  A tree balanced; what a tree finds under a key and at a place. Conditions: a tree is not too great for its count; its keys rise.
-/
import Derived.Test.YtdmpkgdlelagjaaGreatDoorRows
import Derived.Test.YtdmpkgdlelagjaaGreatDoorShTurn
import Derived.Test.YtdmpkgdlelagjaaGreatDoorShCmp
import Derived.Deep.LoopGhost
namespace Go.Proofs.YtdmpkgdlelagjaaGreatDoor.Sh
/-- what stands at a place -/
def nth {E : Type} (i : Int) (l : List E) : Option E := if 0 ≤ i then l[i.toNat]? else none
theorem nth_nil {E : Type} (i : Int) : nth i ([] : List E) = none := by simp [nth]
theorem nth_left {E : Type} {i : Int} {l r : List E} {e : E} (h : i < l.length) : nth i (l ++ e :: r) = nth i l := by
  unfold nth
  by_cases h0 : 0 ≤ i
  · rw [if_pos h0, if_pos h0, List.getElem?_append_left (by omega)]
  · rw [if_neg h0, if_neg h0]
theorem nth_right {E : Type} {i : Int} {l r : List E} {e : E} (h : (l.length : Int) < i) : nth i (l ++ e :: r) = nth (i - (l.length + 1 : Nat)) r := by
  unfold nth
  rw [if_pos (by omega), if_pos (by omega), List.getElem?_append_right (by omega)]
  have : i.toNat - l.length = (i - (l.length + 1 : Nat)).toNat + 1 := by omega
  rw [this, List.getElem?_cons_succ]
theorem nth_here {E : Type} {i : Int} {l r : List E} {e : E} (h : i = l.length) : nth i (l ++ e :: r) = some e := by
  unfold nth
  rw [if_pos (by omega), List.getElem?_append_right (by omega)]
  have : i.toNat - l.length = 0 := by omega
  rw [this]; rfl
end Go.Proofs.YtdmpkgdlelagjaaGreatDoor.Sh
namespace Go.Proofs.YtdmpkgdlelagjaaGreatDoor.Ti
open Go.RowKit Sh
open Key (lt)
open Ent (key)
attribute [local go_sem] fold_none

end Go.Proofs.YtdmpkgdlelagjaaGreatDoor.Ti
namespace Go.Proofs.YtdmpkgdlelagjaaGreatDoor.Ts
open Go.RowKit Sh
open Key (lt)
open Ent (key)
attribute [local go_sem] fold_none

set_option maxHeartbeats 2000000 in
set_option maxRecDepth 100000 in
theorem balanced_calls (w : World) (b n0 : Nat) (x : ByteArray) (pl pr pL pR : Option Addr) (L R : Tr ByteArray) (hN : Node w b x pl pr n0) (hl : IsTree w pL L) (hr : IsTree w pR R) (hb : L.num + R.num < 800000) :
    Calls Tryz.prog 116 #[.pointer (some ⟨b, 0, none⟩), .pointer pL, .pointer pR] w (GivesL w (L.flat ++ x :: R.flat)) := by
  have k1 := Lib.hid (weight_calls w pL L hl (by omega))
  have k2 := Lib.hid (weight_calls w pR R hr (by omega))
  have j1 := three_nat L.num (by omega)
  have j2 := three_nat R.num (by omega)
  by_cases h1 : 3 * (L.num + 1) < R.num + 1
  · have d1 : ((3 * (L.num + 1) : Nat) : Int) < ((R.num + 1 : Nat) : Int) := by omega
    cases R with
    | nil => rw [num_nil] at h1; omega
    | node RL y RR =>
      have hz := num_node RL RR y
      have hT := Lib.hid (turnedLeft_calls w b n0 x y pl pr pL pR L RL RR hN hl hr (by omega))
      clear hN hl hr hz
      generalize hf : L.flat ++ x :: (Tr.node RL y RR).flat = Z at *
      have hT2 : Hid (Calls Tryz.prog 135 #[.pointer (some ⟨b, 0, none⟩), .pointer pL, .pointer pR] w (GivesL w Z)) := Lib.hid (hf ▸ hT.out)
      clear hT hf
      generalize 3 * (L.num + 1) = m3 at *
      generalize L.num + 1 = m at *
      generalize 3 * ((Tr.node RL y RR).num + 1) = k3 at *
      generalize (Tr.node RL y RR).num + 1 = k at *
      go_enter Tryz.func116, Tryz.ntmps116
      go_wp2_with fail
      refine k2.out.mono ?_
      rintro e w' ⟨rfl, rfl⟩
      go_wp2_with fail
      refine k1.out.mono ?_
      rintro e w' ⟨rfl, rfl⟩
      go_wp2_with fail
      refine hT2.out.mono ?_
      rintro e w3 h3
      have h4 := Lib.hid h3
      obtain ⟨p3, _, rfl, -⟩ := h3
      go_wp2
      go_ret
      exact h4.out
  · have d1 : decide (((3 * (L.num + 1) : Nat) : Int) < ((R.num + 1 : Nat) : Int)) = false := decide_eq_false (by omega)
    have d2 : ((R.num + 1 : Nat) : Int) ≤ ((3 * (L.num + 1) : Nat) : Int) := by omega
    by_cases h2 : 3 * (R.num + 1) < L.num + 1
    · have d3 : ((3 * (R.num + 1) : Nat) : Int) < ((L.num + 1 : Nat) : Int) := by omega
      cases L with
      | nil => rw [num_nil] at h2; omega
      | node RL y RR =>
        have hz := num_node RL RR y
        have hT := Lib.hid (turnedRight_calls w b n0 x y pl pr pL pR R RL RR hN hr hl (by omega))
        clear hN hl hr hz
        generalize hf : (Tr.node RL y RR).flat ++ x :: R.flat = Z at *
        have hT2 : Hid (Calls Tryz.prog 136 #[.pointer (some ⟨b, 0, none⟩), .pointer pL, .pointer pR] w (GivesL w Z)) := Lib.hid (hf ▸ hT.out)
        clear hT hf
        generalize 3 * (R.num + 1) = m3 at *
        generalize R.num + 1 = m at *
        generalize 3 * ((Tr.node RL y RR).num + 1) = k3 at *
        generalize (Tr.node RL y RR).num + 1 = k at *
        go_enter Tryz.func116, Tryz.ntmps116
        go_wp2_with fail
        refine k2.out.mono ?_
        rintro e w' ⟨rfl, rfl⟩
        go_wp2_with fail
        refine k1.out.mono ?_
        rintro e w' ⟨rfl, rfl⟩
        go_wp2_with fail
        refine k1.out.mono ?_
        rintro e w' ⟨rfl, rfl⟩
        go_wp2_with fail
        refine k2.out.mono ?_
        rintro e w' ⟨rfl, rfl⟩
        go_wp2_with fail
        refine hT2.out.mono ?_
        rintro e w3 h3
        have h4 := Lib.hid h3
        obtain ⟨p3, _, rfl, -⟩ := h3
        go_wp2
        go_ret
        exact h4.out
    · have d3 : decide (((3 * (R.num + 1) : Nat) : Int) < ((L.num + 1 : Nat) : Int)) = false := decide_eq_false (by omega)
      have d4 : ((L.num + 1 : Nat) : Int) ≤ ((3 * (R.num + 1) : Nat) : Int) := by omega
      have hT := Lib.hid (over_calls w b n0 x pl pr pL pR L R hN hl hr (by omega))
      clear hN hl hr
      generalize hf : L.flat ++ x :: R.flat = Z at *
      replace hf := Lib.hid hf
      generalize 3 * (R.num + 1) = m3 at *
      generalize R.num + 1 = m at *
      generalize 3 * (L.num + 1) = k3 at *
      generalize L.num + 1 = k at *
      go_enter Tryz.func116, Tryz.ntmps116
      go_wp2_with fail
      refine k2.out.mono ?_
      rintro e w' ⟨rfl, rfl⟩
      go_wp2_with fail
      refine k1.out.mono ?_
      rintro e w' ⟨rfl, rfl⟩
      go_wp2_with fail
      refine k1.out.mono ?_
      rintro e w' ⟨rfl, rfl⟩
      go_wp2_with fail
      refine k2.out.mono ?_
      rintro e w' ⟨rfl, rfl⟩
      go_wp2_with fail
      refine hT.out.mono ?_
      rintro e w3 h3
      have h4 := Lib.hid (h3.flat (Below.refl _ _) hf.out)
      obtain ⟨p3, rfl, -⟩ := h3
      go_wp2
      go_ret
      exact h4.out

/-- what was looked for is at a node, or nowhere -/
def Found (w : World) (o : Option ByteArray) (e : Ending) : Prop :=
  (o = none ∧ e = .returned (.pointer none)) ∨ ∃ x b pl pr n, o = some x ∧ e = .returned (.pointer (some ⟨b, 0, none⟩)) ∧ Node w b x pl pr n
theorem Found.none {w : World} {o : Option ByteArray} (h : o = Option.none) : Found w o (.returned (.pointer Option.none)) := Or.inl ⟨h, rfl⟩
theorem Found.some {w : World} {o : Option ByteArray} {x : ByteArray} {b n : Nat} {pl pr : Option Addr} (h : o = Option.some x) (hN : Node w b x pl pr n) : Found w o (.returned (.pointer (Option.some ⟨b, 0, Option.none⟩))) := Or.inr ⟨x, b, pl, pr, n, h, rfl, hN⟩

set_option maxHeartbeats 2000000 in
set_option maxRecDepth 100000 in
theorem find_calls (w : World) (p : Option Addr) (T : Tr ByteArray) (k : ByteArray) (h : IsTree w p T) (hR : Rises T.flat) :
    Calls Tryz.prog 117 #[.pointer p, .string k] w fun e w' => Found w (fnd k T.flat) e ∧ w' = w := by
  generalize hz : fnd k T.flat = Z
  go_enter Tryz.func117, Tryz.ntmps117
  go_wp2
  go_loopg [0] T.num (fun gg s0 wr => ∃ (q : Option Addr) (T' : Tr ByteArray), s0 = .pointer q ∧ wr = w ∧ IsTree w q T' ∧ Hid (Rises T'.flat) ∧ Hid (fnd k T'.flat = Z) ∧ T'.num ≤ gg)
  case atStart => exact ⟨p, T, rfl, rfl, h, hR, hz, Nat.le_refl _⟩
  case round =>
    obtain ⟨q, T', rfl, rfl, hT, hR', hz', hgg⟩ := hrel
    cases T' with
    | nil =>
      obtain rfl : q = none := hT
      go_wp2
      go_ret
      exact ⟨Found.none hz'.out.symm, rfl⟩
    | node l x r =>
      obtain ⟨b, pl, pr, rfl, hN, hl, hr⟩ := hT
      have hn := num_node l r x
      have c0 := hN.key
      have c1 := hN.left
      have c2 := hN.right
      rcases Key.tri k (key x) with g | g | g
      · have hC := Lib.hid (Cs.Compare_calls k (key x) (-1) wr (Or.inl ⟨g, rfl⟩))
        have hs := fnd_left (k := k) (show Rises (l.flat ++ x :: r.flat) from hR'.out) g
        have hz2 : Hid (fnd k l.flat = Z) := Lib.hid (hs.1.symm.trans hz'.out)
        have hR2 : Hid (Rises l.flat) := Lib.hid (rises_mid (show Rises (l.flat ++ x :: r.flat) from hR'.out)).1
        replace hl := Lib.hid hl
        clear hs hz' hR' hr hN g h hz hR
        go_wp2_with (go_at_call 115; refine hC.out.mono ?_; rintro e w' ⟨rfl, rfl⟩)
        go_roundg l.num
        case measure => omega
        case rel => exact ⟨pl, l, rfl, rfl, hl.out, hR2, hz2, Nat.le_refl _⟩
      · have hC := Lib.hid (Cs.Compare_calls k (key x) 0 wr (Or.inr (Or.inl ⟨g, rfl⟩)))
        have hs := fnd_here (k := k) (show Rises (l.flat ++ x :: r.flat) from hR'.out) g.symm
        have hz2 : Hid (Z = some x) := Lib.hid (hz'.out.symm.trans hs.1)
        replace hN := Lib.hid hN
        clear hs hz' hR' hr hl g h hz hR
        go_wp2_with (go_at_call 115; refine hC.out.mono ?_; rintro e w' ⟨rfl, rfl⟩)
        go_ret
        exact ⟨Found.some hz2.out hN.out, rfl⟩
      · have hC := Lib.hid (Cs.Compare_calls k (key x) 1 wr (Or.inr (Or.inr ⟨g, rfl⟩)))
        have hs := fnd_right (k := k) (show Rises (l.flat ++ x :: r.flat) from hR'.out) g
        have hz2 : Hid (fnd k r.flat = Z) := Lib.hid (hs.1.symm.trans hz'.out)
        have hR2 : Hid (Rises r.flat) := Lib.hid (rises_mid (show Rises (l.flat ++ x :: r.flat) from hR'.out)).2.1
        replace hr := Lib.hid hr
        clear hs hz' hR' hl hN g h hz hR
        go_wp2_with (go_at_call 115; refine hC.out.mono ?_; rintro e w' ⟨rfl, rfl⟩)
        go_roundg r.num
        case measure => omega
        case rel => exact ⟨pr, r, rfl, rfl, hr.out, hR2, hz2, Nat.le_refl _⟩

end Go.Proofs.YtdmpkgdlelagjaaGreatDoor.Ts
namespace Go.Proofs.YtdmpkgdlelagjaaGreatDoor.Tm
open Go.RowKit Sh
open Key (lt)
open Ent (key)
attribute [local go_sem] fold_none

end Go.Proofs.YtdmpkgdlelagjaaGreatDoor.Tm
