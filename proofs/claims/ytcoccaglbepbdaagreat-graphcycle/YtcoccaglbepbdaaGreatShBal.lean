/-
  A tree balanced; what a tree finds under a key and at a place. Conditions: a tree is not too great for its count; its keys rise.
-/
import Derived.Test.YtcoccaglbepbdaaGreatRows
import Derived.Test.YtcoccaglbepbdaaGreatShTurn
import Derived.Test.YtcoccaglbepbdaaGreatShCmp
import Derived.Deep.LoopGhost
namespace Go.Proofs.YtcoccaglbepbdaaGreat.Sh
/-- what stands at a place -/
def nth {E : Type} (i : Int) (l : List E) : Option E := if 0 ≤ i then l[i.toNat]? else none
theorem nth_nil {E : Type} (i : Int) : nth i ([] : List E) = none := by simp [nth]
theorem nth_left {E : Type} {i : Int} {l r : List E} {e : E} (h : i < l.length) : nth i (l ++ e :: r) = nth i l := by
  unfold nth
  by_cases h0 : 0 ≤ i
  · rw [if_pos h0, if_pos h0, List.getElem?_append_left (by omega)]
  · rw [if_neg h0, if_neg h0]
theorem nth_right {E : Type} {i : Int} {l r : List E} {e : E} (h : (l.length : Int) < i) : nth i (l ++ e :: r) = nth (i - (l.length + 1 : Nat)) r := by
  unfold nth
  rw [if_pos (by omega), if_pos (by omega), List.getElem?_append_right (by omega)]
  have : i.toNat - l.length = (i - (l.length + 1 : Nat)).toNat + 1 := by omega
  rw [this, List.getElem?_cons_succ]
theorem nth_here {E : Type} {i : Int} {l r : List E} {e : E} (h : i = l.length) : nth i (l ++ e :: r) = some e := by
  unfold nth
  rw [if_pos (by omega), List.getElem?_append_right (by omega)]
  have : i.toNat - l.length = 0 := by omega
  rw [this]; rfl
end Go.Proofs.YtcoccaglbepbdaaGreat.Sh
namespace Go.Proofs.YtcoccaglbepbdaaGreat.Ti
open Go.RowKit Sh
open Key (lt)
open Ent (key)
attribute [local go_sem] fold_none

set_option maxHeartbeats 2000000 in
set_option maxRecDepth 100000 in
theorem balanced_calls (w : World) (b n0 : Nat) (x : Int) (pl pr pL pR : Option Addr) (L R : Tr Int) (hN : Node w b x pl pr n0) (hl : IsTree w pL L) (hr : IsTree w pR R) (hb : L.num + R.num < 800000) :
    Calls Tryz.prog 108 #[.pointer (some ⟨b, 0, none⟩), .pointer pL, .pointer pR] w (GivesL w (L.flat ++ x :: R.flat)) := by
  have k1 := Lib.hid (weight_calls w pL L hl (by omega))
  have k2 := Lib.hid (weight_calls w pR R hr (by omega))
  have j1 := three_nat L.num (by omega)
  have j2 := three_nat R.num (by omega)
  by_cases h1 : 3 * (L.num + 1) < R.num + 1
  · have d1 : ((3 * (L.num + 1) : Nat) : Int) < ((R.num + 1 : Nat) : Int) := by omega
    cases R with
    | nil => rw [num_nil] at h1; omega
    | node RL y RR =>
      have hz := num_node RL RR y
      have hT := Lib.hid (turnedLeft_calls w b n0 x y pl pr pL pR L RL RR hN hl hr (by omega))
      clear hN hl hr hz
      generalize hf : L.flat ++ x :: (Tr.node RL y RR).flat = Z at *
      have hT2 : Hid (Calls Tryz.prog 125 #[.pointer (some ⟨b, 0, none⟩), .pointer pL, .pointer pR] w (GivesL w Z)) := Lib.hid (hf ▸ hT.out)
      clear hT hf
      generalize 3 * (L.num + 1) = m3 at *
      generalize L.num + 1 = m at *
      generalize 3 * ((Tr.node RL y RR).num + 1) = k3 at *
      generalize (Tr.node RL y RR).num + 1 = k at *
      go_enter Tryz.func108, Tryz.ntmps108
      go_wp2_with fail
      refine k2.out.mono ?_
      rintro e w' ⟨rfl, rfl⟩
      go_wp2_with fail
      refine k1.out.mono ?_
      rintro e w' ⟨rfl, rfl⟩
      go_wp2_with fail
      refine hT2.out.mono ?_
      rintro e w3 h3
      have h4 := Lib.hid h3
      obtain ⟨p3, _, rfl, -⟩ := h3
      go_wp2
      go_ret
      exact h4.out
  · have d1 : decide (((3 * (L.num + 1) : Nat) : Int) < ((R.num + 1 : Nat) : Int)) = false := decide_eq_false (by omega)
    have d2 : ((R.num + 1 : Nat) : Int) ≤ ((3 * (L.num + 1) : Nat) : Int) := by omega
    by_cases h2 : 3 * (R.num + 1) < L.num + 1
    · have d3 : ((3 * (R.num + 1) : Nat) : Int) < ((L.num + 1 : Nat) : Int) := by omega
      cases L with
      | nil => rw [num_nil] at h2; omega
      | node RL y RR =>
        have hz := num_node RL RR y
        have hT := Lib.hid (turnedRight_calls w b n0 x y pl pr pL pR R RL RR hN hr hl (by omega))
        clear hN hl hr hz
        generalize hf : (Tr.node RL y RR).flat ++ x :: R.flat = Z at *
        have hT2 : Hid (Calls Tryz.prog 126 #[.pointer (some ⟨b, 0, none⟩), .pointer pL, .pointer pR] w (GivesL w Z)) := Lib.hid (hf ▸ hT.out)
        clear hT hf
        generalize 3 * (R.num + 1) = m3 at *
        generalize R.num + 1 = m at *
        generalize 3 * ((Tr.node RL y RR).num + 1) = k3 at *
        generalize (Tr.node RL y RR).num + 1 = k at *
        go_enter Tryz.func108, Tryz.ntmps108
        go_wp2_with fail
        refine k2.out.mono ?_
        rintro e w' ⟨rfl, rfl⟩
        go_wp2_with fail
        refine k1.out.mono ?_
        rintro e w' ⟨rfl, rfl⟩
        go_wp2_with fail
        refine k1.out.mono ?_
        rintro e w' ⟨rfl, rfl⟩
        go_wp2_with fail
        refine k2.out.mono ?_
        rintro e w' ⟨rfl, rfl⟩
        go_wp2_with fail
        refine hT2.out.mono ?_
        rintro e w3 h3
        have h4 := Lib.hid h3
        obtain ⟨p3, _, rfl, -⟩ := h3
        go_wp2
        go_ret
        exact h4.out
    · have d3 : decide (((3 * (R.num + 1) : Nat) : Int) < ((L.num + 1 : Nat) : Int)) = false := decide_eq_false (by omega)
      have d4 : ((L.num + 1 : Nat) : Int) ≤ ((3 * (R.num + 1) : Nat) : Int) := by omega
      have hT := Lib.hid (over_calls w b n0 x pl pr pL pR L R hN hl hr (by omega))
      clear hN hl hr
      generalize hf : L.flat ++ x :: R.flat = Z at *
      replace hf := Lib.hid hf
      generalize 3 * (R.num + 1) = m3 at *
      generalize R.num + 1 = m at *
      generalize 3 * (L.num + 1) = k3 at *
      generalize L.num + 1 = k at *
      go_enter Tryz.func108, Tryz.ntmps108
      go_wp2_with fail
      refine k2.out.mono ?_
      rintro e w' ⟨rfl, rfl⟩
      go_wp2_with fail
      refine k1.out.mono ?_
      rintro e w' ⟨rfl, rfl⟩
      go_wp2_with fail
      refine k1.out.mono ?_
      rintro e w' ⟨rfl, rfl⟩
      go_wp2_with fail
      refine k2.out.mono ?_
      rintro e w' ⟨rfl, rfl⟩
      go_wp2_with fail
      refine hT.out.mono ?_
      rintro e w3 h3
      have h4 := Lib.hid (h3.flat (Below.refl _ _) hf.out)
      obtain ⟨p3, rfl, -⟩ := h3
      go_wp2
      go_ret
      exact h4.out

/-- what was looked for is at a node, or nowhere -/
def Found (w : World) (o : Option Int) (e : Ending) : Prop :=
  (o = none ∧ e = .returned (.pointer none)) ∨ ∃ x b pl pr n, o = some x ∧ e = .returned (.pointer (some ⟨b, 0, none⟩)) ∧ Node w b x pl pr n
theorem Found.none {w : World} {o : Option Int} (h : o = Option.none) : Found w o (.returned (.pointer Option.none)) := Or.inl ⟨h, rfl⟩
theorem Found.some {w : World} {o : Option Int} {x : Int} {b n : Nat} {pl pr : Option Addr} (h : o = Option.some x) (hN : Node w b x pl pr n) : Found w o (.returned (.pointer (Option.some ⟨b, 0, Option.none⟩))) := Or.inr ⟨x, b, pl, pr, n, h, rfl, hN⟩

set_option maxHeartbeats 2000000 in
set_option maxRecDepth 100000 in
theorem find_calls (w : World) (p : Option Addr) (T : Tr Int) (k : Int) (h : IsTree w p T) (hR : Rises T.flat) :
    Calls Tryz.prog 88 #[.pointer p, .int .i64 k] w fun e w' => Found w (fnd k T.flat) e ∧ w' = w := by
  generalize hz : fnd k T.flat = Z
  go_enter Tryz.func88, Tryz.ntmps88
  go_wp2
  go_loopg [0] T.num (fun gg s0 wr => ∃ (q : Option Addr) (T' : Tr Int), s0 = .pointer q ∧ wr = w ∧ IsTree w q T' ∧ Hid (Rises T'.flat) ∧ Hid (fnd k T'.flat = Z) ∧ T'.num ≤ gg)
  case atStart => exact ⟨p, T, rfl, rfl, h, hR, hz, Nat.le_refl _⟩
  case round =>
    obtain ⟨q, T', rfl, rfl, hT, hR', hz', hgg⟩ := hrel
    cases T' with
    | nil =>
      obtain rfl : q = none := hT
      go_wp2
      go_ret
      exact ⟨Found.none hz'.out.symm, rfl⟩
    | node l x r =>
      obtain ⟨b, pl, pr, rfl, hN, hl, hr⟩ := hT
      have hn := num_node l r x
      have c0 := hN.key
      have c1 := hN.left
      have c2 := hN.right
      rcases Key.tri k (key x) with g | g | g
      · have hC := Lib.hid (Ci.Compare_calls k (key x) (-1) wr (Or.inl ⟨g, rfl⟩))
        have hs := fnd_left (k := k) (show Rises (l.flat ++ x :: r.flat) from hR'.out) g
        have hz2 : Hid (fnd k l.flat = Z) := Lib.hid (hs.1.symm.trans hz'.out)
        have hR2 : Hid (Rises l.flat) := Lib.hid (rises_mid (show Rises (l.flat ++ x :: r.flat) from hR'.out)).1
        replace hl := Lib.hid hl
        clear hs hz' hR' hr hN g h hz hR
        go_wp2_with (go_at_call 97; refine hC.out.mono ?_; rintro e w' ⟨rfl, rfl⟩)
        go_roundg l.num
        case measure => omega
        case rel => exact ⟨pl, l, rfl, rfl, hl.out, hR2, hz2, Nat.le_refl _⟩
      · have hC := Lib.hid (Ci.Compare_calls k (key x) 0 wr (Or.inr (Or.inl ⟨g, rfl⟩)))
        have hs := fnd_here (k := k) (show Rises (l.flat ++ x :: r.flat) from hR'.out) g.symm
        have hz2 : Hid (Z = some x) := Lib.hid (hz'.out.symm.trans hs.1)
        replace hN := Lib.hid hN
        clear hs hz' hR' hr hl g h hz hR
        go_wp2_with (go_at_call 97; refine hC.out.mono ?_; rintro e w' ⟨rfl, rfl⟩)
        go_ret
        exact ⟨Found.some hz2.out hN.out, rfl⟩
      · have hC := Lib.hid (Ci.Compare_calls k (key x) 1 wr (Or.inr (Or.inr ⟨g, rfl⟩)))
        have hs := fnd_right (k := k) (show Rises (l.flat ++ x :: r.flat) from hR'.out) g
        have hz2 : Hid (fnd k r.flat = Z) := Lib.hid (hs.1.symm.trans hz'.out)
        have hR2 : Hid (Rises r.flat) := Lib.hid (rises_mid (show Rises (l.flat ++ x :: r.flat) from hR'.out)).2.1
        replace hr := Lib.hid hr
        clear hs hz' hR' hl hN g h hz hR
        go_wp2_with (go_at_call 97; refine hC.out.mono ?_; rintro e w' ⟨rfl, rfl⟩)
        go_roundg r.num
        case measure => omega
        case rel => exact ⟨pr, r, rfl, rfl, hr.out, hR2, hz2, Nat.le_refl _⟩

set_option maxHeartbeats 2000000 in
set_option maxRecDepth 100000 in
theorem at_calls (w : World) (p : Option Addr) (T : Tr Int) (i : Int) (h : IsTree w p T) (hb : T.num < 900000) (hi : i < 9223372036854775808) :
    Calls Tryz.prog 101 #[.pointer p, .int .i64 i] w fun e w' => Found w (nth i T.flat) e ∧ w' = w := by
  generalize hz : nth i T.flat = Z
  go_enter Tryz.func101, Tryz.ntmps101
  go_wp2
  go_loopg [0, 1] T.num (fun gg s0 s1 wr => ∃ (q : Option Addr) (T' : Tr Int) (j : Int), s0 = .pointer q ∧ s1 = .int .i64 j ∧ wr = w ∧ IsTree w q T' ∧ Hid (nth j T'.flat = Z) ∧ T'.num ≤ gg ∧ Hid (T'.num < 900000) ∧ Hid (j < 9223372036854775808))
  case atStart => exact ⟨p, T, i, rfl, rfl, rfl, h, hz, Nat.le_refl _, hb, hi⟩
  case round =>
    obtain ⟨q, T', j, rfl, rfl, rfl, hT, hz', hgg, hb', hj⟩ := hrel
    clear h hz hb hi
    cases T' with
    | nil =>
      obtain rfl : q = none := hT
      go_wp2
      go_ret
      exact ⟨Found.none (hz'.out.symm.trans (nth_nil _)), rfl⟩
    | node l x r =>
      obtain ⟨b, pl, pr, rfl, hN, hl, hr⟩ := hT
      have hn := num_node l r x
      have hb2 := hb'.out
      have c1 := hN.left
      have c2 := hN.right
      have hC := Lib.hid (count_calls wr pl l hl)
      have hz0 : Hid (nth j (l.flat ++ x :: r.flat) = Z) := hz'
      clear hz' hb'
      have hln : Hid (l.flat.length = l.num) := Lib.hid rfl
      rcases Int.lt_trichotomy j l.num with g | g | g
      · have hz2 : Hid (nth j l.flat = Z) := Lib.hid ((nth_left (by rw [hln.out]; exact g)).symm.trans hz0.out)
        replace hl := Lib.hid hl
        have hb3 : Hid (l.num < 900000) := Lib.hid (by omega)
        have hm : Hid (l.num < (l.node x r).num) := Lib.hid (by omega)
        clear hz0 hr hN hb2 hn
        generalize hk : l.num = k at *
        replace hk := Lib.hid hk
        go_wp2_with (go_at_call 93; refine hC.out.mono ?_; rintro e w' ⟨rfl, rfl⟩)
        go_roundg l.num
        case measure => have := hk.out; have := hm.out; omega
        case rel => exact ⟨pl, l, j, rfl, rfl, rfl, hl.out, hz2, Nat.le_refl _, Lib.hid (by have := hk.out; have := hb3.out; omega), hj⟩
      · have hz2 : Hid (Z = some x) := Lib.hid (hz0.out.symm.trans (nth_here (by rw [hln.out]; exact g)))
        have g1 : decide (j < (l.num : Int)) = false := decide_eq_false (by omega)
        have g2 : (l.num : Int) ≤ j := by omega
        have g3 : decide ((l.num : Int) < j) = false := decide_eq_false (by omega)
        have g4 : j ≤ (l.num : Int) := by omega
        replace hN := Lib.hid hN
        replace g := Lib.hid g
        clear hz0 hr hl hb2 hn
        generalize l.num = k at *
        go_wp2_with (go_at_call 93; refine hC.out.mono ?_; rintro e w' ⟨rfl, rfl⟩)
        go_ret
        exact ⟨Found.some hz2.out hN.out, rfl⟩
      · have hz2 : Hid (nth (j - (l.num + 1 : Nat)) r.flat = Z) := Lib.hid ((nth_right (by rw [hln.out]; exact g)).symm.trans hz0.out)
        have g1 : decide (j < (l.num : Int)) = false := decide_eq_false (by omega)
        have g2 : (l.num : Int) ≤ j := by omega
        have hj2 := hj.out
        have g5 : IntKind.i64.wrap ((l.num : Int) + 1) = ((l.num + 1 : Nat) : Int) := wrap_nat (l.num + 1) (by omega)
        have g6 : IntKind.i64.wrap (j - ((l.num + 1 : Nat) : Int)) = j - ((l.num + 1 : Nat) : Int) := wrap_in (by omega) (by omega)
        replace hr := Lib.hid hr
        have hb3 : Hid (r.num < 900000) := Lib.hid (by omega)
        have hm : Hid (r.num < gk) := Lib.hid (by omega)
        have hj3 : Hid (j - ((l.num + 1 : Nat) : Int) < 9223372036854775808) := Lib.hid (by omega)
        clear hz0 hl hN hb2 hj2 hn hgg
        generalize hk2 : l.num + 1 = k2 at *
        replace hk2 := Lib.hid hk2
        generalize hk : l.num = k at *
        replace hk := Lib.hid hk
        go_wp2_with (go_at_call 93; refine hC.out.mono ?_; rintro e w' ⟨rfl, rfl⟩)
        go_roundg r.num
        case measure => exact hm.out
        case rel => exact ⟨pr, r, _, rfl, rfl, rfl, hr.out, hz2, Nat.le_refl _, hb3, hj3⟩
end Go.Proofs.YtcoccaglbepbdaaGreat.Ti
namespace Go.Proofs.YtcoccaglbepbdaaGreat.Ts
open Go.RowKit Sh
open Key (lt)
open Ent (key)
attribute [local go_sem] fold_none

end Go.Proofs.YtcoccaglbepbdaaGreat.Ts
namespace Go.Proofs.YtcoccaglbepbdaaGreat.Tm
open Go.RowKit Sh
open Key (lt)
open Ent (key)
attribute [local go_sem] fold_none

end Go.Proofs.YtcoccaglbepbdaaGreat.Tm
namespace Go.Proofs.YtcoccaglbepbdaaGreat.Tg
open Go.RowKit Sh
open Key (lt)
open Ent (key)
attribute [local go_sem] fold_none

set_option maxHeartbeats 2000000 in
set_option maxRecDepth 100000 in
theorem balanced_calls (w : World) (b n0 : Nat) (x : (Int × Option Addr)) (pl pr pL pR : Option Addr) (L R : Tr (Int × Option Addr)) (hN : Node w b x pl pr n0) (hl : IsTree w pL L) (hr : IsTree w pR R) (hb : L.num + R.num < 800000) :
    Calls Tryz.prog 111 #[.pointer (some ⟨b, 0, none⟩), .pointer pL, .pointer pR] w (GivesL w (L.flat ++ x :: R.flat)) := by
  have k1 := Lib.hid (weight_calls w pL L hl (by omega))
  have k2 := Lib.hid (weight_calls w pR R hr (by omega))
  have j1 := three_nat L.num (by omega)
  have j2 := three_nat R.num (by omega)
  by_cases h1 : 3 * (L.num + 1) < R.num + 1
  · have d1 : ((3 * (L.num + 1) : Nat) : Int) < ((R.num + 1 : Nat) : Int) := by omega
    cases R with
    | nil => rw [num_nil] at h1; omega
    | node RL y RR =>
      have hz := num_node RL RR y
      have hT := Lib.hid (turnedLeft_calls w b n0 x y pl pr pL pR L RL RR hN hl hr (by omega))
      clear hN hl hr hz
      generalize hf : L.flat ++ x :: (Tr.node RL y RR).flat = Z at *
      have hT2 : Hid (Calls Tryz.prog 128 #[.pointer (some ⟨b, 0, none⟩), .pointer pL, .pointer pR] w (GivesL w Z)) := Lib.hid (hf ▸ hT.out)
      clear hT hf
      generalize 3 * (L.num + 1) = m3 at *
      generalize L.num + 1 = m at *
      generalize 3 * ((Tr.node RL y RR).num + 1) = k3 at *
      generalize (Tr.node RL y RR).num + 1 = k at *
      go_enter Tryz.func111, Tryz.ntmps111
      go_wp2_with fail
      refine k2.out.mono ?_
      rintro e w' ⟨rfl, rfl⟩
      go_wp2_with fail
      refine k1.out.mono ?_
      rintro e w' ⟨rfl, rfl⟩
      go_wp2_with fail
      refine hT2.out.mono ?_
      rintro e w3 h3
      have h4 := Lib.hid h3
      obtain ⟨p3, _, rfl, -⟩ := h3
      go_wp2
      go_ret
      exact h4.out
  · have d1 : decide (((3 * (L.num + 1) : Nat) : Int) < ((R.num + 1 : Nat) : Int)) = false := decide_eq_false (by omega)
    have d2 : ((R.num + 1 : Nat) : Int) ≤ ((3 * (L.num + 1) : Nat) : Int) := by omega
    by_cases h2 : 3 * (R.num + 1) < L.num + 1
    · have d3 : ((3 * (R.num + 1) : Nat) : Int) < ((L.num + 1 : Nat) : Int) := by omega
      cases L with
      | nil => rw [num_nil] at h2; omega
      | node RL y RR =>
        have hz := num_node RL RR y
        have hT := Lib.hid (turnedRight_calls w b n0 x y pl pr pL pR R RL RR hN hr hl (by omega))
        clear hN hl hr hz
        generalize hf : (Tr.node RL y RR).flat ++ x :: R.flat = Z at *
        have hT2 : Hid (Calls Tryz.prog 129 #[.pointer (some ⟨b, 0, none⟩), .pointer pL, .pointer pR] w (GivesL w Z)) := Lib.hid (hf ▸ hT.out)
        clear hT hf
        generalize 3 * (R.num + 1) = m3 at *
        generalize R.num + 1 = m at *
        generalize 3 * ((Tr.node RL y RR).num + 1) = k3 at *
        generalize (Tr.node RL y RR).num + 1 = k at *
        go_enter Tryz.func111, Tryz.ntmps111
        go_wp2_with fail
        refine k2.out.mono ?_
        rintro e w' ⟨rfl, rfl⟩
        go_wp2_with fail
        refine k1.out.mono ?_
        rintro e w' ⟨rfl, rfl⟩
        go_wp2_with fail
        refine k1.out.mono ?_
        rintro e w' ⟨rfl, rfl⟩
        go_wp2_with fail
        refine k2.out.mono ?_
        rintro e w' ⟨rfl, rfl⟩
        go_wp2_with fail
        refine hT2.out.mono ?_
        rintro e w3 h3
        have h4 := Lib.hid h3
        obtain ⟨p3, _, rfl, -⟩ := h3
        go_wp2
        go_ret
        exact h4.out
    · have d3 : decide (((3 * (R.num + 1) : Nat) : Int) < ((L.num + 1 : Nat) : Int)) = false := decide_eq_false (by omega)
      have d4 : ((L.num + 1 : Nat) : Int) ≤ ((3 * (R.num + 1) : Nat) : Int) := by omega
      have hT := Lib.hid (over_calls w b n0 x pl pr pL pR L R hN hl hr (by omega))
      clear hN hl hr
      generalize hf : L.flat ++ x :: R.flat = Z at *
      replace hf := Lib.hid hf
      generalize 3 * (R.num + 1) = m3 at *
      generalize R.num + 1 = m at *
      generalize 3 * (L.num + 1) = k3 at *
      generalize L.num + 1 = k at *
      go_enter Tryz.func111, Tryz.ntmps111
      go_wp2_with fail
      refine k2.out.mono ?_
      rintro e w' ⟨rfl, rfl⟩
      go_wp2_with fail
      refine k1.out.mono ?_
      rintro e w' ⟨rfl, rfl⟩
      go_wp2_with fail
      refine k1.out.mono ?_
      rintro e w' ⟨rfl, rfl⟩
      go_wp2_with fail
      refine k2.out.mono ?_
      rintro e w' ⟨rfl, rfl⟩
      go_wp2_with fail
      refine hT.out.mono ?_
      rintro e w3 h3
      have h4 := Lib.hid (h3.flat (Below.refl _ _) hf.out)
      obtain ⟨p3, rfl, -⟩ := h3
      go_wp2
      go_ret
      exact h4.out

/-- what was looked for is at a node, or nowhere -/
def Found (w : World) (o : Option (Int × Option Addr)) (e : Ending) : Prop :=
  (o = none ∧ e = .returned (.pointer none)) ∨ ∃ x b pl pr n, o = some x ∧ e = .returned (.pointer (some ⟨b, 0, none⟩)) ∧ Node w b x pl pr n
theorem Found.none {w : World} {o : Option (Int × Option Addr)} (h : o = Option.none) : Found w o (.returned (.pointer Option.none)) := Or.inl ⟨h, rfl⟩
theorem Found.some {w : World} {o : Option (Int × Option Addr)} {x : (Int × Option Addr)} {b n : Nat} {pl pr : Option Addr} (h : o = Option.some x) (hN : Node w b x pl pr n) : Found w o (.returned (.pointer (Option.some ⟨b, 0, Option.none⟩))) := Or.inr ⟨x, b, pl, pr, n, h, rfl, hN⟩

set_option maxHeartbeats 2000000 in
set_option maxRecDepth 100000 in
theorem find_calls (w : World) (p : Option Addr) (T : Tr (Int × Option Addr)) (k : Int) (h : IsTree w p T) (hR : Rises T.flat) :
    Calls Tryz.prog 72 #[.pointer p, .int .i64 k] w fun e w' => Found w (fnd k T.flat) e ∧ w' = w := by
  generalize hz : fnd k T.flat = Z
  go_enter Tryz.func72, Tryz.ntmps72
  go_wp2
  go_loopg [0] T.num (fun gg s0 wr => ∃ (q : Option Addr) (T' : Tr (Int × Option Addr)), s0 = .pointer q ∧ wr = w ∧ IsTree w q T' ∧ Hid (Rises T'.flat) ∧ Hid (fnd k T'.flat = Z) ∧ T'.num ≤ gg)
  case atStart => exact ⟨p, T, rfl, rfl, h, hR, hz, Nat.le_refl _⟩
  case round =>
    obtain ⟨q, T', rfl, rfl, hT, hR', hz', hgg⟩ := hrel
    cases T' with
    | nil =>
      obtain rfl : q = none := hT
      go_wp2
      go_ret
      exact ⟨Found.none hz'.out.symm, rfl⟩
    | node l x r =>
      obtain ⟨b, pl, pr, rfl, hN, hl, hr⟩ := hT
      have hn := num_node l r x
      have c0 := hN.key
      have c1 := hN.left
      have c2 := hN.right
      rcases Key.tri k (key x) with g | g | g
      · have hC := Lib.hid (Ci.Compare_calls k (key x) (-1) wr (Or.inl ⟨g, rfl⟩))
        have hs := fnd_left (k := k) (show Rises (l.flat ++ x :: r.flat) from hR'.out) g
        have hz2 : Hid (fnd k l.flat = Z) := Lib.hid (hs.1.symm.trans hz'.out)
        have hR2 : Hid (Rises l.flat) := Lib.hid (rises_mid (show Rises (l.flat ++ x :: r.flat) from hR'.out)).1
        replace hl := Lib.hid hl
        clear hs hz' hR' hr hN g h hz hR
        go_wp2_with (go_at_call 97; refine hC.out.mono ?_; rintro e w' ⟨rfl, rfl⟩)
        go_roundg l.num
        case measure => omega
        case rel => exact ⟨pl, l, rfl, rfl, hl.out, hR2, hz2, Nat.le_refl _⟩
      · have hC := Lib.hid (Ci.Compare_calls k (key x) 0 wr (Or.inr (Or.inl ⟨g, rfl⟩)))
        have hs := fnd_here (k := k) (show Rises (l.flat ++ x :: r.flat) from hR'.out) g.symm
        have hz2 : Hid (Z = some x) := Lib.hid (hz'.out.symm.trans hs.1)
        replace hN := Lib.hid hN
        clear hs hz' hR' hr hl g h hz hR
        go_wp2_with (go_at_call 97; refine hC.out.mono ?_; rintro e w' ⟨rfl, rfl⟩)
        go_ret
        exact ⟨Found.some hz2.out hN.out, rfl⟩
      · have hC := Lib.hid (Ci.Compare_calls k (key x) 1 wr (Or.inr (Or.inr ⟨g, rfl⟩)))
        have hs := fnd_right (k := k) (show Rises (l.flat ++ x :: r.flat) from hR'.out) g
        have hz2 : Hid (fnd k r.flat = Z) := Lib.hid (hs.1.symm.trans hz'.out)
        have hR2 : Hid (Rises r.flat) := Lib.hid (rises_mid (show Rises (l.flat ++ x :: r.flat) from hR'.out)).2.1
        replace hr := Lib.hid hr
        clear hs hz' hR' hl hN g h hz hR
        go_wp2_with (go_at_call 97; refine hC.out.mono ?_; rintro e w' ⟨rfl, rfl⟩)
        go_roundg r.num
        case measure => omega
        case rel => exact ⟨pr, r, rfl, rfl, hr.out, hR2, hz2, Nat.le_refl _⟩

end Go.Proofs.YtcoccaglbepbdaaGreat.Tg
