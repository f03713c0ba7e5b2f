/-
  The document's own answers for sets of numbers, as plain lists: the reference's Has, Same, Without, Meet, Minus. Conditions: a list is not too long.
-/
import Derived.Test.YtcoccaglbepbdaaGreatRows
import Derived.Test.YtcoccaglbepbdaaGreatShLib
import Derived.Test.YtcoccaglbepbdaaGreatShGrown
import Derived.Test.YtcoccaglbepbdaaGreatShUnion
import Derived.Deep.LoopGhost
import Derived.Maps.AppendAt
namespace Go.Proofs.YtcoccaglbepbdaaGreat.Rf
open Go.RowKit Sh
open Ti (Reads keysV keysV_len keysV_snoc info_key)

/-- a list in memory, as the reference reads it -/
def Sl (W : World) (v : Value) (M : List Int) : Prop := ∃ s cap, v = .slice s M.length cap ∧ (0 < M.length → ∃ g off, s = some ⟨g, off, none⟩ ∧ g < W.heap.size ∧ ∀ j, j < M.length → W.cell? ⟨g, off + j, none⟩ = some (.int .i64 (M[j]?.getD 0)))
theorem Sl.next {W W' : World} {v : Value} {M : List Int} (h : Sl W v M) (hb : Below W.heap.size W W') : Sl W' v M := by
  obtain ⟨s, cap, rfl, h1⟩ := h
  exact ⟨s, cap, rfl, fun h0 => by
    obtain ⟨g, off, e, hg, hc⟩ := h1 h0
    exact ⟨g, off, e, Nat.lt_of_lt_of_le hg hb.size, fun j hj => (hb.cell (p := ⟨g, off + j, none⟩) hg).trans (hc j hj)⟩⟩
theorem sl_of_owns {W : World} {base : Nat} {u : Value} {M : List Int} (h : W.ownsRow base 3 1 u (keysV M).length (keysV M)) : Sl W u M := by
  obtain ⟨s, cap, rfl, a', c', e, h1⟩ := Ti.reads_of_owns h
  refine ⟨s, cap, rfl, fun h0 => ?_⟩
  obtain ⟨g, off, ea, hg, hc⟩ := h1 h0
  cases e
  exact ⟨g, off, ea, hg, hc⟩
theorem has_all (x : Int) (M : List Int) (h : ∀ t, t < M.length → M[t]?.getD 0 ≠ x) : has x M = false := by
  cases hz : has x M with
  | false => rfl
  | true =>
    obtain ⟨a, ha, e⟩ := has_iff.1 hz
    obtain ⟨t, ht, e2⟩ := List.getElem_of_mem ha
    have := h t ht
    rw [List.getElem?_eq_getElem ht] at this
    exact absurd (show a = x from e) (by rw [← e2]; simpa using this)
theorem has_at (x : Int) (M : List Int) (t : Nat) (ht : t < M.length) (h : M[t]?.getD 0 = x) : has x M = true := by
  rw [List.getElem?_eq_getElem ht] at h
  exact has_iff.2 ⟨M[t], List.getElem_mem ht, show M[t] = x by simpa using h⟩

set_option maxHeartbeats 2000000 in
theorem RHas_calls (w : World) (v : Value) (M : List Int) (x : Int) (hM : M.length ≤ 1000000) (hv : Sl w v M) :
    Calls Tryz.prog 56 #[v, .int .i64 x] w fun e w' => e = .returned (.bool (has x M)) ∧ w' = w := by
  obtain ⟨s, cap, rfl, hr⟩ := hv
  go_enter Tryz.func56, Tryz.ntmps56
  go_wp2
  go_loopg [5] M.length (fun gg s5 wr => ∃ k : Nat, wr = w ∧ s5 = .int .i64 (k : Int) ∧ k ≤ M.length ∧ M.length - k ≤ gg ∧ Hid (∀ t, t < k → M[t]?.getD 0 ≠ x))
  case atStart => exact ⟨0, rfl, rfl, by omega, by omega, Lib.hid (fun t ht => by omega)⟩
  case round =>
    obtain ⟨k, hwr, rfl, hk, hgg, hpre⟩ := hrel
    obtain rfl := hwr.symm
    by_cases hlt : k < M.length
    · obtain ⟨g, off, rfl, hg, hc⟩ := hr (by omega)
      have ck := hc k hlt
      have l1 : (k : Int) < M.length := by omega
      have l2 : (0 : Int) ≤ k := by omega
      have hms : Hid (M.length - (k + 1) < gk) := Lib.hid (by omega)
      have hk2 : Hid (k + 1 ≤ M.length) := Lib.hid (by omega)
      have hw1 : IntKind.i64.wrap ((k : Int) + 1) = ((k + 1 : Nat) : Int) := wrap_nat (k + 1) (by omega)
      by_cases hx : M[k]?.getD 0 = x
      · have hz := Lib.hid (has_at x M k hlt hx)
        have hb : (M[k]?.getD 0 == x) = true := by simp [hx]
        replace hx := Lib.hid hx
        generalize M[k]?.getD 0 = y at ck hb
        clear hc hr
        go_wp2
        go_ret
        exact ⟨by rw [hz.out]; rfl, rfl⟩
      · have hnx : Hid (∀ t, t < k + 1 → M[t]?.getD 0 ≠ x) := Lib.hid fun t ht => by
          by_cases e : t = k
          · rw [e]; exact hx
          · exact hpre.out t (by omega)
        have hb : (M[k]?.getD 0 == x) = false := by simpa using hx
        replace hx := Lib.hid hx
        generalize M[k]?.getD 0 = y at ck hb
        clear hc hr
        go_wp2
        go_roundg (M.length - (k + 1))
        case measure => exact hms.out
        case rel => exact ⟨k + 1, rfl, by simp, hk2.out, Nat.le_refl _, hnx⟩
    · obtain rfl : k = M.length := by omega
      have l1 : ¬ (M.length : Int) < M.length := by omega
      have hz := Lib.hid (has_all x M hpre.out)
      clear hr
      go_wp2
      go_ret
      exact ⟨by rw [hz.out]; rfl, rfl⟩
theorem kept_more (p : Int → Bool) (M : List Int) (k : Nat) (hk : k < M.length) : (M.take (k + 1)).filter p = (M.take k).filter p ++ (if p (M[k]?.getD 0) then [M[k]?.getD 0] else []) := by
  have h : M.take (k + 1) = M.take k ++ [M[k]?.getD 0] := by rw [List.take_add_one]; simp [List.getElem?_eq_getElem hk]
  rw [h, List.filter_append]
  generalize M[k]?.getD 0 = x
  cases hp : p x <;> simp [hp]
theorem alloc_none (w : World) : (w.alloc (.cells #[] 3)).ownsRow w.heap.size 3 1 (.slice (some ⟨w.heap.size, 0, none⟩) 0 0) 0 [] := World.ownsRow_made (e := 3) (size := 1) w #[] 0 (Nat.le_refl _) (by simp [maxLen]) rfl

set_option maxHeartbeats 4000000 in
set_option maxRecDepth 100000 in
theorem RWithout_calls (w : World) (v : Value) (M : List Int) (y : Int) (hM : M.length ≤ 1000000) (hv : Sl w v M) :
    Calls Tryz.prog 53 #[v, .int .i64 y] w fun e w' => ∃ u, e = .returned u ∧ w'.ownsRow w.heap.size 3 1 u (keysV (M.filter (fun a => !decide (a = y)))).length (keysV (M.filter (fun a => !decide (a = y)))) ∧ Below w.heap.size w w' := by
  obtain ⟨s, cap, rfl, hr⟩ := hv
  obtain ⟨i0, hi, hz0, hz1, hz2⟩ := info_parts info_key
  obtain ⟨p, hpd⟩ : ∃ p : Int → Bool, Hid (p = (fun a => !decide (a = y))) := ⟨_, Lib.hid rfl⟩
  rw [← hpd.out]
  have o0 := Lib.hid (alloc_none w)
  have b0 := Lib.hid (b_alloc w (.cells #[] 3))
  go_enter Tryz.func53, Tryz.ntmps53
  go_wp2
  go_loopg [5, 6] M.length (fun gg s5 s6 wr => ∃ (k : Nat) (ua : Option Addr) (un uc : Nat), s5 = .slice ua un uc ∧ s6 = .int .i64 (k : Int) ∧ k ≤ M.length ∧ M.length - k ≤ gg ∧ Hid (wr.ownsRow w.heap.size 3 1 (.slice ua un uc) (keysV ((M.take k).filter p)).length (keysV ((M.take k).filter p))) ∧ Hid (Below w.heap.size w wr))
  case atStart => exact ⟨0, _, _, _, rfl, rfl, by omega, by omega, o0, b0⟩
  case round =>
    clear o0 b0
    obtain ⟨k, ua, un, uc, rfl, rfl, hk, hgg, ho, hb⟩ := hrel
    by_cases hlt : k < M.length
    · obtain ⟨g, off, rfl, hg, hc⟩ := hr (by omega)
      have ck : wr.cell? ⟨g, off + k, none⟩ = some (.int .i64 (M[k]?.getD 0)) := (hb.out.cell (p := ⟨g, off + k, none⟩) hg).trans (hc k hlt)
      have l1 : (k : Int) < M.length := by omega
      have l2 : (0 : Int) ≤ k := by omega
      have hms : Hid (M.length - (k + 1) < gk) := Lib.hid (by omega)
      have hk2 : Hid (k + 1 ≤ M.length) := Lib.hid (by omega)
      have hw1 : IntKind.i64.wrap ((k : Int) + 1) = ((k + 1 : Nat) : Int) := wrap_nat (k + 1) (by omega)
      have hst := Lib.hid (kept_more p M k hlt)
      have hfl : Hid (((M.take k).filter p).length ≤ k) := Lib.hid (by have := List.length_filter_le p (M.take k); simp at this; omega)
      have hk1 : Hid (k < 1000000) := Lib.hid (by omega)
      have hbs := Lib.hid hb.out.size
      obtain ⟨x, hx⟩ : ∃ x, Hid (M[k]?.getD 0 = x) := ⟨_, Lib.hid rfl⟩
      rw [hx.out] at ck hst

      by_cases hp : p x = true
      · have hst2 := Lib.hid hst.out
        rw [hp, if_pos rfl] at hst2
        have hb4 : ¬ x = y := by rw [hpd.out] at hp; simpa using hp
        have hb3 : (x == y) = false := by simpa using hb4
        clear hc hr hst hp
        generalize (M.take k).filter p = D at *
        have hl1 := Lib.hid (keysV_len D)
        have hl2 := Lib.hid (keysV_snoc D x)
        go_wp2_with (first
          | (fail)
          | (at_builtin; refine wpList_append_own _ rfl _ _ 23 rfl w.heap.size 3 i0 (.int .i64 0) 1 8 Tryz.underlying23 hi hz0 hz1 hz2 rfl (by decide) _ _ _ rfl (ho.out.alloc _) ⟨wr.heap.size, 0, none⟩ 1 1 [.int .i64 x] rfl rfl (cell_one_new _ _ _) (by simp [Value.oneCell']) ?c3 ?c4 ?c5 ?_))
        case c3 => have := hl1.out; have := hfl.out; have := hk1.out; simp [maxLen]; omega
        case c4 => have := hl1.out; have := hfl.out; have := hk1.out; omega
        case c5 => have := hbs.out; simp; omega
        intro v' w2 ho' hgrow _
        have hb2 : Hid (Below w.heap.size w w2) := Lib.hid ((b_next hb.out (b_alloc _ _) (Nat.le_refl _)).grown hgrow (by have := hbs.out; simp; omega) (fun q e => (ho.out.lt q e).1))
        obtain ⟨ya, yn, yc, rfl⟩ : ∃ ya yn yc, v' = .slice ya yn yc := by
          rcases ho'.2 with ⟨hv, _⟩ | ⟨g, cap, cur, hv, _⟩
          · exact ⟨_, _, _, hv⟩
          · exact ⟨_, _, _, hv⟩
        have ho2 : Hid (w2.ownsRow w.heap.size 3 1 (.slice ya yn yc) (keysV ((M.take (k + 1)).filter p)).length (keysV ((M.take (k + 1)).filter p))) := Lib.hid (by
          rw [hst2.out, hl2.out, List.length_append]; exact ho')
        clear ho' hgrow
        go_wp2
        go_roundg (M.length - (k + 1))
        case measure => exact hms.out
        case rel => exact ⟨k + 1, ya, yn, yc, rfl, by simp, hk2.out, Nat.le_refl _, ho2, hb2⟩
      · have hp2 : p x = false := by simpa using hp
        have hst2 := Lib.hid hst.out
        rw [hp2] at hst2
        simp only [Bool.false_eq_true, if_false, List.append_nil] at hst2
        have hb4 : x = y := by rw [hpd.out] at hp2; simpa using hp2
        have hb3 : (x == y) = true := by simpa using hb4
        replace hb4 := Lib.hid hb4
        have ho2 : Hid (wr.ownsRow w.heap.size 3 1 (.slice ua un uc) (keysV ((M.take (k + 1)).filter p)).length (keysV ((M.take (k + 1)).filter p))) := Lib.hid (by rw [hst2.out]; exact ho.out)
        clear hc hr hst hp hp2 ho
        go_wp2_with (fail)
        go_roundg (M.length - (k + 1))
        case measure => exact hms.out
        case rel => exact ⟨k + 1, ua, un, uc, rfl, by simp, hk2.out, Nat.le_refl _, ho2, hb⟩
    · obtain rfl : k = M.length := by omega
      have l1 : ¬ (M.length : Int) < M.length := by omega
      have ho2 : Hid (wr.ownsRow w.heap.size 3 1 (.slice ua un uc) (keysV (M.filter p)).length (keysV (M.filter p))) := Lib.hid (by have := ho.out; rw [List.take_length] at this; exact this)
      clear hr ho
      go_wp2
      go_ret
      exact ⟨_, rfl, ho2.out, hb.out⟩

set_option maxHeartbeats 4000000 in
set_option maxRecDepth 100000 in
theorem RMeet_calls (w : World) (v : Value) (M : List Int) (u : Value) (N : List Int) (hN : N.length ≤ 1000000) (hu : Sl w u N) (hM : M.length ≤ 1000000) (hv : Sl w v M) :
    Calls Tryz.prog 46 #[v, u] w fun e w' => ∃ u, e = .returned u ∧ w'.ownsRow w.heap.size 3 1 u (keysV (M.filter (fun a => has a N))).length (keysV (M.filter (fun a => has a N))) ∧ Below w.heap.size w w' := by
  obtain ⟨s, cap, rfl, hr⟩ := hv
  obtain ⟨i0, hi, hz0, hz1, hz2⟩ := info_parts info_key
  obtain ⟨p, hpd⟩ : ∃ p : Int → Bool, Hid (p = (fun a => has a N)) := ⟨_, Lib.hid rfl⟩
  rw [← hpd.out]
  have o0 := Lib.hid (alloc_none w)
  have b0 := Lib.hid (b_alloc w (.cells #[] 3))
  go_enter Tryz.func46, Tryz.ntmps46
  go_wp2
  go_loopg [5, 6] M.length (fun gg s5 s6 wr => ∃ (k : Nat) (ua : Option Addr) (un uc : Nat), s5 = .slice ua un uc ∧ s6 = .int .i64 (k : Int) ∧ k ≤ M.length ∧ M.length - k ≤ gg ∧ Hid (wr.ownsRow w.heap.size 3 1 (.slice ua un uc) (keysV ((M.take k).filter p)).length (keysV ((M.take k).filter p))) ∧ Hid (Below w.heap.size w wr))
  case atStart => exact ⟨0, _, _, _, rfl, rfl, by omega, by omega, o0, b0⟩
  case round =>
    clear o0 b0
    obtain ⟨k, ua, un, uc, rfl, rfl, hk, hgg, ho, hb⟩ := hrel
    by_cases hlt : k < M.length
    · obtain ⟨g, off, rfl, hg, hc⟩ := hr (by omega)
      have ck : wr.cell? ⟨g, off + k, none⟩ = some (.int .i64 (M[k]?.getD 0)) := (hb.out.cell (p := ⟨g, off + k, none⟩) hg).trans (hc k hlt)
      have l1 : (k : Int) < M.length := by omega
      have l2 : (0 : Int) ≤ k := by omega
      have hms : Hid (M.length - (k + 1) < gk) := Lib.hid (by omega)
      have hk2 : Hid (k + 1 ≤ M.length) := Lib.hid (by omega)
      have hw1 : IntKind.i64.wrap ((k : Int) + 1) = ((k + 1 : Nat) : Int) := wrap_nat (k + 1) (by omega)
      have hst := Lib.hid (kept_more p M k hlt)
      have hfl : Hid (((M.take k).filter p).length ≤ k) := Lib.hid (by have := List.length_filter_le p (M.take k); simp at this; omega)
      have hk1 : Hid (k < 1000000) := Lib.hid (by omega)
      have hbs := Lib.hid hb.out.size
      obtain ⟨x, hx⟩ : ∃ x, Hid (M[k]?.getD 0 = x) := ⟨_, Lib.hid rfl⟩
      rw [hx.out] at ck hst
      have hH := Lib.hid (RHas_calls wr u N x hN (hu.next hb.out))
      by_cases hp : p x = true
      · have hst2 := Lib.hid hst.out
        rw [hp, if_pos rfl] at hst2
        have hp3 : has x N = true := by rw [hpd.out] at hp; exact hp
        rw [hp3] at hH
        clear hc hr hst hp
        generalize (M.take k).filter p = D at *
        have hl1 := Lib.hid (keysV_len D)
        have hl2 := Lib.hid (keysV_snoc D x)
        go_wp2_with (first
          | (go_at_call 56; refine hH.out.mono ?_; rintro e w9 ⟨rfl, h9⟩; obtain rfl := h9.symm; clear h9)
          | (at_builtin; refine wpList_append_own _ rfl _ _ 23 rfl w.heap.size 3 i0 (.int .i64 0) 1 8 Tryz.underlying23 hi hz0 hz1 hz2 rfl (by decide) _ _ _ rfl (ho.out.alloc _) ⟨wr.heap.size, 0, none⟩ 1 1 [.int .i64 x] rfl rfl (cell_one_new _ _ _) (by simp [Value.oneCell']) ?c3 ?c4 ?c5 ?_))
        case c3 => have := hl1.out; have := hfl.out; have := hk1.out; simp [maxLen]; omega
        case c4 => have := hl1.out; have := hfl.out; have := hk1.out; omega
        case c5 => have := hbs.out; simp; omega
        intro v' w2 ho' hgrow _
        have hb2 : Hid (Below w.heap.size w w2) := Lib.hid ((b_next hb.out (b_alloc _ _) (Nat.le_refl _)).grown hgrow (by have := hbs.out; simp; omega) (fun q e => (ho.out.lt q e).1))
        obtain ⟨ya, yn, yc, rfl⟩ : ∃ ya yn yc, v' = .slice ya yn yc := by
          rcases ho'.2 with ⟨hv, _⟩ | ⟨g, cap, cur, hv, _⟩
          · exact ⟨_, _, _, hv⟩
          · exact ⟨_, _, _, hv⟩
        have ho2 : Hid (w2.ownsRow w.heap.size 3 1 (.slice ya yn yc) (keysV ((M.take (k + 1)).filter p)).length (keysV ((M.take (k + 1)).filter p))) := Lib.hid (by
          rw [hst2.out, hl2.out, List.length_append]; exact ho')
        clear ho' hgrow
        go_wp2
        go_roundg (M.length - (k + 1))
        case measure => exact hms.out
        case rel => exact ⟨k + 1, ya, yn, yc, rfl, by simp, hk2.out, Nat.le_refl _, ho2, hb2⟩
      · have hp2 : p x = false := by simpa using hp
        have hst2 := Lib.hid hst.out
        rw [hp2] at hst2
        simp only [Bool.false_eq_true, if_false, List.append_nil] at hst2
        have hp3 : has x N = false := by rw [hpd.out] at hp2; exact hp2
        rw [hp3] at hH
        have ho2 : Hid (wr.ownsRow w.heap.size 3 1 (.slice ua un uc) (keysV ((M.take (k + 1)).filter p)).length (keysV ((M.take (k + 1)).filter p))) := Lib.hid (by rw [hst2.out]; exact ho.out)
        clear hc hr hst hp hp2 ho
        go_wp2_with (go_at_call 56; refine hH.out.mono ?_; rintro e w9 ⟨rfl, h9⟩; obtain rfl := h9.symm; clear h9)
        go_roundg (M.length - (k + 1))
        case measure => exact hms.out
        case rel => exact ⟨k + 1, ua, un, uc, rfl, by simp, hk2.out, Nat.le_refl _, ho2, hb⟩
    · obtain rfl : k = M.length := by omega
      have l1 : ¬ (M.length : Int) < M.length := by omega
      have ho2 : Hid (wr.ownsRow w.heap.size 3 1 (.slice ua un uc) (keysV (M.filter p)).length (keysV (M.filter p))) := Lib.hid (by have := ho.out; rw [List.take_length] at this; exact this)
      clear hr ho
      go_wp2
      go_ret
      exact ⟨_, rfl, ho2.out, hb.out⟩

set_option maxHeartbeats 4000000 in
set_option maxRecDepth 100000 in
theorem RMinus_calls (w : World) (v : Value) (M : List Int) (u : Value) (N : List Int) (hN : N.length ≤ 1000000) (hu : Sl w u N) (hM : M.length ≤ 1000000) (hv : Sl w v M) :
    Calls Tryz.prog 48 #[v, u] w fun e w' => ∃ u, e = .returned u ∧ w'.ownsRow w.heap.size 3 1 u (keysV (M.filter (fun a => !has a N))).length (keysV (M.filter (fun a => !has a N))) ∧ Below w.heap.size w w' := by
  obtain ⟨s, cap, rfl, hr⟩ := hv
  obtain ⟨i0, hi, hz0, hz1, hz2⟩ := info_parts info_key
  obtain ⟨p, hpd⟩ : ∃ p : Int → Bool, Hid (p = (fun a => !has a N)) := ⟨_, Lib.hid rfl⟩
  rw [← hpd.out]
  have o0 := Lib.hid (alloc_none w)
  have b0 := Lib.hid (b_alloc w (.cells #[] 3))
  go_enter Tryz.func48, Tryz.ntmps48
  go_wp2
  go_loopg [5, 6] M.length (fun gg s5 s6 wr => ∃ (k : Nat) (ua : Option Addr) (un uc : Nat), s5 = .slice ua un uc ∧ s6 = .int .i64 (k : Int) ∧ k ≤ M.length ∧ M.length - k ≤ gg ∧ Hid (wr.ownsRow w.heap.size 3 1 (.slice ua un uc) (keysV ((M.take k).filter p)).length (keysV ((M.take k).filter p))) ∧ Hid (Below w.heap.size w wr))
  case atStart => exact ⟨0, _, _, _, rfl, rfl, by omega, by omega, o0, b0⟩
  case round =>
    clear o0 b0
    obtain ⟨k, ua, un, uc, rfl, rfl, hk, hgg, ho, hb⟩ := hrel
    by_cases hlt : k < M.length
    · obtain ⟨g, off, rfl, hg, hc⟩ := hr (by omega)
      have ck : wr.cell? ⟨g, off + k, none⟩ = some (.int .i64 (M[k]?.getD 0)) := (hb.out.cell (p := ⟨g, off + k, none⟩) hg).trans (hc k hlt)
      have l1 : (k : Int) < M.length := by omega
      have l2 : (0 : Int) ≤ k := by omega
      have hms : Hid (M.length - (k + 1) < gk) := Lib.hid (by omega)
      have hk2 : Hid (k + 1 ≤ M.length) := Lib.hid (by omega)
      have hw1 : IntKind.i64.wrap ((k : Int) + 1) = ((k + 1 : Nat) : Int) := wrap_nat (k + 1) (by omega)
      have hst := Lib.hid (kept_more p M k hlt)
      have hfl : Hid (((M.take k).filter p).length ≤ k) := Lib.hid (by have := List.length_filter_le p (M.take k); simp at this; omega)
      have hk1 : Hid (k < 1000000) := Lib.hid (by omega)
      have hbs := Lib.hid hb.out.size
      obtain ⟨x, hx⟩ : ∃ x, Hid (M[k]?.getD 0 = x) := ⟨_, Lib.hid rfl⟩
      rw [hx.out] at ck hst
      have hH := Lib.hid (RHas_calls wr u N x hN (hu.next hb.out))
      by_cases hp : p x = true
      · have hst2 := Lib.hid hst.out
        rw [hp, if_pos rfl] at hst2
        have hp3 : has x N = false := by rw [hpd.out] at hp; simpa using hp
        rw [hp3] at hH
        clear hc hr hst hp
        generalize (M.take k).filter p = D at *
        have hl1 := Lib.hid (keysV_len D)
        have hl2 := Lib.hid (keysV_snoc D x)
        go_wp2_with (first
          | (go_at_call 56; refine hH.out.mono ?_; rintro e w9 ⟨rfl, h9⟩; obtain rfl := h9.symm; clear h9)
          | (at_builtin; refine wpList_append_own _ rfl _ _ 23 rfl w.heap.size 3 i0 (.int .i64 0) 1 8 Tryz.underlying23 hi hz0 hz1 hz2 rfl (by decide) _ _ _ rfl (ho.out.alloc _) ⟨wr.heap.size, 0, none⟩ 1 1 [.int .i64 x] rfl rfl (cell_one_new _ _ _) (by simp [Value.oneCell']) ?c3 ?c4 ?c5 ?_))
        case c3 => have := hl1.out; have := hfl.out; have := hk1.out; simp [maxLen]; omega
        case c4 => have := hl1.out; have := hfl.out; have := hk1.out; omega
        case c5 => have := hbs.out; simp; omega
        intro v' w2 ho' hgrow _
        have hb2 : Hid (Below w.heap.size w w2) := Lib.hid ((b_next hb.out (b_alloc _ _) (Nat.le_refl _)).grown hgrow (by have := hbs.out; simp; omega) (fun q e => (ho.out.lt q e).1))
        obtain ⟨ya, yn, yc, rfl⟩ : ∃ ya yn yc, v' = .slice ya yn yc := by
          rcases ho'.2 with ⟨hv, _⟩ | ⟨g, cap, cur, hv, _⟩
          · exact ⟨_, _, _, hv⟩
          · exact ⟨_, _, _, hv⟩
        have ho2 : Hid (w2.ownsRow w.heap.size 3 1 (.slice ya yn yc) (keysV ((M.take (k + 1)).filter p)).length (keysV ((M.take (k + 1)).filter p))) := Lib.hid (by
          rw [hst2.out, hl2.out, List.length_append]; exact ho')
        clear ho' hgrow
        go_wp2
        go_roundg (M.length - (k + 1))
        case measure => exact hms.out
        case rel => exact ⟨k + 1, ya, yn, yc, rfl, by simp, hk2.out, Nat.le_refl _, ho2, hb2⟩
      · have hp2 : p x = false := by simpa using hp
        have hst2 := Lib.hid hst.out
        rw [hp2] at hst2
        simp only [Bool.false_eq_true, if_false, List.append_nil] at hst2
        have hp3 : has x N = true := by rw [hpd.out] at hp2; simpa using hp2
        rw [hp3] at hH
        have ho2 : Hid (wr.ownsRow w.heap.size 3 1 (.slice ua un uc) (keysV ((M.take (k + 1)).filter p)).length (keysV ((M.take (k + 1)).filter p))) := Lib.hid (by rw [hst2.out]; exact ho.out)
        clear hc hr hst hp hp2 ho
        go_wp2_with (go_at_call 56; refine hH.out.mono ?_; rintro e w9 ⟨rfl, h9⟩; obtain rfl := h9.symm; clear h9)
        go_roundg (M.length - (k + 1))
        case measure => exact hms.out
        case rel => exact ⟨k + 1, ua, un, uc, rfl, by simp, hk2.out, Nat.le_refl _, ho2, hb⟩
    · obtain rfl : k = M.length := by omega
      have l1 : ¬ (M.length : Int) < M.length := by omega
      have ho2 : Hid (wr.ownsRow w.heap.size 3 1 (.slice ua un uc) (keysV (M.filter p)).length (keysV (M.filter p))) := Lib.hid (by have := ho.out; rw [List.take_length] at this; exact this)
      clear hr ho
      go_wp2
      go_ret
      exact ⟨_, rfl, ho2.out, hb.out⟩

end Go.Proofs.YtcoccaglbepbdaaGreat.Rf
