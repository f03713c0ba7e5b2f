/-
  The document's own Of for a list of numbers, with the word that its answer lies in new memory. Conditions: a list is not too long.
-/
import Derived.Test.YtcoccaglbepbdaaGreatRows
import Derived.Test.YtcoccaglbepbdaaGreatShRefC
namespace Go.Proofs.YtcoccaglbepbdaaGreat.Rf
open Go.RowKit Sh
open Key (lt)
open Ti (Reads keysV keysV_len keysV_snoc info_key IsOf)
set_option maxHeartbeats 4000000 in
set_option maxRecDepth 100000 in
theorem RPutF_calls (w : World) (v : Value) (M : List Int) (x : Int) (hM : M.length ≤ 900000) (hR : Rises M) (hv : Sl w v M) :
    Calls Tryz.prog 42 #[v, .int .i64 x] w fun e w' => ∃ u, e = .returned u ∧ (u = v ∨ ∃ D, w'.ownsRow w.heap.size 3 1 u (keysV D).length (keysV D)) ∧ Sl w' u (ins x M) ∧ Below w.heap.size w w' := by
  have hv0 := Lib.hid hv
  obtain ⟨s, cap, rfl, hr⟩ := hv
  obtain ⟨i0, hi, hz0, hz1, hz2⟩ := info_parts info_key
  have o0 := Lib.hid (alloc_none w)
  have b0 := Lib.hid (b_alloc w (.cells #[] 3))
  have hM2 := Lib.hid hM
  go_enter Tryz.func42, Tryz.ntmps42
  go_wp2
  go_loopg [5, 6, 7] M.length (fun gg s5 s6 s7 wr => ∃ (k : Nat) (ua : Option Addr) (un uc : Nat) (put : Bool) (D : List Int), s5 = .slice ua un uc ∧ s6 = .bool put ∧ s7 = .int .i64 (k : Int) ∧ k ≤ M.length ∧ M.length - k ≤ gg ∧ Hid (Putting M x k put D) ∧ Hid (wr.ownsRow w.heap.size 3 1 (.slice ua un uc) (keysV D).length (keysV D)) ∧ Hid (Below w.heap.size w wr))
  case atStart => exact ⟨0, _, _, _, false, [], rfl, rfl, rfl, by omega, by omega, Lib.hid (Or.inl ⟨rfl, by simp, by simp⟩), o0, b0⟩
  case round =>
    clear o0 b0
    obtain ⟨k, ua, un, uc, put, D, rfl, rfl, rfl, hk, hgg, hP, ho, hb⟩ := hrel
    have hDl := Lib.hid (putting_len hP.out hk)
    by_cases hlt : k < M.length
    · obtain ⟨g, off, rfl, hg, hc⟩ := hr (by omega)
      have ck : ∀ w', Below w.heap.size w w' → w'.cell? ⟨g, off + k, none⟩ = some (.int .i64 (M[k]?.getD 0)) := fun w' h => (h.cell (p := ⟨g, off + k, none⟩) hg).trans (hc k hlt)
      have ck0 := ck wr hb.out
      have l1 : (k : Int) < M.length := by omega
      have l2 : (0 : Int) ≤ k := by omega
      have hms : Hid (M.length - (k + 1) < gk) := Lib.hid (by omega)
      have hk2 : Hid (k + 1 ≤ M.length) := Lib.hid (by omega)
      have hw1 : IntKind.i64.wrap ((k : Int) + 1) = ((k + 1 : Nat) : Int) := wrap_nat (k + 1) (by omega)
      have hP1 := Lib.hid (fun (e : put = false) (h : lt x (M[k]?.getD 0) = true) => putting_in hR (e ▸ hP.out) hlt h)
      have hP2 := Lib.hid (fun (e : put = false) (h : lt (M[k]?.getD 0) x = true) => putting_on (e ▸ hP.out) hlt h)
      have hP3 := Lib.hid (fun (e : put = true) => putting_past (e ▸ hP.out) hlt)
      have hP4 := Lib.hid (fun (h : M[k]?.getD 0 = x) => putting_there hR hlt h)
      obtain ⟨y, hy⟩ : ∃ y, M[k]?.getD 0 = y := ⟨_, rfl⟩
      rw [hy] at ck0 hP1 hP2 hP3 hP4
      replace ck := Lib.hid ck
      rw [hy] at ck
      clear hc hr hP hy hR hgg hlt hk
      rcases Int.lt_trichotomy y x with hyx | hyx | hyx
      · have e1 : (y == x) = false := beq_eq_false_iff_ne.2 (by omega)
        have e2 : ¬ y = x := by omega
        cases put with
        | false =>
          have e3 : decide (x < y) = false := decide_eq_false (by omega)
          have e4 : y ≤ x := by omega
          have hP5 := Lib.hid (hP2.out rfl (decide_eq_true hyx))
          clear hP1 hP2 hP3 hP4
          have hl1 := Lib.hid (keysV_len (D))
          have hs1 := Lib.hid (keysV_snoc (D) y)
          have hzz1 := Lib.hid hb.out.size
          go_wp2_with (at_builtin; refine wpList_append_own _ rfl _ _ 23 rfl w.heap.size 3 i0 (.int .i64 0) 1 8 Tryz.underlying23 hi hz0 hz1 hz2 rfl (by decide) _ _ _ rfl (ho.out.alloc _) ⟨wr.heap.size, 0, none⟩ 1 1 [.int .i64 y] rfl rfl (cell_one_new _ _ _) (by simp [Value.oneCell']) ?c31 ?c41 ?c51 ?_)
          case c31 => have := hl1.out; have := hDl.out; have := hM2.out; simp [maxLen]; simp at *; omega
          case c41 => have := hl1.out; have := hDl.out; have := hM2.out; simp at *; omega
          case c51 => have := hzz1.out; simp; omega
          intro v1 w1 ho'1 hgrow1 _
          have hb1 : Hid (Below w.heap.size w w1) := Lib.hid ((b_next hb.out (b_alloc _ _) (Nat.le_refl _)).grown hgrow1 (by have := hzz1.out; simp; omega) (fun q e => (ho.out.lt q e).1))
          obtain ⟨a1, n1, c1, rfl⟩ : ∃ ya yn yc, v1 = .slice ya yn yc := by
            rcases ho'1.2 with ⟨hv, _⟩ | ⟨g, cap, cur, hv, _⟩
            · exact ⟨_, _, _, hv⟩
            · exact ⟨_, _, _, hv⟩
          have ho1 : Hid (w1.ownsRow w.heap.size 3 1 (.slice a1 n1 c1) (keysV (D ++ [y])).length (keysV (D ++ [y]))) := Lib.hid (by rw [hs1.out, List.length_append]; exact ho'1)
          clear ho'1 hgrow1
          go_wp2
          go_roundg (M.length - (k + 1))
          case measure => exact hms.out
          case rel => exact ⟨k + 1, a1, n1, c1, false, D ++ [y], rfl, rfl, by simp, hk2.out, Nat.le_refl _, hP5, ho1, hb1⟩
        | true =>
          have hP5 := Lib.hid (hP3.out rfl)
          have : x < y := of_decide_eq_true hP5.out.2
          omega
      · have e1 : (y == x) = true := by simpa using hyx
        have hE : Hid (ins x M = M) := Lib.hid (hP4.out hyx)
        replace hyx := Lib.hid hyx
        clear hP1 hP2 hP3 hP4
        go_wp2
        go_ret
        exact ⟨_, rfl, Or.inl rfl, by rw [hE.out]; exact hv0.out.next hb.out, hb.out⟩
      · have e1 : (y == x) = false := beq_eq_false_iff_ne.2 (by omega)
        have e2 : ¬ y = x := by omega
        cases put with
        | false =>
          have hP5 := Lib.hid (hP1.out rfl (decide_eq_true hyx))
          have hDl2 : Hid (D.length ≤ M.length + 1) := hDl
          clear hP1 hP2 hP3 hP4
          have hl1 := Lib.hid (keysV_len (D))
          have hs1 := Lib.hid (keysV_snoc (D) x)
          have hzz1 := Lib.hid hb.out.size
          go_wp2_with (at_builtin; refine wpList_append_own _ rfl _ _ 23 rfl w.heap.size 3 i0 (.int .i64 0) 1 8 Tryz.underlying23 hi hz0 hz1 hz2 rfl (by decide) _ _ _ rfl (ho.out.alloc _) ⟨wr.heap.size, 0, none⟩ 1 1 [.int .i64 x] rfl rfl (cell_one_new _ _ _) (by simp [Value.oneCell']) ?c31 ?c41 ?c51 ?_)
          case c31 => have := hl1.out; have := hDl.out; have := hM2.out; simp [maxLen]; simp at *; omega
          case c41 => have := hl1.out; have := hDl.out; have := hM2.out; simp at *; omega
          case c51 => have := hzz1.out; simp; omega
          intro v1 w1 ho'1 hgrow1 _
          have hb1 : Hid (Below w.heap.size w w1) := Lib.hid ((b_next hb.out (b_alloc _ _) (Nat.le_refl _)).grown hgrow1 (by have := hzz1.out; simp; omega) (fun q e => (ho.out.lt q e).1))
          obtain ⟨a1, n1, c1, rfl⟩ : ∃ ya yn yc, v1 = .slice ya yn yc := by
            rcases ho'1.2 with ⟨hv, _⟩ | ⟨g, cap, cur, hv, _⟩
            · exact ⟨_, _, _, hv⟩
            · exact ⟨_, _, _, hv⟩
          have ho1 : Hid (w1.ownsRow w.heap.size 3 1 (.slice a1 n1 c1) (keysV (D ++ [x])).length (keysV (D ++ [x]))) := Lib.hid (by rw [hs1.out, List.length_append]; exact ho'1)
          clear ho'1 hgrow1
          have ck2 := ck.out w1 hb1.out
          have ck3 : (w1.alloc (.cells #[.int .i64 y] 3)).cell? ⟨g, off + k, none⟩ = some (.int .i64 y) := ck.out _ (b_next hb1.out (b_alloc _ _) (Nat.le_refl _))
          have hl2 := Lib.hid (keysV_len (D ++ [x]))
          have hs2 := Lib.hid (keysV_snoc (D ++ [x]) y)
          have hzz2 := Lib.hid hb1.out.size
          go_wp2_with (at_builtin; refine wpList_append_own _ rfl _ _ 23 rfl w.heap.size 3 i0 (.int .i64 0) 1 8 Tryz.underlying23 hi hz0 hz1 hz2 rfl (by decide) _ _ _ rfl (ho1.out.alloc _) ⟨w1.heap.size, 0, none⟩ 1 1 [.int .i64 y] rfl rfl (cell_one_new _ _ _) (by simp [Value.oneCell']) ?c32 ?c42 ?c52 ?_)
          case c32 => have := hl2.out; have := hDl.out; have := hM2.out; simp [maxLen]; simp at *; omega
          case c42 => have := hl2.out; have := hDl.out; have := hM2.out; simp at *; omega
          case c52 => have := hzz2.out; simp; omega
          intro v2 w2 ho'2 hgrow2 _
          have hb2 : Hid (Below w.heap.size w w2) := Lib.hid ((b_next hb1.out (b_alloc _ _) (Nat.le_refl _)).grown hgrow2 (by have := hzz2.out; simp; omega) (fun q e => (ho1.out.lt q e).1))
          obtain ⟨a2, n2, c2, rfl⟩ : ∃ ya yn yc, v2 = .slice ya yn yc := by
            rcases ho'2.2 with ⟨hv, _⟩ | ⟨g, cap, cur, hv, _⟩
            · exact ⟨_, _, _, hv⟩
            · exact ⟨_, _, _, hv⟩
          have ho2 : Hid (w2.ownsRow w.heap.size 3 1 (.slice a2 n2 c2) (keysV (D ++ [x] ++ [y])).length (keysV (D ++ [x] ++ [y]))) := Lib.hid (by rw [hs2.out, List.length_append]; exact ho'2)
          clear ho'2 hgrow2
          go_wp2
          go_roundg (M.length - (k + 1))
          case measure => exact hms.out
          case rel => exact ⟨k + 1, a2, n2, c2, true, D ++ [x] ++ [y], rfl, rfl, by simp, hk2.out, Nat.le_refl _, hP5, ho2, hb2⟩
        | true =>
          have hP5 := Lib.hid (hP3.out rfl).1
          clear hP1 hP2 hP3 hP4
          have hl1 := Lib.hid (keysV_len (D))
          have hs1 := Lib.hid (keysV_snoc (D) y)
          have hzz1 := Lib.hid hb.out.size
          go_wp2_with (at_builtin; refine wpList_append_own _ rfl _ _ 23 rfl w.heap.size 3 i0 (.int .i64 0) 1 8 Tryz.underlying23 hi hz0 hz1 hz2 rfl (by decide) _ _ _ rfl (ho.out.alloc _) ⟨wr.heap.size, 0, none⟩ 1 1 [.int .i64 y] rfl rfl (cell_one_new _ _ _) (by simp [Value.oneCell']) ?c31 ?c41 ?c51 ?_)
          case c31 => have := hl1.out; have := hDl.out; have := hM2.out; simp [maxLen]; simp at *; omega
          case c41 => have := hl1.out; have := hDl.out; have := hM2.out; simp at *; omega
          case c51 => have := hzz1.out; simp; omega
          intro v1 w1 ho'1 hgrow1 _
          have hb1 : Hid (Below w.heap.size w w1) := Lib.hid ((b_next hb.out (b_alloc _ _) (Nat.le_refl _)).grown hgrow1 (by have := hzz1.out; simp; omega) (fun q e => (ho.out.lt q e).1))
          obtain ⟨a1, n1, c1, rfl⟩ : ∃ ya yn yc, v1 = .slice ya yn yc := by
            rcases ho'1.2 with ⟨hv, _⟩ | ⟨g, cap, cur, hv, _⟩
            · exact ⟨_, _, _, hv⟩
            · exact ⟨_, _, _, hv⟩
          have ho1 : Hid (w1.ownsRow w.heap.size 3 1 (.slice a1 n1 c1) (keysV (D ++ [y])).length (keysV (D ++ [y]))) := Lib.hid (by rw [hs1.out, List.length_append]; exact ho'1)
          clear ho'1 hgrow1
          go_wp2
          go_roundg (M.length - (k + 1))
          case measure => exact hms.out
          case rel => exact ⟨k + 1, a1, n1, c1, true, D ++ [y], rfl, rfl, by simp, hk2.out, Nat.le_refl _, hP5, ho1, hb1⟩
    · obtain rfl : k = M.length := by omega
      have l1 : ¬ (M.length : Int) < M.length := by omega
      cases put with
      | false =>
        have hP5 := Lib.hid (putting_end hP.out)
        clear hr hP
        have hl1 := Lib.hid (keysV_len (D))
        have hs1 := Lib.hid (keysV_snoc (D) x)
        have hzz1 := Lib.hid hb.out.size
        go_wp2_with (at_builtin; refine wpList_append_own _ rfl _ _ 23 rfl w.heap.size 3 i0 (.int .i64 0) 1 8 Tryz.underlying23 hi hz0 hz1 hz2 rfl (by decide) _ _ _ rfl (ho.out.alloc _) ⟨wr.heap.size, 0, none⟩ 1 1 [.int .i64 x] rfl rfl (cell_one_new _ _ _) (by simp [Value.oneCell']) ?c31 ?c41 ?c51 ?_)
        case c31 => have := hl1.out; have := hDl.out; have := hM2.out; simp [maxLen]; simp at *; omega
        case c41 => have := hl1.out; have := hDl.out; have := hM2.out; simp at *; omega
        case c51 => have := hzz1.out; simp; omega
        intro v1 w1 ho'1 hgrow1 _
        have hb1 : Hid (Below w.heap.size w w1) := Lib.hid ((b_next hb.out (b_alloc _ _) (Nat.le_refl _)).grown hgrow1 (by have := hzz1.out; simp; omega) (fun q e => (ho.out.lt q e).1))
        obtain ⟨a1, n1, c1, rfl⟩ : ∃ ya yn yc, v1 = .slice ya yn yc := by
          rcases ho'1.2 with ⟨hv, _⟩ | ⟨g, cap, cur, hv, _⟩
          · exact ⟨_, _, _, hv⟩
          · exact ⟨_, _, _, hv⟩
        have ho1 : Hid (w1.ownsRow w.heap.size 3 1 (.slice a1 n1 c1) (keysV (D ++ [x])).length (keysV (D ++ [x]))) := Lib.hid (by rw [hs1.out, List.length_append]; exact ho'1)
        clear ho'1 hgrow1
        have hE : Hid (Sl w1 (.slice a1 n1 c1) (ins x M)) := Lib.hid (by rw [← hP5.out]; exact sl_of_owns ho1.out)
        go_wp2
        go_ret
        exact ⟨_, rfl, Or.inr ⟨_, ho1.out⟩, hE.out, hb1.out⟩
      | true =>
        have hE : Hid (Sl wr (.slice ua un uc) (ins x M)) := Lib.hid (by rw [← putting_done hP.out]; exact sl_of_owns ho.out)
        clear hr hP
        go_wp2
        go_ret
        exact ⟨_, rfl, Or.inr ⟨_, ho.out⟩, hE.out, hb.out⟩
set_option maxHeartbeats 2000000 in
theorem ROfF_calls (w : World) (v : Value) (M : List Int) (hM : M.length ≤ 800000) (hv : Sl w v M) :
    Calls Tryz.prog 52 #[v] w fun e w' => ∃ u, e = .returned u ∧ (∀ q, u.ownBlock = some q → w.heap.size ≤ q) ∧ Sl w' u (M.foldl (fun d x => ins x d) ([] : List Int)) ∧ Below w.heap.size w w' := by
  obtain ⟨s, cap, rfl, hr⟩ := hv
  have o0 : Hid (Sl (w.alloc (.cells #[] 3)) (.slice (some ⟨w.heap.size, 0, none⟩) 0 0) ((M.take 0).foldl (fun d x => ins x d) ([] : List Int))) := Lib.hid ⟨_, 0, rfl, fun h => by simp at h⟩
  have b0 := Lib.hid (b_alloc w (.cells #[] 3))
  go_enter Tryz.func52, Tryz.ntmps52
  go_wp2
  go_loopg [3, 4] M.length (fun gg s5 s6 wr => ∃ (k : Nat) (ua : Option Addr) (un uc : Nat), s5 = .slice ua un uc ∧ s6 = .int .i64 (k : Int) ∧ k ≤ M.length ∧ M.length - k ≤ gg ∧ Hid (Sl wr (.slice ua un uc) ((M.take k).foldl (fun d x => ins x d) ([] : List Int))) ∧ Hid (Below w.heap.size w wr) ∧ Hid (∀ q, (Value.slice ua un uc).ownBlock = some q → w.heap.size ≤ q))
  case atStart => exact ⟨0, _, _, _, rfl, rfl, by omega, by omega, o0, b0, Lib.hid fun q e => by simp [Value.ownBlock] at e; omega⟩
  case round =>
    clear o0 b0
    obtain ⟨k, ua, un, uc, rfl, rfl, hk, hgg, ho, hb, hfr⟩ := hrel
    by_cases hlt : k < M.length
    · obtain ⟨g, off, rfl, hg, hc⟩ := hr (by omega)
      have ck : wr.cell? ⟨g, off + k, none⟩ = some (.int .i64 (M[k]?.getD 0)) := (hb.out.cell (p := ⟨g, off + k, none⟩) hg).trans (hc k hlt)
      have l1 : (k : Int) < M.length := by omega
      have l2 : (0 : Int) ≤ k := by omega
      have hms : Hid (M.length - (k + 1) < gk) := Lib.hid (by omega)
      have hk2 : Hid (k + 1 ≤ M.length) := Lib.hid (by omega)
      have hw1 : IntKind.i64.wrap ((k : Int) + 1) = ((k + 1 : Nat) : Int) := wrap_nat (k + 1) (by omega)
      have hst : Hid ((M.take (k + 1)).foldl (fun d x => ins x d) ([] : List Int) = ins (M[k]?.getD 0) ((M.take k).foldl (fun d x => ins x d) ([] : List Int))) := Lib.hid (by rw [take_at M k hlt, List.foldl_append]; rfl)
      have hPut := Lib.hid (RPutF_calls wr (.slice ua un uc) ((M.take k).foldl (fun d x => ins x d) ([] : List Int)) (M[k]?.getD 0) (by have := fold_len (M.take k) ([] : List Int); simp at this; omega) (fold_rises _ (List.Pairwise.nil)) ho.out)
      rw [← hst.out] at hPut
      generalize M[k]?.getD 0 = y at ck hPut
      clear hc hr ho hst
      go_wp2_with fail
      refine hPut.out.mono ?_
      rintro e w2 ⟨u, rfl, hfu, hS, b2⟩
      have hbs := hb.out.size
      have hfr2 : Hid (∀ q, u.ownBlock = some q → w.heap.size ≤ q) := Lib.hid fun q e => by
        rcases hfu with rfl | ⟨D, hD⟩
        · exact hfr.out q e
        · exact Nat.le_trans hbs (hD.lt q e).1
      clear hfu
      have hu : ∃ a n c, u = .slice a n c := by obtain ⟨s, c, rfl, _⟩ := hS; exact ⟨_, _, _, rfl⟩
      obtain ⟨xa, xn, xc, rfl⟩ := hu
      have hb2 := Lib.hid (b_next hb.out b2 (Nat.le_refl _))
      replace hS := Lib.hid hS
      clear hPut b2
      go_wp2
      go_roundg (M.length - (k + 1))
      case measure => exact hms.out
      case rel => exact ⟨k + 1, xa, xn, xc, rfl, by simp, hk2.out, Nat.le_refl _, hS, hb2, hfr2⟩
    · obtain rfl : k = M.length := by omega
      have l1 : ¬ (M.length : Int) < M.length := by omega
      have ho2 : Hid (Sl wr (.slice ua un uc) (M.foldl (fun d x => ins x d) ([] : List Int))) := Lib.hid (by have := ho.out; rw [List.take_length] at this; exact this)
      clear hr ho
      go_wp2
      go_ret
      exact ⟨_, rfl, hfr.out, ho2.out, hb.out⟩

end Go.Proofs.YtcoccaglbepbdaaGreat.Rf
