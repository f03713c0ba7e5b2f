/-
  graph's settled: places, each behind all that it points to, always the least that can be next. Conditions: as many places, and pointings of each, as the statements ask of.
-/
import Derived.Test.YtcoccaglbepbdaaGreatRows
import Derived.Test.YtcoccaglbepbdaaGreatGrWaits
namespace Go.Proofs.YtcoccaglbepbdaaGreat.Gr
open Go.RowKit Sh
open Key (lt)
open Ent (key)
open Ti (SetAt Reads keysV keysV_len keysV_snoc info_key)
open Rf (Sl sl_of_owns)
attribute [local go_sem] fold_none

theorem sl_box {W : World} {u : Value} {r : List Int} (h : Sl W u r) : ∃ s c, u = .slice s r.length c ∧ Hid (Sl W u r) := by
  obtain ⟨s, c, e, h2⟩ := h
  exact ⟨s, c, e, Lib.hid ⟨s, c, e, h2⟩⟩
theorem sl_cell {W W' : World} {s : Option Addr} {l c : Nat} {r : List Int} (h : Sl W (.slice s l c) r) (hb : Below W.heap.size W W') {j : Nat} (hj : j < r.length) : ∃ g off, s = some ⟨g, off, none⟩ ∧ W'.cell? ⟨g, off + j, none⟩ = some (.int .i64 (r[j]?.getD 0)) := by
  obtain ⟨s2, c2, e, h2⟩ := h
  obtain ⟨g, off, e2, hg, hc⟩ := h2 (by omega)
  cases e
  exact ⟨g, off, e2, (hb.cell (p := ⟨g, off + j, none⟩) hg).trans (hc j hj)⟩
theorem Reads2.row {W : World} {g l c : Nat} {rows : List (List Int)} (h : Reads2 W (.slice (some ⟨g, 0, none⟩) l c) rows) {j : Nat} {r : List Int} (hj : rows[j]? = some r) : g < W.heap.size ∧ ∃ u, W.cell? ⟨g, j, none⟩ = some u ∧ Sl W u r := by
  obtain ⟨g2, c2, e, h1, h2⟩ := h
  have : g = g2 := by simp at e; exact e.1
  subst this
  exact ⟨h1, h2 j r hj⟩
/-- all settled, or not all -/
def Settled (w : World) (n : Nat) (rows : List (List Int)) (e : Ending) (w' : World) : Prop :=
  ∃ u z, e = .returned (.tuple #[u, .bool z]) ∧ ((z = true ∧ ∃ o, order (ptr rows) n (rng n) = some o ∧ Sl w' u o) ∨ (z = false ∧ order (ptr rows) n (rng n) = none)) ∧ Below w.heap.size w w'
theorem Settled.yes {w w' : World} {n : Nat} {rows : List (List Int)} {u : Value} {o : List Int} (h : order (ptr rows) n (rng n) = some o) (h1 : Sl w' u o) (h2 : Below w.heap.size w w') : Settled w n rows (.returned (.tuple #[u, .bool true])) w' := ⟨u, true, rfl, Or.inl ⟨rfl, o, h, h1⟩, h2⟩
theorem Settled.no {w w' : World} {n : Nat} {rows : List (List Int)} {u : Value} (h : order (ptr rows) n (rng n) = none) (h2 : Below w.heap.size w w') : Settled w n rows (.returned (.tuple #[u, .bool false])) w' := ⟨u, false, rfl, Or.inr ⟨rfl, h⟩, h2⟩
/-- the first of a set, as At(0) tells it -/
def First (R : List Int) (a b : Value) : Prop := (R = [] ∧ a = .int .i64 0 ∧ b = .bool false) ∨ ∃ x Q, R = x :: Q ∧ a = .int .i64 x ∧ b = .bool true
theorem first_calls (w : World) (sb : Nat) (R : List Int) (h : SetAt w (some ⟨sb, 0, none⟩) R) (hb : R.length < 900000) :
    Calls Tryz.prog 80 #[.pointer (some ⟨sb, 0, none⟩), .int .i64 0] w fun e w' => (∃ a b, e = .returned (.tuple #[a, b]) ∧ First R a b) ∧ w' = w := by
  cases R with
  | nil =>
    refine (Ti.SetAt_calls w _ _ 0 h (by simp) (by omega) 0 false (Or.inl ⟨by simp [nth], rfl, rfl⟩)).mono ?_
    rintro e w' ⟨rfl, rfl⟩
    exact ⟨⟨_, _, rfl, Or.inl ⟨rfl, rfl, rfl⟩⟩, rfl⟩
  | cons x Q =>
    refine (Ti.SetAt_calls w _ _ 0 h hb (by omega) x true (Or.inr ⟨by simp [nth], rfl⟩)).mono ?_
    rintro e w' ⟨rfl, rfl⟩
    exact ⟨⟨_, _, rfl, Or.inr ⟨x, Q, rfl, rfl, rfl⟩⟩, rfl⟩
/-- the lengths of the first places -/
def firstOf (rows : List (List Int)) (k : Nat) (q : Nat) : Nat := if q < k then (rows[q]?.getD []).length else 0
/-- of the first places those that point to none -/
def Bare (rows : List (List Int)) (k : Nat) (R : List Int) : Prop := Rises R ∧ ∀ x, x ∈ R ↔ ∃ q : Nat, q < k ∧ x = (q : Int) ∧ (rows[q]?.getD []).length = 0
theorem Bare.next {rows : List (List Int)} {k : Nat} {R : List Int} (h : Bare rows k R) : ((rows[k]?.getD []).length = 0 → Bare rows (k + 1) (ins (k : Int) R)) ∧ ((rows[k]?.getD []).length ≠ 0 → Bare rows (k + 1) R) := by
  refine ⟨fun h0 => ⟨rises_ins _ h.1, fun x => ?_⟩, fun h0 => ⟨h.1, fun x => ?_⟩⟩
  · rw [mem_ins_int h.1, h.2]
    constructor
    · rintro (rfl | ⟨q, h1, h2⟩)
      · exact ⟨k, by omega, rfl, h0⟩
      · exact ⟨q, by omega, h2⟩
    · rintro ⟨q, h1, h2, h3⟩
      by_cases e : q = k
      · exact Or.inl (by rw [h2, e])
      · exact Or.inr ⟨q, by omega, h2, h3⟩
  · rw [h.2]
    constructor
    · rintro ⟨q, h1, h2⟩
      exact ⟨q, by omega, h2⟩
    · rintro ⟨q, h1, h2, h3⟩
      by_cases e : q = k
      · rw [e] at h3; exact absurd h3 h0
      · exact ⟨q, by omega, h2, h3⟩
theorem Bare.len {rows : List (List Int)} {k : Nat} {R : List Int} (h : Bare rows k R) : R.length ≤ k := by
  have := nodup_len R (rng k) (rises_nodup h.1) fun x hx => by
    obtain ⟨q, h1, h2, _⟩ := (h.2 x).1 hx
    exact mem_rng.2 ⟨q, h1, h2⟩
  rw [rng_len] at this
  exact this
theorem first_set (n : Nat) (rows : List (List Int)) (k : Nat) : (waitsOf n (firstOf rows k)).set k (((rows[k]?.getD []).length : Nat) : Int) = waitsOf n (firstOf rows (k + 1)) := by
  rw [waits_set]
  refine waits_same fun q _ => ?_
  unfold firstOf
  by_cases e : q = k
  · subst e; simp
  · rw [if_neg e]
    by_cases h : q < k
    · rw [if_pos h, if_pos (by omega)]
    · rw [if_neg h, if_neg (by omega)]

theorem cnt_le (rows : List (List Int)) (left : List Int) (q : Nat) : cnt rows left q ≤ (rows[q]?.getD []).length := List.length_filter_le _ _
theorem Passing.small {n : Nat} {rows : List (List Int)} {o left R : List Int} {c : Nat → Nat} {x : Int} {L : List Int} (hP : Places n rows) (h : Passing n rows o left R c x L) {q : Nat} (hq : q < n) : c q ≤ 100 + L.length := by
  rw [h.waits q hq]
  have h1 := cnt_le rows left q
  have h2 := List.count_le_length (a := (q : Int)) (l := L)
  have h3 := (hP.each (rows[q]?.getD []) (by rw [List.getElem?_eq_getElem (by rw [hP.len]; exact hq)]; simp)).1
  omega
theorem Passing.rlen {n : Nat} {rows : List (List Int)} {o left R : List Int} {c : Nat → Nat} {x : Int} {L : List Int} (h : Passing n rows o left R c x L) : R.length ≤ n := by
  have := nodup_len R (rng n) (rises_nodup h.readyR) fun y hy => mem_rng.2 (h.place2 y hy)
  rw [rng_len] at this
  exact this

set_option maxRecDepth 100000 in
set_option maxHeartbeats 4000000 in
theorem settled_calls (w : World) (v : Value) (n : Nat) (rows : List (List Int)) (hP : Places n rows) (hv : Reads2 w v rows) :
    Calls Tryz.prog 50 #[v] w (Settled w n rows) := by
  obtain ⟨i0, hi, hz0, hz1, hz2⟩ := info_parts info_key
  have hTu := Lib.hid (turned_calls w v n rows hP hv)
  have hlen := hP.len
  have hfew := hP.few
  have hRd := Lib.hid hv
  have hPP := Lib.hid hP
  obtain ⟨gi, cap, rfl, -, -⟩ := hv
  rw [hlen] at hTu hRd ⊢
  have hmk : ∀ w1, (Instr.makeSlice 23 (.int .i64 (n : Int)) (.int .i64 (n : Int))).run Tryz.prog w1 = .ok (.slice (some ⟨w1.heap.size, 0, none⟩) n n) (w1.alloc (.cells (madeCells #[.int .i64 0] n) 3)) := fun w1 => by
    have h := run_makeSlice (P := Tryz.prog) w1 23 3 i0 _ Tryz.underlying23 hi hz0 .i64 .i64 (n : Int) (n : Int) (by omega) (by omega) (by rw [hz1]; omega) (by rw [hz2]; omega) (by omega)
    simpa [hz1, Value.cells] using h
  have hO := Lib.hid fun w1 => Ti.Of_calls w1 none 0 [] (by simp) (show Reads w1.heap.size w1 (.slice none 0 0) [] from ⟨_, _, rfl, fun h => by simp at h⟩)
  clear hP
  go_enter Tryz.func50, Tryz.ntmps50
  go_wp2_with (first
    | (go_at_call 79; refine hTu.out.mono ?_; rintro e w1 ⟨uF, F, rfl, hT, hF, b1⟩; clear hTu; have hmk1 := hmk w1; clear hmk; have hO1 := Lib.hid (hO.out (w1.alloc (.cells (madeCells #[.int .i64 0] n) 3))); clear hO; have hrd1 := Lib.hid (hRd.out.next b1); clear hRd; replace hT := Lib.hid hT; replace hF := Lib.hid hF; replace b1 := Lib.hid b1)
    | (go_at_call 26; refine hO1.out.mono ?_; rintro e w3 ⟨L, hI, sb, rfl, hsb, hS3, b3⟩; clear hO1))
  obtain rfl : L = [] := by
    cases L with
    | nil => rfl
    | cons x L => have := (hI.2.1 x).1 (by simp); cases this
  have ba := b_alloc w1 (.cells (madeCells #[.int .i64 0] n) 3)
  have hs1 : (w1.alloc (.cells (madeCells #[.int .i64 0] n) 3)).heap.size = w1.heap.size + 1 := by simp
  have hSt0 : Hid (St w1 w1.heap.size sb w3.heap.size w3 (waitsOf n (firstOf rows 0)) [] (.slice none 0 0) []) := Lib.hid
    ⟨by
      have h := (NumAt.new w1 n).next b3
      rw [waits_zero] at h
      exact h, hS3, World.ownsRow_nil _ _ _ _, b_then ba b3, Nat.le_refl _, by omega, by have := b3.size; omega, Nat.le_refl _⟩
  have hB0 : Hid (Bare rows 0 []) := Lib.hid ⟨List.Pairwise.nil, fun x => ⟨(fun h => by cases h), fun ⟨q, h, _⟩ => absurd h (Nat.not_lt_zero _)⟩⟩
  generalize hg : w1.heap.size = g at hSt0
  clear hI hS3 b3 ba hs1 hsb hmk1
  have hFl := hT.out.1
  obtain ⟨gf, cf, huF, -, -⟩ := hF.out
  rw [hFl] at huF
  subst huF
  go_wp2
  go_loopg [21] n (fun gg s21 wr => ∃ (k : Nat) (R : List Int), s21 = .int .i64 (k : Int) ∧ k ≤ n ∧ n - k ≤ gg ∧ Hid (Bare rows k R) ∧ Hid (St w1 g sb w3.heap.size wr (waitsOf n (firstOf rows k)) R (.slice none 0 0) []))
  case atStart => exact ⟨0, [], rfl, by omega, by omega, hB0, hSt0⟩
  case round =>
    obtain ⟨k, R, rfl, hk, hgg, hB, hSt⟩ := hrel
    clear hSt0 hB0
    by_cases hlt : k < n
    · have hrk : rows[k]? = some (rows[k]?.getD []) := by rw [List.getElem?_eq_getElem (by omega)]; simp
      obtain ⟨hgi, u, hcu, hu⟩ := hrd1.out.row hrk
      have cu : wr.cell? ⟨gi, k, none⟩ = some u := (hSt.out.below.cell (p := ⟨gi, k, none⟩) hgi).trans hcu
      obtain ⟨s, c, rfl, -⟩ := sl_box hu
      have l1 : (k : Int) < n := by omega
      have l2 : (0 : Int) ≤ k := by omega
      have hms : Hid (n - (k + 1) < gk) := Lib.hid (by omega)
      have hk2 : Hid (k + 1 ≤ n) := Lib.hid (by omega)
      have hw1 : IntKind.i64.wrap ((k : Int) + 1) = ((k + 1 : Nat) : Int) := wrap_nat (k + 1) (by omega)
      have hfs := first_set n rows k
      have hBn := Lib.hid hB.out.next
      have hBl := hB.out.len
      have hSt2 := hSt.out.store k (((rows[k]?.getD []).length : Nat) : Int)
      rw [hfs] at hSt2
      replace hSt2 := Lib.hid hSt2
      have cw := hSt.out.num.cell (j := k) (by rw [waits_len]; exact hlt)
      have fw := hSt.out.num.frozen k
      have hAdd := Lib.hid (Ti.Add_calls _ sb R (k : Int) hSt2.out.set hB.out.1 (by omega))
      clear hrk hcu hu hlt hgg hfs hBl hSt hB hk
      generalize hrl : (rows[k]?.getD []).length = m at *
      replace hrl := Lib.hid hrl
      by_cases h0 : m = 0
      · have d0 : ((m : Int) == 0) = true := by simp [h0]
        have hB2 := Lib.hid (hBn.out.1 h0)
        replace h0 := Lib.hid h0
        go_wp2_with (go_at_call 28; refine hAdd.out.mono ?_; rintro e w5 ⟨rfl, hT5⟩; have hSt3 := Lib.hid (hSt2.out.turn hT5); clear hT5 hAdd)
        go_roundg (n - (k + 1))
        case measure => exact hms.out
        case rel => exact ⟨k + 1, _, by simp, hk2.out, Nat.le_refl _, hB2, hSt3⟩
      · have d0 : ((m : Int) == 0) = false := by simp [h0]
        have hB2 := Lib.hid (hBn.out.2 h0)
        replace h0 := Lib.hid h0
        go_wp2
        go_roundg (n - (k + 1))
        case measure => exact hms.out
        case rel => exact ⟨k + 1, _, by simp, hk2.out, Nat.le_refl _, hB2, hSt2⟩
    · obtain rfl : k = n := by omega
      have l1 : ¬ (k : Int) < k := by omega
      have hSe := Lib.hid (Settles.start hPP.out (c := firstOf rows k) hB.out.1 hB.out.2 (fun q hq => by unfold firstOf; rw [if_pos hq]))
      have hFi := Lib.hid (first_calls wr sb R hSt.out.set (by have := hB.out.len; omega))
      clear hB hgg hk
      go_wp2_with (go_at_call 80; refine hFi.out.mono ?_; rintro e w5 ⟨⟨a9, a10, rfl, hFst⟩, hw5⟩; obtain rfl := hw5.symm; clear hw5 hFi)
      replace hFst := Lib.hid hFst
      go_loopg [2, 9, 10] k (fun gg s2 s9 s10 wr => ∃ (o left R : List Int) (c : Nat → Nat), left.length ≤ gg ∧ Hid (Settles k rows o left R c) ∧ Hid (First R s9 s10) ∧ Hid (St w1 g sb w3.heap.size wr (waitsOf k c) R s2 o))
      case atStart => exact ⟨[], rng k, R, _, by rw [rng_len]; omega, hSe, hFst, hSt⟩
      case round =>
        clear hSe hFst hSt R
        obtain ⟨o, left, R, c, hgg, hSe, hFst, hSt⟩ := hrel
        rcases hFst.out with ⟨rfl, rfl, rfl⟩ | ⟨x, Q, rfl, rfl, rfl⟩
        · have hstop := hSe.out.stop
          obtain ⟨oa, oc, rfl⟩ := row_shape hSt.out.row
          have hsl := Lib.hid (sl_of_owns hSt.out.row)
          have hbw := Lib.hid (b_next b1.out hSt.out.below (Nat.le_refl _))
          rcases hstop with ⟨h1, h2⟩ | ⟨h1, h2⟩
          · have d0 : ((o.length : Int) == k) = true := by rw [h1]; simp
            replace h1 := Lib.hid h1
            replace h2 := Lib.hid h2
            clear hFst hSt hSe hgg
            go_wp2
            go_ret2
            exact Settled.yes h2.out hsl.out hbw.out
          · have d0 : ((o.length : Int) == k) = false := by simp; omega
            replace h1 := Lib.hid h1
            replace h2 := Lib.hid h2
            clear hFst hSt hSe hgg
            go_wp2
            go_ret2
            exact Settled.no h2.out hbw.out
        · have hxl := ((hSe.out.readyM x).1 (by simp)).1
          obtain ⟨p, hp, rfl⟩ := hSe.out.place x hxl
          have hdl := del_len hSe.out.rises hxl
          have hFp := hT.out.2 p hp
          rw [List.take_zero, List.count_nil, List.replicate_zero, List.append_nil] at hFp
          have hPs := Passing.start hSe.out (L := backTo rows k p) (fun q hq => by rw [back_count (n := k), if_pos hq]) (back_mem p k)
          have hLl := backTo_len hPP.out p k (Nat.le_refl _)
          obtain ⟨hgf, u, hcu, hu⟩ := hF.out.row hFp
          obtain ⟨oa, oc, rfl⟩ := row_shape hSt.out.row
          obtain ⟨su, cu, rfl, hu2⟩ := sl_box hu
          have hDel := Lib.hid (Ti.SetDel_calls wr sb ((p : Int) :: Q) (p : Int) hSt.out.set hSe.out.readyR (by have := hSe.out.len_le; omega))
          have hol := hSe.out.len
          have hol2 : Hid (o.length ≤ 100 ∧ (del (p : Int) left).length < gk) := Lib.hid ⟨by omega, by omega⟩
          have hcu2 : Hid (∀ w', Below w1.heap.size w1 w' → w'.cell? ⟨gf, p, none⟩ = some (.slice su (backTo rows k p).length cu)) := Lib.hid fun w' h => (h.cell (p := ⟨gf, p, none⟩) hgf).trans hcu
          have q1 : (p : Int) < k := by omega
          have q2 : (0 : Int) ≤ p := by omega
          replace hPs := Lib.hid hPs
          clear hxl hdl hFp hgf hcu hu hol hgg hSe hFst hp
          obtain ⟨L, hL⟩ : ∃ L, Hid (backTo rows k p = L) := ⟨_, Lib.hid rfl⟩
          rw [hL.out] at hPs hLl hu2 hcu2
          go_wp2_with (first
            | (go_at_call 81; refine hDel.out.mono ?_; rintro e w5 ⟨rfl, hT5⟩; have hSt5 := Lib.hid (hSt.out.turn hT5); clear hT5 hDel hSt)
            | (at_builtin; refine wpList_append_own _ rfl _ _ 23 rfl w3.heap.size 3 i0 (.int .i64 0) 1 8 Tryz.underlying23 hi hz0 hz1 hz2 rfl (by decide) _ _ _ rfl (hSt5.out.row.alloc _) ⟨w5.heap.size, 0, none⟩ 1 1 [.int .i64 (p : Int)] rfl rfl (cell_one_new _ _ _) (by simp [Value.oneCell']) ?c3 ?c4 ?c5 ?_))
          case c3 => have := hol2.out.1; simp [maxLen, keysV_len]; omega
          case c4 => have := hol2.out.1; rw [keysV_len]; omega
          case c5 => have := hSt5.out.l3; simp; omega
          intro s' w6 ho' hgrow _
          have hSt6 := Lib.hid (hSt5.out.append (s' := s') (x := (p : Int)) (by rw [keysV_snoc, List.length_append]; exact ho') hgrow)
          clear ho' hgrow hSt5
          have cfp := hcu2.out w6 hSt6.out.below
          obtain ⟨O, hO2⟩ : ∃ O, Hid (o ++ [(p : Int)] = O) := ⟨_, Lib.hid rfl⟩
          obtain ⟨D, hD2⟩ : ∃ D, Hid (del (p : Int) left = D) := ⟨_, Lib.hid rfl⟩
          rw [hO2.out, hD2.out] at hPs
          rw [hO2.out] at hSt6
          rw [hD2.out] at hol2
          go_wp2
          clear hcu2 cfp
          go_loopw [61] (fun i wr2 => ∃ (j : Nat) (R2 : List Int) (c2 : Nat → Nat), j ≤ L.length ∧ i = .int .i64 (j : Int) ∧ Hid (Passing k rows O D R2 c2 (p : Int) (L.drop j)) ∧ Hid (St w1 g sb w3.heap.size wr2 (waitsOf k c2) R2 s' O)) (fun i _ => L.length - (intOf i).toNat)
          case atStart => exact ⟨0, _, c, by omega, rfl, by rw [List.drop_zero]; exact hPs, hSt6⟩
          case round =>
            clear hPs hSt6
            obtain ⟨j, R2, c2, hj, rfl, hPs, hSt6⟩ := hrel
            by_cases hlt : j < L.length
            · have hdr := List.drop_eq_getElem_cons hlt
              have hPs0 := hPs.out
              rw [hdr] at hPs0
              obtain ⟨q, hq, hqe⟩ := hPs0.mem L[j] List.mem_cons_self
              rw [hqe] at hPs0
              have hge : L[j]?.getD 0 = (q : Int) := by rw [List.getElem?_eq_getElem hlt]; simpa using hqe
              obtain ⟨gl, off, rfl, cl⟩ := sl_cell hu2.out hSt6.out.below hlt
              rw [hge] at cl
              have hpos := hPs0.pos.2.2.2
              have hsm := hPs0.small hPP.out hq
              rw [List.length_cons, List.length_drop] at hsm
              have cw := hSt6.out.num.cell (j := q) (by rw [waits_len]; exact hq)
              rw [waits_at c2 hq] at cw
              have fw := hSt6.out.num.frozen q
              have k1 : (j : Int) < L.length := by omega
              have k2 : (0 : Int) ≤ j := by omega
              have k3 : (q : Int) < k := by omega
              have k4 : (0 : Int) ≤ q := by omega
              have hw2 : IntKind.i64.wrap ((j : Int) + 1) = ((j + 1 : Nat) : Int) := wrap_nat (j + 1) (by omega)
              have hw3 : IntKind.i64.wrap ((c2 q : Int) - 1) = ((c2 q - 1 : Nat) : Int) := by rw [show ((c2 q : Int) - 1) = ((c2 q - 1 : Nat) : Int) by omega]; exact wrap_nat _ (by omega)
              have hSt7 := hSt6.out.store q ((c2 q - 1 : Nat) : Int)
              rw [waits_set, show (fun p => if p = q then c2 q - 1 else c2 p) = less c2 q from rfl] at hSt7
              have cw7 := hSt7.num.cell (j := q) (by rw [waits_len]; exact hq)
              rw [waits_at _ hq, show less c2 q q = c2 q - 1 by simp [less]] at cw7
              have hAdd := Lib.hid (Ti.Add_calls _ sb R2 (q : Int) hSt7.set hPs0.readyR (by have := hPs0.rlen; omega))
              have hms2 : Hid (L.length - (j + 1) < L.length - j) := Lib.hid (by omega)
              have hj2 : Hid (j + 1 ≤ L.length) := Lib.hid (by omega)
              have hs1 := Lib.hid fun R' (h : R' = if c2 q - 1 = 0 then ins (q : Int) R2 else R2) => hPs0.step h
              replace hSt7 := Lib.hid hSt7
              clear hdr hPs0 hqe hge hpos hsm hPs hSt6 hlt
              obtain ⟨y, hy⟩ : ∃ y, y = c2 q - 1 := ⟨_, rfl⟩
              rw [← hy] at hw3 hSt7 cw7 hAdd hs1
              obtain ⟨z, hz⟩ : ∃ z, z = c2 q := ⟨_, rfl⟩
              rw [← hz] at hw3 cw
              clear hy hz
              by_cases h0 : y = 0
              · have d0 : ((y : Int) == 0) = true := by simp [h0]
                have hP2 := Lib.hid (hs1.out _ rfl)
                rw [if_pos h0] at hP2
                replace h0 := Lib.hid h0
                clear hs1
                go_wp2_with (go_at_call 28; refine hAdd.out.mono ?_; rintro e w8 ⟨rfl, hT8⟩; have hSt8 := Lib.hid (hSt7.out.turn hT8); clear hT8 hAdd hSt7)
                exact ⟨⟨j + 1, _, _, hj2.out, by simp, hP2, hSt8⟩, by have := hms2.out; simp [intOf]; omega⟩
              · have d0 : ((y : Int) == 0) = false := by simp [h0]
                have hP2 := Lib.hid (hs1.out _ rfl)
                rw [if_neg h0] at hP2
                replace h0 := Lib.hid h0
                clear hs1
                go_wp2
                exact ⟨⟨j + 1, _, _, hj2.out, by simp, hP2, hSt7⟩, by have := hms2.out; simp [intOf]; omega⟩
            · obtain rfl : j = L.length := by omega
              have k1 : ¬ (L.length : Int) < L.length := by omega
              have hSe := hPs.out
              rw [List.drop_length] at hSe
              replace hSe := Lib.hid hSe.end_
              have hFi := Lib.hid (first_calls wr sb R2 hSt6.out.set (by have := hSe.out.len_le; omega))
              clear hPs hu2
              go_wp2_with (go_at_call 80; refine hFi.out.mono ?_; rintro e w5 ⟨⟨b9, b10, rfl, hFst⟩, hw5⟩; obtain rfl := hw5.symm; clear hw5 hFi)
              go_roundg D.length
              case measure => exact hol2.out.2
              case rel => exact ⟨O, D, R2, c2, Nat.le_refl _, hSe, Lib.hid hFst, hSt6⟩
end Go.Proofs.YtcoccaglbepbdaaGreat.Gr
