/-
  The document's own answers for sets of numbers, as plain lists: the reference's Same, Put, Of, Union. Conditions: a list is not too long.
-/
import Derived.Test.YtcoccaglbepbdaaGreatRows
import Derived.Test.YtcoccaglbepbdaaGreatShRef
import Derived.Test.YtcoccaglbepbdaaGreatShOf
namespace Go.Proofs.YtcoccaglbepbdaaGreat.Rf
open Go.RowKit Sh
open Key (lt)
open Ti (Reads keysV keysV_len keysV_snoc info_key IsOf)

set_option maxHeartbeats 2000000 in
theorem RSame_calls (w : World) (v u : Value) (M N : List Int) (hM : M.length ≤ 1000000) (hv : Sl w v M) (hu : Sl w u N) :
    Calls Tryz.prog 13 #[v, u] w fun e w' => e = .returned (.bool (decide (M = N))) ∧ Below w.heap.size w w' := by
  obtain ⟨s, cap, rfl, hr⟩ := hv
  obtain ⟨s2, cap2, rfl, hr2⟩ := hu
  by_cases hl : M.length = N.length
  · obtain ⟨n, hn⟩ : ∃ n, Hid (N.length = n) := ⟨_, Lib.hid rfl⟩
    have hn2 : Hid (M.length = n) := Lib.hid (by rw [hl, hn.out])
    rw [hn.out] at hr2 ⊢
    rw [hn2.out] at hr hM ⊢
    have e0 : ((n : Int) == n) = true := by simp
    clear hl
    go_enter Tryz.func13, Tryz.ntmps13
    go_wp2
    go_loopg [5] n (fun gg s5 wr => ∃ k : Nat, s5 = .int .i64 (k : Int) ∧ k ≤ n ∧ n - k ≤ gg ∧ Hid (∀ t, t < k → M[t]?.getD 0 = N[t]?.getD 0) ∧ Hid (Below w.heap.size w wr))
    case atStart => exact ⟨0, rfl, by omega, by omega, Lib.hid (fun t ht => by omega), Lib.hid (Below.refl _ _)⟩
    case round =>
      obtain ⟨k, rfl, hk, hgg, hpre, hb⟩ := hrel
      by_cases hlt : k < n
      · obtain ⟨g, off, rfl, hg, hc⟩ := hr (by omega)
        obtain ⟨g2, off2, rfl, hg2, hc2⟩ := hr2 (by omega)
        have ck : wr.cell? ⟨g, off + k, none⟩ = some (.int .i64 (M[k]?.getD 0)) := (hb.out.cell (p := ⟨g, off + k, none⟩) hg).trans (hc k hlt)
        have ck2 : wr.cell? ⟨g2, off2 + k, none⟩ = some (.int .i64 (N[k]?.getD 0)) := (hb.out.cell (p := ⟨g2, off2 + k, none⟩) hg2).trans (hc2 k hlt)
        have l1 : (k : Int) < n := by omega
        have l2 : (0 : Int) ≤ k := by omega
        have hms : Hid (n - (k + 1) < gk) := Lib.hid (by omega)
        have hk2 : Hid (k + 1 ≤ n) := Lib.hid (by omega)
        have hw1 : IntKind.i64.wrap ((k : Int) + 1) = ((k + 1 : Nat) : Int) := wrap_nat (k + 1) (by omega)
        by_cases hx : M[k]?.getD 0 = N[k]?.getD 0
        · have hnx : Hid (∀ t, t < k + 1 → M[t]?.getD 0 = N[t]?.getD 0) := Lib.hid fun t ht => by
            by_cases e : t = k
            · rw [e]; exact hx
            · exact hpre.out t (by omega)
          have hbx : (M[k]?.getD 0 == N[k]?.getD 0) = true := by simpa using hx
          replace hx := Lib.hid hx
          generalize M[k]?.getD 0 = y at ck hbx
          generalize N[k]?.getD 0 = z at ck2 hbx
          clear hc hr hc2 hr2
          go_wp2_with fail
          go_quiet (fail)
          have hb2 : Hid (Below w.heap.size w (wr.drewN nq)) := Lib.hid (b_next hb.out (b_drewN _ _) (Nat.le_refl _))
          go_wp2
          go_roundg (n - (k + 1))
          case measure => exact hms.out
          case rel => exact ⟨k + 1, by simp, hk2.out, Nat.le_refl _, hnx, hb2⟩
        · have hbx : (M[k]?.getD 0 == N[k]?.getD 0) = false := by simpa using hx
          have hne : Hid (decide (M = N) = false) := Lib.hid (decide_eq_false fun e => hx (by rw [e]))
          replace hx := Lib.hid hx
          generalize M[k]?.getD 0 = y at ck hbx
          generalize N[k]?.getD 0 = z at ck2 hbx
          clear hc hr hc2 hr2
          go_wp2_with fail
          go_quiet (fail)
          have hb2 : Hid (Below w.heap.size w (wr.drewN nq)) := Lib.hid (b_next hb.out (b_drewN _ _) (Nat.le_refl _))
          go_wp2
          go_ret
          exact ⟨by rw [hne.out]; rfl, hb2.out⟩
      · obtain rfl : k = n := by omega
        have l1 : ¬ (k : Int) < k := by omega
        have he : Hid (decide (M = N) = true) := Lib.hid (decide_eq_true (List.ext_getElem (by rw [hn.out, hn2.out]) fun t h1 h2 => by
          have := hpre.out t (by rw [← hn2.out]; exact h1)
          rw [List.getElem?_eq_getElem h1, List.getElem?_eq_getElem h2] at this
          simpa using this))
        clear hr hr2
        go_wp2
        go_ret
        exact ⟨by rw [he.out]; rfl, hb.out⟩
  · have hne : Hid (decide (M = N) = false) := Lib.hid (decide_eq_false fun e => hl (by rw [e]))
    have e0 : ((M.length : Int) == N.length) = false := by simp; omega
    have e1 : ¬ M.length = N.length := hl
    clear hr hr2
    go_enter Tryz.func13, Tryz.ntmps13
    go_wp2
    go_ret
    exact ⟨by rw [hne.out]; rfl, Below.refl _ _⟩

/-- how far putting a number in has come -/
def Putting (M : List Int) (x : Int) (k : Nat) (put : Bool) (D : List Int) : Prop :=
  (put = false ∧ D = M.take k ∧ ∀ y ∈ M.take k, lt y x = true) ∨ (put = true ∧ D ++ M.drop k = ins x M ∧ ∀ y ∈ M.drop k, lt x y = true)
theorem drop_at (M : List Int) (k : Nat) (h : k < M.length) : M.drop k = M[k]?.getD 0 :: M.drop (k + 1) := by
  rw [List.drop_eq_getElem_cons h, List.getElem?_eq_getElem h]; rfl
theorem take_at (M : List Int) (k : Nat) (h : k < M.length) : M.take (k + 1) = M.take k ++ [M[k]?.getD 0] := by
  rw [List.take_add_one]; simp [List.getElem?_eq_getElem h]
theorem split_at (M : List Int) (k : Nat) (h : k < M.length) : M = M.take k ++ M[k]?.getD 0 :: M.drop (k + 1) := by rw [← drop_at M k h, List.take_append_drop]
theorem putting_len {M : List Int} {x : Int} {k : Nat} {put : Bool} {D : List Int} (h : Putting M x k put D) (hk : k ≤ M.length) : D.length ≤ M.length + 1 := by
  rcases h with ⟨_, rfl, _⟩ | ⟨_, h, _⟩
  · simp; omega
  · have h1 := congrArg List.length h
    have := ins_len_le x M
    simp at h1; omega
/-- not there: it is put ahead of the first greater one -/
theorem putting_in {M : List Int} {x : Int} {k : Nat} {D : List Int} (hR : Rises M) (h : Putting M x k false D) (hk : k < M.length) (hx : lt x (M[k]?.getD 0) = true) : Putting M x (k + 1) true (D ++ [x] ++ [M[k]?.getD 0]) := by
  rcases h with ⟨_, rfl, h2⟩ | ⟨h, _⟩
  · have hs := split_at M k hk
    have hR2 := hR
    rw [hs] at hR2
    obtain ⟨_, _, h3, h4⟩ := rises_mid hR2
    refine Or.inr ⟨rfl, ?_, fun y hy => Key.tra _ _ _ hx (h4 y hy)⟩
    have e1 : ins x M = M.take k ++ ins x (M.drop k) := by
      have hgen : ∀ l : List Int, (∀ y ∈ l, lt y x = true) → ∀ r, ins x (l ++ r) = l ++ ins x r := by
        intro l
        induction l with
        | nil => intro _ r; rfl
        | cons a l ih =>
          intro hl r
          have ha : lt (Ent.key a) (Ent.key x) = true := hl a (by simp)
          simp only [List.cons_append, ins]
          rw [if_neg (by rw [lt_asym ha]; simp), if_pos ha, ih (fun y hy => hl y (by simp [hy])) r]
      have := hgen (M.take k) h2 (M.drop k)
      rw [List.take_append_drop] at this; exact this
    rw [e1, drop_at M k hk]
    have hx2 : lt (Ent.key x) (Ent.key (M[k]?.getD 0)) = true := hx
    simp [ins, hx2]
  · cases h
theorem putting_on {M : List Int} {x : Int} {k : Nat} {D : List Int} (h : Putting M x k false D) (hk : k < M.length) (hx : lt (M[k]?.getD 0) x = true) : Putting M x (k + 1) false (D ++ [M[k]?.getD 0]) := by
  rcases h with ⟨_, rfl, h2⟩ | ⟨h, _⟩
  · refine Or.inl ⟨rfl, (take_at M k hk).symm, fun y hy => ?_⟩
    rw [take_at M k hk] at hy
    rcases List.mem_append.1 hy with g | g
    · exact h2 y g
    · simp at g; rw [g]; exact hx
  · cases h
theorem putting_past {M : List Int} {x : Int} {k : Nat} {D : List Int} (h : Putting M x k true D) (hk : k < M.length) : Putting M x (k + 1) true (D ++ [M[k]?.getD 0]) ∧ lt x (M[k]?.getD 0) = true := by
  rcases h with ⟨h, _⟩ | ⟨_, h1, h2⟩
  · cases h
  · rw [drop_at M k hk] at h1 h2
    exact ⟨Or.inr ⟨rfl, by simpa using h1, fun y hy => h2 y (by simp [hy])⟩, h2 _ (by simp)⟩
theorem putting_there {M : List Int} {x : Int} (hR : Rises M) {k : Nat} (hk : k < M.length) (hx : M[k]?.getD 0 = x) : ins x M = M := by
  have hs := split_at M k hk
  have hR2 := hR
  rw [hs] at hR2
  have h3 := (rises_mid hR2).2.2.1
  have := ins_here x (M[k]?.getD 0) (M.drop (k + 1)) (show Ent.key x = Ent.key _ from hx.symm) (M.take k) h3
  rw [← hs] at this
  rw [this, ← hx]; exact hs.symm
theorem putting_end {M : List Int} {x : Int} {D : List Int} (h : Putting M x M.length false D) : D ++ [x] = ins x M := by
  rcases h with ⟨_, rfl, h2⟩ | ⟨h, _⟩
  · rw [List.take_length] at h2 ⊢
    induction M with
    | nil => rfl
    | cons a l ih =>
      have ha : lt (Ent.key a) (Ent.key x) = true := h2 a (by simp)
      simp only [List.cons_append, ins]
      rw [if_neg (by rw [lt_asym ha]; simp), if_pos ha, ih (fun y hy => h2 y (by simp [hy]))]
  · cases h
theorem putting_done {M : List Int} {x : Int} {D : List Int} (h : Putting M x M.length true D) : D = ins x M := by
  rcases h with ⟨h, _⟩ | ⟨_, h, _⟩
  · cases h
  · simpa using h

set_option maxHeartbeats 4000000 in
set_option maxRecDepth 100000 in
theorem RPut_calls (w : World) (v : Value) (M : List Int) (x : Int) (hM : M.length ≤ 900000) (hR : Rises M) (hv : Sl w v M) :
    Calls Tryz.prog 42 #[v, .int .i64 x] w fun e w' => ∃ u, e = .returned u ∧ Sl w' u (ins x M) ∧ Below w.heap.size w w' := by
  have hv0 := Lib.hid hv
  obtain ⟨s, cap, rfl, hr⟩ := hv
  obtain ⟨i0, hi, hz0, hz1, hz2⟩ := info_parts info_key
  have o0 := Lib.hid (alloc_none w)
  have b0 := Lib.hid (b_alloc w (.cells #[] 3))
  have hM2 := Lib.hid hM
  go_enter Tryz.func42, Tryz.ntmps42
  go_wp2
  go_loopg [5, 6, 7] M.length (fun gg s5 s6 s7 wr => ∃ (k : Nat) (ua : Option Addr) (un uc : Nat) (put : Bool) (D : List Int), s5 = .slice ua un uc ∧ s6 = .bool put ∧ s7 = .int .i64 (k : Int) ∧ k ≤ M.length ∧ M.length - k ≤ gg ∧ Hid (Putting M x k put D) ∧ Hid (wr.ownsRow w.heap.size 3 1 (.slice ua un uc) (keysV D).length (keysV D)) ∧ Hid (Below w.heap.size w wr))
  case atStart => exact ⟨0, _, _, _, false, [], rfl, rfl, rfl, by omega, by omega, Lib.hid (Or.inl ⟨rfl, by simp, by simp⟩), o0, b0⟩
  case round =>
    clear o0 b0
    obtain ⟨k, ua, un, uc, put, D, rfl, rfl, rfl, hk, hgg, hP, ho, hb⟩ := hrel
    have hDl := Lib.hid (putting_len hP.out hk)
    by_cases hlt : k < M.length
    · obtain ⟨g, off, rfl, hg, hc⟩ := hr (by omega)
      have ck : ∀ w', Below w.heap.size w w' → w'.cell? ⟨g, off + k, none⟩ = some (.int .i64 (M[k]?.getD 0)) := fun w' h => (h.cell (p := ⟨g, off + k, none⟩) hg).trans (hc k hlt)
      have ck0 := ck wr hb.out
      have l1 : (k : Int) < M.length := by omega
      have l2 : (0 : Int) ≤ k := by omega
      have hms : Hid (M.length - (k + 1) < gk) := Lib.hid (by omega)
      have hk2 : Hid (k + 1 ≤ M.length) := Lib.hid (by omega)
      have hw1 : IntKind.i64.wrap ((k : Int) + 1) = ((k + 1 : Nat) : Int) := wrap_nat (k + 1) (by omega)
      have hP1 := Lib.hid (fun (e : put = false) (h : lt x (M[k]?.getD 0) = true) => putting_in hR (e ▸ hP.out) hlt h)
      have hP2 := Lib.hid (fun (e : put = false) (h : lt (M[k]?.getD 0) x = true) => putting_on (e ▸ hP.out) hlt h)
      have hP3 := Lib.hid (fun (e : put = true) => putting_past (e ▸ hP.out) hlt)
      have hP4 := Lib.hid (fun (h : M[k]?.getD 0 = x) => putting_there hR hlt h)
      obtain ⟨y, hy⟩ : ∃ y, M[k]?.getD 0 = y := ⟨_, rfl⟩
      rw [hy] at ck0 hP1 hP2 hP3 hP4
      replace ck := Lib.hid ck
      rw [hy] at ck
      clear hc hr hP hy hR hgg hlt hk
      rcases Int.lt_trichotomy y x with hyx | hyx | hyx
      · have e1 : (y == x) = false := beq_eq_false_iff_ne.2 (by omega)
        have e2 : ¬ y = x := by omega
        cases put with
        | false =>
          have e3 : decide (x < y) = false := decide_eq_false (by omega)
          have e4 : y ≤ x := by omega
          have hP5 := Lib.hid (hP2.out rfl (decide_eq_true hyx))
          clear hP1 hP2 hP3 hP4
          have hl1 := Lib.hid (keysV_len (D))
          have hs1 := Lib.hid (keysV_snoc (D) y)
          have hzz1 := Lib.hid hb.out.size
          go_wp2_with (at_builtin; refine wpList_append_own _ rfl _ _ 23 rfl w.heap.size 3 i0 (.int .i64 0) 1 8 Tryz.underlying23 hi hz0 hz1 hz2 rfl (by decide) _ _ _ rfl (ho.out.alloc _) ⟨wr.heap.size, 0, none⟩ 1 1 [.int .i64 y] rfl rfl (cell_one_new _ _ _) (by simp [Value.oneCell']) ?c31 ?c41 ?c51 ?_)
          case c31 => have := hl1.out; have := hDl.out; have := hM2.out; simp [maxLen]; simp at *; omega
          case c41 => have := hl1.out; have := hDl.out; have := hM2.out; simp at *; omega
          case c51 => have := hzz1.out; simp; omega
          intro v1 w1 ho'1 hgrow1 _
          have hb1 : Hid (Below w.heap.size w w1) := Lib.hid ((b_next hb.out (b_alloc _ _) (Nat.le_refl _)).grown hgrow1 (by have := hzz1.out; simp; omega) (fun q e => (ho.out.lt q e).1))
          obtain ⟨a1, n1, c1, rfl⟩ : ∃ ya yn yc, v1 = .slice ya yn yc := by
            rcases ho'1.2 with ⟨hv, _⟩ | ⟨g, cap, cur, hv, _⟩
            · exact ⟨_, _, _, hv⟩
            · exact ⟨_, _, _, hv⟩
          have ho1 : Hid (w1.ownsRow w.heap.size 3 1 (.slice a1 n1 c1) (keysV (D ++ [y])).length (keysV (D ++ [y]))) := Lib.hid (by rw [hs1.out, List.length_append]; exact ho'1)
          clear ho'1 hgrow1
          go_wp2
          go_roundg (M.length - (k + 1))
          case measure => exact hms.out
          case rel => exact ⟨k + 1, a1, n1, c1, false, D ++ [y], rfl, rfl, by simp, hk2.out, Nat.le_refl _, hP5, ho1, hb1⟩
        | true =>
          have hP5 := Lib.hid (hP3.out rfl)
          have : x < y := of_decide_eq_true hP5.out.2
          omega
      · have e1 : (y == x) = true := by simpa using hyx
        have hE : Hid (ins x M = M) := Lib.hid (hP4.out hyx)
        replace hyx := Lib.hid hyx
        clear hP1 hP2 hP3 hP4
        go_wp2
        go_ret
        exact ⟨_, rfl, by rw [hE.out]; exact hv0.out.next hb.out, hb.out⟩
      · have e1 : (y == x) = false := beq_eq_false_iff_ne.2 (by omega)
        have e2 : ¬ y = x := by omega
        cases put with
        | false =>
          have hP5 := Lib.hid (hP1.out rfl (decide_eq_true hyx))
          have hDl2 : Hid (D.length ≤ M.length + 1) := hDl
          clear hP1 hP2 hP3 hP4
          have hl1 := Lib.hid (keysV_len (D))
          have hs1 := Lib.hid (keysV_snoc (D) x)
          have hzz1 := Lib.hid hb.out.size
          go_wp2_with (at_builtin; refine wpList_append_own _ rfl _ _ 23 rfl w.heap.size 3 i0 (.int .i64 0) 1 8 Tryz.underlying23 hi hz0 hz1 hz2 rfl (by decide) _ _ _ rfl (ho.out.alloc _) ⟨wr.heap.size, 0, none⟩ 1 1 [.int .i64 x] rfl rfl (cell_one_new _ _ _) (by simp [Value.oneCell']) ?c31 ?c41 ?c51 ?_)
          case c31 => have := hl1.out; have := hDl.out; have := hM2.out; simp [maxLen]; simp at *; omega
          case c41 => have := hl1.out; have := hDl.out; have := hM2.out; simp at *; omega
          case c51 => have := hzz1.out; simp; omega
          intro v1 w1 ho'1 hgrow1 _
          have hb1 : Hid (Below w.heap.size w w1) := Lib.hid ((b_next hb.out (b_alloc _ _) (Nat.le_refl _)).grown hgrow1 (by have := hzz1.out; simp; omega) (fun q e => (ho.out.lt q e).1))
          obtain ⟨a1, n1, c1, rfl⟩ : ∃ ya yn yc, v1 = .slice ya yn yc := by
            rcases ho'1.2 with ⟨hv, _⟩ | ⟨g, cap, cur, hv, _⟩
            · exact ⟨_, _, _, hv⟩
            · exact ⟨_, _, _, hv⟩
          have ho1 : Hid (w1.ownsRow w.heap.size 3 1 (.slice a1 n1 c1) (keysV (D ++ [x])).length (keysV (D ++ [x]))) := Lib.hid (by rw [hs1.out, List.length_append]; exact ho'1)
          clear ho'1 hgrow1
          have ck2 := ck.out w1 hb1.out
          have ck3 : (w1.alloc (.cells #[.int .i64 y] 3)).cell? ⟨g, off + k, none⟩ = some (.int .i64 y) := ck.out _ (b_next hb1.out (b_alloc _ _) (Nat.le_refl _))
          have hl2 := Lib.hid (keysV_len (D ++ [x]))
          have hs2 := Lib.hid (keysV_snoc (D ++ [x]) y)
          have hzz2 := Lib.hid hb1.out.size
          go_wp2_with (at_builtin; refine wpList_append_own _ rfl _ _ 23 rfl w.heap.size 3 i0 (.int .i64 0) 1 8 Tryz.underlying23 hi hz0 hz1 hz2 rfl (by decide) _ _ _ rfl (ho1.out.alloc _) ⟨w1.heap.size, 0, none⟩ 1 1 [.int .i64 y] rfl rfl (cell_one_new _ _ _) (by simp [Value.oneCell']) ?c32 ?c42 ?c52 ?_)
          case c32 => have := hl2.out; have := hDl.out; have := hM2.out; simp [maxLen]; simp at *; omega
          case c42 => have := hl2.out; have := hDl.out; have := hM2.out; simp at *; omega
          case c52 => have := hzz2.out; simp; omega
          intro v2 w2 ho'2 hgrow2 _
          have hb2 : Hid (Below w.heap.size w w2) := Lib.hid ((b_next hb1.out (b_alloc _ _) (Nat.le_refl _)).grown hgrow2 (by have := hzz2.out; simp; omega) (fun q e => (ho1.out.lt q e).1))
          obtain ⟨a2, n2, c2, rfl⟩ : ∃ ya yn yc, v2 = .slice ya yn yc := by
            rcases ho'2.2 with ⟨hv, _⟩ | ⟨g, cap, cur, hv, _⟩
            · exact ⟨_, _, _, hv⟩
            · exact ⟨_, _, _, hv⟩
          have ho2 : Hid (w2.ownsRow w.heap.size 3 1 (.slice a2 n2 c2) (keysV (D ++ [x] ++ [y])).length (keysV (D ++ [x] ++ [y]))) := Lib.hid (by rw [hs2.out, List.length_append]; exact ho'2)
          clear ho'2 hgrow2
          go_wp2
          go_roundg (M.length - (k + 1))
          case measure => exact hms.out
          case rel => exact ⟨k + 1, a2, n2, c2, true, D ++ [x] ++ [y], rfl, rfl, by simp, hk2.out, Nat.le_refl _, hP5, ho2, hb2⟩
        | true =>
          have hP5 := Lib.hid (hP3.out rfl).1
          clear hP1 hP2 hP3 hP4
          have hl1 := Lib.hid (keysV_len (D))
          have hs1 := Lib.hid (keysV_snoc (D) y)
          have hzz1 := Lib.hid hb.out.size
          go_wp2_with (at_builtin; refine wpList_append_own _ rfl _ _ 23 rfl w.heap.size 3 i0 (.int .i64 0) 1 8 Tryz.underlying23 hi hz0 hz1 hz2 rfl (by decide) _ _ _ rfl (ho.out.alloc _) ⟨wr.heap.size, 0, none⟩ 1 1 [.int .i64 y] rfl rfl (cell_one_new _ _ _) (by simp [Value.oneCell']) ?c31 ?c41 ?c51 ?_)
          case c31 => have := hl1.out; have := hDl.out; have := hM2.out; simp [maxLen]; simp at *; omega
          case c41 => have := hl1.out; have := hDl.out; have := hM2.out; simp at *; omega
          case c51 => have := hzz1.out; simp; omega
          intro v1 w1 ho'1 hgrow1 _
          have hb1 : Hid (Below w.heap.size w w1) := Lib.hid ((b_next hb.out (b_alloc _ _) (Nat.le_refl _)).grown hgrow1 (by have := hzz1.out; simp; omega) (fun q e => (ho.out.lt q e).1))
          obtain ⟨a1, n1, c1, rfl⟩ : ∃ ya yn yc, v1 = .slice ya yn yc := by
            rcases ho'1.2 with ⟨hv, _⟩ | ⟨g, cap, cur, hv, _⟩
            · exact ⟨_, _, _, hv⟩
            · exact ⟨_, _, _, hv⟩
          have ho1 : Hid (w1.ownsRow w.heap.size 3 1 (.slice a1 n1 c1) (keysV (D ++ [y])).length (keysV (D ++ [y]))) := Lib.hid (by rw [hs1.out, List.length_append]; exact ho'1)
          clear ho'1 hgrow1
          go_wp2
          go_roundg (M.length - (k + 1))
          case measure => exact hms.out
          case rel => exact ⟨k + 1, a1, n1, c1, true, D ++ [y], rfl, rfl, by simp, hk2.out, Nat.le_refl _, hP5, ho1, hb1⟩
    · obtain rfl : k = M.length := by omega
      have l1 : ¬ (M.length : Int) < M.length := by omega
      cases put with
      | false =>
        have hP5 := Lib.hid (putting_end hP.out)
        clear hr hP
        have hl1 := Lib.hid (keysV_len (D))
        have hs1 := Lib.hid (keysV_snoc (D) x)
        have hzz1 := Lib.hid hb.out.size
        go_wp2_with (at_builtin; refine wpList_append_own _ rfl _ _ 23 rfl w.heap.size 3 i0 (.int .i64 0) 1 8 Tryz.underlying23 hi hz0 hz1 hz2 rfl (by decide) _ _ _ rfl (ho.out.alloc _) ⟨wr.heap.size, 0, none⟩ 1 1 [.int .i64 x] rfl rfl (cell_one_new _ _ _) (by simp [Value.oneCell']) ?c31 ?c41 ?c51 ?_)
        case c31 => have := hl1.out; have := hDl.out; have := hM2.out; simp [maxLen]; simp at *; omega
        case c41 => have := hl1.out; have := hDl.out; have := hM2.out; simp at *; omega
        case c51 => have := hzz1.out; simp; omega
        intro v1 w1 ho'1 hgrow1 _
        have hb1 : Hid (Below w.heap.size w w1) := Lib.hid ((b_next hb.out (b_alloc _ _) (Nat.le_refl _)).grown hgrow1 (by have := hzz1.out; simp; omega) (fun q e => (ho.out.lt q e).1))
        obtain ⟨a1, n1, c1, rfl⟩ : ∃ ya yn yc, v1 = .slice ya yn yc := by
          rcases ho'1.2 with ⟨hv, _⟩ | ⟨g, cap, cur, hv, _⟩
          · exact ⟨_, _, _, hv⟩
          · exact ⟨_, _, _, hv⟩
        have ho1 : Hid (w1.ownsRow w.heap.size 3 1 (.slice a1 n1 c1) (keysV (D ++ [x])).length (keysV (D ++ [x]))) := Lib.hid (by rw [hs1.out, List.length_append]; exact ho'1)
        clear ho'1 hgrow1
        have hE : Hid (Sl w1 (.slice a1 n1 c1) (ins x M)) := Lib.hid (by rw [← hP5.out]; exact sl_of_owns ho1.out)
        go_wp2
        go_ret
        exact ⟨_, rfl, hE.out, hb1.out⟩
      | true =>
        have hE : Hid (Sl wr (.slice ua un uc) (ins x M)) := Lib.hid (by rw [← putting_done hP.out]; exact sl_of_owns ho.out)
        clear hr hP ho
        go_wp2
        go_ret
        exact ⟨_, rfl, hE.out, hb.out⟩
end Go.Proofs.YtcoccaglbepbdaaGreat.Rf
