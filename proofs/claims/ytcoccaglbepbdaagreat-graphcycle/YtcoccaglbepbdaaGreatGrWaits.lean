/-
  How places are settled, in plain words: to how many each points that are left, and which point to none; the memory that settled keeps. Conditions: none.
-/
import Derived.Test.YtcoccaglbepbdaaGreatRows
import Derived.Test.YtcoccaglbepbdaaGreatGrTurn
namespace Go.Proofs.YtcoccaglbepbdaaGreat.Gr
open Go.RowKit Sh
open Key (lt)
open Ent (key)
open Ti (SetAt keysV keysV_len keysV_snoc info_key Keyed keyed_cell)
open Rf (Sl sl_of_owns)
attribute [local go_sem] fold_none

/-- what a place points to -/
def ptr (rows : List (List Int)) (p : Int) : List Int := rows[p.toNat]?.getD []
/-- all places -/
def rng (n : Nat) : List Int := (List.range n).map fun (q : Nat) => (q : Int)
theorem mem_rng {n : Nat} {x : Int} : x ∈ rng n ↔ ∃ q : Nat, q < n ∧ x = (q : Int) := by
  unfold rng
  rw [List.mem_map]
  exact ⟨fun ⟨q, h, e⟩ => ⟨q, List.mem_range.1 h, e.symm⟩, fun ⟨q, h, e⟩ => ⟨q, List.mem_range.2 h, e.symm⟩⟩
theorem rng_rises (n : Nat) : Rises (rng n) := by
  unfold rng Rises
  rw [List.pairwise_map]
  refine List.pairwise_lt_range.imp fun {a b} h => ?_
  rw [lt_int, key_int, key_int]
  simpa using h
theorem rng_len (n : Nat) : (rng n).length = n := by simp [rng]
theorem ptr_nat (rows : List (List Int)) (q : Nat) : ptr rows (q : Int) = rows[q]?.getD [] := by simp [ptr]
/-- to how many that are left a place points -/
def cnt (rows : List (List Int)) (left : List Int) (q : Nat) : Nat := ((rows[q]?.getD []).filter fun y => decide (y ∈ left)).length
theorem cnt_zero {rows : List (List Int)} {left : List Int} {q : Nat} : cnt rows left q = 0 ↔ ready (ptr rows) left (q : Int) = true := by
  unfold cnt
  rw [List.length_eq_zero_iff, List.filter_eq_nil_iff, ready_iff, ptr_nat]
  simp
theorem cnt_del {rows : List (List Int)} {left : List Int} {x : Int} (hx : x ∈ left) (q : Nat) : cnt rows left q = cnt rows (del x left) q + (rows[q]?.getD []).count x := by
  unfold cnt
  generalize rows[q]?.getD [] = r
  induction r with
  | nil => rfl
  | cons a r ih =>
    rw [List.filter_cons, List.filter_cons, List.count_cons]
    by_cases e : a = x
    · subst e
      have h1 : decide (a ∈ left) = true := by simpa using hx
      have h2 : decide (a ∈ del a left) = false := by simp [mem_del]
      rw [h1, h2]
      simp only [if_true, Bool.false_eq_true, if_false, List.length_cons, beq_self_eq_true]
      omega
    · have h3 : decide (a ∈ del x left) = decide (a ∈ left) := by
        rw [decide_eq_decide, mem_del]
        exact ⟨fun h => h.1, fun h => ⟨h, e⟩⟩
      have h4 : (a == x) = false := by simpa using e
      rw [h3, h4]
      simp only [Bool.false_eq_true, if_false, Nat.add_zero]
      split
      · rw [List.length_cons, List.length_cons]; omega
      · exact ih
theorem cnt_all {n : Nat} {rows : List (List Int)} (h : Places n rows) (q : Nat) : cnt rows (rng n) q = (rows[q]?.getD []).length := by
  unfold cnt
  congr 1
  rw [List.filter_eq_self]
  intro y hy
  by_cases hq : q < rows.length
  · obtain ⟨z, h1, h2⟩ := (h.each (rows[q]?.getD []) (by rw [List.getElem?_eq_getElem hq]; simp)).2 y hy
    exact decide_eq_true (mem_rng.2 ⟨z, h1, h2⟩)
  · rw [List.getElem?_eq_none (by omega)] at hy; cases hy
/-- places behind places: what is settled, what is left, how many each waits for, which are ready -/
structure Settles (n : Nat) (rows : List (List Int)) (o left R : List Int) (c : Nat → Nat) : Prop where
  rises : Rises left
  place : ∀ x ∈ left, ∃ q : Nat, q < n ∧ x = (q : Int)
  done : order (ptr rows) n (rng n) = (order (ptr rows) left.length left).map (o ++ ·)
  len : o.length + left.length = n
  waits : ∀ q, q < n → c q = cnt rows left q
  gone : ∀ q : Nat, q < n → (q : Int) ∉ left → cnt rows left q = 0
  readyR : Rises R
  readyM : ∀ x, x ∈ R ↔ x ∈ left ∧ ready (ptr rows) left x = true
theorem Settles.pick {n : Nat} {rows : List (List Int)} {o left R : List Int} {c : Nat → Nat} (h : Settles n rows o left R c) : pick (ptr rows) left = R.head? := by
  have : R = left.filter (ready (ptr rows) left) := rises_one h.readyR (rises_filter _ h.rises) fun x => by rw [h.readyM, List.mem_filter]
  rw [this, List.head?_filter]
  rfl
theorem Settles.len_le {n : Nat} {rows : List (List Int)} {o left R : List Int} {c : Nat → Nat} (h : Settles n rows o left R c) : R.length ≤ n := by
  have := nodup_len R left (rises_nodup h.readyR) fun x hx => ((h.readyM x).1 hx).1
  have := h.len
  omega
/-- none is ready: all are settled, or there is no order -/
theorem Settles.stop {n : Nat} {rows : List (List Int)} {o left : List Int} {c : Nat → Nat} (h : Settles n rows o left [] c) : (o.length = n ∧ order (ptr rows) n (rng n) = some o) ∨ (o.length ≠ n ∧ order (ptr rows) n (rng n) = none) := by
  have hp := h.pick
  have hl := h.len
  cases left with
  | nil =>
    refine Or.inl ⟨by simpa using hl, ?_⟩
    rw [h.done]
    simp [order]
  | cons a l =>
    refine Or.inr ⟨by rw [List.length_cons] at hl; omega, ?_⟩
    rw [h.done, List.length_cons, order_stuck hp]
    rfl
/-- on the way from one that is settled: over the places that point to it -/
structure Passing (n : Nat) (rows : List (List Int)) (o left R : List Int) (c : Nat → Nat) (x : Int) (L : List Int) : Prop where
  rises : Rises left
  place : ∀ y ∈ left, ∃ q : Nat, q < n ∧ y = (q : Int)
  done : order (ptr rows) n (rng n) = (order (ptr rows) left.length left).map (o ++ ·)
  len : o.length + left.length = n
  waits : ∀ q, q < n → c q = cnt rows left q + L.count (q : Int)
  gone : ∀ q : Nat, q < n → (q : Int) ∉ left → cnt rows left q + L.count (q : Int) = 0
  readyR : Rises R
  readyM : ∀ q : Nat, (q : Int) ∈ R ↔ (q : Int) ∈ left ∧ c q = 0
  place2 : ∀ y ∈ R, ∃ q : Nat, q < n ∧ y = (q : Int)
  mem : ∀ y ∈ L, ∃ q : Nat, q < n ∧ y = (q : Int)
theorem Passing.start {n : Nat} {rows : List (List Int)} {o left R : List Int} {c : Nat → Nat} {x : Nat} (h : Settles n rows o left ((x : Int) :: R) c) {L : List Int} (hL : ∀ q, q < n → L.count (q : Int) = (rows[q]?.getD []).count (x : Int)) (hm : ∀ y ∈ L, ∃ q : Nat, q < n ∧ y = (q : Int)) :
    Passing n rows (o ++ [(x : Int)]) (del (x : Int) left) (del (x : Int) ((x : Int) :: R)) c (x : Int) L := by
  have hp := h.pick
  obtain ⟨hx, hr⟩ := pick_some hp
  have hl := del_len h.rises hx
  have hxn : x < n := by obtain ⟨q, h1, h2⟩ := h.place _ hx; omega
  refine ⟨rises_del _ h.rises, fun y hy => h.place y (mem_del.1 hy).1, ?_, by rw [List.length_append, List.length_singleton]; have := h.len; omega, fun q hq => by rw [h.waits q hq, cnt_del hx q, hL q hq], fun q hq hn => ?_, rises_del _ h.readyR, fun q => ?_, fun y hy => h.place y ((h.readyM y).1 (mem_del.1 hy).1).1, hm⟩
  · rw [h.done, ← hl, order_pick hp]
    cases order (ptr rows) (del (x : Int) left).length (del (x : Int) left) <;> simp
  · rw [hL q hq, ← cnt_del hx q]
    by_cases e : (q : Int) = (x : Int)
    · have : q = x := by omega
      subst this
      exact cnt_zero.2 (ready_iff.2 hr)
    · exact h.gone q hq fun e2 => hn (mem_del.2 ⟨e2, e⟩)
  · rw [mem_del, mem_del, h.readyM]
    constructor
    · rintro ⟨⟨h1, h2⟩, h3⟩
      obtain ⟨q2, h4, h5⟩ := h.place _ h1
      have : q2 = q := by omega
      subst this
      exact ⟨⟨h1, h3⟩, by rw [h.waits _ h4]; exact cnt_zero.2 h2⟩
    · rintro ⟨⟨h1, h3⟩, h2⟩
      obtain ⟨q2, h4, h5⟩ := h.place _ h1
      have : q2 = q := by omega
      subst this
      rw [h.waits _ h4] at h2
      exact ⟨⟨h1, cnt_zero.1 h2⟩, h3⟩
/-- one fewer -/
def less (c : Nat → Nat) (q : Nat) : Nat → Nat := fun p => if p = q then c q - 1 else c p
theorem Passing.pos {n : Nat} {rows : List (List Int)} {o left R : List Int} {c : Nat → Nat} {x : Int} {L : List Int} {q : Nat} (h : Passing n rows o left R c x ((q : Int) :: L)) : q < n ∧ (q : Int) ∈ left ∧ (q : Int) ∉ R ∧ 0 < c q := by
  obtain ⟨q2, h4, h5⟩ := h.mem (q : Int) (by simp)
  have : q2 = q := by omega
  subst this
  have h1 := h.waits _ h4
  rw [List.count_cons] at h1
  simp only [beq_self_eq_true, if_true] at h1
  refine ⟨h4, Classical.byContradiction fun e => ?_, fun e => ?_, by omega⟩
  · have := h.gone _ h4 e
    rw [List.count_cons] at this
    simp only [beq_self_eq_true, if_true] at this
    omega
  · have := ((h.readyM q2).1 e).2
    omega
theorem Passing.step {n : Nat} {rows : List (List Int)} {o left R R' : List Int} {c : Nat → Nat} {x : Int} {L : List Int} {q : Nat} (h : Passing n rows o left R c x ((q : Int) :: L)) (hR : R' = if c q - 1 = 0 then ins (q : Int) R else R) :
    Passing n rows o left R' (less c q) x L := by
  obtain ⟨hq, hl, hnr, hc⟩ := h.pos
  have hcount : ∀ p : Nat, p ≠ q → ((q : Int) :: L).count (p : Int) = L.count (p : Int) := fun p hp => by
    rw [List.count_cons]
    have : ((q : Int) == (p : Int)) = false := by simp; omega
    simp [this]
  have hself : ((q : Int) :: L).count (q : Int) = L.count (q : Int) + 1 := by simp
  refine ⟨h.rises, h.place, h.done, h.len, fun p hp => ?_, fun p hp hn => ?_, ?_, fun p => ?_, ?_, fun y hy => h.mem y (by simp [hy])⟩
  · unfold less
    split
    · next e =>
      subst e
      rw [h.waits _ hp, hself]; omega
    · next e => rw [h.waits _ hp, hcount p e]
  · by_cases e : p = q
    · subst e; exact absurd hl hn
    · have := h.gone p hp hn
      rw [hcount p e] at this
      exact this
  · rw [hR]; split
    · exact rises_ins _ h.readyR
    · exact h.readyR
  · by_cases e : p = q
    · subst e
      have e3 : less c p p = c p - 1 := by simp [less]
      rw [hR, e3]
      split
      · next e2 => rw [mem_ins_int h.readyR]; exact ⟨fun _ => ⟨hl, e2⟩, fun _ => Or.inl rfl⟩
      · next e2 => exact ⟨fun e4 => absurd e4 hnr, fun e4 => absurd e4.2 e2⟩
    · have e3 : less c q p = c p := by simp [less, e]
      rw [e3, ← h.readyM p, hR]
      split
      · rw [mem_ins_int h.readyR]
        exact ⟨fun e4 => e4.elim (fun e5 => by omega) id, Or.inr⟩
      · exact Iff.rfl
  · rw [hR]
    split
    · intro y hy
      rw [mem_ins_int h.readyR] at hy
      exact hy.elim (fun e => ⟨q, hq, e⟩) (h.place2 y)
    · exact h.place2
theorem Passing.end_ {n : Nat} {rows : List (List Int)} {o left R : List Int} {c : Nat → Nat} {x : Int} (h : Passing n rows o left R c x []) : Settles n rows o left R c := by
  refine ⟨h.rises, h.place, h.done, h.len, fun q hq => by simpa using h.waits q hq, fun q hq hn => by simpa using h.gone q hq hn, h.readyR, fun y => ?_⟩
  constructor
  · intro hy
    obtain ⟨q, hq, rfl⟩ := h.place2 y hy
    obtain ⟨h1, h2⟩ := (h.readyM q).1 hy
    rw [h.waits q hq] at h2
    exact ⟨h1, cnt_zero.1 (by simpa using h2)⟩
  · rintro ⟨h1, h2⟩
    obtain ⟨q, hq, rfl⟩ := h.place y h1
    exact (h.readyM q).2 ⟨h1, by rw [h.waits q hq]; simpa using cnt_zero.2 h2⟩
theorem Settles.start {n : Nat} {rows : List (List Int)} (hP : Places n rows) {R : List Int} {c : Nat → Nat} (hR : Rises R) (hm : ∀ x, x ∈ R ↔ ∃ q : Nat, q < n ∧ x = (q : Int) ∧ (rows[q]?.getD []).length = 0) (hc : ∀ q, q < n → c q = (rows[q]?.getD []).length) : Settles n rows [] (rng n) R c := by
  refine ⟨rng_rises n, fun x hx => mem_rng.1 hx, ?_, by rw [rng_len]; simp, fun q hq => by rw [hc q hq, cnt_all hP], fun q hq hn => absurd (mem_rng.2 ⟨q, hq, rfl⟩) hn, hR, fun x => ?_⟩
  · rw [rng_len]
    cases order (ptr rows) n (rng n) <;> simp
  · rw [hm]
    constructor
    · rintro ⟨q, h1, rfl, h3⟩
      exact ⟨mem_rng.2 ⟨q, h1, rfl⟩, cnt_zero.1 (by rw [cnt_all hP]; exact h3)⟩
    · rintro ⟨h1, h2⟩
      obtain ⟨q, h3, rfl⟩ := mem_rng.1 h1
      exact ⟨q, h3, rfl, by rw [← cnt_all hP]; exact cnt_zero.2 h2⟩
/-- the places that point to one, as often as they do -/
theorem back_count {n : Nat} {rows : List (List Int)} (x : Nat) : ∀ p (q : Nat), (backTo rows p x).count (q : Int) = if q < p then (rows[q]?.getD []).count (x : Int) else 0
  | 0, q => by simp [backTo]
  | p + 1, q => by
    rw [backTo_succ, List.count_append, back_count (n := n) x p q, List.count_replicate]
    by_cases e : q = p
    · subst e; simp
    · have : ((p : Int) == (q : Int)) = false := by simp; omega
      rw [this]
      by_cases h : q < p
      · simp [h, show q < p + 1 by omega]
      · simp [h, show ¬ q < p + 1 by omega]
theorem back_mem {rows : List (List Int)} (x : Nat) : ∀ p, ∀ y ∈ backTo rows p x, ∃ q : Nat, q < p ∧ y = (q : Int)
  | 0, y, h => by simp [backTo] at h
  | p + 1, y, h => by
    rw [backTo_succ] at h
    rcases List.mem_append.1 h with h | h
    · obtain ⟨q, h1, h2⟩ := back_mem x p y h
      exact ⟨q, by omega, h2⟩
    · exact ⟨p, by omega, List.eq_of_mem_replicate h⟩

/-- numbers of places, by a function -/
def waitsOf (n : Nat) (c : Nat → Nat) : List Int := (List.range n).map fun q => ((c q : Nat) : Int)
theorem waits_len (n : Nat) (c : Nat → Nat) : (waitsOf n c).length = n := by simp [waitsOf]
theorem waits_at {n : Nat} (c : Nat → Nat) {q : Nat} (hq : q < n) : (waitsOf n c)[q]?.getD 0 = (c q : Int) := by simp [waitsOf, hq]
theorem waits_set {n : Nat} (c : Nat → Nat) (q m : Nat) : (waitsOf n c).set q (m : Int) = waitsOf n (fun p => if p = q then m else c p) := by
  apply List.ext_getElem?
  intro i
  rw [List.getElem?_set]
  by_cases e : q = i
  · subst e
    by_cases h : q < n
    · simp [waitsOf, h]
    · simp [waitsOf, h]
  · rw [if_neg e]
    by_cases h : i < n
    · simp [waitsOf, h, Ne.symm e]
    · simp [waitsOf, h]
theorem waits_zero (n : Nat) : List.replicate n (0 : Int) = waitsOf n fun _ => 0 := by
  apply List.ext_getElem?
  intro i
  by_cases h : i < n
  · simp [waitsOf, h]
  · simp [waitsOf, h]
theorem waits_same {n : Nat} {c d : Nat → Nat} (h : ∀ q, q < n → c q = d q) : waitsOf n c = waitsOf n d := by
  unfold waitsOf
  refine List.map_congr_left fun q hq => ?_
  rw [h q (List.mem_range.1 hq)]

/-- the memory that settled keeps: numbers, a set, a row, each in a block of its own -/
structure St (w1 : World) (g sb h2 : Nat) (wr : World) (xs R : List Int) (s : Value) (o : List Int) : Prop where
  num : NumAt wr g xs
  set : SetAt wr (some ⟨sb, 0, none⟩) R
  row : wr.ownsRow h2 3 1 s (keysV o).length (keysV o)
  below : Below w1.heap.size w1 wr
  lg : w1.heap.size ≤ g
  ls : w1.heap.size ≤ sb
  l2 : g < h2
  l3 : h2 ≤ wr.heap.size
theorem St.turn {w1 wr w' : World} {g sb h2 : Nat} {xs R R' : List Int} {s : Value} {o : List Int} (h : St w1 g sb h2 wr xs R s o) (hT : Ti.Turns wr 110 sb R' w') : St w1 g sb h2 w' xs R' s o := by
  obtain ⟨p, hp⟩ := Ti.At.box h.set
  have hne : g ≠ sb := fun e => by
    subst e
    have := hp.symm.trans h.num
    simp at this
  exact ⟨h.num.other hT.2 hne, hT.1, ownsRow_other h.row hp (by decide) hT.2, hT.below h.below h.ls, h.lg, h.ls, h.l2, Nat.le_trans h.l3 hT.2.size⟩
theorem St.next {w1 wr w' : World} {g sb h2 : Nat} {xs R : List Int} {s : Value} {o : List Int} (h : St w1 g sb h2 wr xs R s o) (hb : Below wr.heap.size wr w') : St w1 g sb h2 w' xs R s o :=
  ⟨h.num.next hb, h.set.next hb, h.row.kept (row := none) ⟨hb.os, hb.tape, hb.output, hb.size, fun k hk _ => hb.block k hk⟩ (by
    cases s.ownBlock with
    | none => exact Or.inl rfl
    | some q => exact Or.inr (by simp)), b_next h.below hb (Nat.le_refl _), h.lg, h.ls, h.l2, Nat.le_trans h.l3 hb.size⟩
theorem NumAt.keyed {W : World} {g : Nat} {xs : List Int} (h : NumAt W g xs) : Keyed W g := ⟨_, _, h⟩
theorem St.store {w1 wr : World} {g sb h2 : Nat} {xs R : List Int} {s : Value} {o : List Int} (h : St w1 g sb h2 wr xs R s o) (q : Nat) (y : Int) : St w1 g sb h2 (wr.setCell ⟨g, q, none⟩ (.int .i64 y)) (xs.set q y) R s o := by
  refine ⟨h.num.set q y, Ti.At.stays h.set (stays_keyed (by decide) h.num.keyed _ _) (stays_keyed (by decide) h.num.keyed _ _), h.row.kept (row := some g) ⟨rfl, rfl, rfl, by simp [World.setCell], fun k _ hk => Below.heap_setCell _ _ _ k fun e => hk (by rw [e])⟩ ?_, h.below.setCell (p := ⟨g, q, none⟩) h.lg _, h.lg, h.ls, h.l2, by simpa [World.setCell] using h.l3⟩
  cases hb : s.ownBlock with
  | none => exact Or.inl rfl
  | some q2 =>
    refine Or.inr fun e => ?_
    have e2 : q2 = g := by simpa using e
    have := (h.row.lt q2 hb).1
    have := h.l2
    omega
theorem St.append {w1 wr w2 : World} {g sb h2 : Nat} {xs R : List Int} {s s' : Value} {o : List Int} {x : Int} {tmp : Obj} (h : St w1 g sb h2 wr xs R s o) (hown : w2.ownsRow h2 3 1 s' (keysV (o ++ [x])).length (keysV (o ++ [x]))) (hg : (wr.alloc tmp).grownBy w2 s.ownBlock) : St w1 g sb h2 w2 xs R s' (o ++ [x]) := by
  have ha := h.next (b_alloc wr tmp)
  have hs : w1.heap.size ≤ h2 := by have := h.lg; have := h.l2; omega
  refine ⟨?_, set_row ha.set ha.row hg, hown, ha.below.grown hg ha.below.size fun q e => Nat.le_trans hs (ha.row.lt q e).1, h.lg, h.ls, h.l2, Nat.le_trans ha.l3 hg.size⟩
  refine (hg.block g ha.num.lt fun e => ?_).trans ha.num
  have := (ha.row.lt g e.symm).1
  have := h.l2
  omega
end Go.Proofs.YtcoccaglbepbdaaGreat.Gr
