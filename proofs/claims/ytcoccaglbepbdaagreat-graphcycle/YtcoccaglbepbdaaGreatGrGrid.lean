/-
  Rows of numbers in memory: a row whose numbers change, and rows of rows that grow by append. Conditions: none.
-/
import Derived.Test.YtcoccaglbepbdaaGreatRows
import Derived.Test.YtcoccaglbepbdaaGreatGrFind
import Derived.Deep.AppendLies
namespace Go.Proofs.YtcoccaglbepbdaaGreat.Gr
open Go.RowKit Sh
open Ti (keysV keysV_len keysV_snoc)
open Rf (Sl sl_of_owns)
attribute [local go_sem] fold_none

/-- a row of numbers, its block whole -/
def NumAt (W : World) (g : Nat) (xs : List Int) : Prop := W.heap[g]? = some (.cells (keysV xs).toArray 3 (0, 0))
theorem NumAt.lt {W : World} {g : Nat} {xs : List Int} (h : NumAt W g xs) : g < W.heap.size := (Array.getElem?_eq_some_iff.1 h).1
theorem NumAt.below {B : Nat} {W W' : World} {g : Nat} {xs : List Int} (h : NumAt W g xs) (hb : Below B W W') (hg : g < B) : NumAt W' g xs := (hb.block g hg).trans h
theorem NumAt.next {W W' : World} {g : Nat} {xs : List Int} (h : NumAt W g xs) (hb : Below W.heap.size W W') : NumAt W' g xs := h.below hb h.lt
theorem NumAt.other {W W' : World} {g b : Nat} {xs : List Int} (h : NumAt W g xs) (hg : W.grownBy W' (some b)) (hne : g ≠ b) : NumAt W' g xs := (hg.block g h.lt (by simpa using hne)).trans h
theorem NumAt.cell {W : World} {g : Nat} {xs : List Int} (h : NumAt W g xs) {j : Nat} (hj : j < xs.length) : W.cell? ⟨g, j, none⟩ = some (.int .i64 (xs[j]?.getD 0)) := by
  simp [World.cell?, show W.heap[g]? = _ from h, keysV, List.getElem?_eq_getElem hj]
theorem NumAt.frozen {W : World} {g : Nat} {xs : List Int} (h : NumAt W g xs) (j : Nat) : W.frozen? ⟨g, j, none⟩ = false := by
  simp [World.frozen?, show W.heap[g]? = _ from h]
theorem keys_set (xs : List Int) (j : Nat) (y : Int) : keysV (xs.set j y) = (keysV xs).set j (.int .i64 y) := by simp [keysV, List.map_set]
theorem NumAt.set {W : World} {g : Nat} {xs : List Int} (h : NumAt W g xs) (j : Nat) (y : Int) : NumAt (W.setCell ⟨g, j, none⟩ (.int .i64 y)) g (xs.set j y) := by
  unfold NumAt
  rw [heap_setCell_same W g j _ _ _ h, keys_set]
  simp
theorem NumAt.sl {W : World} {g : Nat} {xs : List Int} {n cap : Nat} (h : NumAt W g xs) (hn : n = xs.length) : Sl W (.slice (some ⟨g, 0, none⟩) n cap) xs :=
  ⟨_, cap, by rw [hn], fun _ => ⟨g, 0, rfl, h.lt, fun j hj => by rw [Nat.zero_add]; exact h.cell hj⟩⟩
theorem made_all (z : Value) (n : Nat) : madeCells #[z] n = (List.replicate n z).toArray := by
  apply Array.ext
  · rw [size_madeCells]; simp
  · intro i h1 h2
    simp [madeCells, Nat.mod_one]
theorem NumAt.new (W : World) (n : Nat) : NumAt (W.alloc (.cells (madeCells #[Value.int .i64 0] n) 3)) W.heap.size (List.replicate n 0) := by
  unfold NumAt
  rw [made_all, World.alloc_heap_new W _]
  simp [keysV]
/-- a row of another base is no row of numbers -/
theorem NumAt.not_row {W : World} {g : Nat} {xs : List Int} (_ : NumAt W g xs) {base : Nat} {v : Value} {A : List Value} {n : Nat} (hr : W.ownsRow base 3 1 v n A) (hb : g < base) : v.ownBlock ≠ some g := fun e => by
  have := (hr.lt g e).1
  omega

/-- rows of rows: a block of slices, each a row of the call's own -/
structure Grid (W : World) (base g : Nat) (rows : List (List Int)) (vs : List Value) : Prop where
  blk : W.heap[g]? = some (.cells vs.toArray 23 (0, 0))
  len : vs.length = rows.length
  own : ∀ (j : Nat) r v, rows[j]? = some r → vs[j]? = some v → W.ownsRow base 3 1 v (keysV r).length (keysV r)
  apart : ∀ (i j : Nat) v u q, i ≠ j → vs[i]? = some v → vs[j]? = some u → v.ownBlock = some q → u.ownBlock ≠ some q
theorem Grid.lt {W : World} {base g : Nat} {rows : List (List Int)} {vs : List Value} (h : Grid W base g rows vs) : g < W.heap.size := (Array.getElem?_eq_some_iff.1 h.blk).1
theorem Grid.at_ {W : World} {base g : Nat} {rows : List (List Int)} {vs : List Value} (h : Grid W base g rows vs) {j : Nat} {r : List Int} (hj : rows[j]? = some r) : ∃ v, vs[j]? = some v ∧ W.cell? ⟨g, j, none⟩ = some v ∧ W.ownsRow base 3 1 v (keysV r).length (keysV r) := by
  have hlt := (List.getElem?_eq_some_iff.1 hj).1
  have hv : vs[j]? = some (vs[j]'(by rw [h.len]; exact hlt)) := List.getElem?_eq_getElem _
  exact ⟨_, hv, by simp [World.cell?, h.blk, hv], h.own j r _ hj hv⟩
theorem Grid.frozen {W : World} {base g : Nat} {rows : List (List Int)} {vs : List Value} (h : Grid W base g rows vs) (j : Nat) : W.frozen? ⟨g, j, none⟩ = false := by
  simp [World.frozen?, h.blk]
theorem Grid.grown {W W' : World} {base g : Nat} {rows : List (List Int)} {vs : List Value} {row : Option Nat} (h : Grid W base g rows vs) (hg : W.grownBy W' row) (hr : ∀ q, row = some q → q ≠ g ∧ ∀ v ∈ vs, v.ownBlock ≠ some q) : Grid W' base g rows vs :=
  ⟨(hg.block g h.lt fun e => (hr g e.symm).1 rfl).trans h.blk, h.len, fun j r v h1 h2 => (h.own j r v h1 h2).kept hg (by
    cases hb : v.ownBlock with
    | none => exact Or.inl rfl
    | some q =>
      refine Or.inr fun e => ?_
      exact (hr q e.symm).2 v (List.mem_of_getElem? h2) hb), h.apart⟩
theorem Grid.next {W W' : World} {base g : Nat} {rows : List (List Int)} {vs : List Value} (h : Grid W base g rows vs) (hb : Below W.heap.size W W') : Grid W' base g rows vs :=
  h.grown (row := none) ⟨hb.os, hb.tape, hb.output, hb.size, fun k hk _ => hb.block k hk⟩ fun q e => by cases e
theorem Grid.new (W : World) (base n : Nat) : Grid (W.alloc (.cells (madeCells #[Value.slice none 0 0] n) 23)) base W.heap.size (List.replicate n []) (List.replicate n (.slice none 0 0)) := by
  refine ⟨by rw [made_all]; exact World.alloc_heap_new W _, by simp, fun j r v h1 h2 => ?_, fun i j v u q _ h1 _ h3 => ?_⟩
  · have e1 := List.eq_of_mem_replicate (List.mem_of_getElem? h1)
    have e2 := List.eq_of_mem_replicate (List.mem_of_getElem? h2)
    subst e1 e2
    exact World.ownsRow_nil _ _ _ _
  · have e1 := List.eq_of_mem_replicate (List.mem_of_getElem? h1)
    subst e1
    simp [Value.ownBlock] at h3
/-- append to one of the rows, laid back -/
theorem Grid.append {W W0 w1 : World} {base g p : Nat} {rows : List (List Int)} {vs : List Value} {r : List Int} {v v' : Value} {x : Int} (h : Grid W base g rows vs) (hp : rows[p]? = some r) (hv : vs[p]? = some v)
    (h0 : Below W.heap.size W W0) (hown : w1.ownsRow base 3 1 v' (keysV (r ++ [x])).length (keysV (r ++ [x]))) (hgrow : W0.grownBy w1 v.ownBlock) (hat : v'.ownBlock = v.ownBlock ∨ ∃ q, v'.ownBlock = some q ∧ W.heap.size ≤ q) :
    Grid (w1.setCell ⟨g, p, none⟩ v') base g (rows.set p (r ++ [x])) (vs.set p v') := by
  have hgv : ∀ q, v.ownBlock = some q → q ≠ g := fun q e1 e2 => by
    subst e2
    have ho := h.own p r v hp hv
    rcases ho.2 with ⟨rfl, _⟩ | ⟨g', cap, cur, rfl, _, hb, _⟩
    · simp [Value.ownBlock] at e1
    · have : g' = q := by simpa [Value.ownBlock] using e1
      subst this
      have := hb.symm.trans h.blk
      simp at this
  have hblk0 : W0.heap[g]? = some (.cells vs.toArray 23 (0, 0)) := (h0.block g h.lt).trans h.blk
  have hblk1 : w1.heap[g]? = some (.cells vs.toArray 23 (0, 0)) := (hgrow.block g (Nat.lt_of_lt_of_le h.lt h0.size) fun e => hgv g e.symm rfl).trans hblk0
  have hlt : p < vs.length := (List.getElem?_eq_some_iff.1 hv).1
  have hstay : ∀ {base' : Nat} {u : Value} {n : Nat} {A : List Value}, w1.ownsRow base' 3 1 u n A → (w1.setCell ⟨g, p, none⟩ v').ownsRow base' 3 1 u n A := fun {base' u n A} ho => by
    refine ho.kept (row := some g) ⟨rfl, rfl, rfl, by simp [World.setCell], fun k _ hk => Below.heap_setCell _ _ _ k fun e => hk (by rw [e])⟩ ?_
    rcases ho.2 with ⟨rfl, _⟩ | ⟨g', cap, cur, rfl, _, hb, _⟩
    · exact Or.inl rfl
    · refine Or.inr fun e => ?_
      have : g' = g := by simpa [Value.ownBlock] using e
      subst this
      have := hb.symm.trans hblk1
      simp at this
  refine ⟨?_, by simp [h.len], fun j r2 v2 h1 h2 => ?_, fun i j a u q hij h1 h2 h3 => ?_⟩
  · rw [heap_setCell_same w1 g p _ _ _ hblk1]; simp
  · by_cases e : j = p
    · subst e
      rw [List.getElem?_set_self (by rw [← h.len]; exact hlt)] at h1
      rw [List.getElem?_set_self hlt] at h2
      cases h1; cases h2
      exact hstay hown
    · rw [List.getElem?_set_ne (Ne.symm e)] at h1 h2
      refine hstay ?_
      have ho : W0.ownsRow base 3 1 v2 (keysV r2).length (keysV r2) := (h.own j r2 v2 h1 h2).kept (row := none) ⟨h0.os, h0.tape, h0.output, h0.size, fun k hk _ => h0.block k hk⟩ (by
        cases v2.ownBlock with
        | none => exact Or.inl rfl
        | some q => exact Or.inr (by simp))
      refine ho.kept hgrow ?_
      cases hb : v2.ownBlock with
      | none => exact Or.inl rfl
      | some q => exact Or.inr fun e2 => h.apart j p v2 v q e h2 hv hb e2.symm
  · have hfar : ∀ (k : Nat) z, k ≠ p → vs[k]? = some z → ∀ q2, z.ownBlock = some q2 → v'.ownBlock ≠ some q2 := fun k z hk hz q2 hq2 e2 => by
      rcases hat with e | ⟨q3, e, hl⟩
      · rw [e] at e2; exact h.apart k p z v q2 hk hz hv hq2 e2
      · rw [e] at e2
        have : q3 = q2 := by simpa using e2
        have hk2 : k < rows.length := by rw [← h.len]; exact (List.getElem?_eq_some_iff.1 hz).1
        have := ((h.own k rows[k] z (List.getElem?_eq_getElem hk2) hz).lt q2 hq2).2
        omega
    by_cases ei : i = p
    · subst ei
      rw [List.getElem?_set_self hlt] at h1
      rw [List.getElem?_set_ne hij] at h2
      cases h1
      exact fun e => hfar j u (Ne.symm hij) h2 q e h3
    · rw [List.getElem?_set_ne (Ne.symm ei)] at h1
      by_cases ej : j = p
      · subst ej
        rw [List.getElem?_set_self hlt] at h2
        cases h2
        exact hfar i a ei h1 q h3
      · rw [List.getElem?_set_ne (Ne.symm ej)] at h2
        exact h.apart i j a u q hij h1 h2 h3

/-- behind the append: what the store reads, and what it leaves -/
theorem Grid.appended {W W0 w1 : World} {base g p : Nat} {rows : List (List Int)} {vs : List Value} {r : List Int} {v v' : Value} {x : Int} (h : Grid W base g rows vs) (hp : rows[p]? = some r) (hv : vs[p]? = some v)
    (h0 : Below W.heap.size W W0) (hown : w1.ownsRow base 3 1 v' (keysV (r ++ [x])).length (keysV (r ++ [x]))) (hgrow : W0.grownBy w1 v.ownBlock) (hat : v'.ownBlock = v.ownBlock ∨ ∃ q, v'.ownBlock = some q ∧ W.heap.size ≤ q) (hbg : base ≤ g) :
    w1.cell? ⟨g, p, none⟩ = some v ∧ w1.frozen? ⟨g, p, none⟩ = false ∧ Grid (w1.setCell ⟨g, p, none⟩ v') base g (rows.set p (r ++ [x])) (vs.set p v') ∧ Below base W (w1.setCell ⟨g, p, none⟩ v') := by
  have hgv : ∀ q, v.ownBlock = some q → q ≠ g := fun q e1 e2 => by
    subst e2
    have ho := h.own p r v hp hv
    rcases ho.2 with ⟨rfl, _⟩ | ⟨g', cap, cur, rfl, _, hb, _⟩
    · simp [Value.ownBlock] at e1
    · have : g' = q := by simpa [Value.ownBlock] using e1
      subst this
      have := hb.symm.trans h.blk
      simp at this
  have hblk1 : w1.heap[g]? = W.heap[g]? := (hgrow.block g (Nat.lt_of_lt_of_le h.lt h0.size) fun e => hgv g e.symm rfl).trans (h0.block g h.lt)
  obtain ⟨v2, e1, e2, _⟩ := h.at_ hp
  obtain rfl : v2 = v := Option.some.inj (e1.symm.trans hv)
  refine ⟨(World.cell?_of_block (a := ⟨g, p, none⟩) hblk1).trans e2, (World.frozen?_of_block (a := ⟨g, p, none⟩) hblk1).trans (h.frozen p), h.append hp hv h0 hown hgrow hat, ?_⟩
  exact ((h0.mono (Nat.le_trans hbg (Nat.le_of_lt h.lt))).grown hgrow (Nat.le_trans (Nat.le_trans hbg (Nat.le_of_lt h.lt)) h0.size) fun q e => ((h.own p r v2 hp hv).lt q e).1).setCell (p := ⟨g, p, none⟩) hbg v'

/-- rows of rows, to be read -/
def Reads2 (W : World) (v : Value) (rows : List (List Int)) : Prop :=
  ∃ g cap, v = .slice (some ⟨g, 0, none⟩) rows.length cap ∧ g < W.heap.size ∧ ∀ (j : Nat) r, rows[j]? = some r → ∃ u, W.cell? ⟨g, j, none⟩ = some u ∧ Sl W u r
theorem Reads2.next {W W' : World} {v : Value} {rows : List (List Int)} (h : Reads2 W v rows) (hb : Below W.heap.size W W') : Reads2 W' v rows := by
  obtain ⟨g, cap, e, hg, h1⟩ := h
  refine ⟨g, cap, e, Nat.lt_of_lt_of_le hg hb.size, fun j r hj => ?_⟩
  obtain ⟨u, h2, h3⟩ := h1 j r hj
  exact ⟨u, (hb.cell (p := ⟨g, j, none⟩) hg).trans h2, h3.next hb⟩
theorem Grid.reads {W : World} {base g n cap : Nat} {rows : List (List Int)} {vs : List Value} (h : Grid W base g rows vs) (hn : n = rows.length) : Reads2 W (.slice (some ⟨g, 0, none⟩) n cap) rows :=
  ⟨g, cap, by rw [hn], h.lt, fun j r hj => by
    obtain ⟨v, _, h2, h3⟩ := h.at_ hj
    exact ⟨v, h2, sl_of_owns h3⟩⟩
end Go.Proofs.YtcoccaglbepbdaaGreat.Gr
