/-
  The document's place and met: where an Id stands in a list, and which facts are met from one on; old memory stays. Conditions: lists of no more than a hundred thousand.
-/
import Derived.Test.YtbjpogeemajhoaaRows
import Derived.Test.YtbjpogeemajhoaaOrMap
import Derived.Test.YtbjpogeemajhoaaOrMet
import Derived.Test.YtbjpogeemajhoaaOrBest
import Derived.Test.YtbjpogeemajhoaaOrLog
import Derived.Deep.Cut
import Derived.Deep.LoopGhost
import Derived.Deep.OwnRows
import Derived.Laws.OwnMore
namespace Go.Proofs.Ytbjpogeemajhoaa.Or
open Go Go.RowKit

/-- where an Id stands first -/
def IsPlace (L : List Fx) (s : ByteArray) (p : Int) : Prop := (p = -1 ∧ ∀ x ∈ L, x.f.id ≠ s) ∨ ∃ (k : Nat) (x : Fx), p = k ∧ L[k]? = some x ∧ x.f.id = s ∧ ∀ j y, j < k → L[j]? = some y → y.f.id ≠ s
set_option maxRecDepth 100000 in
set_option maxHeartbeats 1000000 in
theorem place_calls (w : World) (a : Option Addr) (cap b off : Nat) (L : List Fx) (s : ByteArray) (hL : FxsAt w a b off L) (hl : L.length ≤ 100000) :
    Calls Try.prog 35 #[.slice a L.length cap, .string s] w fun e w' => (∃ p, e = .returned (.int .i64 p) ∧ IsPlace L s p) ∧ w = w' := by
  replace hL := Lib.hid hL
  obtain ⟨n, hn⟩ : ∃ n, Hid (L.length = n) := ⟨_, Lib.hid rfl⟩
  rw [hn.out] at hl ⊢
  go_enter Try.func35, Try.ntmps35
  go_wp2
  go_loopw [5] (fun i wr => ∃ k : Nat, k ≤ n ∧ i = .int .i64 k ∧ Hid (∀ j y, j < k → L[j]? = some y → y.f.id ≠ s) ∧ w = wr) (fun i _ => n - (intOf i).toNat)
  case atStart => exact ⟨0, by omega, rfl, Lib.hid (fun j y hj => absurd hj (Nat.not_lt_zero _)), rfl⟩
  case round =>
    obtain ⟨k, hk, rfl, hI, rfl⟩ := hrel
    by_cases hlt : k < n
    · have i1 : (k : Int) < n := by omega
      have i0 : 0 ≤ (k : Int) := by omega
      have hkl : k < L.length := by rw [hn.out]; exact hlt
      have ha := hL.out.addr (by omega)
      subst ha
      obtain ⟨x, hx⟩ : ∃ x, Hid (L[k]? = some x) := ⟨_, Lib.hid (List.getElem?_eq_getElem hkl)⟩
      have c0 := hL.out.id k x hx.out
      by_cases hyx : x.f.id = s
      · have e1 := str_eq hyx
        have hp : Hid (IsPlace L s (k : Int)) := Lib.hid (Or.inr ⟨k, x, rfl, hx.out, hyx, hI.out⟩)
        clear hyx
        go_wp2
        go_ret
        exact ⟨⟨_, rfl, hp.out⟩, rfl⟩
      · have e1 := str_ne hyx
        have hI2 : Hid (∀ j y, j < k + 1 → L[j]? = some y → y.f.id ≠ s) := Lib.hid fun j y hj hy => by
          by_cases e : j = k
          · subst e; rw [hx.out] at hy; cases hy; exact hyx
          · exact hI.out j y (by omega) hy
        have hwk2 : IntKind.i64.wrap ((k : Int) + 1) = ((k + 1 : Nat) : Int) := by simp [IntKind.wrap, IntKind.bits, IntKind.signed]; omega
        clear hyx
        go_wp2
        exact ⟨⟨k + 1, by omega, by simp, hI2, by trivial⟩, by simp [intOf]; omega⟩
    · have d0 : decide ((k : Int) < n) = false := decide_eq_false (by omega)
      have d1 : (n : Int) ≤ k := by omega
      have hp : Hid (IsPlace L s (-1)) := Lib.hid (Or.inl ⟨rfl, fun x hx => by
        obtain ⟨j, hj, rfl⟩ := List.mem_iff_getElem.1 hx
        exact hI.out j _ (by rw [hn.out] at hj; omega) (List.getElem?_eq_getElem hj)⟩)
      go_wp2
      go_ret
      exact ⟨⟨_, rfl, hp.out⟩, rfl⟩
/-! ### which are met -/
/-- a row of flags in a block -/
def Flags (w : World) (g n : Nat) (B : Nat → Bool) : Prop := w.heap[g]? = some (.cells ((List.range n).map fun i => Value.bool (B i)).toArray 4 (0, 0))
def upd (B : Nat → Bool) (i : Nat) : Nat → Bool := fun j => decide (j = i) || B j
theorem Flags.lt {w : World} {g n : Nat} {B : Nat → Bool} (h : Flags w g n B) : g < w.heap.size := (Array.getElem?_eq_some_iff.1 h).1
theorem Flags.next {w w' : World} {g n : Nat} {B : Nat → Bool} (h : Flags w g n B) (b : Below w.heap.size w w') : Flags w' g n B := (b.block g h.lt).trans h
theorem Flags.cell {w : World} {g n : Nat} {B : Nat → Bool} (h : Flags w g n B) {i : Nat} (hi : i < n) : w.cell? ⟨g, i, none⟩ = some (.bool (B i)) := by
  simp [World.cell?, show w.heap[g]? = _ from h, List.getElem?_range hi]
theorem Flags.free {w : World} {g n : Nat} {B : Nat → Bool} (h : Flags w g n B) (i : Nat) : w.frozen? ⟨g, i, none⟩ = false := by
  simp [World.frozen?, show w.heap[g]? = _ from h]
theorem Flags.set {w : World} {g n : Nat} {B : Nat → Bool} (h : Flags w g n B) {i : Nat} (hi : i < n) : Flags (w.setCell ⟨g, i, none⟩ (.bool true)) g n (upd B i) := by
  have := set_at h (.bool true) (i := i) (by simpa using hi)
  refine this.trans ?_
  congr 2
  apply Array.ext'
  apply List.ext_getElem?
  intro j
  simp only [Array.toList_set, List.getElem?_set, List.length_map, List.length_range, List.getElem?_map]
  by_cases e : i = j
  · subst e
    rw [if_pos rfl, if_pos hi, List.getElem?_range hi]
    simp [upd]
  · rw [if_neg e]
    by_cases hj : j < n
    · have e' : ¬ j = i := fun q => e q.symm
      rw [List.getElem?_range hj]; simp [upd, e']
    · rw [List.getElem?_eq_none (by simpa using hj)]; rfl
theorem Flags.made (w : World) (n : Nat) : Flags (w.alloc (.cells (madeCells #[.bool false] n) 4)) w.heap.size n (fun _ => false) := by
  refine (heap_new w _).trans ?_
  congr 2
  apply Array.ext'
  rw [toList_madeCells_one]
  apply List.ext_getElem?
  intro j
  by_cases hj : j < n
  · simp [List.getElem?_replicate, hj, List.getElem?_range hj]
  · simp [List.getElem?_replicate, hj]
theorem makeB (n : Nat) (hn : n ≤ 1000000) (w : World) : (Instr.makeSlice 62 (.int .i64 (n : Int)) (.int .i64 (n : Int))).run Try.prog w = .ok (.slice (some ⟨w.heap.size, 0, none⟩) n n) (w.alloc (.cells (madeCells #[.bool false] n) 4)) :=
  run_make_row' 62 4 (.bool false) 1 Try.underlying62 (by kernel_rfl) rfl .i64 .i64 n (by omega) (by omega) w
/-- how many are still unseen -/
def left (B : Nat → Bool) : Nat → Nat
  | 0 => 0
  | n + 1 => left B n + (if B n = true then 0 else 1)
theorem left_upd (B : Nat → Bool) (i : Nat) : ∀ n, left (upd B i) n ≤ left B n ∧ (i < n → B i = false → left (upd B i) n + 1 ≤ left B n)
  | 0 => ⟨Nat.le_refl _, fun h => absurd h (Nat.not_lt_zero _)⟩
  | n + 1 => by
    obtain ⟨h1, h2⟩ := left_upd B i n
    have hn : upd B i n = (decide (n = i) || B n) := rfl
    refine ⟨?_, fun hi hB => ?_⟩
    · show left (upd B i) n + (if upd B i n = true then 0 else 1) ≤ left B n + (if B n = true then 0 else 1)
      rw [hn]
      by_cases e : n = i
      · subst e
        rw [if_pos (by simp)]; omega
      · simp only [e, decide_false, Bool.false_or]; omega
    · show left (upd B i) n + (if upd B i n = true then 0 else 1) + 1 ≤ left B n + (if B n = true then 0 else 1)
      rw [hn]
      by_cases e : n = i
      · subst e; rw [hB]; simp; exact h1
      · have := h2 (by omega) hB
        simp only [e, decide_false, Bool.false_or]; omega
/-- on the way -/
structure Seen (L : List Fx) (x : ByteArray) (B : Nat → Bool) (wh : Bool) : Prop where
  met : ∀ i y, L[i]? = some y → B i = true → Met (plain L) x y.f
  first : ∀ i y, L[i]? = some y → y.f.id = x → B i = true
  hole : wh = false → ¬ Whole (plain L) x
/-- of fact i the parents among P are seen -/
def Clos (L : List Fx) (B : Nat → Bool) (wh : Bool) (i : Nat) (P : Fx → List ByteArray) : Prop :=
  ∀ y, L[i]? = some y → B i = true → ∀ z ∈ P y, (∀ j g, L[j]? = some g → g.f.id = z → B j = true) ∧ ((∀ g ∈ L, g.f.id ≠ z) → wh = false)
theorem Clos.wh {L : List Fx} {B : Nat → Bool} {wh : Bool} {i : Nat} {P : Fx → List ByteArray} (h : Clos L B wh i P) : Clos L B false i P := fun y hy hB z hz => ⟨(h y hy hB z hz).1, fun _ => rfl⟩
theorem place_one {L : List Fx} (ho : (L.map fun y => y.f.id).Nodup) {i j : Nat} {y g : Fx} (hi : L[i]? = some y) (hj : L[j]? = some g) (e : y.f.id = g.f.id) : i = j ∧ y = g := by
  have := one_of ho (List.mem_of_getElem? hi) (List.mem_of_getElem? hj) e
  subst this
  refine ⟨?_, rfl⟩
  have hi' := List.getElem?_eq_some_iff.1 hi
  have hj' := List.getElem?_eq_some_iff.1 hj
  obtain ⟨hi1, hi2⟩ := hi'
  obtain ⟨hj1, hj2⟩ := hj'
  rcases Nat.lt_trichotomy i j with h | h | h
  · have := List.pairwise_iff_getElem.1 ho i j (by simpa using hi1) (by simpa using hj1) h
    simp only [List.getElem_map, hi2, hj2, ne_eq, not_true_eq_false] at this
  · exact h
  · have := List.pairwise_iff_getElem.1 ho j i (by simpa using hj1) (by simpa using hi1) h
    simp only [List.getElem_map, hi2, hj2, ne_eq, not_true_eq_false] at this
theorem Seen.start {L : List Fx} (ho : (L.map fun y => y.f.id).Nodup) {i : Nat} {y : Fx} (hi : L[i]? = some y) : Seen L y.f.id (upd (fun _ => false) i) true := by
  refine ⟨fun j g hj hB => ?_, fun j g hj e => ?_, fun h => by cases h⟩
  · have : j = i := by simpa [upd] using hB
    subst this
    rw [hi] at hj; cases hj
    exact .here (List.mem_map.2 ⟨_, List.mem_of_getElem? hi, rfl⟩) rfl
  · obtain ⟨rfl, _⟩ := place_one ho hj hi e
    simp [upd]
/-- a parent that is new -/
theorem Seen.new {L : List Fx} {x : ByteArray} {B : Nat → Bool} {wh : Bool} (h : Seen L x B wh) {i j : Nat} {y g : Fx} (hi : L[i]? = some y) (hB : B i = true) (hj : L[j]? = some g) (hp : g.f.id ∈ y.f.pars) : Seen L x (upd B j) wh := by
  refine ⟨fun k q hk hBk => ?_, fun k q hk e => ?_, h.hole⟩
  · have : k = j ∨ B k = true := by simpa [upd] using hBk
    rcases this with rfl | hBk
    · rw [hj] at hk; cases hk
      exact .next (h.met i y hi hB) (List.mem_map.2 ⟨_, List.mem_of_getElem? hj, rfl⟩) hp
    · exact h.met k q hk hBk
  · simp [upd, h.first k q hk e]
/-- a parent that is none's -/
theorem Seen.lack {L : List Fx} {x : ByteArray} {B : Nat → Bool} {wh : Bool} (h : Seen L x B wh) {i : Nat} {y : Fx} (hi : L[i]? = some y) (hB : B i = true) {z : ByteArray} (hz : z ∈ y.f.pars) (hno : ∀ g ∈ L, g.f.id ≠ z) : Seen L x B false := by
  refine ⟨h.met, h.first, fun _ hw => ?_⟩
  obtain ⟨g, hg, e⟩ := hw y.f (h.met i y hi hB) z hz
  obtain ⟨q, hq, rfl⟩ := List.mem_map.1 hg
  exact hno q hq e
/-- all are closed: just what is met -/
theorem Seen.done {L : List Fx} {x : ByteArray} {B : Nat → Bool} {wh : Bool} (h : Seen L x B wh) (hc : ∀ i, i < L.length → Clos L B wh i (fun y => y.f.pars)) : (∀ i y, L[i]? = some y → (B i = true ↔ Met (plain L) x y.f)) ∧ (wh = true ↔ Whole (plain L) x) := by
  have key : ∀ f, Met (plain L) x f → ∀ i y, L[i]? = some y → y.f = f → B i = true := fun f hf => by
    induction hf with
    | here h1 h2 => intro i y hi e; exact h.first i y hi (by rw [e, h2])
    | next h1 h2 h3 ih =>
      intro i y hi e
      obtain ⟨q, hq, e2⟩ := List.mem_map.1 h1.mem
      obtain ⟨j, hj, rfl⟩ := List.mem_iff_getElem.1 hq
      have hj' := List.getElem?_eq_getElem hj
      exact (hc j hj _ hj' (ih j _ hj' e2) y.f.id (by show y.f.id ∈ (L[j]).f.pars; rw [e2, e]; exact h3)).1 i y hi rfl
  refine ⟨fun i y hi => ⟨h.met i y hi, fun hm => key _ hm i y hi rfl⟩, ?_, fun hw => ?_⟩
  · intro ht f hf z hz
    obtain ⟨q, hq, e2⟩ := List.mem_map.1 hf.mem
    obtain ⟨j, hj, rfl⟩ := List.mem_iff_getElem.1 hq
    have hj' := List.getElem?_eq_getElem hj
    refine Classical.byContradiction fun hno => ?_
    have := (hc j hj _ hj' (key f hf j _ hj' e2) z (by show z ∈ (L[j]).f.pars; rw [e2]; exact hz)).2 fun g hg e => hno ⟨g.f, List.mem_map.2 ⟨g, hg, rfl⟩, e⟩
    rw [ht] at this; cases this
  · cases wh with
    | true => rfl
    | false => exact absurd hw (h.hole rfl)
theorem set_new (w : World) (cs : Array Value) (t : TypeId) (i : Nat) (v : Value) : (w.alloc (.cells cs t)).setCell ⟨w.heap.size, i, none⟩ v = w.alloc (.cells (cs.setIfInBounds i v) t) := by
  rw [World.setCell_alloc_new]
/-- in a pass: the facts up to i are closed, if nothing has been seen anew -/
structure Pass (L : List Fx) (x : ByteArray) (B : Nat → Bool) (wh gr : Bool) (c0 n : Nat) (i : Nat) : Prop where
  seen : Seen L x B wh
  clos : gr = false → ∀ j, j < i → Clos L B wh j (fun y => y.f.pars)
  cnt : left B n ≤ c0
  more : gr = true → left B n + 1 ≤ c0
theorem wrapN (k : Nat) (h : k < 1000000) : IntKind.i64.wrap ((k : Int) + 1) = ((k + 1 : Nat) : Int) := by simp [IntKind.wrap, IntKind.bits, IntKind.signed]; omega
set_option maxRecDepth 100000 in
set_option maxHeartbeats 4000000 in
theorem RMet_calls (w : World) (a : Option Addr) (cap b off : Nat) (L : List Fx) (fi : Nat) (y0 : Fx) (hy0 : L[fi]? = some y0) (hL : FxsAt w a b off L) (hF : Facts w L) (ho : (L.map fun y => y.f.id).Nodup) (hP : ∀ x ∈ L, x.f.pars.length ≤ 100000) (hl : L.length ≤ 100000) :
    Calls Try.prog 36 #[.slice a L.length cap, .int .i64 fi] w fun e w' => ∃ g B wh, e = .returned (.tuple #[.slice (some ⟨g, 0, none⟩) L.length L.length, .bool wh]) ∧ Flags w' g L.length B ∧ (∀ i y, L[i]? = some y → (B i = true ↔ Met (plain L) y0.f.id y.f)) ∧ (wh = true ↔ Whole (plain L) y0.f.id) ∧ Below w.heap.size w w' := by
  obtain ⟨n, hn⟩ : ∃ n, Hid (n = L.length) := ⟨_, Lib.hid rfl⟩
  have hfi : fi < L.length := (List.getElem?_eq_some_iff.1 hy0).1
  obtain rfl := hL.addr (by omega)
  have hS0 := Lib.hid (Seen.start ho hy0)
  have hdone := Lib.hid fun (B : Nat → Bool) (wh : Bool) (h : Seen L y0.f.id B wh) (hc : ∀ i, i < L.length → Clos L B wh i (fun y => y.f.pars)) => h.done hc
  rw [← hn.out] at hl hfi ⊢ hdone
  have hmk := makeB n (by omega) w
  have hA := b_alloc w (.cells (madeCells #[.bool false] n) 4)
  have hM := Flags.made w n
  have m0 := hM.cell hfi
  have m1 := hM.free fi
  have i1 : (fi : Int) < n := by omega
  have i0 : 0 ≤ (fi : Int) := by omega
  have hB1 := Lib.hid (hA.setCell (p := ⟨w.heap.size, fi, none⟩) (Nat.le_refl _) (.bool true))
  have hM1 := Lib.hid (hM.set hfi)
  have hle : Hid (left (upd (fun _ => false) fi) n + 1 ≤ n + 1) := Lib.hid (by
    have h1 := (left_upd (fun _ => false) fi n).1
    have h2 : ∀ n, left (fun _ => false) n = n := fun n => by
      induction n with
      | zero => rfl
      | succ n ih => show left (fun _ => false) n + 1 = n + 1; rw [ih]
    rw [h2] at h1; omega)
  replace hL := Lib.hid hL
  replace hF := Lib.hid hF
  replace ho := Lib.hid ho
  replace hP := Lib.hid hP
  have hPl := Lib.hid fun w' (bb : Below w.heap.size w w') (s : ByteArray) => place_calls w' (some ⟨b, off, none⟩) cap b off L s (hL.out.next bb) (by rw [← hn.out]; exact hl)
  rw [← hn.out] at hPl
  clear hM hA hy0
  go_enter Try.func36, Try.ntmps36
  go_upto_region 3 with (fail)
  rw [set_new] at hB1 hM1
  generalize w.alloc (.cells ((madeCells #[.bool false] n).setIfInBounds fi (.bool true)) 4) = w1 at *
  clear hmk m0 m1 i1 i0
  go_wp2_with fail
  go_loopg [7, 8] (n + 1) (fun gg s7 s8 wr => ∃ (wh gr : Bool) (B : Nat → Bool), s7 = .bool wh ∧ s8 = .bool gr ∧ Hid (Seen L y0.f.id B wh) ∧ Hid (gr = false → ∀ j, j < n → Clos L B wh j (fun y => y.f.pars)) ∧ left B n + (if gr = true then 1 else 0) ≤ gg ∧ Hid (Flags wr w.heap.size n B) ∧ Hid (Below w.heap.size w wr))
  case atStart => exact ⟨true, true, _, rfl, rfl, hS0, Lib.hid (fun h => by cases h), hle.out, hM1, hB1⟩
  case round =>
    rename Nat => gk0
    obtain ⟨wh, gr, B, rfl, rfl, hS, hC, hgg, hFl, hb⟩ := hrel
    clear hM1 hB1 hS0 hle
    cases gr with
    | false =>
      have hd := Lib.hid (hdone.out B wh hS.out (hC.out rfl))
      clear hS hC hgg
      go_wp2
      go_ret2
      exact ⟨w.heap.size, B, wh, rfl, hFl.out, hd.out.1, hd.out.2, hb.out⟩
    | true =>
      simp only [if_true] at hgg
      have hP0 := Lib.hid (Pass.mk (n := n) (c0 := left B n) (i := 0) (gr := false) hS.out (fun _ j hj => absurd hj (Nat.not_lt_zero _)) (Nat.le_refl _) (fun h => by cases h))
      replace hgg := Lib.hid hgg
      clear hS hC
      generalize left B n = c0 at *
      go_wp2_with fail
      go_loopg [7, 8, 9] n (fun gg s7 s8 s9 wq => ∃ (wh gr : Bool) (B : Nat → Bool) (i : Nat), s7 = .bool wh ∧ s8 = .bool gr ∧ s9 = .int .i64 (i : Int) ∧ i ≤ n ∧ n - i ≤ gg ∧ Hid (Pass L y0.f.id B wh gr c0 n i) ∧ Hid (Flags wq w.heap.size n B) ∧ Hid (Below w.heap.size w wq))
      case atStart => exact ⟨wh, false, B, 0, rfl, rfl, rfl, Nat.zero_le _, Nat.le_refl _, hP0, hFl, hb⟩
      case round =>
        rename Nat => gk1
        clear hP0 hFl hb
        obtain ⟨wh, gr, B, i, rfl, rfl, rfl, hi, hig, hPa, hFl, hb⟩ := hrel
        by_cases hlt : i < n
        · obtain ⟨x, hx⟩ : ∃ x, Hid (L[i]? = some x) := ⟨_, Lib.hid (List.getElem?_eq_getElem (by rw [← hn.out]; exact hlt))⟩
          have hxL : Hid (x ∈ L) := Lib.hid (List.mem_of_getElem? hx.out)
          obtain ⟨hpc, pb, po, hT⟩ := hF.out.pars x hxL.out
          replace hT := Lib.hid hT
          have hPx := hP.out x hxL.out
          have hPs := Lib.hid (hF.out.par x hxL.out)
          obtain ⟨np, hnp⟩ : ∃ np, np = x.f.pars.length := ⟨_, rfl⟩
          rw [← hnp] at hPx
          have hI0 : Hid (Clos L B wh i (fun y => y.f.pars.take 0)) := Lib.hid fun y hy hB z hz => by simp at hz
          have i1 : (i : Int) < n := by omega
          have i0 : 0 ≤ (i : Int) := by omega
          have hms : Hid (n - (i + 1) < gk1) := Lib.hid (by omega)
          clear hpc hi hig
          go_wp2_with fail
          go_loopg [7, 8, 10] (np + 1) (fun gg s7 s8 s10 wq => ∃ (wh gr : Bool) (B : Nat → Bool) (k : Nat), s7 = .bool wh ∧ s8 = .bool gr ∧ s10 = .int .i64 (k : Int) ∧ k ≤ np ∧ np + 1 - k ≤ gg ∧ Hid (Pass L y0.f.id B wh gr c0 n i) ∧ Hid (gr = false → Clos L B wh i (fun y => y.f.pars.take k)) ∧ Hid (Flags wq w.heap.size n B) ∧ Hid (Below w.heap.size w wq))
          case atStart => exact ⟨wh, gr, B, 0, rfl, rfl, rfl, Nat.zero_le _, Nat.le_refl _, hPa, Lib.hid (fun _ => hI0.out), hFl, hb⟩
          case round =>
            clear hI0 hPa hFl hb i1
            obtain ⟨wh, gr, B, k, rfl, rfl, rfl, hk, hkg, hPa, hCk, hFl, hb⟩ := hrel
            have i1 : (i : Int) < n := by omega
            have m0 := hFl.out.cell hlt
            have hL2 := hL.out.next hb.out
            have c2 := hL2.pars i x hx.out
            rw [← hnp] at c2
            cases hBi : B i with
            | false =>
              have hP2 : Hid (Pass L y0.f.id B wh gr c0 n (i + 1)) := Lib.hid ⟨hPa.out.seen, fun hg j hj => by
                by_cases e : j = i
                · subst e; exact fun y hy hB => by rw [hBi] at hB; cases hB
                · exact hPa.out.clos hg j (by omega), hPa.out.cnt, hPa.out.more⟩
              rw [hBi] at m0
              have hwk := wrapN i (by omega)
              clear hL2 hCk hBi
              go_wp2
              go_roundg (n - (i + 1))
              case measure => exact hms.out
              case rel => exact ⟨wh, gr, B, i + 1, rfl, rfl, by simp, by omega, Nat.le_refl _, hP2, hFl, hb⟩
            | true =>
              rw [hBi] at m0
              by_cases hkn : k < np
              · have hyx : ∃ z, x.f.pars[k]? = some z ∧ z ∈ x.f.pars := ⟨x.f.pars[k]'(by omega), List.getElem?_eq_getElem (by omega), List.getElem_mem (by omega)⟩
                obtain ⟨z, hz, hzP⟩ := hyx
                have hT2 := hT.out.below hb.out (fun h0 => hT.out.where_ h0)
                have ct := hT2.cell k z hz
                have hpa := hT.out.addr (by omega)
                rw [hpa] at c2
                have k1 : (k : Int) < np := by omega
                have k0 : 0 ≤ (k : Int) := by omega
                have hwk := wrapN k (by omega)
                have hms2 : Hid (np + 1 - (k + 1) < gk) := Lib.hid (by omega)
                have hkl : Hid (k + 1 ≤ np) := Lib.hid hkn
                have htk : Hid (∀ y, L[i]? = some y → y.f.pars.take (k + 1) = y.f.pars.take k ++ [z]) := Lib.hid fun y hy => by rw [hx.out] at hy; cases hy; exact take_snoc hz
                have hBt := Lib.hid hBi
                have hPlc := Lib.hid (hPl.out wr hb.out z)
                replace hzP := Lib.hid hzP
                clear hL2 hT2 hpa hk hkg hkn hz hBi
                go_wp2_with fail
                refine hPlc.out.mono ?_
                rintro e w' ⟨⟨p, rfl, hp⟩, rfl⟩
                clear hPlc ct
                rcases hp with ⟨rfl, hno⟩ | ⟨j, q, rfl, hj, hqz, -⟩
                · have hP2 : Hid (Pass L y0.f.id B false gr c0 n i) := Lib.hid ⟨hPa.out.seen.lack hx.out hBt.out hzP.out hno, fun hg t ht => (hPa.out.clos hg t ht).wh, hPa.out.cnt, hPa.out.more⟩
                  have hC2 : Hid (gr = false → Clos L B false i (fun y => y.f.pars.take (k + 1))) := Lib.hid fun hg y hy hB u hu => by
                    have hu' : u ∈ y.f.pars.take (k + 1) := hu
                    rw [htk.out y hy] at hu'
                    rcases List.mem_append.1 hu' with hu | hu
                    · exact ⟨((hCk.out hg) y hy hB u hu).1, fun _ => rfl⟩
                    · rw [List.mem_singleton] at hu; subst hu
                      exact ⟨fun t g ht e => absurd e (hno g (List.mem_of_getElem? ht)), fun _ => rfl⟩
                  clear hno
                  go_wp2
                  go_roundg (np + 1 - (k + 1))
                  case measure => exact hms2.out
                  case rel => exact ⟨false, gr, B, k + 1, rfl, rfl, by simp, hkl.out, Nat.le_refl _, hP2, hC2, hFl, hb⟩
                · have hjn : j < n := by rw [hn.out]; exact (List.getElem?_eq_some_iff.1 hj).1
                  have j1 : (j : Int) < n := by omega
                  have j0 : 0 ≤ (j : Int) := by omega
                  have j2 : ¬ (j : Int) < 0 := by omega
                  have mj := hFl.out.cell hjn
                  have fj := hFl.out.free j
                  have hyq := Lib.hid (And.intro hj hqz)
                  cases hBj : B j with
                  | true =>
                    rw [hBj] at mj
                    have hC2 : Hid (gr = false → Clos L B wh i (fun y => y.f.pars.take (k + 1))) := Lib.hid fun hg y hy hB u hu => by
                      have hu' : u ∈ y.f.pars.take (k + 1) := hu
                      rw [htk.out y hy] at hu'
                      rcases List.mem_append.1 hu' with hu | hu
                      · exact (hCk.out hg) y hy hB u hu
                      · rw [List.mem_singleton] at hu; subst hu
                        refine ⟨fun t g ht e => ?_, fun hno => absurd hqz (hno q (List.mem_of_getElem? hj))⟩
                        obtain ⟨rfl, _⟩ := place_one ho.out ht hj (e.trans hqz.symm)
                        exact hBj
                    clear hBj hj hqz
                    go_wp2
                    go_roundg (np + 1 - (k + 1))
                    case measure => exact hms2.out
                    case rel => exact ⟨wh, gr, B, k + 1, rfl, rfl, by simp, hkl.out, Nat.le_refl _, hPa, hC2, hFl, hb⟩
                  | false =>
                    rw [hBj] at mj
                    have hlf := left_upd B j n
                    have hP2 : Hid (Pass L y0.f.id (upd B j) wh true c0 n i) := Lib.hid ⟨hPa.out.seen.new hx.out hBt.out hj (by rw [hqz]; exact hzP.out), fun h => (by cases h), Nat.le_trans hlf.1 hPa.out.cnt, fun _ => Nat.le_trans (hlf.2 hjn hBj) hPa.out.cnt⟩
                    have hC2 : Hid (true = false → Clos L (upd B j) wh i (fun y => y.f.pars.take (k + 1))) := Lib.hid fun h => by cases h
                    have hF2 := Lib.hid (hFl.out.set hjn)
                    have hb2 := Lib.hid (hb.out.setCell (p := ⟨w.heap.size, j, none⟩) (Nat.le_refl _) (.bool true))
                    clear hBj hj hqz hlf hFl hb hPa
                    go_wp2
                    go_roundg (np + 1 - (k + 1))
                    case measure => exact hms2.out
                    case rel => exact ⟨wh, true, upd B j, k + 1, rfl, rfl, by simp, hkl.out, Nat.le_refl _, hP2, hC2, hF2, hb2⟩
              · obtain rfl : k = np := by omega
                have hP2 : Hid (Pass L y0.f.id B wh gr c0 n (i + 1)) := Lib.hid ⟨hPa.out.seen, fun hg j hj => by
                  by_cases e : j = i
                  · subst e
                    intro y hy hB z hz
                    rw [hx.out] at hy; cases hy
                    have := hCk.out hg x hx.out hB z (by show z ∈ x.f.pars.take k; rw [hnp, List.take_length]; exact hz)
                    exact this
                  · exact hPa.out.clos hg j (by omega), hPa.out.cnt, hPa.out.more⟩
                have d0 : ¬ (k : Int) < k := by omega
                have hwk := wrapN i (by omega)
                clear hL2 hCk hBi
                go_wp2
                go_roundg (n - (i + 1))
                case measure => exact hms.out
                case rel => exact ⟨wh, gr, B, i + 1, rfl, rfl, by simp, by omega, Nat.le_refl _, hP2, hFl, hb⟩
        · obtain rfl : i = n := by omega
          have d0 : ¬ (i : Int) < i := by omega
          have hS2 := Lib.hid hPa.out.seen
          have hC2 := Lib.hid hPa.out.clos
          have hms : Hid (left B i + (if gr = true then 1 else 0) < gk0) := Lib.hid (by
            have h1 := hgg.out
            cases gr with
            | false => have := hPa.out.cnt; simp; omega
            | true => have := hPa.out.more rfl; simp; omega)
          clear hPa hig
          go_wp2
          go_roundg (left B i + (if gr = true then 1 else 0))
          case measure => exact hms.out
          case rel => exact ⟨wh, gr, B, rfl, rfl, hS2, hC2, Nat.le_refl _, hFl, hb⟩
end Go.Proofs.Ytbjpogeemajhoaa.Or
