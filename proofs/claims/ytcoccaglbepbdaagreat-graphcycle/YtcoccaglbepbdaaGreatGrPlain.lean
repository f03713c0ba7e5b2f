/-
  Graphs in plain words: what is met, the order, heights, and what they have to do with one another. Conditions: none.
-/
import Derived.Test.YtcoccaglbepbdaaGreatRows
import Derived.Test.YtcoccaglbepbdaaGreatShPlain
namespace Go.Proofs.YtcoccaglbepbdaaGreat.Gr
open Sh
open Key (lt)
open Ent (key)

theorem key_int (x : Int) : key x = x := rfl
theorem lt_int (x y : Int) : lt x y = decide (x < y) := rfl
theorem mem_del {x y : Int} {l : List Int} : y ∈ del x l ↔ y ∈ l ∧ y ≠ x := by simp [del, key_int]
theorem del_len {x : Int} {l : List Int} (hR : Rises l) (hx : x ∈ l) : (del x l).length + 1 = l.length := by
  have h := List.length_pos_of_mem hx
  rw [length_del x hR, show has x l = true from has_iff.2 ⟨x, hx, rfl⟩, if_pos rfl]
  omega

/-- a graph: its nodes, and what each points to -/
structure Gph where
  D : List Int
  T : Int → List Int
structure Gph.Ok (G : Gph) : Prop where
  rises : Rises G.D
  to : ∀ k, Rises (G.T k)
  none : ∀ k, k ∉ G.D → G.T k = []
def Gph.empty : Gph := ⟨[], fun _ => []⟩
def Gph.put (G : Gph) (k : Int) (L : List Int) : Gph := ⟨ins k G.D, fun x => if x = k then L else G.T x⟩
theorem Gph.empty_ok : Gph.empty.Ok := ⟨List.Pairwise.nil, fun _ => List.Pairwise.nil, fun _ _ => rfl⟩
theorem mem_ins_int {x y : Int} : ∀ {l : List Int}, Rises l → (y ∈ ins x l ↔ y = x ∨ y ∈ l)
  | [], _ => by simp [ins]
  | a :: r, h => by
    refine ⟨mem_ins, fun hy => ?_⟩
    unfold ins
    split
    · simpa using hy
    · split
      · rcases hy with hy | hy
        · exact List.mem_cons.2 (Or.inr ((mem_ins_int (rises_tail h)).2 (Or.inl hy)))
        · rcases List.mem_cons.1 hy with hy | hy
          · simp [hy]
          · exact List.mem_cons.2 (Or.inr ((mem_ins_int (rises_tail h)).2 (Or.inr hy)))
      · next h1 h2 =>
        have he : x = a := by
          rcases Key.tri x a with g | g | g
          · exact absurd g h1
          · exact g
          · exact absurd g h2
        rcases hy with hy | hy
        · simp [hy]
        · rcases List.mem_cons.1 hy with hy | hy
          · simp [hy, he]
          · simp [hy]
theorem Gph.put_ok {G : Gph} (h : G.Ok) {k : Int} {L : List Int} (hL : Rises L) : (G.put k L).Ok := by
  refine ⟨rises_ins k h.rises, fun x => ?_, fun x hx => ?_⟩
  · unfold Gph.put; dsimp only
    split
    · exact hL
    · exact h.to x
  · unfold Gph.put at hx ⊢; dsimp only at hx ⊢
    rw [mem_ins_int h.rises] at hx
    rw [if_neg (fun e => hx (Or.inl e))]
    exact h.none x fun e => hx (Or.inr e)
theorem Gph.put_len (G : Gph) (k : Int) (L : List Int) : (G.put k L).D.length ≤ G.D.length + 1 := ins_len_le k G.D

/-- what is met from some keys on -/
inductive Met (T : Int → List Int) (F : List Int) : Int → Prop
  | here {x : Int} : x ∈ F → Met T F x
  | on {x y : Int} : Met T F y → x ∈ T y → Met T F x
/-- the rising list of all that is met -/
def IsMet (T : Int → List Int) (F M : List Int) : Prop := Rises M ∧ ∀ x, x ∈ M ↔ Met T F x
theorem IsMet.unique {T : Int → List Int} {F M N : List Int} (h : IsMet T F M) (g : IsMet T F N) : M = N :=
  rises_one h.1 g.1 fun x => (h.2 x).trans (g.2 x).symm
theorem Met.mono {T : Int → List Int} {F F' : List Int} (h : ∀ x, x ∈ F → x ∈ F') {x : Int} (g : Met T F x) : Met T F' x := by
  induction g with
  | here a => exact .here (h _ a)
  | on _ b ih => exact .on ih b
theorem Met.again {T : Int → List Int} {F F' : List Int} (h : ∀ x, x ∈ F' → Met T F x) {x : Int} (g : Met T F' x) : Met T F x := by
  induction g with
  | here a => exact h _ a
  | on _ b ih => exact .on ih b
/-- what is closed and has the first keys has all that is met -/
theorem Met.in_ {T : Int → List Int} {F S : List Int} (h0 : ∀ x ∈ F, x ∈ S) (h1 : ∀ y ∈ S, ∀ x ∈ T y, x ∈ S) {x : Int} (g : Met T F x) : x ∈ S := by
  induction g with
  | here a => exact h0 _ a
  | on _ b ih => exact h1 _ ih _ b
theorem isMet_of {T : Int → List Int} {F S : List Int} (hR : Rises S) (hm : ∀ x ∈ S, Met T F x) (h0 : ∀ x ∈ F, x ∈ S) (h1 : ∀ y ∈ S, ∀ x ∈ T y, x ∈ S) : IsMet T F S :=
  ⟨hR, fun x => ⟨hm x, fun g => g.in_ h0 h1⟩⟩
/-- nodes that are met -/
def reach (D M : List Int) : List Int := M.filter fun x => decide (x ∈ D)
def opened (D M : List Int) : List Int := M.filter fun x => !decide (x ∈ D)
theorem mem_reach {D M : List Int} {x : Int} : x ∈ reach D M ↔ x ∈ M ∧ x ∈ D := by simp [reach]
theorem mem_opened {D M : List Int} {x : Int} : x ∈ opened D M ↔ x ∈ M ∧ x ∉ D := by simp [opened]
theorem reach_rises {D M : List Int} (h : Rises M) : Rises (reach D M) := rises_filter _ h
theorem opened_rises {D M : List Int} (h : Rises M) : Rises (opened D M) := rises_filter _ h

/-- whether a key points to none that is left -/
def ready (T : Int → List Int) (left : List Int) (x : Int) : Bool := (T x).all fun y => !decide (y ∈ left)
theorem ready_iff {T : Int → List Int} {left : List Int} {x : Int} : ready T left x = true ↔ ∀ y ∈ T x, y ∉ left := by simp [ready]
/-- the least that can be next -/
def pick (T : Int → List Int) (left : List Int) : Option Int := left.find? (ready T left)
/-- each behind all that it points to, always the least that can be next; none, if there is none that can be -/
def order (T : Int → List Int) : Nat → List Int → Option (List Int)
  | 0, _ => some []
  | n + 1, left => match pick T left with
    | none => none
    | some x => (order T n (del x left)).map (x :: ·)
theorem order_pick {T : Int → List Int} {n : Nat} {left : List Int} {x : Int} (h : pick T left = some x) : order T (n + 1) left = (order T n (del x left)).map (x :: ·) := by simp [order, h]
theorem order_stuck {T : Int → List Int} {n : Nat} {left : List Int} (h : pick T left = none) : order T (n + 1) left = none := by simp [order, h]
theorem pick_some {T : Int → List Int} {left : List Int} {x : Int} (h : pick T left = some x) : x ∈ left ∧ ∀ y ∈ T x, y ∉ left :=
  ⟨List.mem_of_find?_eq_some h, ready_iff.1 (List.find?_some h)⟩
theorem pick_none {T : Int → List Int} {left : List Int} : pick T left = none ↔ ∀ x ∈ left, ∃ y ∈ T x, y ∈ left := by
  unfold pick
  rw [List.find?_eq_none]
  refine ⟨fun h x hx => ?_, fun h x hx g => ?_⟩
  · have := h x hx
    rw [ready_iff] at this
    exact Classical.byContradiction fun e => this fun y hy hl => e ⟨y, hy, hl⟩
  · obtain ⟨y, hy, hl⟩ := h x hx
    exact ready_iff.1 g y hy hl
/-- an order of all that is left -/
structure Stand (T : Int → List Int) (left o : List Int) : Prop where
  mem : ∀ x, x ∈ o ↔ x ∈ left
  nodup : o.Nodup
  len : o.length = left.length
  behind : ∀ i x, o[i]? = some x → ∀ y ∈ T x, y ∈ left → y ∈ o.take i
theorem order_stand {T : Int → List Int} : ∀ (n : Nat) {left o : List Int}, left.length = n → Rises left → order T n left = some o → Stand T left o
  | 0, left, o, hn, _, h => by
    obtain rfl := List.length_eq_zero_iff.1 hn
    have : o = [] := by simpa [order] using h.symm
    subst this
    exact ⟨fun _ => Iff.rfl, List.nodup_nil, rfl, fun i x hx => by simp at hx⟩
  | n + 1, left, o, hn, hR, h => by
    cases hp : pick T left with
    | none => rw [order_stuck hp] at h; cases h
    | some x =>
      rw [order_pick hp] at h
      obtain ⟨hx, hr⟩ := pick_some hp
      have hl := del_len hR hx
      cases ho : order T n (del x left) with
      | none => rw [ho] at h; cases h
      | some o2 =>
        rw [ho] at h
        have : o = x :: o2 := by simpa using h.symm
        subst this
        obtain ⟨m, nd, ln, bh⟩ := order_stand n (by omega) (rises_del x hR) ho
        refine ⟨fun y => ?_, List.nodup_cons.2 ⟨fun e => ?_, nd⟩, by simp; omega, fun i y hy z hz hzl => ?_⟩
        · rw [List.mem_cons, m, mem_del]
          refine ⟨fun e => e.elim (fun e => e ▸ hx) (fun e => e.1), fun e => ?_⟩
          by_cases hyx : y = x
          · exact Or.inl hyx
          · exact Or.inr ⟨e, hyx⟩
        · rw [m, mem_del] at e; exact e.2 rfl
        · cases i with
          | zero =>
            obtain rfl : x = y := by simpa using hy
            exact absurd hzl (hr z hz)
          | succ i =>
            rw [List.take_succ_cons, List.mem_cons]
            by_cases hzx : z = x
            · exact Or.inl hzx
            · exact Or.inr (bh i y (by simpa using hy) z hz (mem_del.2 ⟨hzl, hzx⟩))
/-- where each that is left points to another one that is left there is no order -/
theorem order_ring {T : Int → List Int} {n : Nat} {left : List Int} (hn : n ≠ 0) (h : ∀ x ∈ left, ∃ y ∈ T x, y ∈ left) : order T n left = none := by
  obtain ⟨m, rfl⟩ := Nat.exists_eq_succ_of_ne_zero hn
  exact order_stuck (pick_none.2 h)
theorem least_of (r : Int → Nat) : ∀ (l : List Int), l ≠ [] → ∃ x ∈ l, ∀ y ∈ l, r x ≤ r y
  | [], h => absurd rfl h
  | [a], _ => ⟨a, by simp, fun y hy => by simp at hy; rw [hy]; exact Nat.le_refl _⟩
  | a :: b :: l, _ => by
    obtain ⟨x, hx, h⟩ := least_of r (b :: l) (by simp)
    by_cases e : r a ≤ r x
    · exact ⟨a, by simp, fun y hy => (List.mem_cons.1 hy).elim (fun q => q ▸ Nat.le_refl _) fun q => Nat.le_trans e (h y q)⟩
    · exact ⟨x, List.mem_cons.2 (Or.inr hx), fun y hy => (List.mem_cons.1 hy).elim (fun q => by rw [q]; omega) fun q => h y q⟩
/-- where pointing goes down there is an order -/
theorem order_down {T : Int → List Int} (r : Int → Nat) : ∀ (n : Nat) {left : List Int}, left.length = n → Rises left → (∀ x ∈ left, ∀ y ∈ T x, y ∈ left → r y < r x) → ∃ o, order T n left = some o
  | 0, _, _, _, _ => ⟨[], rfl⟩
  | n + 1, left, hn, hR, h => by
    cases hp : pick T left with
    | none =>
      obtain ⟨x, hx, hl⟩ := least_of r left (fun e => by rw [e] at hn; simp at hn)
      obtain ⟨y, hy, hyl⟩ := pick_none.1 hp x hx
      have := h x hx y hy hyl
      have := hl y hyl
      omega
    | some x =>
      obtain ⟨hx, _⟩ := pick_some hp
      have hl := del_len hR hx
      obtain ⟨o, ho⟩ := order_down r n (left := del x left) (by omega) (rises_del x hR) fun a ha b hb hbl => h a (mem_del.1 ha).1 b hb (mem_del.1 hbl).1
      exact ⟨x :: o, by rw [order_pick hp, ho]; rfl⟩
theorem find_map {f : Int → Int} {p : Int → Bool} {q : Int → Bool} : ∀ (l : List Int), (∀ x ∈ l, q (f x) = p x) → (l.map f).find? q = (l.find? p).map f
  | [], _ => rfl
  | a :: l, h => by
    rw [List.map_cons, List.find?_cons, List.find?_cons, h a (by simp), find_map l fun x hx => h x (by simp [hx])]
    cases p a <;> rfl
/-- the order of names is that of what they name -/
theorem order_map {P T : Int → List Int} {f : Int → Int} : ∀ (n : Nat) (left : List Int), (∀ x ∈ left, ∀ y ∈ left, f x = f y → x = y) →
    (∀ x ∈ left, ∀ z ∈ P x, z ∈ left → f z ∈ T (f x)) → (∀ x ∈ left, ∀ y ∈ left, f y ∈ T (f x) → y ∈ P x) → order T n (left.map f) = (order P n left).map (List.map f)
  | 0, _, _, _, _ => rfl
  | n + 1, left, hi, h1, h2 => by
    have hp : pick T (left.map f) = (pick P left).map f := by
      unfold pick
      refine find_map left fun x hx => ?_
      rw [Bool.eq_iff_iff, ready_iff, ready_iff]
      refine ⟨fun g z hz hzl => g (f z) (h1 x hx z hz hzl) (List.mem_map.2 ⟨z, hzl, rfl⟩), fun g y hy hyl => ?_⟩
      obtain ⟨z, hz, rfl⟩ := List.mem_map.1 hyl
      exact g z (h2 x hx z hz hy) hz
    cases hq : pick P left with
    | none => rw [order_stuck hq, order_stuck (by rw [hp, hq]; rfl)]; rfl
    | some x =>
      obtain ⟨hx, _⟩ := pick_some hq
      rw [order_pick hq, order_pick (x := f x) (by rw [hp, hq]; rfl)]
      have hd : del (f x) (left.map f) = (del x left).map f := by
        unfold del
        rw [List.filter_map]
        congr 1
        refine List.filter_congr fun y hy => ?_
        simp only [Function.comp, key_int]
        congr 1
        exact decide_eq_decide.2 ⟨fun e => hi _ hy _ hx e, fun e => by rw [e]⟩
      rw [hd, order_map n (del x left) (fun a ha b hb => hi a (mem_del.1 ha).1 b (mem_del.1 hb).1) (fun a ha z hz hzl => h1 a (mem_del.1 ha).1 z hz (mem_del.1 hzl).1) (fun a ha b hb => h2 a (mem_del.1 ha).1 b (mem_del.1 hb).1)]
      cases order P n (del x left) <;> rfl

/-- the greatest of numbers, 0 of none -/
def sup (l : List Nat) : Nat := l.foldr max 0
theorem sup_nil : sup [] = 0 := rfl
theorem sup_cons (a : Nat) (l : List Nat) : sup (a :: l) = max a (sup l) := rfl
theorem sup_ge {l : List Nat} {a : Nat} (h : a ∈ l) : a ≤ sup l := by
  induction l with
  | nil => cases h
  | cons b l ih =>
    rw [sup_cons]
    rcases List.mem_cons.1 h with rfl | h
    · exact Nat.le_max_left _ _
    · exact Nat.le_trans (ih h) (Nat.le_max_right _ _)
theorem sup_le {l : List Nat} {m : Nat} (h : ∀ a ∈ l, a ≤ m) : sup l ≤ m := by
  induction l with
  | nil => exact Nat.zero_le _
  | cons b l ih => rw [sup_cons]; exact Nat.max_le.2 ⟨h b (by simp), ih fun a ha => h a (by simp [ha])⟩
theorem sup_snoc (l : List Nat) (a : Nat) : sup (l ++ [a]) = max (sup l) a := by
  induction l with
  | nil => show max a 0 = max 0 a; omega
  | cons b l ih => rw [List.cons_append, sup_cons, sup_cons, ih]; omega
theorem sup_in {l : List Nat} (h : sup l ≠ 0) : sup l ∈ l := by
  induction l with
  | nil => exact absurd rfl h
  | cons b l ih =>
    rw [sup_cons] at h ⊢
    by_cases hb : sup l ≤ b
    · rw [Nat.max_eq_left hb]; simp
    · rw [Nat.max_eq_right (by omega)]; exact List.mem_cons.2 (Or.inr (ih (by omega)))
theorem sup_same {l m : List Nat} (h : ∀ a, a ∈ l ↔ a ∈ m) : sup l = sup m :=
  Nat.le_antisymm (sup_le fun a ha => sup_ge ((h a).1 ha)) (sup_le fun a ha => sup_ge ((h a).2 ha))

/-- heights of all nodes that are met from one on -/
def Hts (G : Gph) (k : Int) (h : Int → Nat) : Prop := ∀ x, Met G.T [k] x → x ∈ G.D → h x = sup (((G.T x).filter fun y => decide (y ∈ G.D)).map fun y => h y + 1)
theorem Hts.down {G : Gph} {k : Int} {h : Int → Nat} (H : Hts G k h) {x y : Int} (hx : Met G.T [k] x) (hd : x ∈ G.D) (hy : y ∈ G.T x) (hyd : y ∈ G.D) : h y < h x := by
  rw [H x hx hd]
  exact sup_ge (List.mem_map.2 ⟨y, List.mem_filter.2 ⟨hy, by simpa using hyd⟩, rfl⟩)
theorem Hts.by_one {G : Gph} {k : Int} {h : Int → Nat} (H : Hts G k h) {x : Int} (hx : Met G.T [k] x) (hd : x ∈ G.D) (h0 : h x ≠ 0) : ∃ y ∈ G.T x, y ∈ G.D ∧ h y + 1 = h x := by
  have e := H x hx hd
  rw [e] at h0
  have := sup_in h0
  rw [← e] at this
  obtain ⟨y, hy, he⟩ := List.mem_map.1 this
  obtain ⟨h1, h2⟩ := List.mem_filter.1 hy
  exact ⟨y, h1, by simpa using h2, he⟩
theorem Hts.unique {G : Gph} {k : Int} {h g : Int → Nat} (H : Hts G k h) (I : Hts G k g) : ∀ (m : Nat) (x : Int), h x < m → Met G.T [k] x → x ∈ G.D → h x = g x
  | 0, x, hm, _, _ => absurd hm (Nat.not_lt_zero _)
  | m + 1, x, hm, hx, hd => by
    rw [H x hx hd, I x hx hd]
    congr 1
    refine List.map_congr_left fun y hy => ?_
    obtain ⟨h1, h2⟩ := List.mem_filter.1 hy
    have h2 : y ∈ G.D := by simpa using h2
    have := H.down hx hd h1 h2
    rw [Hts.unique H I m y (by omega) (.on hx h1) h2]
theorem Hts.one {G : Gph} {k : Int} {h g : Int → Nat} (H : Hts G k h) (I : Hts G k g) (hd : k ∈ G.D) : h k = g k := H.unique I (h k + 1) k (by omega) (.here (by simp)) hd
theorem Hts.on {G : Gph} {k : Int} {h : Int → Nat} (H : Hts G k h) {x : Int} (hx : x ∈ G.T k) : Hts G x h := fun y hy hd =>
  H y (hy.again fun z hz => by rw [List.mem_singleton.1 hz]; exact .on (.here (by simp)) hx) hd
theorem met_node {G : Gph} (hG : G.Ok) {k x : Int} (hx : Met G.T [k] x) : x = k ∨ ∃ y, Met G.T [k] y ∧ y ∈ G.D ∧ x ∈ G.T y := by
  cases hx with
  | here a => exact Or.inl (List.mem_singleton.1 a)
  | @on _ y a b =>
    refine Or.inr ⟨y, a, ?_, b⟩
    by_cases hd : y ∈ G.D
    · exact hd
    · rw [hG.none y hd] at b; cases b
theorem Hts.top {G : Gph} (hG : G.Ok) {k : Int} {h : Int → Nat} (H : Hts G k h) {x : Int} (hx : Met G.T [k] x) (hd : x ∈ G.D) : h x ≤ h k := by
  induction hx with
  | here a => rw [List.mem_singleton.1 a]; exact Nat.le_refl _
  | @on z y a b ih =>
    have hyd : y ∈ G.D := Classical.byContradiction fun e => by rw [hG.none y e] at b; cases b
    have := H.down a hyd b hd
    have := ih hyd
    omega
/-- nodes that are met, in an order: there are heights -/
theorem hts_order {G : Gph} {k : Int} {M o : List Int} (hM : IsMet G.T [k] M) (ho : order G.T (reach G.D M).length (reach G.D M) = some o) {h : Int → Nat} (H : ∀ x ∈ o, h x = sup (((G.T x).filter fun y => decide (y ∈ G.D)).map fun y => h y + 1)) : Hts G k h := fun x hx hd =>
  H x (((order_stand _ rfl (reach_rises hM.1) ho).mem x).2 (mem_reach.2 ⟨(hM.2 x).2 hx, hd⟩))
/-- with heights there is an order -/
theorem order_hts {G : Gph} {k : Int} {M : List Int} (hM : IsMet G.T [k] M) {h : Int → Nat} (H : Hts G k h) : ∃ o, order G.T (reach G.D M).length (reach G.D M) = some o :=
  order_down h _ rfl (reach_rises hM.1) fun x hx _ hy hyl => H.down ((hM.2 x).1 (mem_reach.1 hx).1) (mem_reach.1 hx).2 hy (mem_reach.1 hyl).2
/-- the last in the order of what is met from a node on is that node -/
theorem last_order {G : Gph} (hG : G.Ok) {k : Int} {M o : List Int} (hM : IsMet G.T [k] M) (hk : k ∈ G.D) (ho : order G.T (reach G.D M).length (reach G.D M) = some o) : o[o.length - 1]? = some k := by
  have S := order_stand _ rfl (reach_rises hM.1) ho
  have inj : ∀ i j x, o[i]? = some x → o[j]? = some x → i = j := fun i j x hi hj => by
    obtain ⟨h1, e1⟩ := List.getElem?_eq_some_iff.1 hi
    obtain ⟨h2, e2⟩ := List.getElem?_eq_some_iff.1 hj
    exact (List.getElem_inj S.nodup).1 (e1.trans e2.symm)
  have hko : k ∈ o := (S.mem k).2 (mem_reach.2 ⟨(hM.2 k).2 (.here (by simp)), hk⟩)
  obtain ⟨a, ha⟩ := List.mem_iff_getElem?.1 hko
  have hall : ∀ x, Met G.T [k] x → x ∈ G.D → ∀ i, o[i]? = some x → i ≤ a := fun x hx => by
    induction hx with
    | here e => intro _ i hi; rw [List.mem_singleton.1 e] at hi; rw [inj i a k hi ha]; exact Nat.le_refl _
    | @on z y hy hz ih =>
      intro hzd i hi
      have hyd : y ∈ G.D := Classical.byContradiction fun e => by rw [hG.none y e] at hz; cases hz
      have hyo : y ∈ o := (S.mem y).2 (mem_reach.2 ⟨(hM.2 y).2 hy, hyd⟩)
      obtain ⟨j, hj⟩ := List.mem_iff_getElem?.1 hyo
      have hb := S.behind j y hj z hz (mem_reach.2 ⟨(hM.2 z).2 (.on hy hz), hzd⟩)
      obtain ⟨q, hq⟩ := List.mem_iff_getElem?.1 hb
      have hqj : q < j := by
        have := (List.getElem?_eq_some_iff.1 hq).1
        rw [List.length_take] at this
        omega
      rw [List.getElem?_take] at hq
      have : i = q := inj i q z hi (by rw [if_pos hqj] at hq; exact hq)
      have := ih hyd j hj
      omega
  have hlt := (List.getElem?_eq_some_iff.1 ha).1
  have hl : o[o.length - 1]? = some (o[o.length - 1]'(by omega)) := List.getElem?_eq_getElem (by omega)
  have hm := (S.mem _).1 (List.mem_iff_getElem?.2 ⟨_, hl⟩)
  have := hall _ ((hM.2 _).1 (mem_reach.1 hm).1) (mem_reach.1 hm).2 _ hl
  have : o.length - 1 = a := by omega
  rw [this]; exact ha
end Go.Proofs.YtcoccaglbepbdaaGreat.Gr
