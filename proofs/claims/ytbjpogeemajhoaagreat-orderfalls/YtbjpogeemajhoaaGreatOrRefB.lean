/-
  The document's right and Log answer what a list's facts say; old memory stays. Conditions: lists of no more than a hundred thousand, heights below the greatest int.
-/
import Derived.Test.YtbjpogeemajhoaaGreatRows
import Derived.Test.YtbjpogeemajhoaaGreatOrMap
import Derived.Test.YtbjpogeemajhoaaGreatOrHigh
import Derived.Test.YtbjpogeemajhoaaGreatOrFall
import Derived.Test.YtbjpogeemajhoaaGreatOrLog
import Derived.Test.YtbjpogeemajhoaaGreatOrRef
import Derived.Deep.Cut
import Derived.Deep.LoopGhost
import Derived.Deep.RegionHeld3
namespace Go.Proofs.YtbjpogeemajhoaaGreat.Or
open Go Go.RowKit

/-- append(facts, x), as the walk stands at it -/
theorem wp_append_fx {ops : Array Oper} {rest : List Oper} {o : Oper} {a : Act} {Q : Exit → Act → World → Prop} {w : World} (hgd : o.guard = none) (s x : Operand)
    (ho : o.op = .call { callee := .builtin .append, args := #[s, x], argTypes := #[24, 24] })
    (B : Nat) (v : Value) (L : List Fx) (l : Fx) (hs : a.eval s = v) (hx : a.eval x = .slice (some ⟨w.heap.size, 0, none⟩) 1 1)
    (hown : OwnX B w v L) (hB : B ≤ w.heap.size) (hlen : L.length ≤ 1099511627776)
    (h : ∀ v' w', OwnX B w' v' (L ++ [l]) → (∀ u, Below B u w → Below B u w') → wpList Tryz.prog ops Q rest (a.put o.dst v') w') : wpList Tryz.prog ops Q (o :: rest) a (w.alloc (.cells #[.string l.f.id, .int .i64 l.f.high, .slice l.pa l.f.pars.length l.pc] 28)) := by
  obtain ⟨i0, hi, hz0, hz1, hz2⟩ := info_parts infoFct
  have hoA := World.ownsRow.alloc hown (.cells #[.string l.f.id, .int .i64 l.f.high, .slice l.pa l.f.pars.length l.pc] 28)
  have hnews : ∀ (j : Nat) (u : Value), l.cells[j]? = some u → (w.alloc (.cells #[.string l.f.id, .int .i64 l.f.high, .slice l.pa l.f.pars.length l.pc] 28)).cell? ((⟨w.heap.size, 0, none⟩ : Addr).add j) = some u := fun j u hj => by
    match j, hj with
    | 0, hj => simp [Fx.cells] at hj; subst hj; simp [Addr.add]
    | 1, hj => simp [Fx.cells] at hj; subst hj; simp [Addr.add]
    | 2, hj => simp [Fx.cells] at hj; subst hj; simp [Addr.add]
    | j + 3, hj => simp [Fx.cells] at hj
  refine wpList_append_own _ hgd s x 24 ho B 28 i0 (.agg #[.string ⟨#[]⟩, .int .i64 0, .slice none 0 0]) 3 48 Tryz.underlying24 hi hz0 hz1 hz2 rfl (by decide) v L.length (rowF L) hs hoA ⟨w.heap.size, 0, none⟩ 1 1 l.cells hx rfl hnews
    (fun u hu => by simp [Fx.cells] at hu; rcases hu with rfl | rfl | rfl <;> rfl) (by unfold maxLen; omega) (by omega) (by simp; omega) ?_
  intro v' w' hown' hgrow hnil
  refine h v' w' (by unfold OwnX; rw [← rowF_snoc, List.length_append]; exact hown') fun u hu => ?_
  exact (hu.alloc hB (.cells #[.string l.f.id, .int .i64 l.f.high, .slice l.pa l.f.pars.length l.pc] 28)).grown hgrow (by simp; omega) (fun k hk => (World.ownsRow.lt hoA k hk).1)
theorem OwnX.box {B : Nat} {w : World} {v : Value} {L : List Fx} (h : OwnX B w v L) : ∃ a cap, v = .slice a L.length cap := by
  obtain ⟨a, cap, _, _, e, _⟩ := h.at_
  exact ⟨a, cap, e⟩
theorem highs_snoc {L : List Fct} {P : List ByteArray} {k : Nat} {z : ByteArray} {g : Fct} (ho : Once L) (hk : P[k]? = some z) (hg : g ∈ L) (e : g.id = z) : highs L (P.take (k + 1)) = highs L (P.take k) ++ [g.high] := by
  unfold highs
  rw [List.take_add_one, hk, List.map_append]
  subst e
  simp [find_fact ho hg]
theorem highs_mem {L : List Fx} {P : List ByteArray} (ho : Once (plain L)) (hw : ∀ z ∈ P, ∃ g ∈ L, g.f.id = z) {n : Int} (h : n ∈ highs (plain L) P) : ∃ g ∈ L, g.f.high = n := by
  unfold highs at h
  obtain ⟨z, hz, rfl⟩ := List.mem_map.1 h
  obtain ⟨g, hg, rfl⟩ := hw z hz
  exact ⟨g, hg, by rw [find_fact ho (List.mem_map.2 ⟨g, hg, rfl⟩)]; rfl⟩
/-! ### a fact put in where it stands -/
def insR (x : Fx) : List Fx → List Fx
  | [] => [x]
  | g :: r => if under g.f x.f then x :: g :: r else g :: insR x r
theorem insR_neg {x g : Fx} {r : List Fx} (h : ¬ under g.f x.f) : insR x (g :: r) = g :: insR x r := by rw [insR, if_neg h]
theorem insR_mem (x : Fx) : ∀ (G : List Fx) (y : Fx), y ∈ insR x G ↔ y = x ∨ y ∈ G
  | [], y => by simp [insR]
  | g :: r, y => by
    unfold insR
    split
    · simp
    · rw [List.mem_cons, insR_mem x r y, List.mem_cons]
      constructor
      · rintro (h | h | h)
        · exact Or.inr (Or.inl h)
        · exact Or.inl h
        · exact Or.inr (Or.inr h)
      · rintro (h | h | h)
        · exact Or.inr (Or.inl h)
        · exact Or.inl h
        · exact Or.inr (Or.inr h)
theorem insR_len (x : Fx) : ∀ G : List Fx, (insR x G).length = G.length + 1
  | [] => rfl
  | g :: r => by
    unfold insR
    split
    · simp
    · simp [insR_len x r]
theorem insR_falls (x : Fx) : ∀ G : List Fx, G.Pairwise (fun a b => under b.f a.f) → (∀ g ∈ G, g.f.id ≠ x.f.id) → (insR x G).Pairwise (fun a b => under b.f a.f)
  | [], _, _ => by simp [insR]
  | g :: r, h, hn => by
    obtain ⟨h1, h2⟩ := List.pairwise_cons.1 h
    unfold insR
    by_cases hu : under g.f x.f
    · rw [if_pos hu]
      refine List.pairwise_cons.2 ⟨fun y hy => ?_, h⟩
      rcases List.mem_cons.1 hy with rfl | hy
      · exact hu
      · exact under_tra (h1 y hy) hu
    · rw [if_neg hu]
      have hgx : under x.f g.f := by
        rcases under_tri x.f g.f with q | q | q
        · exact q
        · exact absurd q.2.symm (hn g (by simp))
        · exact absurd q hu
      refine List.pairwise_cons.2 ⟨fun y hy => ?_, insR_falls x r h2 fun g hg => hn g (by simp [hg])⟩
      rcases (insR_mem x r y).1 hy with rfl | hy
      · exact hgx
      · exact h1 y hy
/-- on the way: what is put together so far -/
def Mix (x : Fx) (G N : List Fx) (put : Bool) (k : Nat) : Prop := if put = true then N ++ G.drop k = insR x G else N ++ insR x (G.drop k) = insR x G
theorem Mix.start (x : Fx) (G : List Fx) : Mix x G [] false 0 := by simp [Mix]
theorem Mix.later {x : Fx} {G N : List Fx} {k : Nat} {g : Fx} (h : Mix x G N true k) (hk : G[k]? = some g) : Mix x G (N ++ [g]) true (k + 1) := by
  have h' : N ++ G.drop k = insR x G := h
  show (N ++ [g]) ++ G.drop (k + 1) = insR x G
  obtain ⟨hlt, rfl⟩ := List.getElem?_eq_some_iff.1 hk
  rw [← h', ← List.getElem_cons_drop hlt]; simp
theorem Mix.here {x : Fx} {G N : List Fx} {k : Nat} {g : Fx} (h : Mix x G N false k) (hk : G[k]? = some g) (hu : under g.f x.f) : Mix x G (N ++ [x] ++ [g]) true (k + 1) := by
  have h' : N ++ insR x (G.drop k) = insR x G := h
  show (N ++ [x] ++ [g]) ++ G.drop (k + 1) = insR x G
  obtain ⟨hlt, rfl⟩ := List.getElem?_eq_some_iff.1 hk
  rw [← h', ← List.getElem_cons_drop hlt]
  unfold insR
  rw [if_pos hu]; simp
theorem Mix.on {x : Fx} {G N : List Fx} {k : Nat} {g : Fx} (h : Mix x G N false k) (hk : G[k]? = some g) (hu : ¬ under g.f x.f) : Mix x G (N ++ [g]) false (k + 1) := by
  have h' : N ++ insR x (G.drop k) = insR x G := h
  show (N ++ [g]) ++ insR x (G.drop (k + 1)) = insR x G
  obtain ⟨hlt, rfl⟩ := List.getElem?_eq_some_iff.1 hk
  rw [← h', ← List.getElem_cons_drop hlt]
  rw [insR_neg hu]
  simp
theorem Mix.end_ {x : Fx} {G N : List Fx} {put : Bool} (h : Mix x G N put G.length) : (put = true → N = insR x G) ∧ (put = false → N ++ [x] = insR x G) := by
  cases put with
  | true => exact ⟨fun _ => by have h' : N ++ G.drop G.length = insR x G := h; simpa using h', fun e => by cases e⟩
  | false => exact ⟨fun e => (by cases e), fun _ => by have h' : N ++ insR x (G.drop G.length) = insR x G := h; simpa [insR] using h'⟩
theorem Mix.len {x : Fx} {G N : List Fx} {put : Bool} {k : Nat} (h : Mix x G N put k) : N.length ≤ G.length + 1 := by
  have hl := insR_len x G
  cases put with
  | true => have h' : N ++ G.drop k = insR x G := h; rw [← h', List.length_append] at hl; omega
  | false => have h' : N ++ insR x (G.drop k) = insR x G := h; rw [← h', List.length_append] at hl; omega
/-- a log on the way: of the first i facts those that are met -/
structure Part (L : List Fx) (B : Nat → Bool) (i : Nat) (G : List Fx) : Prop where
  falls : G.Pairwise fun a b => under b.f a.f
  mem : ∀ y, y ∈ G ↔ ∃ j, j < i ∧ L[j]? = some y ∧ B j = true
  right : ∀ j y, j < i → L[j]? = some y → B j = true → Right (plain L) y.f
theorem Part.start (L : List Fx) (B : Nat → Bool) : Part L B 0 [] := ⟨List.Pairwise.nil, fun y => ⟨fun h => by simp at h, fun ⟨j, hj, _⟩ => absurd hj (Nat.not_lt_zero _)⟩, fun j y hj => absurd hj (Nat.not_lt_zero _)⟩
theorem Part.skip {L : List Fx} {B : Nat → Bool} {i : Nat} {G : List Fx} (h : Part L B i G) (hB : B i = false) : Part L B (i + 1) G := by
  refine ⟨h.falls, fun y => (h.mem y).trans ⟨fun ⟨j, hj, h1, h2⟩ => ⟨j, by omega, h1, h2⟩, fun ⟨j, hj, h1, h2⟩ => ⟨j, ?_, h1, h2⟩⟩, fun j y hj h1 h2 => h.right j y ?_ h1 h2⟩
  · by_cases e : j = i
    · subst e; rw [hB] at h2; cases h2
    · omega
  · by_cases e : j = i
    · subst e; rw [hB] at h2; cases h2
    · omega
theorem Part.put {L : List Fx} {B : Nat → Bool} {i : Nat} {G : List Fx} {x : Fx} (h : Part L B i G) (ho : (L.map fun y => y.f.id).Nodup) (hB : B i = true) (hx : L[i]? = some x) (hr : Right (plain L) x.f) : Part L B (i + 1) (insR x G) := by
  refine ⟨insR_falls x G h.falls fun g hg e => ?_, fun y => ?_, fun j y hj h1 h2 => ?_⟩
  · obtain ⟨j, hj, h1, h2⟩ := (h.mem g).1 hg
    obtain ⟨rfl, _⟩ := place_one ho h1 hx e
    omega
  · rw [insR_mem, h.mem]
    constructor
    · rintro (rfl | ⟨j, hj, h1, h2⟩)
      · exact ⟨i, by omega, hx, hB⟩
      · exact ⟨j, by omega, h1, h2⟩
    · rintro ⟨j, hj, h1, h2⟩
      by_cases e : j = i
      · subst e; rw [hx] at h1; cases h1; exact Or.inl rfl
      · exact Or.inr ⟨j, by omega, h1, h2⟩
  · by_cases e : j = i
    · subst e; rw [hx] at h1; cases h1; exact hr
    · exact h.right j y (by omega) h1 h2
theorem Part.few {L : List Fx} {B : Nat → Bool} {i : Nat} {G : List Fx} (h : Part L B i G) (ho : (L.map fun y => y.f.id).Nodup) : G.length ≤ L.length := by
  refine fxs_len (L := L) (ids_nodup ho ?_ ?_) ?_
  · unfold List.Nodup
    exact h.falls.imp fun {a b} hab (e : a = b) => under_irr a.f (by rw [← e] at hab; exact hab)
  · exact fun y hy => let ⟨j, _, h1, _⟩ := (h.mem y).1 hy; List.mem_of_getElem? h1
  · exact fun y hy => let ⟨j, _, h1, _⟩ := (h.mem y).1 hy; List.mem_of_getElem? h1
/-- a log that is done -/
theorem Part.log {L : List Fx} {B : Nat → Bool} {G : List Fx} {x : ByteArray} {y0 : Fx} (h : Part L B L.length G) (ho : (L.map fun y => y.f.id).Nodup) (hy : y0 ∈ L) (hx : y0.f.id = x) (hw : Whole (plain L) x) (hB : ∀ i y, L[i]? = some y → (B i = true ↔ Met (plain L) x y.f)) : IsLog (plain L) x 0 (plain G) := by
  refine .ok (once_iff.2 ho) (List.mem_map.2 ⟨y0, hy, rfl⟩) hx hw (fun g hg => ?_) ⟨?_, fun f => ?_⟩
  · obtain ⟨y, hy, rfl⟩ := List.mem_map.1 hg.mem
    obtain ⟨j, hj, rfl⟩ := List.mem_iff_getElem.1 hy
    exact h.right j _ hj (List.getElem?_eq_getElem hj) ((hB j _ (List.getElem?_eq_getElem hj)).2 hg)
  · rw [List.pairwise_map]; exact h.falls
  · rw [List.mem_map]
    constructor
    · rintro ⟨y, hy, rfl⟩
      obtain ⟨j, _, h1, h2⟩ := (h.mem y).1 hy
      exact (hB j y h1).1 h2
    · intro hm
      obtain ⟨y, hy, rfl⟩ := List.mem_map.1 hm.mem
      obtain ⟨j, hj, rfl⟩ := List.mem_iff_getElem.1 hy
      exact ⟨_, (h.mem _).2 ⟨j, hj, List.getElem?_eq_getElem hj, (hB j _ (List.getElem?_eq_getElem hj)).2 hm⟩, rfl⟩
end Go.Proofs.YtbjpogeemajhoaaGreat.Or
