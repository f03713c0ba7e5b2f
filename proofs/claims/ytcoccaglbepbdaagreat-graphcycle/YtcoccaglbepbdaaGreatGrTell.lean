/-
  What Order and Height tell, in plain words; places and what they stand for. Conditions: none.
-/
import Derived.Test.YtcoccaglbepbdaaGreatRows
import Derived.Test.YtcoccaglbepbdaaGreatGrAmong
namespace Go.Proofs.YtcoccaglbepbdaaGreat.Gr
open Go.RowKit Sh
open Ti (keysV keysV_len)
open Rf (Sl)

/-- what Order tells: 12 where one is no node, 23 where there is no order -/
def OrdIs (G : Gph) (K L : List Int) (c : Int) : Prop :=
  ((∃ x ∈ K, x ∉ G.D) ∧ L = [] ∧ c = 12) ∨
  ((∀ x ∈ K, x ∈ G.D) ∧ ∃ S, Rises S ∧ (∀ x, x ∈ S ↔ x ∈ K) ∧ ((order G.T S.length S = none ∧ L = [] ∧ c = 23) ∨ (order G.T S.length S = some L ∧ c = 0)))
theorem OrdIs.unique {G : Gph} {K L M : List Int} {c d : Int} (h : OrdIs G K L c) (g : OrdIs G K M d) : L = M ∧ c = d := by
  rcases h with ⟨⟨x, hx, hn⟩, rfl, rfl⟩ | ⟨h1, S, h2, h3, h4⟩
  · rcases g with ⟨_, rfl, rfl⟩ | ⟨g1, _⟩
    · exact ⟨rfl, rfl⟩
    · exact absurd (g1 x hx) hn
  · rcases g with ⟨⟨x, hx, hn⟩, _⟩ | ⟨g1, S2, g2, g3, g4⟩
    · exact absurd (h1 x hx) hn
    · obtain rfl : S = S2 := rises_one h2 g2 fun x => (h3 x).trans (g3 x).symm
      rcases h4 with ⟨h4, rfl, rfl⟩ | ⟨h4, rfl⟩
      · rcases g4 with ⟨_, rfl, rfl⟩ | ⟨g4, _⟩
        · exact ⟨rfl, rfl⟩
        · rw [h4] at g4; cases g4
      · rcases g4 with ⟨g4, _⟩ | ⟨g4, rfl⟩
        · rw [h4] at g4; cases g4
        · exact ⟨Option.some.inj (h4.symm.trans g4), rfl⟩
/-- Order's answer -/
def Ordered (w : World) (G : Gph) (K : List Int) (e : Ending) (w' : World) : Prop := ∃ v L c, e = .returned (.tuple #[v, .int .i64 c]) ∧ OrdIs G K L c ∧ Sl w' v L ∧ Below w.heap.size w w'
theorem sl_none (w : World) : Sl w (.slice none 0 0) [] := ⟨none, 0, rfl, fun h => by simp at h⟩
theorem Ordered.none_ {w w' : World} {G : Gph} {K : List Int} {x : Int} (hx : x ∈ K) (hn : x ∉ G.D) (hb : Below w.heap.size w w') : Ordered w G K (.returned (.tuple #[.slice none 0 0, .int .i64 12])) w' := ⟨_, [], 12, rfl, Or.inl ⟨⟨x, hx, hn⟩, rfl, rfl⟩, sl_none w', hb⟩
theorem Ordered.ring {w w' : World} {G : Gph} {K S : List Int} (h1 : ∀ x ∈ K, x ∈ G.D) (h2 : Rises S) (h3 : ∀ x, x ∈ S ↔ x ∈ K) (h4 : order G.T S.length S = none) (hb : Below w.heap.size w w') : Ordered w G K (.returned (.tuple #[.slice none 0 0, .int .i64 23])) w' := ⟨_, [], 23, rfl, Or.inr ⟨h1, S, h2, h3, Or.inl ⟨h4, rfl, rfl⟩⟩, sl_none w', hb⟩
theorem Ordered.yes {w w' : World} {G : Gph} {K S L : List Int} {v : Value} (h1 : ∀ x ∈ K, x ∈ G.D) (h2 : Rises S) (h3 : ∀ x, x ∈ S ↔ x ∈ K) (h4 : order G.T S.length S = some L) (hv : Sl w' v L) (hb : Below w.heap.size w w') : Ordered w G K (.returned (.tuple #[v, .int .i64 0])) w' := ⟨v, L, 0, rfl, Or.inr ⟨h1, S, h2, h3, Or.inr ⟨h4, rfl⟩⟩, hv, hb⟩
/-- what Height tells -/
def HgtIs (G : Gph) (k h c : Int) : Prop :=
  (k ∉ G.D ∧ h = 0 ∧ c = 12) ∨
  (k ∈ G.D ∧ ∃ M, IsMet G.T [k] M ∧ ((order G.T (reach G.D M).length (reach G.D M) = none ∧ h = 0 ∧ c = 23) ∨ (∃ o H, order G.T (reach G.D M).length (reach G.D M) = some o ∧ Hts G k H ∧ h = (H k : Int) ∧ c = 0)))
theorem HgtIs.unique {G : Gph} {k h g c d : Int} (a : HgtIs G k h c) (b : HgtIs G k g d) : h = g ∧ c = d := by
  rcases a with ⟨hn, rfl, rfl⟩ | ⟨hk, M, hM, a⟩
  · rcases b with ⟨_, rfl, rfl⟩ | ⟨hk, _⟩
    · exact ⟨rfl, rfl⟩
    · exact absurd hk hn
  · rcases b with ⟨hn, _⟩ | ⟨_, M2, hM2, b⟩
    · exact absurd hk hn
    · obtain rfl := hM.unique hM2
      rcases a with ⟨a, rfl, rfl⟩ | ⟨o, H, a, aH, rfl, rfl⟩
      · rcases b with ⟨_, rfl, rfl⟩ | ⟨o, H, b, _⟩
        · exact ⟨rfl, rfl⟩
        · rw [a] at b; cases b
      · rcases b with ⟨b, _⟩ | ⟨o2, H2, b, bH, rfl, rfl⟩
        · rw [a] at b; cases b
        · rw [aH.one bH hk]; exact ⟨rfl, rfl⟩

/-- the rows that among makes are places -/
theorem places_among {S : List Int} {G : Gph} {F : List (List Int)} (hS : Small G) (hn : S.length ≤ 100) (h : Among S G.T S.length F) : Places S.length F := by
  refine ⟨h.1, hn, fun r hr => ?_⟩
  obtain ⟨q, hq, e⟩ := List.getElem_of_mem hr
  have hq2 : q < S.length := by rw [← h.1]; exact hq
  have h2 := h.2 q hq2
  rw [if_pos hq2, List.getElem?_eq_getElem hq] at h2
  have e2 : r = plc S (G.T (S[q]?.getD 0)) := by rw [← e]; exact Option.some.inj h2
  rw [e2]
  refine ⟨Nat.le_trans (plc_len _ _) (Nat.le_trans (hS.to _) (by omega)), fun y hy => ?_⟩
  obtain ⟨z, hz, rfl⟩ := List.mem_map.1 hy
  have hzS : z ∈ S := by simpa using (List.mem_filter.1 hz).2
  exact ⟨_, List.idxOf_lt_length_of_mem hzS, rfl⟩
/-- what a place stands for -/
def name (S : List Int) (p : Int) : Int := S[p.toNat]?.getD 0
theorem name_nat (S : List Int) (p : Nat) : name S (p : Int) = S[p]?.getD 0 := by simp [name]
theorem name_in {S : List Int} {p : Nat} (h : p < S.length) : name S (p : Int) = S[p] ∧ name S (p : Int) ∈ S := by
  rw [name_nat, List.getElem?_eq_getElem h]
  exact ⟨rfl, List.getElem_mem h⟩
theorem name_rng (S : List Int) : (rng S.length).map (name S) = S := by
  apply List.ext_getElem?
  intro i
  by_cases h : i < S.length
  · simp [rng, h, name]
  · rw [List.getElem?_eq_none (by simp [rng]; omega), List.getElem?_eq_none (by omega)]
theorem ptr_among {S : List Int} {G : Gph} {F : List (List Int)} (h : Among S G.T S.length F) {p : Nat} (hp : p < S.length) : ptr F (p : Int) = plc S (G.T (name S (p : Int))) := by
  have := h.2 p hp
  rw [if_pos hp] at this
  rw [ptr_nat, this, name_nat]
  rfl
theorem mem_plc {S L : List Int} {z : Int} : z ∈ plc S L ↔ ∃ y ∈ L, y ∈ S ∧ z = ((S.idxOf y : Nat) : Int) := by
  unfold plc
  rw [List.mem_map]
  constructor
  · rintro ⟨y, hy, rfl⟩
    obtain ⟨h1, h2⟩ := List.mem_filter.1 hy
    exact ⟨y, h1, by simpa using h2, rfl⟩
  · rintro ⟨y, h1, h2, rfl⟩
    exact ⟨y, List.mem_filter.2 ⟨h1, by simpa using h2⟩, rfl⟩
theorem name_idx {S : List Int} {y : Int} (h : y ∈ S) : name S ((S.idxOf y : Nat) : Int) = y := by
  rw [(name_in (List.idxOf_lt_length_of_mem h)).1]
  exact List.getElem_idxOf _
theorem idx_name {S : List Int} (hR : Rises S) {p : Nat} (hp : p < S.length) : S.idxOf (name S (p : Int)) = p := by
  refine (idx_of_at hR hp ?_).1
  rw [name_nat]
theorem name_inj {S : List Int} (hR : Rises S) {p q : Nat} (hp : p < S.length) (hq : q < S.length) (h : name S (p : Int) = name S (q : Int)) : p = q := by
  rw [← idx_name hR hp, h, idx_name hR hq]
/-- the order of keys by the order of their places -/
theorem order_among {S : List Int} {G : Gph} {F : List (List Int)} (hR : Rises S) (h : Among S G.T S.length F) : order G.T S.length S = (order (ptr F) S.length (rng S.length)).map (List.map (name S)) := by
  have := order_map (P := ptr F) (T := G.T) (f := name S) S.length (rng S.length) ?_ ?_ ?_
  · rw [name_rng] at this; exact this
  · intro x hx y hy e
    obtain ⟨p, hp, rfl⟩ := mem_rng.1 hx
    obtain ⟨q, hq, rfl⟩ := mem_rng.1 hy
    rw [name_inj hR hp hq e]
  · intro x hx z hz _
    obtain ⟨p, hp, rfl⟩ := mem_rng.1 hx
    rw [ptr_among h hp] at hz
    obtain ⟨y, h1, h2, rfl⟩ := mem_plc.1 hz
    rw [name_idx h2]; exact h1
  · intro x hx y hy e
    obtain ⟨p, hp, rfl⟩ := mem_rng.1 hx
    obtain ⟨q, hq, rfl⟩ := mem_rng.1 hy
    rw [ptr_among h hp]
    refine mem_plc.2 ⟨_, e, (name_in hq).2, ?_⟩
    rw [idx_name hR hq]
/-- the heights of places are those of the keys -/
theorem hts_among {G : Gph} {k : Int} {M F' : List Int} {F : List (List Int)} {h : Nat → Nat} {o : List Int} (hM : IsMet G.T [k] M) (hF' : F' = reach G.D M) (hA : Among F' G.T F'.length F) (ho : order (ptr F) F'.length (rng F'.length) = some o) (hr : Rising F'.length F o F'.length 0 h) :
    Hts G k (fun x => h (F'.idxOf x)) := by
  subst hF'
  intro x hx hd
  have hxm : x ∈ reach G.D M := mem_reach.2 ⟨(hM.2 x).2 hx, hd⟩
  have hlt := List.idxOf_lt_length_of_mem hxm
  have hS := order_stand _ (rng_len _) (rng_rises _) ho
  have hin : (((reach G.D M).idxOf x : Nat) : Int) ∈ o.take (reach G.D M).length := by
    rw [List.take_of_length_le (by rw [hS.len, rng_len]; exact Nat.le_refl _)]
    exact (hS.mem _).2 (mem_rng.2 ⟨_, hlt, rfl⟩)
  have h1 := (hr.done _ hlt hin).1
  have h2 : F[(reach G.D M).idxOf x]?.getD [] = plc (reach G.D M) (G.T x) := by
    have := ptr_among hA hlt
    rw [ptr_nat, name_idx hxm] at this
    exact this
  show h ((reach G.D M).idxOf x) = sup (((G.T x).filter fun y => decide (y ∈ G.D)).map fun y => h ((reach G.D M).idxOf y) + 1)
  rw [h1, h2]
  refine sup_same fun a => ?_
  rw [List.mem_map, List.mem_map]
  constructor
  · rintro ⟨z, hz, rfl⟩
    obtain ⟨y, g1, g2, rfl⟩ := mem_plc.1 hz
    exact ⟨y, List.mem_filter.2 ⟨g1, by simpa using (mem_reach.1 g2).2⟩, by simp⟩
  · rintro ⟨y, hy, rfl⟩
    obtain ⟨g1, g2⟩ := List.mem_filter.1 hy
    have g3 : y ∈ reach G.D M := mem_reach.2 ⟨(hM.2 y).2 (.on hx g1), by simpa using g2⟩
    exact ⟨_, mem_plc.2 ⟨y, g1, g3, rfl⟩, by simp⟩
end Go.Proofs.YtcoccaglbepbdaaGreat.Gr
