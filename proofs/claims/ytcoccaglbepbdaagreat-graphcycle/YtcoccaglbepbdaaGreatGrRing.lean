/-
  A ring of nodes, and the ring cut at one: no order; an order that begins at the cut; heights. Conditions: none.
-/
import Derived.Test.YtcoccaglbepbdaaGreatRows
import Derived.Test.YtcoccaglbepbdaaGreatGrAwake
namespace Go.Proofs.YtcoccaglbepbdaaGreat.Rg
open Go.RowKit Sh Gr
open Ti (IsOf)
attribute [local go_sem] fold_none

/-- who comes next in the ring -/
def nxt (n q : Nat) : Nat := if q + 1 = n then 0 else q + 1
theorem nxt_lt {n q : Nat} (h : q < n) : nxt n q < n := by unfold nxt; split <;> omega
theorem nxt_mod {n q : Nat} (h : q < n) : ((q : Int) + 1).tmod (n : Int) = ((nxt n q : Nat) : Int) := by
  rw [show (q : Int) + 1 = ((q + 1 : Nat) : Int) by omega, ← Int.ofNat_tmod]
  unfold nxt
  split
  · next e => rw [e, Nat.mod_self]
  · rw [Nat.mod_eq_of_lt (by omega)]
/-- the ring's first i nodes -/
def ring (n : Nat) : Nat → Gph
  | 0 => Gph.empty
  | i + 1 => (ring n i).put (i : Int) [((nxt n i : Nat) : Int)]
theorem ring_ok (n : Nat) : ∀ i, (ring n i).Ok
  | 0 => Gph.empty_ok
  | i + 1 => Gph.put_ok (ring_ok n i) (by simp [Rises])
theorem ring_mem (n : Nat) : ∀ i (x : Int), x ∈ (ring n i).D ↔ ∃ q : Nat, q < i ∧ x = (q : Int)
  | 0, x => by simp [ring, Gph.empty]
  | i + 1, x => by
    show x ∈ ins (i : Int) (ring n i).D ↔ _
    rw [mem_ins_int (ring_ok n i).rises, ring_mem n i]
    constructor
    · rintro (rfl | ⟨q, h, rfl⟩)
      · exact ⟨i, by omega, rfl⟩
      · exact ⟨q, by omega, rfl⟩
    · rintro ⟨q, h, rfl⟩
      by_cases e : q = i
      · exact Or.inl (by rw [e])
      · exact Or.inr ⟨q, by omega, rfl⟩
theorem ring_to (n : Nat) : ∀ i (q : Nat), q < i → (ring n i).T (q : Int) = [((nxt n q : Nat) : Int)]
  | 0, q, h => absurd h (Nat.not_lt_zero _)
  | i + 1, q, h => by
    show (if (q : Int) = (i : Int) then [((nxt n i : Nat) : Int)] else (ring n i).T (q : Int)) = _
    by_cases e : q = i
    · subst e; simp
    · rw [if_neg (by omega)]; exact ring_to n i q (by omega)
theorem ring_len (n : Nat) : ∀ i, (ring n i).D.length ≤ i
  | 0 => Nat.le_refl _
  | i + 1 => Nat.le_trans (Gph.put_len _ _ _) (by have := ring_len n i; omega)
theorem ring_few (n : Nat) : ∀ i (k : Int), ((ring n i).T k).length ≤ 1
  | 0, _ => Nat.zero_le _
  | i + 1, k => by
    show (if k = (i : Int) then [((nxt n i : Nat) : Int)] else (ring n i).T k).length ≤ 1
    split
    · simp
    · exact ring_few n i k
theorem ring_small {n i : Nat} (h : i ≤ 60) : Small (ring n i) := ⟨Nat.le_trans (ring_len n i) h, fun k => Nat.le_trans (ring_few n i k) (by omega)⟩
/-- the keys of the ring, in order -/
theorem ring_none {n : Nat} (hn : 0 < n) {K L : List Int} {c : Int} (hK : K = rng n) (h : OrdIs (ring n n) K L c) : L = [] ∧ c = 23 := by
  subst hK
  refine h.unique (Or.inr ⟨fun x hx => (ring_mem n n x).2 (mem_rng.1 hx), rng n, rng_rises n, fun _ => Iff.rfl, Or.inl ⟨order_ring (by rw [rng_len]; omega) fun x hx => ?_, rfl, rfl⟩⟩)
  obtain ⟨q, hq, rfl⟩ := mem_rng.1 hx
  exact ⟨((nxt n q : Nat) : Int), by rw [ring_to n n q hq]; simp, mem_rng.2 ⟨_, nxt_lt hq, rfl⟩⟩
theorem ring_high {n k : Nat} (hk : k < n) {h c : Int} (g : HgtIs (ring n n) (k : Int) h c) : h = 0 ∧ c = 23 := by
  have hd : (k : Int) ∈ (ring n n).D := (ring_mem n n _).2 ⟨k, hk, rfl⟩
  rcases g with ⟨hn, _⟩ | ⟨_, M, hM, ⟨_, h1, h2⟩ | ⟨o, H, ho, _⟩⟩
  · exact absurd hd hn
  · exact ⟨h1, h2⟩
  · have hkR : (k : Int) ∈ reach (ring n n).D M := mem_reach.2 ⟨(hM.2 _).2 (.here (by simp)), hd⟩
    rw [order_ring (by have := List.length_pos_of_mem hkR; omega) fun x hx => ?_] at ho
    · cases ho
    · obtain ⟨h1, h2⟩ := mem_reach.1 hx
      obtain ⟨q, hq, rfl⟩ := (ring_mem n n x).1 h2
      have hy : ((nxt n q : Nat) : Int) ∈ (ring n n).T (q : Int) := by rw [ring_to n n q hq]; simp
      exact ⟨_, hy, mem_reach.2 ⟨(hM.2 _).2 (.on ((hM.2 _).1 h1) hy), (ring_mem n n _).2 ⟨_, nxt_lt hq, rfl⟩⟩⟩
/-- the ring cut at one -/
def cutAt (n k : Nat) : Gph := (ring n n).put (k : Int) []
/-- how far it is to the cut -/
def far (n k : Nat) (x : Int) : Nat := if x ≤ (k : Int) then ((k : Int) - x).toNat else ((k : Int) + n - x).toNat
theorem far_nxt {n k q : Nat} (hk : k < n) (hq : q < n) (hne : q ≠ k) : far n k ((nxt n q : Nat) : Int) + 1 = far n k (q : Int) := by
  unfold far nxt
  split <;> split <;> split <;> omega
theorem far_cut (n k : Nat) : far n k (k : Int) = 0 := by unfold far; simp
theorem far_top {n k : Nat} (hk : k < n) : far n k ((nxt n k : Nat) : Int) = n - 1 := by
  unfold far nxt
  split <;> split <;> omega
theorem cut_mem {n k : Nat} (hk : k < n) (x : Int) : x ∈ (cutAt n k).D ↔ ∃ q : Nat, q < n ∧ x = (q : Int) := by
  show x ∈ ins (k : Int) (ring n n).D ↔ _
  rw [mem_ins_int (ring_ok n n).rises, ring_mem]
  exact ⟨fun h => h.elim (fun e => ⟨k, hk, e⟩) id, Or.inr⟩
theorem cut_to {n k q : Nat} (hq : q < n) : (cutAt n k).T (q : Int) = if q = k then [] else [((nxt n q : Nat) : Int)] := by
  show (if (q : Int) = (k : Int) then [] else (ring n n).T (q : Int)) = _
  by_cases e : q = k
  · subst e; simp
  · rw [if_neg (by omega), if_neg e, ring_to n n q hq]
theorem cut_small {n k : Nat} (hn : n ≤ 40) : Small (cutAt n k) := ⟨Nat.le_trans (Gph.put_len _ _ _) (by have := ring_len n n; omega), fun x => by
  show (if x = (k : Int) then [] else (ring n n).T x).length ≤ 40
  split
  · simp
  · exact Nat.le_trans (ring_few n n x) (by omega)⟩
theorem cut_order {n k : Nat} (hk : k < n) {K L : List Int} {c : Int} (hK : K = rng n) (h : OrdIs (cutAt n k) K L c) : c = 0 ∧ L.length = n ∧ L[0]? = some (k : Int) := by
  subst hK
  rcases h with ⟨⟨x, hx, hn⟩, _⟩ | ⟨_, S, h2, h3, h4⟩
  · exact absurd ((cut_mem hk x).2 (mem_rng.1 hx)) hn
  · obtain rfl : S = rng n := rises_one h2 (rng_rises n) h3
    obtain ⟨o, ho⟩ := order_down (T := (cutAt n k).T) (far n k) _ rfl (rng_rises n) fun x hx y hy _ => by
      obtain ⟨q, hq, rfl⟩ := mem_rng.1 hx
      rw [cut_to hq] at hy
      by_cases e : q = k
      · rw [if_pos e] at hy; cases hy
      · rw [if_neg e, List.mem_singleton] at hy
        subst hy
        have := far_nxt hk hq e
        omega
    rcases h4 with ⟨h4, _⟩ | ⟨h4, rfl⟩
    · rw [ho] at h4; cases h4
    · have S := order_stand _ rfl (rng_rises n) h4
      have hl : L.length = n := by rw [S.len, rng_len]
      have h0 : L[0]? = some (L[0]'(by omega)) := List.getElem?_eq_getElem _
      obtain ⟨q, hq, hqe⟩ := mem_rng.1 ((S.mem _).1 (List.mem_of_getElem? h0))
      rw [hqe] at h0
      refine ⟨rfl, hl, ?_⟩
      by_cases e : q = k
      · rw [h0, e]
      · have := S.behind 0 _ h0 ((nxt n q : Nat) : Int) (by rw [cut_to hq, if_neg e]; simp) (mem_rng.2 ⟨_, nxt_lt hq, rfl⟩)
        simp at this
theorem cut_high {n k : Nat} (hk : k < n) {h c : Int} (g : HgtIs (cutAt n k) ((nxt n k : Nat) : Int) h c) : h = ((n - 1 : Nat) : Int) ∧ c = 0 := by
  have hd : ((nxt n k : Nat) : Int) ∈ (cutAt n k).D := (cut_mem hk _).2 ⟨_, nxt_lt hk, rfl⟩
  have hH : Hts (cutAt n k) ((nxt n k : Nat) : Int) (far n k) := fun x _ hx => by
    obtain ⟨q, hq, rfl⟩ := (cut_mem hk x).1 hx
    rw [cut_to hq]
    by_cases e : q = k
    · subst e; simp [far_cut, sup_nil]
    · have hy : ((nxt n q : Nat) : Int) ∈ (cutAt n k).D := (cut_mem hk _).2 ⟨_, nxt_lt hq, rfl⟩
      rw [if_neg e]
      have := far_nxt hk hq e
      simp [hy, sup_cons, sup_nil]
      omega
  rcases g with ⟨hn, _⟩ | ⟨_, M, hM, ⟨ho, _⟩ | ⟨o, H, _, hH2, h1, h2⟩⟩
  · exact absurd hd hn
  · obtain ⟨o, ho2⟩ := order_hts hM hH
    rw [ho2] at ho; cases ho
  · rw [hH2.one hH hd, far_top hk] at h1
    exact ⟨h1, h2⟩
end Go.Proofs.YtcoccaglbepbdaaGreat.Rg
