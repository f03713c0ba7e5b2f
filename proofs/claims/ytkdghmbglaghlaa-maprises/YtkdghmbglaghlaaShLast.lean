/-
  What a row of calls leaves in a map: of each key what it was given last; and how to count them by their last calls. Conditions: none.
-/
import Derived.Test.YtkdghmbglaghlaaRows
import Derived.Test.YtkdghmbglaghlaaShPlain
namespace Go.Proofs.Ytkdghmbglaghlaa.Sh
open Key (lt)
open Ent (key)
section
variable {E K : Type} [Key K] [Ent E K]
theorem mem_ins_iff {e b : E} : ∀ {l : List E}, Rises l → (b ∈ ins e l ↔ b = e ∨ (b ∈ l ∧ key b ≠ key e))
  | [], _ => by simp [ins]
  | a :: r, h => by
    have hh := rises_head h
    rcases Key.tri (key e) (key a) with g | g | g
    · rw [show ins e (a :: r) = e :: a :: r by simp [ins, g], List.mem_cons]
      refine ⟨fun h1 => h1.imp id fun h2 => ⟨h2, fun e2 => ?_⟩, fun h1 => h1.imp id fun h2 => h2.1⟩
      rcases List.mem_cons.1 h2 with rfl | h3
      · exact lt_ne g e2.symm
      · exact lt_ne (Key.tra _ _ _ g (hh b h3)) e2.symm
    · rw [show ins e (a :: r) = e :: r by simp [ins, g, Key.irr], List.mem_cons]
      refine ⟨fun h1 => h1.imp id fun h2 => ⟨List.mem_cons_of_mem _ h2, fun e2 => lt_ne (hh b h2) (by rw [e2, g])⟩, fun h1 => h1.imp id fun h2 => ?_⟩
      rcases List.mem_cons.1 h2.1 with rfl | h3
      · exact absurd g.symm h2.2
      · exact h3
    · rw [show ins e (a :: r) = a :: ins e r by simp [ins, g, lt_asym g], List.mem_cons, List.mem_cons, mem_ins_iff (rises_tail h)]
      constructor
      · rintro (rfl | h1 | h1)
        · exact Or.inr ⟨Or.inl rfl, lt_ne g⟩
        · exact Or.inl h1
        · exact Or.inr ⟨Or.inr h1.1, h1.2⟩
      · rintro (h1 | ⟨h1 | h1, h2⟩)
        · exact Or.inr (Or.inl h1)
        · exact Or.inl h1
        · exact Or.inr (Or.inr ⟨h1, h2⟩)
theorem mem_del_iff {k : K} {b : E} {l : List E} : b ∈ del k l ↔ b ∈ l ∧ key b ≠ k := by simp [del]
theorem fnd_mem {e : E} {l : List E} (h : Rises l) (hm : e ∈ l) : fnd (key e) l = some e := by
  obtain ⟨a, r, rfl⟩ := List.append_of_mem hm
  exact (fnd_here h rfl).1
end
/-- what the first n calls leave -/
def run (X : Nat → Int) (K : Nat → ByteArray) (V : Nat → Int) : Nat → List (ByteArray × Int)
  | 0 => []
  | n + 1 => if X n = 3 then del (K n) (run X K V n) else ins (K n, V n) (run X K V n)
theorem run_rises (X : Nat → Int) (K : Nat → ByteArray) (V : Nat → Int) : ∀ n, Rises (run X K V n)
  | 0 => List.Pairwise.nil
  | n + 1 => by
    unfold run
    split
    · exact rises_del _ (run_rises X K V n)
    · exact rises_ins _ (run_rises X K V n)
theorem run_len (X : Nat → Int) (K : Nat → ByteArray) (V : Nat → Int) : ∀ n, (run X K V n).length ≤ n
  | 0 => by simp [run]
  | n + 1 => by
    have := run_len X K V n
    unfold run
    split
    · have := del_len_le (K n) (run X K V n); omega
    · have := ins_len_le (K n, V n) (run X K V n); omega
/-- no later call has its key -/
def Last (K : Nat → ByteArray) (N i : Nat) : Prop := ∀ j, i < j → j < N → K j ≠ K i
theorem last_one {K : Nat → ByteArray} {N i j : Nat} (hi : Last K N i) (hj : Last K N j) (h1 : i < N) (h2 : j < N) (he : K i = K j) : i = j := by
  rcases Nat.lt_trichotomy i j with h | h | h
  · exact absurd he.symm (hi j h h2)
  · exact h
  · exact absurd he (hj i h h1)
theorem last_succ {K : Nat → ByteArray} {n i : Nat} (h : i < n) : Last K (n + 1) i ↔ Last K n i ∧ K n ≠ K i := by
  constructor
  · exact fun g => ⟨fun j h1 h2 => g j h1 (by omega), g n h (by omega)⟩
  · intro ⟨g1, g2⟩ j h1 h2
    by_cases e : j = n
    · rw [e]; exact g2
    · exact g1 j h1 (by omega)
theorem run_mem (X : Nat → Int) (K : Nat → ByteArray) (V : Nat → Int) (e : ByteArray × Int) : ∀ n, e ∈ run X K V n ↔ ∃ i, i < n ∧ Last K n i ∧ X i ≠ 3 ∧ e = (K i, V i)
  | 0 => by simp [run]
  | n + 1 => by
    have ih := run_mem X K V e n
    have hold : (e ∈ run X K V n ∧ e.1 ≠ K n) ↔ ∃ i, i < n ∧ Last K (n + 1) i ∧ X i ≠ 3 ∧ e = (K i, V i) := by
      rw [ih]
      constructor
      · rintro ⟨⟨i, h1, h2, h3, rfl⟩, h4⟩
        exact ⟨i, h1, (last_succ h1).2 ⟨h2, fun g => h4 g.symm⟩, h3, rfl⟩
      · rintro ⟨i, h1, h2, h3, rfl⟩
        obtain ⟨h4, h5⟩ := (last_succ h1).1 h2
        exact ⟨⟨i, h1, h4, h3, rfl⟩, fun g => h5 g.symm⟩
    have hall : (∃ i, i < n + 1 ∧ Last K (n + 1) i ∧ X i ≠ 3 ∧ e = (K i, V i)) ↔ (∃ i, i < n ∧ Last K (n + 1) i ∧ X i ≠ 3 ∧ e = (K i, V i)) ∨ (X n ≠ 3 ∧ e = (K n, V n)) := by
      constructor
      · rintro ⟨i, h1, h2, h3, h4⟩
        by_cases hi : i = n
        · subst hi; exact Or.inr ⟨h3, h4⟩
        · exact Or.inl ⟨i, by omega, h2, h3, h4⟩
      · rintro (⟨i, h1, h2⟩ | ⟨h1, h2⟩)
        · exact ⟨i, by omega, h2⟩
        · exact ⟨n, by omega, fun j a b => by omega, h1, h2⟩
    rw [hall, ← hold, show run X K V (n + 1) = if X n = 3 then del (K n) (run X K V n) else ins (K n, V n) (run X K V n) from rfl]
    split
    · rename_i hx
      rw [mem_del_iff]
      exact ⟨fun h => Or.inl h, fun h => h.elim id fun g => absurd hx g.1⟩
    · rename_i hx
      rw [mem_ins_iff (run_rises X K V n)]
      exact ⟨fun h => h.elim (fun g => Or.inr ⟨hx, g⟩) Or.inl, fun h => h.elim Or.inr fun g => Or.inl g.2⟩
theorem run_last (X : Nat → Int) (K : Nat → ByteArray) (V : Nat → Int) {N i : Nat} (hi : i < N) (hl : Last K N i) : fnd (K i) (run X K V N) = if X i = 3 then none else some (K i, V i) := by
  split
  · rename_i hx
    cases h : fnd (K i) (run X K V N) with
    | none => rfl
    | some e =>
      obtain ⟨h1, h2⟩ := fnd_key h
      obtain ⟨j, h3, h4, h5, rfl⟩ := (run_mem X K V e N).1 h2
      have := last_one h4 hl h3 hi h1
      rw [this] at h5
      exact absurd hx h5
  · rename_i hx
    exact fnd_mem (e := (K i, V i)) (run_rises X K V N) ((run_mem X K V _ N).2 ⟨i, hi, hl, hx, rfl⟩)

def lastB (K : Nat → ByteArray) (N j : Nat) : Bool := (List.range N).all fun t => !decide (j < t) || !decide (K t = K j)
theorem lastB_iff {K : Nat → ByteArray} {N j : Nat} : lastB K N j = true ↔ Last K N j := by
  unfold lastB Last
  rw [List.all_eq_true]
  constructor
  · intro h t h1 h2
    have := h t (List.mem_range.2 h2)
    simpa [h1] using this
  · intro h t ht
    by_cases h1 : j < t
    · simp [h1, h t h1 (List.mem_range.1 ht)]
    · simp [h1]
/-- whether a call ahead of i is the last one of an entry's key -/
def seen (K : Nat → ByteArray) (N i : Nat) (e : ByteArray × Int) : Bool := (List.range i).any fun j => lastB K N j && decide (K j = e.1)
theorem seen_succ (K : Nat → ByteArray) (N i : Nat) (e : ByteArray × Int) : seen K N (i + 1) e = (seen K N i e || (lastB K N i && decide (K i = e.1))) := by
  unfold seen
  rw [List.range_succ, List.any_append]
  simp
/-- how many entries' last calls stand ahead of i -/
def cnt (X : Nat → Int) (K : Nat → ByteArray) (V : Nat → Int) (N i : Nat) : Nat := ((run X K V N).filter (seen K N i)).length
theorem cnt_zero (X : Nat → Int) (K : Nat → ByteArray) (V : Nat → Int) (N : Nat) : cnt X K V N 0 = 0 := by
  unfold cnt
  rw [List.length_eq_zero_iff, List.filter_eq_nil_iff]
  intro e _
  simp [seen]
theorem cnt_all (X : Nat → Int) (K : Nat → ByteArray) (V : Nat → Int) (N : Nat) : cnt X K V N N = (run X K V N).length := by
  unfold cnt
  congr 1
  rw [List.filter_eq_self]
  intro e he
  obtain ⟨i, h1, h2, _, rfl⟩ := (run_mem X K V e N).1 he
  unfold seen
  rw [List.any_eq_true]
  exact ⟨i, List.mem_range.2 h1, by simp [lastB_iff.2 h2]⟩
theorem cnt_le (X : Nat → Int) (K : Nat → ByteArray) (V : Nat → Int) (N i : Nat) : cnt X K V N i ≤ N := by
  have h1 := List.length_filter_le (seen K N i) (run X K V N)
  have h2 := run_len X K V N
  unfold cnt; omega
theorem cnt_skip {X : Nat → Int} {K : Nat → ByteArray} {V : Nat → Int} {N i : Nat} (h : ¬ Last K N i) : cnt X K V N (i + 1) = cnt X K V N i := by
  unfold cnt
  congr 2
  funext e
  have : lastB K N i = false := by
    cases g : lastB K N i with
    | false => rfl
    | true => exact absurd (lastB_iff.1 g) h
  rw [seen_succ, this]; simp
theorem cnt_none {X : Nat → Int} {K : Nat → ByteArray} {V : Nat → Int} {N i : Nat} (hi : i < N) (hl : Last K N i) (hx : X i = 3) : cnt X K V N (i + 1) = cnt X K V N i := by
  unfold cnt
  congr 1
  refine List.filter_congr fun e he => ?_
  obtain ⟨j, h1, h2, h3, rfl⟩ := (run_mem X K V e N).1 he
  have : ¬ K i = K j := fun g => by
    have := last_one hl h2 hi h1 g
    rw [← this] at h3
    exact h3 hx
  rw [seen_succ]; simp [this]
theorem cnt_more {X : Nat → Int} {K : Nat → ByteArray} {V : Nat → Int} {N i : Nat} (hi : i < N) (hl : Last K N i) (hx : X i ≠ 3) : cnt X K V N (i + 1) = cnt X K V N i + 1 := by
  have hm := (run_mem X K V (K i, V i) N).2 ⟨i, hi, hl, hx, rfl⟩
  have hR := run_rises X K V N
  unfold cnt
  obtain ⟨l, r, e⟩ := List.append_of_mem hm
  rw [e] at hR ⊢
  obtain ⟨_, _, h3, h4⟩ := rises_mid hR
  have ho : ∀ a : ByteArray × Int, a.1 ≠ K i → seen K N (i + 1) a = seen K N i a := fun a ha => by rw [seen_succ, decide_eq_false (fun g : K i = a.1 => ha g.symm)]; simp
  have h5 : seen K N (i + 1) (K i, V i) = true := by rw [seen_succ]; simp [lastB_iff.2 hl]
  have h6 : seen K N i (K i, V i) = false := by
    unfold seen
    rw [List.any_eq_false]
    intro j hj
    have hj' := List.mem_range.1 hj
    cases g : lastB K N j with
    | false => simp
    | true =>
      have := lastB_iff.1 g i hj' hi
      simpa using fun e : K j = K i => this e.symm
  rw [List.filter_append, List.filter_append, List.filter_cons, List.filter_cons, h5, h6]
  rw [List.filter_congr (l := l) (fun a ha => ho a (lt_ne (h3 a ha))), List.filter_congr (l := r) (fun a ha => ho a (lt_ne (h4 a ha)).symm)]
  simp
  omega
end Go.Proofs.Ytkdghmbglaghlaa.Sh
