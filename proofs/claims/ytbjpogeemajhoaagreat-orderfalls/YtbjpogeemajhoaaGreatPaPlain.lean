/-
  Layer 5 as plain functions: names, the pieces of a text, how paths stand and lie, which of a list can be side by side; of no program. Conditions: none.
-/
import Derived.Lib.Bytealg
import Derived.Lib.Strings
import Derived.KernelRfl
import GoSem.Op.String
namespace Go.Proofs.YtbjpogeemajhoaaGreat.Pa
open Go

abbrev Tx := List UInt8
/-- a name -/
def isName (l : Tx) : Bool := decide (1 ≤ l.length) && decide (l.length ≤ 255) && !decide (l = [46]) && !decide (l = [46, 46]) && !l.contains 47 && !l.contains 0
/-- what stands between two slashes, or the ends -/
def pieces : Tx → List Tx
  | [] => [[]]
  | c :: l => if c = 47 then [] :: pieces l else (c :: (pieces l).headD []) :: (pieces l).tail
/-- names with a slash between each two -/
def joined : List Tx → Tx
  | [] => []
  | [x] => x
  | x :: y :: l => x ++ 47 :: joined (y :: l)

theorem pieces_ne (l : Tx) : pieces l ≠ [] := by cases l <;> simp [pieces]; split <;> simp
theorem pieces_slash (a b : Tx) (h : 47 ∉ a) : pieces (a ++ 47 :: b) = a :: pieces b := by
  induction a with
  | nil => simp [pieces]
  | cons c a ih =>
    simp only [List.mem_cons, not_or] at h
    have hc : c ≠ 47 := fun e => h.1 e.symm
    simp [pieces, hc, ih h.2]
theorem pieces_one (a : Tx) (h : 47 ∉ a) : pieces a = [a] := by
  induction a with
  | nil => rfl
  | cons c a ih =>
    simp only [List.mem_cons, not_or] at h
    have hc : c ≠ 47 := fun e => h.1 e.symm
    simp [pieces, hc, ih h.2]
theorem pieces_mid (a b : Tx) : pieces (a ++ 47 :: b) = pieces a ++ pieces b := by
  induction a with
  | nil => simp [pieces]
  | cons c a ih =>
    by_cases hc : c = 47
    · simp [pieces, hc, ih]
    · have := pieces_ne a
      obtain ⟨x, l, hx⟩ := List.exists_cons_of_ne_nil this
      simp [pieces, hc, ih, hx]
theorem no_slash_of_piece (l : Tx) : ∀ p ∈ pieces l, 47 ∉ p := by
  induction l with
  | nil => simp [pieces]
  | cons c l ih =>
    by_cases hc : c = 47
    · simp [pieces, hc]; exact ih
    · obtain ⟨x, t, hx⟩ := List.exists_cons_of_ne_nil (pieces_ne l)
      rw [hx] at ih
      simp only [List.mem_cons, forall_eq_or_imp] at ih
      simp only [pieces, hc, if_false, hx, List.headD_cons, List.tail_cons, List.mem_cons, forall_eq_or_imp]
      exact ⟨fun h => h.elim (fun e => hc e.symm) ih.1, ih.2⟩
theorem joined_pieces (l : Tx) : joined (pieces l) = l := by
  induction l with
  | nil => rfl
  | cons c l ih =>
    obtain ⟨x, t, hx⟩ := List.exists_cons_of_ne_nil (pieces_ne l)
    rw [hx] at ih
    by_cases hc : c = 47
    · simp [pieces, hc, hx, joined, ih]
    · cases t with
      | nil => simp [pieces, hc, hx, joined] at ih ⊢; exact ih
      | cons y t => simp [pieces, hc, hx, joined] at ih ⊢; exact ih
theorem pieces_joined : ∀ (ps : List Tx), ps ≠ [] → (∀ p ∈ ps, 47 ∉ p) → pieces (joined ps) = ps
  | [], h, _ => absurd rfl h
  | [x], _, h => pieces_one x (h x (by simp))
  | x :: y :: l, _, h => by
    rw [joined, pieces_slash _ _ (h x (by simp)), pieces_joined (y :: l) (by simp) fun p hp => h p (List.mem_cons_of_mem _ hp)]
theorem pieces_inj {a b : Tx} (h : pieces a = pieces b) : a = b := by rw [← joined_pieces a, h, joined_pieces]
theorem joined_append : ∀ (a b : List Tx), a ≠ [] → b ≠ [] → joined (a ++ b) = joined a ++ 47 :: joined b
  | [], _, h, _ => absurd rfl h
  | [x], y :: b, _, _ => by simp [joined]
  | [x], [], _, h => absurd rfl h
  | x :: z :: a, b, _, hb => by
    have := joined_append (z :: a) b (by simp) hb
    simp only [List.cons_append, joined] at this ⊢
    rw [this]; simp

theorem name_no_slash {l : Tx} (h : isName l = true) : 47 ∉ l := by
  simp [isName] at h; exact h.1.2
theorem name_ne {l : Tx} (h : isName l = true) : l ≠ [] := by
  intro e; rw [e] at h; simp [isName] at h
theorem name_len {l : Tx} (h : isName l = true) : l.length ≤ 255 := by
  simp [isName] at h; omega

/-- what keeps a text from being a path: 30 ErrName, 33 ErrDeep, 0 nothing -/
def fault (l : Tx) : Nat := if (pieces l).all isName then if 64 < (pieces l).length then 33 else 0 else 30
def isPath (l : Tx) : Prop := fault l = 0
theorem isPath_iff {l : Tx} : isPath l ↔ (∀ p ∈ pieces l, isName p = true) ∧ (pieces l).length ≤ 64 := by
  unfold isPath fault
  split
  · rename_i h
    rw [List.all_eq_true] at h
    split
    · simp; intro _; omega
    · simp; exact ⟨h, by omega⟩
  · rename_i h
    rw [List.all_eq_true] at h
    simp; intro g; exact absurd g h
theorem fault_cases (l : Tx) : fault l = 0 ∨ fault l = 30 ∨ fault l = 33 := by
  unfold fault; split
  · split <;> simp
  · simp

/-! ### how texts stand -/
/-- bytes one by one: -1, 0, 1 -/
def cmpB (x y : Tx) : Int := if x = y then 0 else if Op.bytesLess x y then -1 else 1
/-- names one by one -/
def cmpN : List Tx → List Tx → Int
  | [], [] => 0
  | [], _ :: _ => -1
  | _ :: _, [] => 1
  | x :: xs, y :: ys => if x = y then cmpN xs ys else cmpB x y

theorem less_irrefl : ∀ l : Tx, Op.bytesLess l l = false
  | [] => rfl
  | a :: l => by simp [Op.bytesLess, less_irrefl l]
theorem less_total : ∀ x y : Tx, x ≠ y → Op.bytesLess x y = !Op.bytesLess y x
  | [], [], h => absurd rfl h
  | [], _ :: _, _ => rfl
  | _ :: _, [], _ => rfl
  | a :: x, b :: y, h => by
    simp only [Op.bytesLess]
    by_cases hab : a = b
    · subst hab
      have := less_total x y (fun e => h (by rw [e]))
      simp [this]
    · have h1 : (a == b) = false := by simpa using hab
      have h2 : (b == a) = false := by simpa using (Ne.symm hab)
      have h3 : a.toNat ≠ b.toNat := fun e => hab (UInt8.toNat.inj e)
      simp only [h1, h2, Bool.false_and, Bool.or_false, UInt8.lt_iff_toNat_lt]
      by_cases g : a.toNat < b.toNat
      · simp [g, show ¬ b.toNat < a.toNat by omega]
      · simp [g, show b.toNat < a.toNat by omega]
theorem less_trans : ∀ x y z : Tx, Op.bytesLess x y = true → Op.bytesLess y z = true → Op.bytesLess x z = true
  | [], [], z, h, _ => by simp [Op.bytesLess] at h
  | [], _ :: _, [], _, g => by simp [Op.bytesLess] at g
  | [], _ :: _, _ :: _, _, _ => rfl
  | _ :: _, [], z, h, _ => by simp [Op.bytesLess] at h
  | _ :: _, _ :: _, [], _, g => by simp [Op.bytesLess] at g
  | a :: x, b :: y, c :: z, h, g => by
    simp only [Op.bytesLess, Bool.or_eq_true, Bool.and_eq_true, beq_iff_eq, decide_eq_true_eq, UInt8.lt_iff_toNat_lt] at h g ⊢
    rcases h with h | ⟨rfl, h⟩
    · rcases g with g | ⟨rfl, g⟩
      · exact Or.inl (by omega)
      · exact Or.inl h
    · rcases g with g | ⟨rfl, g⟩
      · exact Or.inl g
      · exact Or.inr ⟨rfl, less_trans x y z h g⟩

theorem cmpB_self (x : Tx) : cmpB x x = 0 := by simp [cmpB]
theorem cmpB_range (x y : Tx) : cmpB x y = -1 ∨ cmpB x y = 0 ∨ cmpB x y = 1 := by
  unfold cmpB; split
  · simp
  · split <;> simp
theorem cmpB_zero {x y : Tx} : cmpB x y = 0 ↔ x = y := by
  unfold cmpB; split
  · simp_all
  · split <;> simp_all
theorem cmpB_neg (x y : Tx) : cmpB x y = -cmpB y x := by
  unfold cmpB
  by_cases h : x = y
  · simp [h]
  · have h' : ¬ y = x := fun e => h e.symm
    rw [if_neg h, if_neg h', less_total x y h]
    cases Op.bytesLess y x <;> simp
theorem cmpB_trans {x y z : Tx} (h : cmpB x y = -1) (g : cmpB y z = -1) : cmpB x z = -1 := by
  have key : ∀ {x y : Tx}, cmpB x y = -1 ↔ Op.bytesLess x y = true := by
    intro x y; unfold cmpB
    by_cases e : x = y
    · subst e; simp [less_irrefl]
    · rw [if_neg e]; cases Op.bytesLess x y <;> simp
  rw [key] at *
  exact less_trans x y z h g

theorem cmpN_range : ∀ x y : List Tx, cmpN x y = -1 ∨ cmpN x y = 0 ∨ cmpN x y = 1
  | [], [] => by simp [cmpN]
  | [], _ :: _ => by simp [cmpN]
  | _ :: _, [] => by simp [cmpN]
  | x :: xs, y :: ys => by
    unfold cmpN; split
    · exact cmpN_range xs ys
    · exact cmpB_range x y
theorem cmpN_self : ∀ x : List Tx, cmpN x x = 0
  | [] => rfl
  | x :: xs => by simp [cmpN, cmpN_self xs]
theorem cmpN_zero : ∀ {x y : List Tx}, cmpN x y = 0 → x = y
  | [], [], _ => rfl
  | [], _ :: _, h => by simp [cmpN] at h
  | _ :: _, [], h => by simp [cmpN] at h
  | x :: xs, y :: ys, h => by
    unfold cmpN at h; split at h
    · rename_i e; rw [e, cmpN_zero h]
    · rename_i e; exact absurd (cmpB_zero.1 h) e
theorem cmpN_neg : ∀ x y : List Tx, cmpN x y = -cmpN y x
  | [], [] => rfl
  | [], _ :: _ => rfl
  | _ :: _, [] => rfl
  | x :: xs, y :: ys => by
    unfold cmpN
    by_cases h : x = y
    · rw [if_pos h, if_pos h.symm]; exact cmpN_neg xs ys
    · rw [if_neg h, if_neg (fun e => h e.symm)]; exact cmpB_neg x y
theorem cmpN_trans : ∀ {x y z : List Tx}, cmpN x y = -1 → cmpN y z = -1 → cmpN x z = -1
  | [], [], _, h, _ => by simp [cmpN] at h
  | [], _ :: _, [], _, g => by simp [cmpN] at g
  | [], _ :: _, _ :: _, _, _ => rfl
  | _ :: _, [], _, h, _ => by simp [cmpN] at h
  | _ :: _, _ :: _, [], _, g => by simp [cmpN] at g
  | x :: xs, y :: ys, z :: zs, h, g => by
    unfold cmpN at h g ⊢
    by_cases e1 : x = y
    · subst e1
      rw [if_pos rfl] at h
      by_cases e2 : x = z
      · subst e2; rw [if_pos rfl] at g ⊢; exact cmpN_trans h g
      · rw [if_neg e2] at g ⊢; exact g
    · rw [if_neg e1] at h
      by_cases e2 : y = z
      · subst e2; rw [if_neg e1]; exact h
      · rw [if_neg e2] at g
        have h3 := cmpB_trans h g
        have e3 : ¬ x = z := fun e => by rw [e, cmpB_self] at h3; simp at h3
        rw [if_neg e3]; exact h3
/-- at most -/
def leN (x y : List Tx) : Prop := cmpN x y ≤ 0
theorem leN_refl (x : List Tx) : leN x x := by unfold leN; rw [cmpN_self]; decide
theorem leN_trans {x y z : List Tx} (h : leN x y) (g : leN y z) : leN x z := by
  unfold leN at *
  rcases cmpN_range x y with a | a | a
  · rcases cmpN_range y z with b | b | b
    · rw [cmpN_trans a b]; decide
    · rw [← cmpN_zero b, a]; decide
    · omega
  · rw [cmpN_zero a]; exact g
  · omega
theorem leN_antisymm {x y : List Tx} (h : leN x y) (g : leN y x) : x = y := by
  unfold leN at *
  have := cmpN_neg x y
  exact cmpN_zero (by omega)
theorem leN_total (x y : List Tx) : leN x y ∨ leN y x := by
  unfold leN
  have := cmpN_neg x y
  omega

/-! ### what lies in what -/
/-- names begin with others, with more behind them -/
def under (x y : List Tx) : Bool := x.isPrefixOf y && decide (x.length < y.length)
theorem under_iff {x y : List Tx} : under x y = true ↔ ∃ z, z ≠ [] ∧ y = x ++ z := by
  unfold under
  rw [Bool.and_eq_true, List.isPrefixOf_iff_prefix, decide_eq_true_eq]
  constructor
  · rintro ⟨⟨z, rfl⟩, h⟩
    exact ⟨z, by rintro rfl; simp at h, rfl⟩
  · rintro ⟨z, hz, rfl⟩
    have := List.length_pos_iff.2 hz
    exact ⟨⟨z, rfl⟩, by simp; omega⟩
theorem cmpN_under : ∀ {x y : List Tx}, under x y = true → cmpN x y = -1 := by
  intro x y h
  obtain ⟨z, hz, rfl⟩ := under_iff.1 h
  clear h
  induction x with
  | nil => obtain ⟨a, l, rfl⟩ := List.exists_cons_of_ne_nil hz; rfl
  | cons a x ih => simp [cmpN, ih]
/-- what stands between a folder and what lies in it lies in it -/
theorem between : ∀ {a b c : List Tx}, under a c = true → leN a b → leN b c → a = b ∨ under a b = true
  | [], [], _, _, _, _ => Or.inl rfl
  | [], _ :: _, _, _, _, _ => Or.inr (under_iff.2 ⟨_, by simp, rfl⟩)
  | x :: a, [], _, _, h, _ => by unfold leN at h; simp [cmpN] at h
  | x :: a, y :: b, c, hu, h, g => by
    obtain ⟨z, hz, rfl⟩ := under_iff.1 hu
    unfold leN at h g
    simp only [List.cons_append, cmpN] at h g
    by_cases e : x = y
    · subst e
      rw [if_pos rfl] at h g
      rcases between (a := a) (b := b) (c := a ++ z) (under_iff.2 ⟨z, hz, rfl⟩) h g with r | r
      · exact Or.inl (by rw [r])
      · obtain ⟨t, ht, rfl⟩ := under_iff.1 r
        exact Or.inr (under_iff.2 ⟨t, ht, rfl⟩)
    · rw [if_neg e] at h
      rw [if_neg (fun k => e k.symm)] at g
      have h1 := cmpB_neg x y
      have h2 : cmpB x y = 0 := by omega
      exact absurd (cmpB_zero.1 h2) e

/-- a path lies in a folder, as texts -/
def lies (f p : Tx) : Prop := ∃ r, p = f ++ 47 :: r
theorem lies_under {f p : Tx} : lies f p ↔ under (pieces f) (pieces p) = true := by
  constructor
  · rintro ⟨r, rfl⟩
    rw [pieces_mid]
    exact under_iff.2 ⟨_, pieces_ne r, rfl⟩
  · intro h
    obtain ⟨z, hz, e⟩ := under_iff.1 h
    refine ⟨joined z, ?_⟩
    rw [← joined_pieces p, e, joined_append _ _ (pieces_ne f) hz, joined_pieces]

/-! ### the document's answers -/
def compare (a b : Tx) : Int := if fault a = 0 ∧ fault b = 0 then cmpN (pieces a) (pieces b) else 0
def within (f p : Tx) : Bool := decide (fault f = 0) && decide (fault p = 0) && under (pieces f) (pieces p)

/-- two that can't be side by side -/
def clash (a b : Tx) : Prop := a = b ∨ lies a b ∨ lies b a
theorem clash_symm {a b : Tx} (h : clash a b) : clash b a := by
  rcases h with h | h | h
  · exact Or.inl h.symm
  · exact Or.inr (Or.inr h)
  · exact Or.inr (Or.inl h)
/-- what Check answers -/
inductive IsCheck (T : Nat → Tx) (n : Nat) : Nat → Nat → Prop
  | bad (i : Nat) (hi : i < n) (h : fault (T i) ≠ 0) (before : ∀ j, j < i → fault (T j) = 0) : IsCheck T n i (fault (T i))
  | twice (i : Nat) (good : ∀ j, j < n → fault (T j) = 0) (hi : i < n) (before : ∀ j k, j < k → k < i → ¬ clash (T j) (T k)) (j : Nat) (hj : j < i) (h : T j = T i) : IsCheck T n i 31
  | clash (i : Nat) (good : ∀ j, j < n → fault (T j) = 0) (hi : i < n) (before : ∀ j k, j < k → k < i → ¬ clash (T j) (T k)) (none : ∀ j, j < i → T j ≠ T i) (j : Nat) (hj : j < i) (h : clash (T j) (T i)) : IsCheck T n i 32
  | ok (good : ∀ j, j < n → fault (T j) = 0) (all : ∀ j k, j < k → k < n → ¬ clash (T j) (T k)) : IsCheck T n 0 0
theorem IsCheck.unique {T : Nat → Tx} {n i c i' c' : Nat} (h : IsCheck T n i c) (h' : IsCheck T n i' c') : i = i' ∧ c = c' := by
  cases h with
  | bad _ hi h before =>
    cases h' with
    | bad _ hi' h' before' =>
      have : i = i' := by
        rcases Nat.lt_trichotomy i i' with g | g | g
        · exact absurd (before' _ g) h
        · exact g
        · exact absurd (before _ g) h'
      subst this; exact ⟨rfl, rfl⟩
    | twice _ good => exact absurd (good _ hi) h
    | clash _ good => exact absurd (good _ hi) h
    | ok good => exact absurd (good _ hi) h
  | twice _ good hi before j hj h =>
    cases h' with
    | bad _ hi' h' before' => exact absurd (good _ hi') h'
    | twice _ good' hi' before' j' hj' h' =>
      refine ⟨?_, rfl⟩
      rcases Nat.lt_trichotomy i i' with g | g | g
      · exact absurd (Or.inl h) (before' _ _ hj g)
      · exact g
      · exact absurd (Or.inl h') (before _ _ hj' g)
    | clash _ good' hi' before' none' j' hj' h' =>
      exfalso
      rcases Nat.lt_trichotomy i i' with g | g | g
      · exact absurd (Or.inl h) (before' _ _ hj g)
      · subst g; exact none' _ hj h
      · exact absurd h' (before _ _ hj' g)
    | ok good' all => exact absurd (Or.inl h) (all _ _ hj hi)
  | clash _ good hi before none j hj h =>
    cases h' with
    | bad _ hi' h' before' => exact absurd (good _ hi') h'
    | twice _ good' hi' before' j' hj' h' =>
      exfalso
      rcases Nat.lt_trichotomy i i' with g | g | g
      · exact absurd h (before' _ _ hj g)
      · subst g; exact none _ hj' h'
      · exact absurd (Or.inl h') (before _ _ hj' g)
    | clash _ good' hi' before' none' j' hj' h' =>
      refine ⟨?_, rfl⟩
      rcases Nat.lt_trichotomy i i' with g | g | g
      · exact absurd h (before' _ _ hj g)
      · exact g
      · exact absurd h' (before _ _ hj' g)
    | ok good' all => exact absurd h (all _ _ hj hi)
  | ok good all =>
    cases h' with
    | bad _ hi' h' before' => exact absurd (good _ hi') h'
    | twice _ good' hi' before' j' hj' h' => exact absurd (Or.inl h') (all _ _ hj' hi')
    | clash _ good' hi' before' none' j' hj' h' => exact absurd h' (all _ _ hj' hi')
    | ok => exact ⟨rfl, rfl⟩
end Go.Proofs.YtbjpogeemajhoaaGreat.Pa
