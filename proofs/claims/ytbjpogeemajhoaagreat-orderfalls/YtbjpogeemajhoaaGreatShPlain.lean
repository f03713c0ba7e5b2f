/-
  Rising lists in plain words: a list of entries whose keys rise; an entry put in, taken out, found; trees that hold such a list. Conditions: none.
-/
import Derived.Test.YtbjpogeemajhoaaGreatRows
import Derived.Test.YtbjpogeemajhoaaGreatPaPlain
import Derived.Laws.Strings
namespace Go.Proofs.YtbjpogeemajhoaaGreat.Sh
open Go

/-- keys that stand in an order -/
class Key (K : Type) extends Inhabited K where
  dec : DecidableEq K
  lt : K → K → Bool
  irr : ∀ a, lt a a = false
  tri : ∀ a b, lt a b = true ∨ a = b ∨ lt b a = true
  tra : ∀ a b c, lt a b = true → lt b c = true → lt a c = true
instance {K : Type} [Key K] : DecidableEq K := Key.dec
open Key (lt)
/-- entries that have a key -/
class Ent (E : Type) (K : outParam Type) extends Inhabited E where
  key : E → K
open Ent (key)

instance : Key Int := { dec := inferInstance, default := 0, lt := fun a b => decide (a < b), irr := fun _ => by simp, tri := fun _ _ => by simp; omega, tra := fun _ _ _ h g => by simp at *; omega }
instance : Ent Int Int := { default := 0, key := fun a => a }
theorem bytes_ext {a b : ByteArray} (h : a.toList = b.toList) : a = b := by
  rw [ByteArray.toList_eq, ByteArray.toList_eq] at h
  cases a; cases b
  simpa using h
theorem bytes_tri (a b : ByteArray) : Op.bytesLess a.toList b.toList = true ∨ a = b ∨ Op.bytesLess b.toList a.toList = true := by
  by_cases h : a = b
  · exact Or.inr (Or.inl h)
  · have := Pa.less_total a.toList b.toList (fun e => h (bytes_ext e))
    cases hb : Op.bytesLess b.toList a.toList with
    | true => exact Or.inr (Or.inr rfl)
    | false => rw [hb] at this; exact Or.inl this
instance : Key ByteArray := { dec := inferInstance, default := ByteArray.empty, lt := fun a b => Op.bytesLess a.toList b.toList, irr := fun _ => Pa.less_irrefl _, tri := bytes_tri, tra := fun _ _ _ h g => Pa.less_trans _ _ _ h g }
instance : Ent ByteArray ByteArray := { default := ByteArray.empty, key := fun a => a }
instance : Ent (ByteArray × Int) ByteArray := { default := (ByteArray.empty, 0), key := fun a => a.1 }
instance : Ent (Int × Option Addr) Int := { default := (0, none), key := fun a => a.1 }

section
variable {E K : Type} [Key K] [Ent E K]

theorem lt_asym {a b : K} (h : lt a b = true) : lt b a = false := by
  cases g : lt b a with
  | false => rfl
  | true => have := Key.tra _ _ _ h g; rw [Key.irr] at this; cases this
theorem lt_ne {a b : K} (h : lt a b = true) : a ≠ b := fun e => by rw [e, Key.irr] at h; cases h

/-- the keys rise -/
def Rises (l : List E) : Prop := l.Pairwise fun a b => lt (key a) (key b) = true
/-- an entry put in, in the place of what has its key -/
def ins (e : E) : List E → List E
  | [] => [e]
  | a :: r => if lt (key e) (key a) then e :: a :: r else if lt (key a) (key e) then a :: ins e r else e :: r
/-- whatever has a key taken out -/
def del (k : K) (l : List E) : List E := l.filter fun a => !decide (key a = k)
/-- what has a key -/
def fnd (k : K) (l : List E) : Option E := l.find? fun a => decide (key a = k)
/-- whether anything has a key -/
def has (k : K) (l : List E) : Bool := l.any fun a => decide (key a = k)

theorem has_iff {k : K} {l : List E} : has k l = true ↔ ∃ a ∈ l, key a = k := by simp [has]
theorem has_fnd (k : K) (l : List E) : has k l = (fnd k l).isSome := by
  unfold has fnd
  induction l with
  | nil => rfl
  | cons a r ih => rw [List.any_cons, List.find?_cons, ih]; cases decide (key a = k) <;> rfl
theorem fnd_key {k : K} {l : List E} {a : E} (h : fnd k l = some a) : key a = k ∧ a ∈ l := by
  have h1 := List.find?_some h
  exact ⟨by simpa using h1, List.mem_of_find?_eq_some h⟩

theorem rises_mid {l r : List E} {e : E} (h : Rises (l ++ e :: r)) : Rises l ∧ Rises r ∧ (∀ a ∈ l, lt (key a) (key e) = true) ∧ (∀ b ∈ r, lt (key e) (key b) = true) := by
  unfold Rises at *
  rw [List.pairwise_append, List.pairwise_cons] at h
  exact ⟨h.1, h.2.1.2, fun a ha => h.2.2 a ha e (by simp), h.2.1.1⟩
theorem rises_mk {l r : List E} {e : E} (h1 : Rises l) (h2 : Rises r) (h3 : ∀ a ∈ l, lt (key a) (key e) = true) (h4 : ∀ b ∈ r, lt (key e) (key b) = true) : Rises (l ++ e :: r) := by
  unfold Rises at *
  rw [List.pairwise_append, List.pairwise_cons]
  refine ⟨h1, ⟨h4, h2⟩, fun a ha b hb => ?_⟩
  rcases List.mem_cons.1 hb with rfl | hb
  · exact h3 a ha
  · exact Key.tra _ _ _ (h3 a ha) (h4 b hb)

theorem ins_left (e a : E) (r : List E) (h : lt (key e) (key a) = true) : ∀ l : List E, ins e (l ++ a :: r) = ins e l ++ a :: r
  | [] => by simp [ins, h]
  | b :: l => by
    simp only [List.cons_append, ins]
    split
    · simp
    · split
      · rw [ins_left e a r h l]; simp
      · simp
theorem ins_right (e a : E) (r : List E) (h : lt (key a) (key e) = true) : ∀ l : List E, (∀ b ∈ l, lt (key b) (key a) = true) → ins e (l ++ a :: r) = l ++ a :: ins e r
  | [], _ => by simp [ins, h, lt_asym h]
  | b :: l, hl => by
    have hb := Key.tra _ _ _ (hl b (by simp)) h
    simp only [List.cons_append, ins]
    rw [if_neg (by rw [lt_asym hb]; simp), if_pos hb, ins_right e a r h l (fun c hc => hl c (by simp [hc]))]
theorem ins_here (e a : E) (r : List E) (h : key e = key a) : ∀ l : List E, (∀ b ∈ l, lt (key b) (key a) = true) → ins e (l ++ a :: r) = l ++ e :: r
  | [], _ => by simp [ins, h, Key.irr]
  | b :: l, hl => by
    have hb := hl b (by simp)
    rw [← h] at hb
    simp only [List.cons_append, ins]
    rw [if_neg (by rw [lt_asym hb]; simp), if_pos hb, ins_here e a r h l (fun c hc => hl c (by simp [hc]))]

theorem mem_ins {e b : E} : ∀ {l : List E}, b ∈ ins e l → b = e ∨ b ∈ l
  | [], h => by simp [ins] at h; exact Or.inl h
  | a :: r, h => by
    unfold ins at h
    split at h
    · simpa using h
    · split at h
      · rcases List.mem_cons.1 h with h | h
        · exact Or.inr (by simp [h])
        · rcases mem_ins h with h | h
          · exact Or.inl h
          · exact Or.inr (by simp [h])
      · rcases List.mem_cons.1 h with h | h
        · exact Or.inl h
        · exact Or.inr (by simp [h])
theorem rises_ins (e : E) : ∀ {l : List E}, Rises l → Rises (ins e l)
  | [], _ => by simp [ins, Rises]
  | a :: r, h => by
    have ha := (List.pairwise_cons.1 h)
    unfold ins
    split
    · rename_i h1
      refine List.pairwise_cons.2 ⟨fun b hb => ?_, h⟩
      rcases List.mem_cons.1 hb with rfl | hb
      · exact h1
      · exact Key.tra _ _ _ h1 (ha.1 b hb)
    · rename_i h1
      split
      · rename_i h2
        refine List.pairwise_cons.2 ⟨fun b hb => ?_, rises_ins e ha.2⟩
        rcases mem_ins hb with rfl | hb
        · exact h2
        · exact ha.1 b hb
      · rename_i h2
        have he : key e = key a := by
          rcases Key.tri (key e) (key a) with g | g | g
          · exact absurd g h1
          · exact g
          · exact absurd g h2
        refine List.pairwise_cons.2 ⟨fun b hb => by rw [he]; exact ha.1 b hb, ha.2⟩
theorem rises_tail {a : E} {l : List E} (h : Rises (a :: l)) : Rises l := (List.pairwise_cons.1 h).2
theorem rises_head {a : E} {l : List E} (h : Rises (a :: l)) : ∀ b ∈ l, lt (key a) (key b) = true := (List.pairwise_cons.1 h).1
theorem rises_filter (p : E → Bool) {l : List E} (h : Rises l) : Rises (l.filter p) := List.Pairwise.filter p h
theorem rises_del (k : K) {l : List E} (h : Rises l) : Rises (del k l) := rises_filter _ h

theorem fnd_none_low {k : K} {l : List E} (h : ∀ a ∈ l, lt (key a) k = true) : fnd k l = none := by
  unfold fnd; rw [List.find?_eq_none]; intro a ha; simpa using lt_ne (h a ha)
theorem fnd_none_high {k : K} {l : List E} (h : ∀ a ∈ l, lt k (key a) = true) : fnd k l = none := by
  unfold fnd; rw [List.find?_eq_none]; intro a ha; simpa using (lt_ne (h a ha)).symm
theorem del_none {k : K} {l : List E} (h : fnd k l = none) : del k l = l := by
  unfold fnd at h; rw [List.find?_eq_none] at h
  unfold del; rw [List.filter_eq_self]; intro a ha; simpa using h a ha
theorem fnd_left {k : K} {e : E} {l r : List E} (h : Rises (l ++ e :: r)) (hk : lt k (key e) = true) : fnd k (l ++ e :: r) = fnd k l ∧ del k (l ++ e :: r) = del k l ++ e :: r ∧ has k (l ++ e :: r) = has k l := by
  obtain ⟨_, _, _, h4⟩ := rises_mid h
  have hn : fnd k (e :: r) = none := fnd_none_high (fun a ha => by rcases List.mem_cons.1 ha with rfl | ha; exact hk; exact Key.tra _ _ _ hk (h4 a ha))
  have h1 : fnd k (l ++ e :: r) = fnd k l := by
    have : fnd k (l ++ e :: r) = (fnd k l).or (fnd k (e :: r)) := by simp only [fnd, List.find?_append]
    rw [this, hn]; cases fnd k l <;> rfl
  refine ⟨h1, ?_, ?_⟩
  · have : del k (l ++ e :: r) = del k l ++ del k (e :: r) := by simp only [del, List.filter_append]
    rw [this, del_none hn]
  · rw [has_fnd, has_fnd, h1]
theorem fnd_right {k : K} {e : E} {l r : List E} (h : Rises (l ++ e :: r)) (hk : lt (key e) k = true) : fnd k (l ++ e :: r) = fnd k r ∧ del k (l ++ e :: r) = l ++ e :: del k r ∧ has k (l ++ e :: r) = has k r := by
  obtain ⟨_, _, h3, _⟩ := rises_mid h
  have hn : fnd k l = none := fnd_none_low (fun a ha => Key.tra _ _ _ (h3 a ha) hk)
  have hne : key e ≠ k := lt_ne hk
  have h1 : fnd k (l ++ e :: r) = fnd k r := by
    have : fnd k (l ++ e :: r) = (fnd k l).or (fnd k (e :: r)) := by simp only [fnd, List.find?_append]
    rw [this, hn]; simp [fnd, hne]
  refine ⟨h1, ?_, ?_⟩
  · have : del k (l ++ e :: r) = del k l ++ del k (e :: r) := by simp only [del, List.filter_append]
    rw [this, del_none hn]; simp [del, hne]
  · rw [has_fnd, has_fnd, h1]
theorem fnd_here {k : K} {e : E} {l r : List E} (h : Rises (l ++ e :: r)) (hk : key e = k) : fnd k (l ++ e :: r) = some e ∧ del k (l ++ e :: r) = l ++ r ∧ has k (l ++ e :: r) = true := by
  obtain ⟨_, _, h3, h4⟩ := rises_mid h
  have hn : fnd k l = none := fnd_none_low (fun a ha => hk ▸ h3 a ha)
  have hn2 : fnd k r = none := fnd_none_high (fun a ha => hk ▸ h4 a ha)
  have h1 : fnd k (l ++ e :: r) = some e := by
    have : fnd k (l ++ e :: r) = (fnd k l).or (fnd k (e :: r)) := by simp only [fnd, List.find?_append]
    rw [this, hn]; simp [fnd, hk]
  refine ⟨h1, ?_, ?_⟩
  · have : del k (l ++ e :: r) = del k l ++ del k (e :: r) := by simp only [del, List.filter_append]
    rw [this, del_none hn]; have h5 : del k (e :: r) = del k r := by simp [del, hk]
    rw [h5, del_none hn2]
  · rw [has_fnd, h1]; rfl
theorem del_head {e : E} {r : List E} (h : Rises (e :: r)) : del (key e) (e :: r) = r := (fnd_here (l := []) h rfl).2.1

theorem length_ins (e : E) : ∀ {l : List E}, Rises l → (ins e l).length = if has (key e) l then l.length else l.length + 1
  | [], _ => by simp [ins, has]
  | a :: r, h => by
    have h' := h
    rcases Key.tri (key e) (key a) with g | g | g
    · rw [show ins e (a :: r) = e :: a :: r by simp [ins, g]]
      have hh := (fnd_left (k := key e) (l := []) h' g).2.2
      rw [show [] ++ a :: r = a :: r from rfl] at hh
      rw [hh]; simp [has]
    · rw [show ins e (a :: r) = e :: r by simp [ins, g, Key.irr]]
      have hh := (fnd_here (k := key e) (l := []) h' g.symm).2.2
      rw [show [] ++ a :: r = a :: r from rfl] at hh
      rw [hh]; simp
    · rw [show ins e (a :: r) = a :: ins e r by simp [ins, g, lt_asym g]]
      have hh := (fnd_right (k := key e) (l := []) h' g).2.2
      rw [show [] ++ a :: r = a :: r from rfl] at hh
      rw [hh, List.length_cons, length_ins e (rises_tail h)]
      split <;> simp
theorem length_del (k : K) {l : List E} (h : Rises l) : (del k l).length = if has k l then l.length - 1 else l.length := by
  induction l with
  | nil => simp [del, has]
  | cons a r ih =>
    rcases Key.tri k (key a) with g | g | g
    · have hh := fnd_left (k := k) (l := []) h g
      rw [show [] ++ a :: r = a :: r from rfl] at hh
      rw [hh.2.2, hh.2.1]; simp [has, del]
    · have hh := fnd_here (k := k) (l := []) h g.symm
      rw [show [] ++ a :: r = a :: r from rfl] at hh
      rw [hh.2.2, hh.2.1]; simp
    · have hh := fnd_right (k := k) (l := []) h g
      rw [show [] ++ a :: r = a :: r from rfl] at hh
      rw [hh.2.2, hh.2.1]
      have := ih (rises_tail h)
      simp only [List.nil_append, List.length_cons, this]
      split
      · rename_i hhas
        obtain ⟨b, hb, _⟩ := has_iff.1 hhas
        have := List.length_pos_of_mem hb
        omega
      · rfl
theorem ins_len_le (e : E) (l : List E) : (ins e l).length ≤ l.length + 1 := by
  induction l with
  | nil => simp [ins]
  | cons a r ih => 
    unfold ins
    split
    · simp
    · split
      · simp only [List.length_cons]; omega
      · simp
theorem del_len_le (k : K) (l : List E) : (del k l).length ≤ l.length := List.length_filter_le _ _

/-- two rising lists of keys with the same members are one -/
theorem rises_nodup {l : List E} (h : Rises l) : l.Nodup := h.imp (fun {a b} hab e => by rw [e, Key.irr] at hab; cases hab)
theorem rises_one : ∀ {l m : List E}, Rises l → Rises m → (∀ x, x ∈ l ↔ x ∈ m) → l = m
  | [], [], _, _, _ => rfl
  | [], b :: m, _, _, h => by have := (h b).2 (by simp); cases this
  | a :: l, [], _, _, h => by have := (h a).1 (by simp); cases this
  | a :: l, b :: m, hl, hm, h => by
    have hab : a = b := by
      rcases List.mem_cons.1 ((h a).1 (by simp)) with e | ha
      · exact e
      · rcases List.mem_cons.1 ((h b).2 (by simp)) with e | hb
        · exact e.symm
        · have h1 := rises_head hl b hb
          have h2 := rises_head hm a ha
          rw [lt_asym h1] at h2; cases h2
    subst hab
    congr 1
    refine rises_one (rises_tail hl) (rises_tail hm) fun x => ⟨fun hx => ?_, fun hx => ?_⟩
    · rcases List.mem_cons.1 ((h x).1 (by simp [hx])) with e | g
      · have := rises_head hl x hx; rw [e, Key.irr] at this; cases this
      · exact g
    · rcases List.mem_cons.1 ((h x).2 (by simp [hx])) with e | g
      · have := rises_head hm x hx; rw [e, Key.irr] at this; cases this
      · exact g

/-- a tree of entries, and what it holds from left to right -/
inductive Tr (E : Type) where
  | nil
  | node (l : Tr E) (e : E) (r : Tr E)
def Tr.flat : Tr E → List E
  | .nil => []
  | .node l e r => l.flat ++ e :: r.flat
/-- how many: a function of its own, so that no walk unfolds lists -/
def Tr.num (t : Tr E) : Nat := t.flat.length
theorem num_node (l r : Tr E) (e : E) : (Tr.node l e r).num = l.num + 1 + r.num := by simp [Tr.num, Tr.flat]; omega
theorem num_nil : (Tr.nil : Tr E).num = 0 := rfl
end

end Go.Proofs.YtbjpogeemajhoaaGreat.Sh
