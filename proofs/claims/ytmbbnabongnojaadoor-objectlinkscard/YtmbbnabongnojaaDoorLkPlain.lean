/-
  Links in plain words: their order, what a list of links comes to that rises strictly and holds what another holds. Conditions: none.
-/
import Derived.Test.YtmbbnabongnojaaDoorRows
import Derived.Test.YtmbbnabongnojaaDoorObPlain
import Derived.Test.YtmbbnabongnojaaDoorPaPlain
import Derived.Test.YtmbbnabongnojaaDoorPaLib
import Derived.Lib.SlicesCompact
import Derived.Shelf.SlSortCmp.NoneTotal
namespace Go.Proofs.YtmbbnabongnojaaDoor.Lk
open Go Go.RowKit Pa

structure Lnk where
  kind : Int
  id : ByteArray
deriving DecidableEq
instance : Inhabited Lnk := ⟨⟨0, Oct.empty⟩⟩
def lt (a b : Lnk) : Bool := Op.bytesLess a.id.data.toList b.id.data.toList || (decide (a.id = b.id) && decide (a.kind < b.kind))
def cmpL (a b : Lnk) : Int := if cmpB a.id.data.toList b.id.data.toList = 0 then cmpI a.kind b.kind else cmpB a.id.data.toList b.id.data.toList
theorem id_eq {a b : ByteArray} : a.data.toList = b.data.toList ↔ a = b := ⟨fun h => Oct.ext_toList h, fun h => by rw [h]⟩
theorem lt_iff {a b : Lnk} : lt a b = true ↔ Op.bytesLess a.id.data.toList b.id.data.toList = true ∨ (a.id = b.id ∧ a.kind < b.kind) := by simp [lt]
theorem cmpL_lt (a b : Lnk) : decide (cmpL a b < 0) = lt a b := by
  unfold cmpL lt
  by_cases h : a.id = b.id
  · rw [h, cmpB_self, if_pos rfl, less_irrefl]
    unfold cmpI
    by_cases g : a.kind < b.kind
    · simp [g]
    · by_cases g2 : a.kind = b.kind
      · simp [g2]
      · simp [g]; split <;> omega
  · have hn : ¬ a.id.data.toList = b.id.data.toList := fun e => h (id_eq.1 e)
    have hz : ¬ cmpB a.id.data.toList b.id.data.toList = 0 := fun e => hn (cmpB_zero.1 e)
    rw [if_neg hz]
    unfold cmpB
    rw [if_neg hn]
    cases hb : Op.bytesLess a.id.data.toList b.id.data.toList <;> simp [h]
theorem lt_irrefl (a : Lnk) : lt a a = false := by simp [lt, less_irrefl]
theorem lt_trans {a b c : Lnk} (h : lt a b = true) (g : lt b c = true) : lt a c = true := by
  rw [lt_iff] at *
  rcases h with h | ⟨h1, h2⟩
  · rcases g with g | ⟨g1, g2⟩
    · exact Or.inl (less_trans _ _ _ h g)
    · exact Or.inl (by rw [← g1]; exact h)
  · rcases g with g | ⟨g1, g2⟩
    · exact Or.inl (by rw [h1]; exact g)
    · exact Or.inr ⟨h1.trans g1, by omega⟩
theorem lt_tri (a b : Lnk) : lt a b = true ∨ a = b ∨ lt b a = true := by
  rw [lt_iff, lt_iff]
  by_cases h : a.id = b.id
  · obtain ⟨k, i⟩ := a
    obtain ⟨l, j⟩ := b
    dsimp only at h ⊢
    subst h
    rcases Int.lt_trichotomy k l with g | g | g
    · exact Or.inl (Or.inr ⟨rfl, g⟩)
    · exact Or.inr (Or.inl (by rw [g]))
    · exact Or.inr (Or.inr (Or.inr ⟨rfl, g⟩))
  · have hn : ¬ a.id.data.toList = b.id.data.toList := fun e => h (id_eq.1 e)
    have := less_total _ _ hn
    cases hb : Op.bytesLess b.id.data.toList a.id.data.toList with
    | true => exact Or.inr (Or.inr (Or.inl rfl))
    | false => rw [hb] at this; exact Or.inl (Or.inl this)
theorem lt_asymm {a b : Lnk} (h : lt a b = true) : lt b a = false := by
  cases g : lt b a with
  | false => rfl
  | true => have := lt_trans h g; rw [lt_irrefl] at this; cases this
theorem swo : Sort.SWO (ltOf cmpL) where
  irrefl x := by show decide (cmpL x x < 0) = false; rw [cmpL_lt, lt_irrefl]
  trans x y z h g := by
    change decide (cmpL x y < 0) = true at h
    change decide (cmpL y z < 0) = true at g
    show decide (cmpL x z < 0) = true
    rw [cmpL_lt] at *
    exact lt_trans h g
  ntrans x y z h g := by
    change decide (cmpL x y < 0) = false at h
    change decide (cmpL y z < 0) = false at g
    show decide (cmpL x z < 0) = false
    rw [cmpL_lt] at *
    cases hx : lt x z with
    | false => rfl
    | true =>
      rcases lt_tri x y with e | e | e
      · rw [h] at e; cases e
      · subst e; rw [hx] at g; cases g
      · rcases lt_tri y z with e2 | e2 | e2
        · rw [g] at e2; cases e2
        · subst e2; rw [hx] at h; cases h
        · have := lt_trans e2 (lt_trans e hx); rw [lt_irrefl] at this; cases this
/-- strictly rising, and what another list holds -/
structure IsLinks (M D : List Lnk) : Prop where
  up : D.Pairwise fun a b => lt a b = true
  mem : ∀ l, l ∈ D ↔ l ∈ M
theorem up_unique : ∀ (D E : List Lnk), D.Pairwise (fun a b => lt a b = true) → E.Pairwise (fun a b => lt a b = true) → (∀ l, l ∈ D ↔ l ∈ E) → D = E
  | [], [], _, _, _ => rfl
  | [], b :: E, _, _, h => by have := (h b).2 (by simp); simp at this
  | a :: D, [], _, _, h => by have := (h a).1 (by simp); simp at this
  | a :: D, b :: E, hD, hE, h => by
    obtain ⟨d1, d2⟩ := List.pairwise_cons.1 hD
    obtain ⟨e1, e2⟩ := List.pairwise_cons.1 hE
    have hab : a = b := by
      rcases List.mem_cons.1 ((h a).1 (by simp)) with g | g
      · exact g
      · rcases List.mem_cons.1 ((h b).2 (by simp)) with k | k
        · exact k.symm
        · have := lt_asymm (d1 b k); rw [e1 a g] at this; cases this
    subst hab
    have ht : ∀ l, l ∈ D ↔ l ∈ E := fun l => by
      constructor
      · intro hl
        rcases List.mem_cons.1 ((h l).1 (List.mem_cons_of_mem _ hl)) with g | g
        · subst g; have := d1 l hl; rw [lt_irrefl] at this; cases this
        · exact g
      · intro hl
        rcases List.mem_cons.1 ((h l).2 (List.mem_cons_of_mem _ hl)) with g | g
        · subst g; have := e1 l hl; rw [lt_irrefl] at this; cases this
        · exact g
    rw [up_unique D E d2 e2 ht]
theorem IsLinks.unique {M D E : List Lnk} (h : IsLinks M D) (g : IsLinks M E) : D = E := up_unique D E h.up g.up fun l => (h.mem l).trans (g.mem l).symm
/-- the sorted list without its repetitions -/
theorem compact_is {d : Array Lnk} (hs : ∀ i j, i < j → j < d.size → lt d[j]! d[i]! = false) : IsLinks d.toList (Lib.compactUpTo d d.size) := by
  have key : ∀ m, m ≤ d.size → (Lib.compactUpTo d m).Pairwise (fun a b => lt a b = true) ∧ (∀ l, l ∈ Lib.compactUpTo d m ↔ ∃ i, i < m ∧ d[i]! = l) := by
    intro m
    induction m with
    | zero => intro _; refine ⟨by simp [Lib.compactUpTo], fun l => ?_⟩; simp [Lib.compactUpTo]
    | succ m ih =>
      intro hm
      obtain ⟨h1, h2⟩ := ih (by omega)
      rw [Lib.compactUpTo_succ]
      cases hk : Lib.keeps d m with
      | false =>
        have hk' : ¬ (m = 0 ∨ d[m]! ≠ d[m - 1]!) := by simpa [Lib.keeps] using hk
        have hm0 : m ≠ 0 := fun e => hk' (Or.inl e)
        have he : d[m]! = d[m - 1]! := Classical.byContradiction fun e => hk' (Or.inr e)
        simp only [Bool.false_eq_true, if_false, List.append_nil]
        refine ⟨h1, fun l => ⟨fun h => ?_, fun h => ?_⟩⟩
        · obtain ⟨i, hi, e⟩ := (h2 l).1 h; exact ⟨i, by omega, e⟩
        · obtain ⟨i, hi, e⟩ := h
          by_cases im : i = m
          · subst im; exact (h2 l).2 ⟨i - 1, by omega, by rw [← he]; exact e⟩
          · exact (h2 l).2 ⟨i, by omega, e⟩
      | true =>
        simp only [if_true]
        refine ⟨List.pairwise_append.2 ⟨h1, by simp, fun a ha b hb => ?_⟩, fun l => ⟨fun h => ?_, fun h => ?_⟩⟩
        · rw [List.mem_singleton] at hb
          subst hb
          obtain ⟨i, hi, e⟩ := (h2 a).1 ha
          subst e
          have hle := hs i m hi (by omega)
          rcases lt_tri d[i]! d[m]! with g | g | g
          · exact g
          · -- equal: then its neighbour is equal too
            exfalso
            have hk' : m = 0 ∨ d[m]! ≠ d[m - 1]! := by simpa [Lib.keeps] using hk
            rcases hk' with e0 | e0
            · omega
            · by_cases im : i = m - 1
              · subst im; exact e0 g.symm
              · have l1 := hs i (m - 1) (by omega) (by omega)
                have l2 := hs (m - 1) m (by omega) (by omega)
                rw [g] at l1
                rcases lt_tri d[m - 1]! d[m]! with q | q | q
                · rw [l1] at q; cases q
                · exact e0 q.symm
                · rw [l2] at q; cases q
          · rw [hle] at g; cases g
        · rcases List.mem_append.1 h with h | h
          · obtain ⟨i, hi, e⟩ := (h2 l).1 h; exact ⟨i, by omega, e⟩
          · rw [List.mem_singleton] at h; exact ⟨m, by omega, h.symm⟩
        · obtain ⟨i, hi, e⟩ := h
          by_cases im : i = m
          · subst im; exact List.mem_append.2 (Or.inr (by simp [e]))
          · exact List.mem_append.2 (Or.inl ((h2 l).2 ⟨i, by omega, e⟩))
  obtain ⟨h1, h2⟩ := key d.size (Nat.le_refl _)
  refine ⟨h1, fun l => (h2 l).trans ⟨fun ⟨i, hi, e⟩ => ?_, fun h => ?_⟩⟩
  · rw [← e, getElem!_pos d i hi]; simp
  · obtain ⟨i, hi, e⟩ := List.getElem_of_mem h
    have hi' : i < d.size := by simpa using hi
    exact ⟨i, hi', by rw [getElem!_pos d i hi']; simpa using e⟩
/-- a link laid into a rising list -/
def ins (x : Lnk) : List Lnk → List Lnk
  | [] => [x]
  | l :: t => if lt x l = true then x :: l :: t else l :: ins x t
theorem ins_mem (x : Lnk) : ∀ (L : List Lnk) (l : Lnk), l ∈ ins x L ↔ l = x ∨ l ∈ L
  | [], l => by simp [ins]
  | a :: t, l => by
    unfold ins
    split
    · simp
    · rw [List.mem_cons, List.mem_cons, ins_mem x t l]
      constructor
      · rintro (h | h | h) <;> simp [h]
      · rintro (h | h | h) <;> simp [h]
theorem ins_up (x : Lnk) : ∀ (L : List Lnk), L.Pairwise (fun a b => lt a b = true) → x ∉ L → (ins x L).Pairwise (fun a b => lt a b = true)
  | [], _, _ => by simp [ins]
  | a :: t, h, hx => by
    obtain ⟨h1, h2⟩ := List.pairwise_cons.1 h
    unfold ins
    split
    · rename_i hlt
      refine List.pairwise_cons.2 ⟨fun b hb => ?_, h⟩
      rcases List.mem_cons.1 hb with e | e
      · rw [e]; exact hlt
      · exact lt_trans hlt (h1 b e)
    · rename_i hlt
      have hax : lt a x = true := by
        rcases lt_tri a x with g | g | g
        · exact g
        · exact absurd (by rw [g]; simp) hx
        · exact absurd g hlt
      refine List.pairwise_cons.2 ⟨fun b hb => ?_, ins_up x t h2 (fun e => hx (List.mem_cons_of_mem _ e))⟩
      rcases (ins_mem x t b).1 hb with e | e
      · rw [e]; exact hax
      · exact h1 b e
theorem ins_none (x : Lnk) : ∀ (L : List Lnk), (∀ l ∈ L, lt x l = false) → ins x L = L ++ [x]
  | [], _ => rfl
  | a :: t, h => by
    unfold ins
    rw [if_neg (by rw [h a (by simp)]; decide), ins_none x t fun l hl => h l (List.mem_cons_of_mem _ hl)]
    rfl
theorem ins_here (x l : Lnk) (hl : lt x l = true) : ∀ (L : List Lnk), (∀ l ∈ L, lt x l = false) → ins x (L ++ [l]) = L ++ [x] ++ [l]
  | [], _ => by simp [ins, hl]
  | a :: t, h => by
    show ins x (a :: (t ++ [l])) = _
    unfold ins
    rw [if_neg (by rw [h a (by simp)]; decide), ins_here x l hl t fun l hl => h l (List.mem_cons_of_mem _ hl)]
    rfl
theorem ins_past (x l : Lnk) : ∀ (L : List Lnk), (∃ a ∈ L, lt x a = true) → ins x (L ++ [l]) = ins x L ++ [l]
  | [], h => by obtain ⟨a, h, _⟩ := h; simp at h
  | b :: t, h => by
    show ins x (b :: (t ++ [l])) = _
    unfold ins
    by_cases hb : lt x b = true
    · rw [if_pos hb, if_pos hb]; rfl
    · rw [if_neg hb, if_neg hb]
      obtain ⟨a, ha, hxa⟩ := h
      rcases List.mem_cons.1 ha with e | e
      · subst e; exact absurd hxa hb
      · rw [ins_past x l t ⟨a, e, hxa⟩]; rfl
/-- what the reference's with answers -/
def with_ (L : List Lnk) (x : Lnk) : List Lnk := if x ∈ L then L else ins x L
theorem with_is {M D : List Lnk} (h : IsLinks M D) (x : Lnk) : IsLinks (M ++ [x]) (with_ D x) := by
  unfold with_
  split
  · rename_i hx
    refine ⟨h.up, fun l => ?_⟩
    rw [List.mem_append, List.mem_singleton, h.mem l]
    exact ⟨Or.inl, fun g => g.elim id fun e => by rw [e]; exact (h.mem x).1 hx⟩
  · rename_i hx
    refine ⟨ins_up x D h.up hx, fun l => ?_⟩
    rw [ins_mem, List.mem_append, List.mem_singleton, h.mem l]
    exact or_comm
theorem IsLinks.nil : IsLinks [] [] := ⟨List.Pairwise.nil, fun _ => Iff.rfl⟩
/-- what an object names -/
def ofObj (x : Ob.Obj) : List Lnk := if x.kind = 2 then x.ents.map (fun e => ⟨e.kind, e.id⟩) else if x.kind = 3 then ⟨2, x.tree⟩ :: x.pars.map (fun p => ⟨3, p⟩) else []
def names (x : Ob.Obj) : List Lnk := if Ob.good x = true then ofObj x else []
end Go.Proofs.YtmbbnabongnojaaDoor.Lk
