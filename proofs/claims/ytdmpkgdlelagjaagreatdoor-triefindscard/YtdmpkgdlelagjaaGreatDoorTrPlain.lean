/-
  Layer 10 as plain functions: sets of ids, those below a prefix, their sums by digits, cells, what a cell shows; of no program. Conditions: none.
-/
import Derived.Test.YtdmpkgdlelagjaaGreatDoorIdPlain
import Derived.Test.YtdmpkgdlelagjaaGreatDoorShPlain
import Derived.Test.YtdmpkgdlelagjaaGreatDoorShaPlain
namespace Go.Proofs.YtdmpkgdlelagjaaGreatDoor.Tr
open Go
open Ident (by_ val dg digit has digits)
open Sh (Rises)

/-- a set of ids -/
def IsSet (L : List ByteArray) : Prop := (∀ x ∈ L, x.size = 32) ∧ Rises L
theorem IsSet.nil : IsSet [] := ⟨fun x h => by simp at h, List.Pairwise.nil⟩
theorem IsSet.sub {L M : List ByteArray} (h : IsSet L) (hs : M.Sublist L) : IsSet M := ⟨fun x hx => h.1 x (hs.subset hx), h.2.sublist hs⟩
theorem IsSet.filter {L : List ByteArray} (h : IsSet L) (p : ByteArray → Bool) : IsSet (L.filter p) := h.sub List.filter_sublist
/-- a prefix: at most 64 digits -/
def IsPre (p : ByteArray) : Prop := p.size ≤ 64 ∧ digits p
/-- the ids below a prefix -/
def below (L : List ByteArray) (p : ByteArray) : List ByteArray := L.filter fun x => decide (has x p)
/-- the ids with a digit at a place -/
def part (L : List ByteArray) (k d : Nat) : List ByteArray := L.filter fun x => decide (digit x k = d)
/-- texts one behind another -/
def jn (L : List ByteArray) : List UInt8 := L.flatMap fun x => x.data.toList
/-- the sum of few ids -/
def few (L : List ByteArray) : ByteArray := ⟨(Sha.sum (108 :: jn L)).toArray⟩
/-- the sum of many, by their kids' sums -/
def many (K : List ByteArray) : ByteArray := ⟨(Sha.sum (107 :: jn K)).toArray⟩
/-- the sum of ids that begin alike for 64 digits less so many -/
def sm : Nat → List ByteArray → ByteArray
  | 0, L => few L
  | f + 1, L => if L.length ≤ 8 then few L else many ((List.range 16).map fun d => sm f (part L (63 - f) d))
/-- the sum of ids that begin alike for so many digits -/
def sumAt (k : Nat) (L : List ByteArray) : ByteArray := sm (64 - k) L
def kid (k : Nat) (L : List ByteArray) (d : Nat) : ByteArray := sumAt (k + 1) (part L k d)
def kids (k : Nat) (L : List ByteArray) : List ByteArray := (List.range 16).map (kid k L)
theorem kids_length (k : Nat) (L : List ByteArray) : (kids k L).length = 16 := by simp [kids]
theorem kids_at (k : Nat) (L : List ByteArray) {d : Nat} (h : d < 16) : (kids k L)[d]? = some (kid k L d) := by
  unfold kids; rw [List.getElem?_map, List.getElem?_range h]; rfl
theorem sumAt_few {k : Nat} {L : List ByteArray} (h : L.length ≤ 8) : sumAt k L = few L := by
  unfold sumAt
  cases 64 - k with
  | zero => rfl
  | succ f => rw [sm, if_pos h]
theorem sumAt_many {k : Nat} {L : List ByteArray} (h : 8 < L.length) (hk : k < 64) : sumAt k L = many (kids k L) := by
  obtain ⟨f, hf⟩ : ∃ f, 64 - k = f + 1 := ⟨63 - k, by omega⟩
  unfold sumAt
  rw [hf, sm, if_neg (by omega)]
  unfold kids kid sumAt
  rw [show 64 - (k + 1) = f by omega, show 63 - f = k by omega]
theorem few_size (L : List ByteArray) : (few L).size = 32 := by
  unfold few; rw [ByteArray.size]; simp [Sha.sum, Sha.V.bytes, Sha.bytes4]
theorem many_size (L : List ByteArray) : (many L).size = 32 := by
  unfold many; rw [ByteArray.size]; simp [Sha.sum, Sha.V.bytes, Sha.bytes4]
theorem sumAt_size (k : Nat) (L : List ByteArray) : (sumAt k L).size = 32 := by
  unfold sumAt
  cases 64 - k with
  | zero => exact few_size L
  | succ f => rw [sm]; split
              · exact few_size L
              · exact many_size _
attribute [irreducible] sumAt

/-- all begin alike for so many digits -/
def Alike (k : Nat) (L : List ByteArray) : Prop := ∀ x ∈ L, ∀ y ∈ L, ∀ j, j < k → digit x j = digit y j
theorem Alike.sub {k : Nat} {L M : List ByteArray} (h : Alike k L) (hs : M ⊆ L) : Alike k M := fun x hx y hy => h x (hs hx) y (hs hy)
theorem alike_below {L : List ByteArray} {p : ByteArray} : Alike p.size (below L p) := fun x hx y hy j hj => by
  simp only [below, List.mem_filter, decide_eq_true_eq] at hx hy
  have a := hx.2.2.2 j hj
  have b := hy.2.2.2 j hj
  omega
theorem Alike.part {k d : Nat} {L : List ByteArray} (h : Alike k L) : Alike (k + 1) (part L k d) := fun x hx y hy j hj => by
  simp only [Tr.part, List.mem_filter, decide_eq_true_eq] at hx hy
  by_cases e : j = k
  · subst e; rw [hx.2, hy.2]
  · exact h x hx.1 y hy.1 j (by omega)
theorem alike_one {L : List ByteArray} (hs : IsSet L) (h : Alike 64 L) : L.length ≤ 1 := by
  match L, hs, h with
  | [], _, _ => simp
  | [x], _, _ => simp
  | x :: y :: r, hs, h =>
    have e : x = y := Ident.ext_digits (hs.1 x (by simp)) (hs.1 y (by simp)) fun k hk => h x (by simp) y (by simp) k hk
    have := (List.pairwise_cons.1 hs.2).1 y (by simp)
    exact absurd e (Sh.lt_ne this)
theorem alike_lt {k : Nat} {L : List ByteArray} (hs : IsSet L) (h : Alike k L) (hn : 8 < L.length) : k < 64 := by
  rcases Nat.lt_or_ge k 64 with g | g
  · exact g
  · have := alike_one hs (fun x hx y hy j hj => h x hx y hy j (by omega)); omega

/-! ### ids rise by their digits -/
theorem less_at : ∀ (m : Nat) (a b : List UInt8), m < a.length → m < b.length → (∀ j, j < m → a.getD j 0 = b.getD j 0) → (a.getD m 0).toNat < (b.getD m 0).toNat → Op.bytesLess a b = true
  | 0, x :: a, y :: b, _, _, _, h => by
    simp only [List.getD_cons_zero] at h
    simp only [Op.bytesLess]
    simp [UInt8.lt_iff_toNat_lt, h]
  | m + 1, x :: a, y :: b, ha, hb, he, h => by
    have e : x = y := by simpa using he 0 (by omega)
    subst e
    have ih := less_at m a b (by simpa using ha) (by simpa using hb) (fun j hj => by simpa using he (j + 1) (by omega)) (by simpa using h)
    simp [Op.bytesLess, ih]
  | _, [], _, h, _, _, _ => by simp at h
  | _, _ :: _, [], _, h, _, _ => by simp at h
theorem less_digit {x y : ByteArray} (hx : x.size = 32) (hy : y.size = 32) {k : Nat} (hk : k < 64) (he : ∀ j, j < k → digit x j = digit y j) (h : digit x k < digit y k) : Sh.Key.lt x y = true := by
  show Op.bytesLess x.toList y.toList = true
  rw [ByteArray.toList_eq, ByteArray.toList_eq]
  have sx := Ident.size_list x
  have sy := Ident.size_list y
  refine less_at (k / 2) _ _ (by omega) (by omega) (fun j hj => ?_) ?_
  · exact Ident.by_of_digits (he _ (by omega)) (he _ (by omega))
  · show (by_ x (k / 2)).toNat < (by_ y (k / 2)).toNat
    by_cases g : k % 2 = 0
    · unfold digit at h; rw [if_pos g, if_pos g] at h; omega
    · have e := he (k - 1) (by omega)
      unfold digit at h e
      rw [if_neg g, if_neg g] at h
      rw [if_pos (by omega), if_pos (by omega), show (k - 1) / 2 = k / 2 by omega] at e
      omega
theorem digit_mono {k : Nat} {L : List ByteArray} (hs : IsSet L) (h : Alike k L) (hk : k < 64) : L.Pairwise fun x y => digit x k ≤ digit y k := by
  refine (List.pairwise_iff_forall_sublist.2 fun {a b} hab => ?_)
  have ha : a ∈ L := hab.subset (by simp)
  have hb : b ∈ L := hab.subset (by simp)
  have hlt : Sh.Key.lt a b = true := by
    have := List.pairwise_iff_forall_sublist.1 hs.2 hab
    exact this
  rcases Nat.lt_or_ge (digit b k) (digit a k) with g | g
  · have := less_digit (hs.1 b hb) (hs.1 a ha) hk (fun j hj => h b hb a ha j hj) g
    rw [Sh.lt_asym this] at hlt; cases hlt
  · exact g
/-- the ids with at least a digit at a place -/
def rest (L : List ByteArray) (k d : Nat) : List ByteArray := L.filter fun x => decide (d ≤ digit x k)
theorem rest_zero (L : List ByteArray) (k : Nat) : rest L k 0 = L := by
  unfold rest; rw [List.filter_eq_self]; simp
theorem rest_last (L : List ByteArray) (k : Nat) : rest L k 16 = [] := by
  unfold rest; rw [List.filter_eq_nil_iff]
  intro x _
  have := Ident.digit_lt x k
  simp only [decide_eq_true_eq]; omega
theorem rest_split {k d : Nat} : ∀ {L : List ByteArray}, (L.Pairwise fun x y => digit x k ≤ digit y k) → rest L k d = part L k d ++ rest L k (d + 1)
  | [], _ => rfl
  | x :: r, h => by
    obtain ⟨h1, h2⟩ := List.pairwise_cons.1 h
    have ih := rest_split (d := d) h2
    unfold rest part at *
    rcases Nat.lt_trichotomy (digit x k) d with g | g | g
    · rw [List.filter_cons_of_neg (by simp; omega), List.filter_cons_of_neg (by simp; omega), List.filter_cons_of_neg (by simp; omega), ih]
    · rw [List.filter_cons_of_pos (by simp; omega), List.filter_cons_of_pos (by simp; omega), List.filter_cons_of_neg (by simp; omega), ih]; rfl
    · have e : r.filter (fun x => decide (digit x k = d)) = [] := by
        rw [List.filter_eq_nil_iff]
        intro y hy
        have := h1 y hy
        simp only [decide_eq_true_eq]; omega
      rw [e, List.nil_append] at ih
      rw [List.filter_cons_of_pos (by simp; omega), List.filter_cons_of_neg (by simp; omega), List.filter_cons_of_pos (by simp; omega), e, ih]; rfl
/-- where a digit's ids begin is where the first one stands that has more than the digit before -/
theorem rest_at {L : List ByteArray} {k d : Nat} (h : L.Pairwise fun x y => digit x k ≤ digit y k) {n : Nat} (hn : n ≤ (rest L k d).length)
    (h1 : ∀ i (hi : i < (rest L k d).length), i < n → digit (rest L k d)[i] k ≤ d) (h2 : ∀ hi : n < (rest L k d).length, d < digit (rest L k d)[n] k) :
    n = (part L k d).length := by
  have e := rest_split (d := d) h
  have ln := congrArg List.length e
  rw [List.length_append] at ln
  rcases Nat.lt_trichotomy n (part L k d).length with g | g | g
  · have hi : n < (rest L k d).length := by omega
    have hx := h2 hi
    have : (rest L k d)[n] = (part L k d)[n] := by simp only [e]; exact List.getElem_append_left g
    rw [this] at hx
    have hm : (part L k d)[n] ∈ part L k d := List.getElem_mem g
    generalize (part L k d)[n] = y at hx hm
    simp only [part, List.mem_filter, decide_eq_true_eq] at hm
    omega
  · exact g
  · have hi : (part L k d).length < (rest L k d).length := by omega
    have hx := h1 _ hi g
    have : (rest L k d)[(part L k d).length] = (rest L k (d + 1))[0]'(by omega) := by simp only [e]; rw [List.getElem_append_right (by omega)]; simp
    rw [this] at hx
    have hm : (rest L k (d + 1))[0]'(by omega) ∈ rest L k (d + 1) := List.getElem_mem _
    simp only [rest, List.mem_filter, decide_eq_true_eq] at hm
    have := hm.2
    simp only [rest] at hx
    omega

/-! ### longer prefixes -/
/-- a prefix one digit longer -/
def longer (p : ByteArray) (d : Nat) : ByteArray := ⟨(p.data.toList ++ [dg d]).toArray⟩
theorem longer_size (p : ByteArray) (d : Nat) : (longer p d).size = p.size + 1 := by
  have := Ident.size_list p
  unfold longer; rw [ByteArray.size]; simp
theorem longer_by (p : ByteArray) (d : Nat) {k : Nat} (h : k < p.size) : by_ (longer p d) k = by_ p k := by
  have := Ident.size_list p
  unfold by_ longer
  show (p.data.toList ++ [dg d]).toArray.toList.getD k 0 = _
  rw [List.getD_eq_getElem?_getD, List.getD_eq_getElem?_getD, show (p.data.toList ++ [dg d]).toArray.toList = p.data.toList ++ [dg d] from rfl, List.getElem?_append_left (by omega)]
theorem longer_last (p : ByteArray) (d : Nat) : by_ (longer p d) p.size = dg d := by
  have := Ident.size_list p
  unfold by_ longer
  show (p.data.toList ++ [dg d]).toArray.toList.getD p.size 0 = _
  rw [List.getD_eq_getElem?_getD, show (p.data.toList ++ [dg d]).toArray.toList = p.data.toList ++ [dg d] from rfl, List.getElem?_append_right (by omega), this]; simp
theorem longer_pre {p : ByteArray} (hp : IsPre p) (h : p.size < 64) {d : Nat} (hd : d < 16) : IsPre (longer p d) := by
  refine ⟨by rw [longer_size]; omega, fun k hk => ?_⟩
  rw [longer_size] at hk
  by_cases e : k = p.size
  · subst e; rw [longer_last, Ident.val_dg d hd]; omega
  · rw [longer_by p d (by omega)]; exact hp.2 k (by omega)
theorem has_longer {x p : ByteArray} (h : p.size < 64) {d : Nat} (hd : d < 16) : has x (longer p d) ↔ has x p ∧ digit x p.size = d := by
  unfold has
  rw [longer_size]
  constructor
  · rintro ⟨h1, _, h3⟩
    refine ⟨⟨h1, by omega, fun j hj => ?_⟩, ?_⟩
    · rw [← longer_by p d hj]; exact h3 j (by omega)
    · have := h3 p.size (by omega)
      rw [longer_last, Ident.val_dg d hd] at this
      omega
  · rintro ⟨⟨h1, _, h3⟩, h4⟩
    refine ⟨h1, by omega, fun j hj => ?_⟩
    by_cases e : j = p.size
    · subst e; rw [longer_last, Ident.val_dg d hd, h4]
    · rw [longer_by p d (by omega)]; exact h3 j (by omega)
theorem below_longer {L : List ByteArray} {p : ByteArray} (h : p.size < 64) {d : Nat} (hd : d < 16) : below L (longer p d) = part (below L p) p.size d := by
  unfold below part
  rw [List.filter_filter]
  refine List.filter_congr fun x _ => ?_
  rw [Bool.eq_iff_iff]
  simp only [decide_eq_true_eq, Bool.and_eq_true]
  rw [has_longer h hd]
  exact and_comm
theorem below_none {L : List ByteArray} (hs : ∀ x ∈ L, x.size = 32) {p : ByteArray} (hp : p.size = 0) : below L p = L := by
  unfold below
  rw [List.filter_eq_self]
  intro x hx
  exact decide_eq_true ⟨hs x hx, by omega, fun j hj => by omega⟩
theorem below_set {L : List ByteArray} (h : IsSet L) (p : ByteArray) : IsSet (below L p) := h.filter _
theorem below_below (L : List ByteArray) (p : ByteArray) : below (below L p) p = below L p := by
  unfold below; rw [List.filter_filter]; simp
theorem below_nopre {L : List ByteArray} {p : ByteArray} (h : ¬ IsPre p) : below L p = [] := by
  unfold below; rw [List.filter_eq_nil_iff]
  intro x _
  simp only [decide_eq_true_eq]
  exact fun g => h ⟨g.2.1, g.digits⟩
/-- how many ids have less than a digit at a place -/
def upto (L : List ByteArray) (k d : Nat) : Nat := (L.filter fun x => decide (digit x k < d)).length
theorem upto_zero (L : List ByteArray) (k : Nat) : upto L k 0 = 0 := by
  unfold upto
  rw [List.length_eq_zero_iff, List.filter_eq_nil_iff]
  intro x _
  simp
theorem upto_next (k d : Nat) : ∀ L : List ByteArray, upto L k (d + 1) = upto L k d + (part L k d).length
  | [] => rfl
  | x :: r => by
    have ih := upto_next k d r
    unfold upto part at *
    rcases Nat.lt_trichotomy (digit x k) d with g | g | g
    · rw [List.filter_cons_of_pos (by simp; omega), List.filter_cons_of_pos (by simp; omega), List.filter_cons_of_neg (by simp; omega)]
      simp only [List.length_cons]; omega
    · rw [List.filter_cons_of_pos (by simp; omega), List.filter_cons_of_neg (by simp; omega), List.filter_cons_of_pos (by simp; omega)]
      simp only [List.length_cons]; omega
    · rw [List.filter_cons_of_neg (by simp; omega), List.filter_cons_of_neg (by simp; omega), List.filter_cons_of_neg (by simp; omega)]
      exact ih
theorem upto_all (L : List ByteArray) (k : Nat) : upto L k 16 = L.length := by
  unfold upto
  rw [List.filter_eq_self.2]
  intro x _
  have := Ident.digit_lt x k
  simp only [decide_eq_true_eq]; omega
theorem upto_le (L : List ByteArray) (k d : Nat) : upto L k d ≤ L.length := List.length_filter_le _ _

/-! ### cells -/
structure Cell where
  pre : ByteArray
  count : Int
  sum : ByteArray
  ids : List ByteArray
  kds : List ByteArray
/-- the cell of a set at a prefix -/
def cellOf (L : List ByteArray) (p : ByteArray) : Cell where
  pre := p
  count := (below L p).length
  sum := sumAt p.size (below L p)
  ids := if (below L p).length ≤ 8 then below L p else []
  kds := if (below L p).length ≤ 8 then [] else kids p.size (below L p)
/-- a cell of few ids -/
def TellsIds (c : Cell) : Prop := c.count ≤ 8 ∧ (c.ids.length : Int) = c.count ∧ c.kds.length = 0 ∧ IsSet c.ids ∧ (below c.ids c.pre).length = c.ids.length
/-- a cell of many -/
def TellsKids (c : Cell) : Prop := 8 < c.count ∧ c.count ≤ 1073741824 ∧ c.ids.length = 0 ∧ c.kds.length = 16 ∧ c.pre.size < 64 ∧ ∀ x ∈ c.kds, x.size = 32
/-- what Check answers -/
structure IsCheck (c : Cell) (n : Int) : Prop where
  form : ¬ (IsPre c.pre ∧ (TellsIds c ∨ TellsKids c)) → n = 4
  few : IsPre c.pre → TellsIds c → n = if c.sum = few c.ids then 0 else 20
  many : IsPre c.pre → TellsKids c → n = if c.sum = many c.kds then 0 else 20
theorem IsCheck.unique {c : Cell} {n m : Int} (h : IsCheck c n) (g : IsCheck c m) : n = m := by
  by_cases a : IsPre c.pre ∧ (TellsIds c ∨ TellsKids c)
  · obtain ⟨a, b | b⟩ := a
    · rw [h.few a b, g.few a b]
    · rw [h.many a b, g.many a b]
  · rw [h.form a, g.form a]
theorem not_both {c : Cell} (h : TellsIds c) (g : TellsKids c) : False := by have := h.1; have := g.1; omega
theorem IsCheck.of_form {c : Cell} (h : ¬ (IsPre c.pre ∧ (TellsIds c ∨ TellsKids c))) : IsCheck c 4 :=
  ⟨fun _ => rfl, fun a b => absurd ⟨a, Or.inl b⟩ h, fun a b => absurd ⟨a, Or.inr b⟩ h⟩
theorem IsCheck.of_few {c : Cell} {n : Int} (hp : IsPre c.pre) (h : TellsIds c) (hn : n = if c.sum = Tr.few c.ids then 0 else 20) : IsCheck c n :=
  ⟨fun g => absurd ⟨hp, Or.inl h⟩ g, fun _ _ => hn, fun _ g => absurd g fun g => not_both h g⟩
theorem IsCheck.of_many {c : Cell} {n : Int} (hp : IsPre c.pre) (h : TellsKids c) (hn : n = if c.sum = Tr.many c.kds then 0 else 20) : IsCheck c n :=
  ⟨fun g => absurd ⟨hp, Or.inr h⟩ g, fun _ g => absurd g fun g => not_both g h, fun _ _ => hn⟩
/-- a set's own cell is right -/
theorem check_cellOf {L : List ByteArray} {p : ByteArray} (hs : IsSet L) (hn : L.length ≤ 1073741824) (hp : IsPre p) : IsCheck (cellOf L p) 0 := by
  have hb := below_set hs p
  have hl : (below L p).length ≤ L.length := List.length_filter_le _ _
  by_cases h : (below L p).length ≤ 8
  · refine .of_few hp ⟨?_, ?_, ?_, ?_, ?_⟩ ?_
    · show ((below L p).length : Int) ≤ 8; omega
    · show ((if (below L p).length ≤ 8 then below L p else []).length : Int) = (below L p).length; rw [if_pos h]
    · show (if (below L p).length ≤ 8 then [] else kids p.size (below L p)).length = 0; rw [if_pos h]; rfl
    · show IsSet (if (below L p).length ≤ 8 then below L p else []); rw [if_pos h]; exact hb
    · show (below (if (below L p).length ≤ 8 then below L p else []) p).length = (if (below L p).length ≤ 8 then below L p else []).length; rw [if_pos h, below_below]
    · show 0 = if sumAt p.size (below L p) = Tr.few (if (below L p).length ≤ 8 then below L p else []) then (0 : Int) else 20
      rw [if_pos h, if_pos (sumAt_few h)]
  · have hk := alike_lt hb alike_below (by omega)
    refine .of_many hp ⟨?_, ?_, ?_, ?_, ?_, ?_⟩ ?_
    · show (8 : Int) < (below L p).length; omega
    · show ((below L p).length : Int) ≤ 1073741824; omega
    · show (if (below L p).length ≤ 8 then below L p else []).length = 0; rw [if_neg h]; rfl
    · show (if (below L p).length ≤ 8 then [] else kids p.size (below L p)).length = 16; rw [if_neg h, kids_length]
    · exact hk
    · show ∀ x ∈ (if (below L p).length ≤ 8 then [] else kids p.size (below L p)), x.size = 32
      rw [if_neg h]
      intro x hx
      simp only [kids, List.mem_map] at hx
      obtain ⟨d, _, rfl⟩ := hx
      exact sumAt_size _ _
    · show 0 = if sumAt p.size (below L p) = Tr.many (if (below L p).length ≤ 8 then [] else kids p.size (below L p)) then (0 : Int) else 20
      rw [if_neg h, if_pos (sumAt_many (by omega) hk)]

/-! ### what a cell shows -/
/-- those of a cell's ids that aren't in a set -/
def lacks (L : List ByteArray) (c : Cell) : List ByteArray := c.ids.filter fun x => !Sh.has x L
/-- whether a kid is to be asked -/
def asked (L : List ByteArray) (c : Cell) (d : Nat) : Bool := decide (c.kds.getD d ByteArray.empty ≠ kid c.pre.size (below L c.pre) d ∧ c.kds.getD d ByteArray.empty ≠ few [])
def asks (L : List ByteArray) (c : Cell) : List ByteArray := ((List.range c.kds.length).filter (asked L c)).map (longer c.pre)
end Go.Proofs.YtdmpkgdlelagjaaGreatDoor.Tr
