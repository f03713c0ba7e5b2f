/-
  Layer 3 as plain functions: digits, ids, what is found among them; of no program. Conditions: none.
-/
import Derived.Lib.Bytealg
import Derived.Lib.Strings
import Derived.KernelRfl
namespace Go.Proofs.YtdmpkgdlelagjaaGreatDoor.Ident
open Go

/-- a text's byte at a place -/
def by_ (s : ByteArray) (k : Nat) : UInt8 := s.data.toList.getD k 0
/-- the sixteen digits, each at the place of its value -/
def letters : ByteArray := ⟨#[48, 49, 50, 51, 52, 53, 54, 55, 56, 57, 97, 98, 99, 100, 101, 102]⟩
/-- a digit's value; -1 of a byte that is none -/
def val (c : UInt8) : Int := if 48 ≤ c.toNat ∧ c.toNat ≤ 57 then (c.toNat : Int) - 48 else if 97 ≤ c.toNat ∧ c.toNat ≤ 102 then (c.toNat : Int) - 87 else -1
/-- the digit of a value -/
def dg (n : Nat) : UInt8 := if n < 10 then UInt8.ofNat (48 + n) else UInt8.ofNat (87 + n)
theorem all_bytes {p : UInt8 → Bool} (h : (List.range 256).all (fun n => p (UInt8.ofNat n)) = true) (c : UInt8) : p c = true := by
  have := List.all_eq_true.1 h c.toNat (List.mem_range.2 c.toNat_lt)
  simpa using this
theorem val_index (c : UInt8) : Lib.indexByte letters.data.toList c = val c := by
  have := all_bytes (p := fun c => decide (Lib.indexByte letters.data.toList c = val c)) (by kernel_rfl) c
  exact of_decide_eq_true this
theorem val_range (c : UInt8) : -1 ≤ val c ∧ val c ≤ 15 := by
  unfold val; split
  · omega
  · split <;> omega
theorem dg_toNat (n : Nat) (h : n < 16) : (dg n).toNat = if n < 10 then 48 + n else 87 + n := by
  unfold dg; split <;> simp <;> omega
theorem val_dg (n : Nat) (h : n < 16) : val (dg n) = (n : Int) := by
  unfold val; rw [dg_toNat n h]
  by_cases g : n < 10
  · rw [if_pos g, if_pos (by omega)]; omega
  · rw [if_neg g, if_neg (by omega), if_pos (by omega)]; omega
theorem dg_val (c : UInt8) (h : 0 ≤ val c) : dg (val c).toNat = c := by
  have := all_bytes (p := fun c => decide (val c < 0) || dg (val c).toNat == c) (by kernel_rfl) c
  simp at this
  rcases this with h1 | h1
  · omega
  · exact h1
theorem dg_inj {m n : Nat} (hm : m < 16) (hn : n < 16) (h : dg m = dg n) : m = n := by
  have := congrArg val h
  rw [val_dg m hm, val_dg n hn] at this; omega
theorem dg_lt {m n : Nat} (hm : m < 16) (hn : n < 16) : (dg m).toNat < (dg n).toNat ↔ m < n := by
  rw [dg_toNat m hm, dg_toNat n hn]; split <;> split <;> omega
theorem letters_at (n : Nat) (h : n < 16) : letters.data.toList.getD n 0 = dg n := by
  have : (List.range 16).all (fun n => letters.data.toList.getD n 0 == dg n) = true := by kernel_rfl
  have := List.all_eq_true.1 this n (List.mem_range.2 h)
  simpa using this

/-- an id's digit at a place -/
def digit (s : ByteArray) (k : Nat) : Nat := if k % 2 = 0 then (by_ s (k / 2)).toNat / 16 else (by_ s (k / 2)).toNat % 16
theorem digit_lt (s : ByteArray) (k : Nat) : digit s k < 16 := by
  have := (by_ s (k / 2)).toNat_lt
  unfold digit; split <;> omega
theorem digit_even (s : ByteArray) (k : Nat) : digit s (2 * k) = (by_ s k).toNat / 16 := by
  unfold digit; rw [if_pos (by omega), show 2 * k / 2 = k by omega]
theorem digit_odd (s : ByteArray) (k : Nat) : digit s (2 * k + 1) = (by_ s k).toNat % 16 := by
  unfold digit; rw [if_neg (by omega), show (2 * k + 1) / 2 = k by omega]
/-- Digit of the document -/
def digitAt (s : ByteArray) (k : Int) : Int := if s.size = 32 ∧ 0 ≤ k ∧ k < 64 then (digit s k.toNat : Int) else -1
theorem digitAt_in {s : ByteArray} (hs : s.size = 32) {k : Nat} (hk : k < 64) : digitAt s k = digit s k := by
  unfold digitAt; rw [if_pos ⟨hs, by omega, by omega⟩]; simp
theorem digitAt_out {s : ByteArray} {k : Int} (h : ¬ (s.size = 32 ∧ 0 ≤ k ∧ k < 64)) : digitAt s k = -1 := if_neg h

/-- the first k digits, written -/
def hexTo (s : ByteArray) : Nat → List UInt8
  | 0 => []
  | k + 1 => hexTo s k ++ [dg (digit s k)]
theorem hexTo_length (s : ByteArray) : ∀ k, (hexTo s k).length = k
  | 0 => rfl
  | k + 1 => by simp [hexTo, hexTo_length s k]
theorem hexTo_getD (s : ByteArray) : ∀ n k, k < n → (hexTo s n).getD k 0 = dg (digit s k)
  | 0, k, h => by omega
  | n + 1, k, h => by
    have hl := hexTo_length s n
    rw [hexTo, List.getD_eq_getElem?_getD]
    by_cases hk : k < n
    · rw [List.getElem?_append_left (by omega), ← List.getD_eq_getElem?_getD, hexTo_getD s n k hk]
    · have : k = n := by omega
      subst this
      rw [List.getElem?_append_right (by omega), hl]; simp
def hex (s : ByteArray) : ByteArray := if s.size = 32 then ⟨(hexTo s 64).toArray⟩ else ⟨#[]⟩
theorem hex_size {s : ByteArray} (h : s.size = 32) : (hex s).size = 64 := by
  unfold hex; rw [if_pos h, ByteArray.size]; simp [hexTo_length]
theorem hex_bad {s : ByteArray} (h : s.size ≠ 32) : hex s = ⟨#[]⟩ := if_neg h
theorem hex_by {s : ByteArray} (h : s.size = 32) {k : Nat} (hk : k < 64) : by_ (hex s) k = dg (digit s k) := by
  unfold by_ hex; rw [if_pos h]
  show (hexTo s 64).toArray.toList.getD k 0 = _
  exact hexTo_getD s 64 k hk
theorem size_list (s : ByteArray) : s.size = s.data.toList.length := Lib.size_eq s
theorem ext_by {s t : ByteArray} (hs : s.size = t.size) (h : ∀ k, k < s.size → by_ s k = by_ t k) : s = t := by
  apply ByteArray.ext; apply Array.toList_inj.1
  apply List.ext_getElem
  · rw [← size_list, ← size_list, hs]
  · intro k h1 h2
    have := h k (by rw [size_list]; exact h1)
    unfold by_ at this
    rw [List.getD_eq_getElem?_getD, List.getD_eq_getElem?_getD, List.getElem?_eq_getElem h1, List.getElem?_eq_getElem h2] at this
    exact this
theorem by_of_digits {s t : ByteArray} {k : Nat} (h0 : digit s (2 * k) = digit t (2 * k)) (h1 : digit s (2 * k + 1) = digit t (2 * k + 1)) : by_ s k = by_ t k := by
  rw [digit_even, digit_even] at h0
  rw [digit_odd, digit_odd] at h1
  apply UInt8.toNat.inj
  omega
theorem ext_digits {s t : ByteArray} (hs : s.size = 32) (ht : t.size = 32) (h : ∀ k, k < 64 → digit s k = digit t k) : s = t :=
  ext_by (by omega) fun k hk => by_of_digits (h _ (by omega)) (h _ (by omega))

/-- whether all bytes of a text are digits -/
def digits (s : ByteArray) : Prop := ∀ k, k < s.size → 0 ≤ val (by_ s k)
/-- the first k bytes that digits tell -/
def unhexTo (s : ByteArray) : Nat → List UInt8
  | 0 => []
  | k + 1 => unhexTo s k ++ [UInt8.ofNat (16 * (val (by_ s (2 * k))).toNat + (val (by_ s (2 * k + 1))).toNat)]
theorem unhexTo_length (s : ByteArray) : ∀ k, (unhexTo s k).length = k
  | 0 => rfl
  | k + 1 => by simp [unhexTo, unhexTo_length s k]
theorem unhexTo_getD (s : ByteArray) : ∀ n k, k < n → (unhexTo s n).getD k 0 = UInt8.ofNat (16 * (val (by_ s (2 * k))).toNat + (val (by_ s (2 * k + 1))).toNat)
  | 0, k, h => by omega
  | n + 1, k, h => by
    have hl := unhexTo_length s n
    rw [unhexTo, List.getD_eq_getElem?_getD]
    by_cases hk : k < n
    · rw [List.getElem?_append_left (by omega), ← List.getD_eq_getElem?_getD, unhexTo_getD s n k hk]
    · have : k = n := by omega
      subst this
      rw [List.getElem?_append_right (by omega), hl]; simp
def unhexed (s : ByteArray) : ByteArray := ⟨(unhexTo s 32).toArray⟩
theorem unhexed_size (s : ByteArray) : (unhexed s).size = 32 := by
  unfold unhexed; rw [ByteArray.size]; simp [unhexTo_length]
theorem unhexed_by (s : ByteArray) {k : Nat} (hk : k < 32) : by_ (unhexed s) k = UInt8.ofNat (16 * (val (by_ s (2 * k))).toNat + (val (by_ s (2 * k + 1))).toNat) := by
  unfold by_ unhexed
  exact unhexTo_getD s 32 k hk
/-- Unhex of the document: the id, and the error's number -/
structure IsUnhex (s r : ByteArray) (e : Int) : Prop where
  arg : s.size ≠ 64 → r = ⟨#[]⟩ ∧ e = 1
  form : s.size = 64 → ¬ digits s → r = ⟨#[]⟩ ∧ e = 4
  good : s.size = 64 → digits s → r = unhexed s ∧ e = 0
theorem IsUnhex.unique {s r r' : ByteArray} {e e' : Int} (h : IsUnhex s r e) (h' : IsUnhex s r' e') : r = r' ∧ e = e' := by
  by_cases h0 : s.size = 64
  · by_cases h1 : digits s
    · obtain ⟨rfl, rfl⟩ := h.good h0 h1
      obtain ⟨rfl, rfl⟩ := h'.good h0 h1
      exact ⟨rfl, rfl⟩
    · obtain ⟨rfl, rfl⟩ := h.form h0 h1
      obtain ⟨rfl, rfl⟩ := h'.form h0 h1
      exact ⟨rfl, rfl⟩
  · obtain ⟨rfl, rfl⟩ := h.arg h0
    obtain ⟨rfl, rfl⟩ := h'.arg h0
    exact ⟨rfl, rfl⟩
theorem unhexed_digit (s : ByteArray) (hd : digits s) (hs : s.size = 64) {k : Nat} (hk : k < 64) : (digit (unhexed s) k : Int) = val (by_ s k) := by
  have a := val_range (by_ s (2 * (k / 2)))
  have b := val_range (by_ s (2 * (k / 2) + 1))
  have a0 := hd (2 * (k / 2)) (by omega)
  have b0 := hd (2 * (k / 2) + 1) (by omega)
  unfold digit
  rw [unhexed_by s (show k / 2 < 32 by omega)]
  have e : (UInt8.ofNat (16 * (val (by_ s (2 * (k / 2)))).toNat + (val (by_ s (2 * (k / 2) + 1))).toNat)).toNat = 16 * (val (by_ s (2 * (k / 2)))).toNat + (val (by_ s (2 * (k / 2) + 1))).toNat := by
    rw [UInt8.toNat_ofNat']; apply Nat.mod_eq_of_lt; omega
  rw [e]
  by_cases h : k % 2 = 0
  · rw [if_pos h]
    rw [show 2 * (k / 2) = k by omega] at *
    omega
  · rw [if_neg h]
    rw [show 2 * (k / 2) + 1 = k by omega] at *
    omega
theorem hex_digits {s : ByteArray} (h : s.size = 32) : digits (hex s) := fun k hk => by
  rw [hex_size h] at hk
  rw [hex_by h hk, val_dg _ (digit_lt s k)]; omega
theorem unhexed_hex {s : ByteArray} (h : s.size = 32) : unhexed (hex s) = s :=
  ext_digits (unhexed_size _) h fun k hk => by
    have := unhexed_digit (hex s) (hex_digits h) (hex_size h) hk
    rw [hex_by h hk, val_dg _ (digit_lt s k)] at this
    omega
theorem hex_unhexed {s : ByteArray} (hs : s.size = 64) (hd : digits s) : hex (unhexed s) = s :=
  ext_by (by rw [hex_size (unhexed_size s), hs]) fun k hk => by
    rw [hex_size (unhexed_size s)] at hk
    have h1 := unhexed_digit s hd hs hk
    rw [hex_by (unhexed_size s) hk, show digit (unhexed s) k = (val (by_ s k)).toNat by omega]
    exact dg_val _ (hd k (by omega))
theorem hex_inj {s t : ByteArray} (hs : s.size = 32) (ht : t.size = 32) (h : hex s = hex t) : s = t := by
  rw [← unhexed_hex hs, h, unhexed_hex ht]

/-- how many of the first digits are the same -/
structure IsShare (a b : ByteArray) (k : Nat) : Prop where
  none : ¬ (a.size = 32 ∧ b.size = 32) → k = 0
  le : k ≤ 64
  same : ∀ j, j < k → digit a j = digit b j
  unlike : a.size = 32 → b.size = 32 → k < 64 → digit a k ≠ digit b k
theorem IsShare.unique {a b : ByteArray} {k k' : Nat} (h : IsShare a b k) (h' : IsShare a b k') : k = k' := by
  by_cases h0 : a.size = 32 ∧ b.size = 32
  · have a1 := h.le
    have a2 := h'.le
    rcases Nat.lt_trichotomy k k' with g | g | g
    · exact absurd (h'.same k g) (h.unlike h0.1 h0.2 (by omega))
    · exact g
    · exact absurd (h.same k' g) (h'.unlike h0.1 h0.2 (by omega))
  · rw [h.none h0, h'.none h0]
theorem IsShare.symm {a b : ByteArray} {k : Nat} (h : IsShare a b k) : IsShare b a k :=
  ⟨fun g => h.none fun g' => g ⟨g'.2, g'.1⟩, h.le, fun j hj => (h.same j hj).symm, fun h1 h2 h3 => (h.unlike h2 h1 h3).symm⟩
theorem IsShare.all {a b : ByteArray} {k : Nat} (h : IsShare a b k) (ha : a.size = 32) (hb : b.size = 32) : k = 64 ↔ a = b :=
  ⟨fun e => ext_digits ha hb fun j hj => h.same j (by omega), fun e => by
    subst e
    have := h.le
    rcases Nat.lt_or_ge k 64 with g | g
    · exact absurd rfl (h.unlike ha hb g)
    · omega⟩

/-- whether an id begins with digits -/
def has (id d : ByteArray) : Prop := id.size = 32 ∧ d.size ≤ 64 ∧ ∀ j, j < d.size → val (by_ d j) = (digit id j : Int)
instance (id d : ByteArray) : Decidable (has id d) := inferInstanceAs (Decidable (_ ∧ _ ∧ ∀ j, j < d.size → _))
theorem has.digits {id d : ByteArray} (h : has id d) : digits d := fun k hk => by rw [h.2.2 k hk]; omega
/-- the first n bytes -/
theorem by_extract (s : ByteArray) (n k : Nat) (h : k < n) : by_ (s.extract 0 n) k = by_ s k := by
  unfold by_
  rw [ByteArray.data_extract, Array.toList_extract, List.getD_eq_getElem?_getD, List.getD_eq_getElem?_getD]
  simp [List.getElem?_take_of_lt h]
theorem size_extract (s : ByteArray) (n : Nat) (h : n ≤ s.size) : (s.extract 0 n).size = n := by
  rw [ByteArray.size_extract]; omega
theorem has_hex {id x : ByteArray} (hid : id.size = 32) {n : Nat} (hn : n ≤ 64) : has x ((hex id).extract 0 n) ↔ x.size = 32 ∧ ∀ j, j < n → digit id j = digit x j := by
  have hz : ((hex id).extract 0 n).size = n := size_extract _ _ (by rw [hex_size hid]; exact hn)
  unfold has
  rw [hz]
  constructor
  · rintro ⟨h1, _, h3⟩
    refine ⟨h1, fun j hj => ?_⟩
    have := h3 j hj
    rw [by_extract _ _ _ hj, hex_by hid (by omega), val_dg _ (digit_lt id j)] at this
    omega
  · rintro ⟨h1, h3⟩
    refine ⟨h1, hn, fun j hj => ?_⟩
    rw [by_extract _ _ _ hj, hex_by hid (by omega), val_dg _ (digit_lt id j), h3 j hj]
theorem hex_whole {id : ByteArray} (hid : id.size = 32) : (hex id).extract 0 64 = hex id :=
  ext_by (by rw [size_extract _ _ (by rw [hex_size hid]; omega), hex_size hid]) fun k hk => by
    rw [size_extract _ _ (by rw [hex_size hid]; omega)] at hk
    exact by_extract _ _ _ hk
theorem has_share {id x : ByteArray} (hid : id.size = 32) {n k : Nat} (hn : n ≤ 64) (hx : x.size = 32) (hk : IsShare id x k) : has x ((hex id).extract 0 n) ↔ n ≤ k := by
  rw [has_hex hid hn]
  constructor
  · rintro ⟨_, h⟩
    rcases Nat.lt_or_ge k n with g | g
    · exact absurd (h k g) (hk.unlike hid hx (by omega))
    · exact g
  · intro h
    exact ⟨hx, fun j hj => hk.same j (by omega)⟩

/-- Find of the document -/
structure IsFind (T : Nat → ByteArray) (len : Nat) (d r : ByteArray) (e : Int) : Prop where
  form : ¬ (d.size ≤ 64 ∧ digits d) → r = ⟨#[]⟩ ∧ e = 4
  none : d.size ≤ 64 → digits d → (∀ j, j < len → ¬ has (T j) d) → r = ⟨#[]⟩ ∧ e = 12
  many : d.size ≤ 64 → digits d → ∀ i j, i < len → j < len → has (T i) d → has (T j) d → T i ≠ T j → r = ⟨#[]⟩ ∧ e = 6
  one : d.size ≤ 64 → digits d → ∀ i, i < len → has (T i) d → (∀ j, j < len → has (T j) d → T j = T i) → r = T i ∧ e = 0
theorem IsFind.unique {T : Nat → ByteArray} {len : Nat} {d r r' : ByteArray} {e e' : Int} (h : IsFind T len d r e) (h' : IsFind T len d r' e') : r = r' ∧ e = e' := by
  by_cases h0 : d.size ≤ 64 ∧ digits d
  · obtain ⟨h1, h2⟩ := h0
    by_cases hn : ∀ j, j < len → ¬ has (T j) d
    · obtain ⟨rfl, rfl⟩ := h.none h1 h2 hn
      obtain ⟨rfl, rfl⟩ := h'.none h1 h2 hn
      exact ⟨rfl, rfl⟩
    · simp only [Classical.not_forall, Classical.not_not] at hn
      obtain ⟨i, hi, hh⟩ := hn
      by_cases ho : ∀ j, j < len → has (T j) d → T j = T i
      · obtain ⟨rfl, rfl⟩ := h.one h1 h2 i hi hh ho
        obtain ⟨hr, rfl⟩ := h'.one h1 h2 i hi hh ho
        exact ⟨hr.symm, rfl⟩
      · simp only [Classical.not_forall] at ho
        obtain ⟨j, hj, hj2, hne⟩ := ho
        obtain ⟨rfl, rfl⟩ := h.many h1 h2 j i hj hi hj2 hh hne
        obtain ⟨rfl, rfl⟩ := h'.many h1 h2 j i hj hi hj2 hh hne
        exact ⟨rfl, rfl⟩
  · obtain ⟨rfl, rfl⟩ := h.form h0
    obtain ⟨rfl, rfl⟩ := h'.form h0
    exact ⟨rfl, rfl⟩

/-- how many digits tell an id from the others of a list: n, four at least, and no fewer -/
structure Tells (T : Nat → ByteArray) (len : Nat) (id : ByteArray) (n : Nat) : Prop where
  four : 4 ≤ n
  le : n ≤ 64
  apart : ∀ j, j < len → T j ≠ id → ∀ k, IsShare id (T j) k → k < n
  few : n = 4 ∨ ∃ j, j < len ∧ T j ≠ id ∧ IsShare id (T j) (n - 1)
theorem share_exists (a b : ByteArray) : ∃ k, IsShare a b k := by
  by_cases h0 : a.size = 32 ∧ b.size = 32
  · have go : ∀ n, n ≤ 64 → (∀ j, j < n → digit a j = digit b j) ∨ ∃ k, k < n ∧ (∀ j, j < k → digit a j = digit b j) ∧ digit a k ≠ digit b k := by
      intro n
      induction n with
      | zero => intro _; exact Or.inl fun j hj => by omega
      | succ n ih =>
        intro hn
        rcases ih (by omega) with g | ⟨k, hk, h1, h2⟩
        · by_cases e : digit a n = digit b n
          · refine Or.inl fun j hj => ?_
            by_cases hjn : j = n
            · subst hjn; exact e
            · exact g j (by omega)
          · exact Or.inr ⟨n, by omega, g, e⟩
        · exact Or.inr ⟨k, by omega, h1, h2⟩
    rcases go 64 (by omega) with g | ⟨k, hk, h1, h2⟩
    · exact ⟨64, fun h => absurd h0 h, by omega, g, fun _ _ h => by omega⟩
    · exact ⟨k, fun h => absurd h0 h, by omega, h1, fun _ _ _ => h2⟩
  · exact ⟨0, fun _ => rfl, by omega, fun j hj => by omega, fun h1 h2 => absurd ⟨h1, h2⟩ h0⟩
theorem Tells.unique {T : Nat → ByteArray} {len : Nat} {id : ByteArray} {n n' : Nat} (h : Tells T len id n) (h' : Tells T len id n') : n = n' := by
  have a := h.four
  have a' := h'.four
  have le1 : n ≤ n' := by
    rcases h.few with g | ⟨j, hj, hne, hs⟩
    · omega
    · have := h'.apart j hj hne _ hs; omega
  have le2 : n' ≤ n := by
    rcases h'.few with g | ⟨j, hj, hne, hs⟩
    · omega
    · have := h.apart j hj hne _ hs; omega
  omega
/-- Short of the document -/
structure IsShort (T : Nat → ByteArray) (len : Nat) (id r : ByteArray) : Prop where
  none : ¬ (id.size = 32 ∧ ∃ j, j < len ∧ T j = id) → r = ⟨#[]⟩
  some : id.size = 32 → (∃ j, j < len ∧ T j = id) → ∃ n, Tells T len id n ∧ r = (hex id).extract 0 n
theorem IsShort.unique {T : Nat → ByteArray} {len : Nat} {id r r' : ByteArray} (h : IsShort T len id r) (h' : IsShort T len id r') : r = r' := by
  by_cases h0 : id.size = 32 ∧ ∃ j, j < len ∧ T j = id
  · obtain ⟨n, t, rfl⟩ := h.some h0.1 h0.2
    obtain ⟨n', t', rfl⟩ := h'.some h0.1 h0.2
    rw [t.unique t']
  · rw [h.none h0, h'.none h0]
/-- the first n digits of an id that is in the list find it just if no other one shares so many -/
theorem find_ok {T : Nat → ByteArray} {len : Nat} {id r : ByteArray} {e : Int} {n : Nat} (hid : id.size = 32) (hn : n ≤ 64) (hin : ∃ j, j < len ∧ T j = id) (h : IsFind T len ((hex id).extract 0 n) r e) :
    (e = 0 ∧ r = id ∧ ∀ j, j < len → T j ≠ id → ∀ k, IsShare id (T j) k → k < n ∨ (T j).size ≠ 32) ∨ (e = 6 ∧ r = ⟨#[]⟩ ∧ ∃ j, j < len ∧ T j ≠ id ∧ ∃ k, IsShare id (T j) k ∧ n ≤ k ∧ (T j).size = 32) := by
  obtain ⟨i, hi, hTi⟩ := hin
  have hz : ((hex id).extract 0 n).size = n := size_extract _ _ (by rw [hex_size hid]; exact hn)
  have hii : has (T i) ((hex id).extract 0 n) := by rw [hTi]; exact (has_hex hid hn).2 ⟨hid, fun _ _ => rfl⟩
  have hd := hii.digits
  by_cases ho : ∀ j, j < len → has (T j) ((hex id).extract 0 n) → T j = T i
  · obtain ⟨rfl, rfl⟩ := h.one (by omega) hd i hi hii ho
    refine Or.inl ⟨rfl, hTi, fun j hj hne k hk => ?_⟩
    by_cases hx : (T j).size = 32
    · refine Or.inl ?_
      rcases Nat.lt_or_ge k n with g | g
      · exact g
      · exact absurd ((ho j hj ((has_share hid hn hx hk).2 g)).trans hTi) hne
    · exact Or.inr hx
  · simp only [Classical.not_forall] at ho
    obtain ⟨j, hj, hj2, hne⟩ := ho
    obtain ⟨rfl, rfl⟩ := h.many (by omega) hd j i hj hi hj2 hii hne
    obtain ⟨k, hk⟩ := share_exists id (T j)
    exact Or.inr ⟨rfl, rfl, j, hj, by rw [← hTi]; exact hne, k, hk, (has_share hid hn hj2.1 hk).1 hj2, hj2.1⟩
end Go.Proofs.YtdmpkgdlelagjaaGreatDoor.Ident
