/-
  The fan of bytes is the fan of their ids just if each of its numbers is; what inForm's loop knows, in plain words. Conditions: none.
-/
import Derived.Test.YtliojhhiadfmiaaDoorPkBack
namespace Go.Proofs.YtliojhhiadfmiaaDoor.Pk
open Go
open Oct (empty num4 rd4 byteAt num4_size rd4_num4 rd4_range rd4_extract byteAt_range append_toList extract_toList ext_toList size_toList extract_append_right extract_append_left)

theorem rd4_list (s : ByteArray) (h : 4 ≤ s.size) : s.extract 0 4 = num4 (rd4 s) := by
  apply ext_toList
  rw [extract_toList, List.drop_zero]
  have hl := size_toList s
  match hs : s.data.toList with
  | [] => rw [hs] at hl; simp at hl; omega
  | [_] => rw [hs] at hl; simp at hl; omega
  | [_, _] => rw [hs] at hl; simp at hl; omega
  | [_, _, _] => rw [hs] at hl; simp at hl; omega
  | a :: b :: c :: d :: t =>
    have e0 : byteAt s 0 = a.toNat := by simp [byteAt, hs]
    have e1 : byteAt s 1 = b.toNat := by simp [byteAt, hs]
    have e2 : byteAt s 2 = c.toNat := by simp [byteAt, hs]
    have e3 : byteAt s 3 = d.toNat := by simp [byteAt, hs]
    have h0 := a.toNat_lt
    have h1 := b.toNat_lt
    have h2 := c.toNat_lt
    have h3 := d.toNat_lt
    unfold num4 rd4
    rw [e0, e1, e2, e3]
    have n0 : ((a.toNat : Int) + b.toNat * 256 + c.toNat * 65536 + d.toNat * 16777216) % 256 = a.toNat := by omega
    have n1 : ((a.toNat : Int) + b.toNat * 256 + c.toNat * 65536 + d.toNat * 16777216) / 256 % 256 = b.toNat := by omega
    have n2 : ((a.toNat : Int) + b.toNat * 256 + c.toNat * 65536 + d.toNat * 16777216) / 65536 % 256 = c.toNat := by omega
    have n3 : ((a.toNat : Int) + b.toNat * 256 + c.toNat * 65536 + d.toNat * 16777216) / 16777216 = d.toNat := by omega
    rw [n0, n1, n2, n3]
    simp [strOfNums]
theorem fan_eq (I : List ByteArray) (hI : I.length ≤ 1024) (P : ByteArray) (hP : P.size = 1024) : fanB I 256 = P ↔ ∀ i, i < 256 → rdAt P (4 * i) = fanN I i := by
  constructor
  · intro h i hi
    obtain ⟨c, hc⟩ := fanB_split I i 256 hi
    have hl := fanN_le I i
    have := rd_mid (fanB I i) c (fanN I i) (by omega) (by omega)
    rw [ByteArray.append_assoc, ← hc, fanB_size, h] at this
    exact this
  · intro h
    have key : ∀ k, k ≤ 256 → fanB I k = P.extract 0 (4 * k) := by
      intro k
      induction k with
      | zero =>
        intro _
        apply ext_toList
        rw [extract_toList]
        simp [fanB]
      | succ k ih =>
        intro hk
        rw [fanB, ih (by omega), ← h k (by omega)]
        have hz := piece_size P (4 * k) P.size (Nat.le_refl _)
        have e1 := rd4_list (P.extract (4 * k) P.size) (by omega)
        rw [ext_ext P _ _ _ _ (Nat.le_refl _) (by omega), Nat.add_zero] at e1
        unfold rdAt
        rw [← e1]
        apply ext_toList
        rw [append_toList, extract_toList, extract_toList, extract_toList, List.drop_zero, Nat.sub_zero, Nat.sub_zero, Nat.add_sub_cancel_left, show 4 * (k + 1) = 4 * k + 4 by omega, List.take_add]
    have := key 256 (Nat.le_refl _)
    rw [this]
    apply ext_toList
    rw [extract_toList, List.drop_zero, List.take_of_length_le]
    rw [size_toList]; omega
/-- the id ahead -/
def ahd (s : ByteArray) : Nat → ByteArray
  | 0 => empty
  | k + 1 => idAt s k
theorem lt_empty {b : ByteArray} (h : 0 < b.size) : lt empty b = true := by
  unfold lt
  have := size_toList b
  match hb : b.data.toList with
  | [] => rw [hb] at this; simp at this; omega
  | _ :: _ => rfl
theorem fits_iff {s : ByteArray} {k : Nat} (h : (idAt s k).size = 32) : Fits s k ↔ lt (ahd s k) (idAt s k) = true ∧ atAt s k = upTo s k ∧ szAt s k ≤ 131072 := by
  unfold Fits
  cases k with
  | zero =>
    have := lt_empty (b := idAt s 0) (by omega)
    constructor
    · rintro ⟨a, b, _⟩; exact ⟨this, b, a⟩
    · rintro ⟨_, b, a⟩; exact ⟨a, b, fun h => absurd h (Nat.lt_irrefl 0)⟩
  | succ k =>
    constructor
    · rintro ⟨a, b, c⟩; exact ⟨c (Nat.succ_pos k), b, a⟩
    · rintro ⟨c, b, a⟩; exact ⟨a, b, fun _ => c⟩
theorem idAt_size {s : ByteArray} (h : Begins s) {k : Nat} (hk : k < num s) : (idAt s k).size = 32 := by
  have := h.room
  unfold idAt
  rw [piece_size s _ _ (by unfold start at this; omega)]
  omega
theorem upTo_bound {s : ByteArray} : ∀ k, (∀ j, j < k → Fits s j) → upTo s k ≤ 131072 * k
  | 0, _ => Nat.zero_le _
  | k + 1, h => by
    have ih := upTo_bound k fun j hj => h j (by omega)
    have := (h k (by omega)).1
    unfold upTo
    omega
theorem ids_up {s : ByteArray} (n : Nat) (h : ∀ j, j < n → Fits s j) : UpI (idsAt s n) := by
  have step : ∀ k, k + 1 < n → lt (idAt s k) (idAt s (k + 1)) = true := fun k hk => (h (k + 1) hk).2.2 (Nat.succ_pos k)
  have far : ∀ d i, i + d + 1 < n → lt (idAt s i) (idAt s (i + d + 1)) = true := by
    intro d
    induction d with
    | zero => intro i hd; exact step i hd
    | succ d ih => intro i hd; exact lt_trans (ih i (by omega)) (step (i + d + 1) hd)
  refine List.pairwise_iff_getElem.2 ?_
  intro i j hi hj hij
  rw [idsAt_length] at hi hj
  obtain ⟨d, rfl⟩ : ∃ d, j = i + d + 1 := ⟨j - i - 1, by omega⟩
  simp only [idsAt, List.getElem_map, List.getElem_range]
  exact far d i hj
theorem ids_32 {s : ByteArray} (h : Begins s) : ∀ i ∈ idsAt s (num s), i.size = 32 := fun i hi => by
  obtain ⟨k, hk, rfl⟩ := List.mem_map.1 hi
  exact idAt_size h (List.mem_range.1 hk)
/-- how a test of the order comes out -/
theorem leq_cases (a b : ByteArray) : (lt a b = true ∧ Op.bytesLess b.toList a.toList = false ∧ (b.toList == a.toList) = false) ∨
    (lt a b = false ∧ (Op.bytesLess b.toList a.toList = true ∨ (Op.bytesLess b.toList a.toList = false ∧ (b.toList == a.toList) = true))) := by
  rw [ByteArray.toList_eq, ByteArray.toList_eq]
  rcases lt_tri a b with h | h | h
  · refine Or.inl ⟨h, lt_asymm h, ?_⟩
    rw [beq_eq_false_iff_ne]
    intro e
    rw [ext_toList e, lt_irrefl] at h; cases h
  · subst h; exact Or.inr ⟨lt_irrefl _, Or.inr ⟨lt_irrefl _, by simp⟩⟩
  · exact Or.inr ⟨lt_asymm h, Or.inl h⟩
end Go.Proofs.YtliojhhiadfmiaaDoor.Pk
