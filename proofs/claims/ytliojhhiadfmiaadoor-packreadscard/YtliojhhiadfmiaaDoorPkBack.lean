/-
  What Read and Find answer, in plain words; that Read of a pack is what was packed, that Find in it tells each object and no other. Conditions: none.
-/
import Derived.Test.YtliojhhiadfmiaaDoorPkPlain
namespace Go.Proofs.YtliojhhiadfmiaaDoor.Pk
open Go
open Oct (empty num4 rd4 byteAt num4_size rd4_num4 rd4_range rd4_extract byteAt_range append_toList extract_toList ext_toList size_toList extract_append_right extract_append_left)

/-! ### pieces of bytes -/
theorem ext_ext (s : ByteArray) (a b c d : Nat) (_hb : b ≤ s.size) (hd : a + d ≤ b) : (s.extract a b).extract c d = s.extract (a + c) (a + d) := by
  apply ext_toList
  rw [extract_toList, extract_toList, extract_toList, List.drop_take, List.drop_drop, List.take_take]
  congr 1
  omega
theorem mid (a b c : ByteArray) : (a ++ b ++ c).extract a.size (a.size + b.size) = b := by
  apply ext_toList
  rw [extract_toList, append_toList, append_toList, List.append_assoc, ← size_toList a, List.drop_left, Nat.add_sub_cancel_left, ← size_toList b, List.take_left]
def rdAt (s : ByteArray) (p : Nat) : Int := rd4 (s.extract p s.size)
theorem rdAt_range (s : ByteArray) (p : Nat) : 0 ≤ rdAt s p ∧ rdAt s p < 4294967296 := rd4_range _
theorem rd_mid (a c : ByteArray) (n : Int) (h0 : 0 ≤ n) (h1 : n < 4294967296) : rdAt (a ++ num4 n ++ c) a.size = n := by
  unfold rdAt
  rw [ByteArray.append_assoc, extract_append_right, rd4_num4 n h0 h1]
/-- a number read from a piece -/
theorem rd_piece (s : ByteArray) (a b c : Nat) (hb : b ≤ s.size) (h : a + c + 4 ≤ b) : rd4 ((s.extract a b).extract c (b - a)) = rdAt s (a + c) := by
  rw [ext_ext s a b c (b - a) hb (by omega), Nat.add_sub_cancel' (by omega)]
  unfold rdAt
  rw [← rd4_extract (s.extract (a + c) s.size) 4 (Nat.le_refl _), ← rd4_extract (s.extract (a + c) b) 4 (Nat.le_refl _), ext_ext _ _ _ _ _ hb (by omega), ext_ext _ _ _ _ _ (Nat.le_refl _) (by omega)]
theorem rd_four (s : ByteArray) (p : Nat) (h : p + 4 ≤ s.size) : rd4 (s.extract p (p + 4)) = rdAt s p := by
  have := rd_piece s p (p + 4) 0 h (by omega)
  rw [ext_ext s p (p + 4) 0 _ h (by omega)] at this
  simpa using this
theorem piece_size (s : ByteArray) (a b : Nat) (h : b ≤ s.size) : (s.extract a b).size = b - a := Oct.extract_size s a b h

/-! ### what stands in bytes -/
def cnt (s : ByteArray) : Int := rdAt s 8
def idAt (s : ByteArray) (k : Nat) : ByteArray := s.extract (1036 + 44 * k) (1036 + 44 * k + 32)
def atAt (s : ByteArray) (k : Nat) : Int := rdAt s (1036 + 44 * k + 32)
def szAt (s : ByteArray) (k : Nat) : Int := rdAt s (1036 + 44 * k + 36)
def ckAt (s : ByteArray) (k : Nat) : Int := rdAt s (1036 + 44 * k + 40)
def fanAt (s : ByteArray) (i : Nat) : Int := rdAt s (12 + 4 * i)
def num (s : ByteArray) : Nat := (cnt s).toNat
def start (s : ByteArray) : Nat := 1036 + 44 * num s
structure Begins (s : ByteArray) : Prop where
  title : s.extract 0 8 = title
  least : 1 ≤ cnt s
  most : cnt s ≤ 1024
  room : start s + 32 ≤ s.size
instance (s : ByteArray) : Decidable (Begins s) :=
  if h : s.extract 0 8 = title ∧ 1 ≤ cnt s ∧ cnt s ≤ 1024 ∧ start s + 32 ≤ s.size then .isTrue ⟨h.1, h.2.1, h.2.2.1, h.2.2.2⟩ else .isFalse fun g => h ⟨g.1, g.2, g.3, g.4⟩
def upTo (s : ByteArray) : Nat → Nat
  | 0 => 0
  | k + 1 => upTo s k + (szAt s k).toNat
def datAt (s : ByteArray) (k : Nat) : ByteArray := s.extract (start s + upTo s k) (start s + upTo s k + (szAt s k).toNat)
def itmAt (s : ByteArray) (k : Nat) : Itm := ⟨idAt s k, datAt s k⟩
def itms (s : ByteArray) (k : Nat) : List Itm := (List.range k).map (itmAt s)
def idsAt (s : ByteArray) (k : Nat) : List ByteArray := (List.range k).map (idAt s)
def Fits (s : ByteArray) (k : Nat) : Prop := szAt s k ≤ 131072 ∧ atAt s k = upTo s k ∧ (0 < k → lt (idAt s (k - 1)) (idAt s k) = true)
instance (s : ByteArray) (k : Nat) : Decidable (Fits s k) := by unfold Fits; infer_instance
def Fans (s : ByteArray) : Prop := ∀ i, i < 256 → fanAt s i = fanN (idsAt s (num s)) i
instance (s : ByteArray) : Decidable (Fans s) := by unfold Fans; infer_instance
structure Form (s : ByteArray) : Prop where
  begins : Begins s
  fits : ∀ k, k < num s → Fits s k
  whole : start s + upTo s (num s) + 32 = s.size
  fans : Fans s
instance (s : ByteArray) : Decidable (Form s) :=
  if h : Begins s ∧ (∀ k, k < num s → Fits s k) ∧ start s + upTo s (num s) + 32 = s.size ∧ Fans s then .isTrue ⟨h.1, h.2.1, h.2.2.1, h.2.2.2⟩ else .isFalse fun g => h ⟨g.1, g.2, g.3, g.4⟩
def Sound (s : ByteArray) (k : Nat) : Prop := chk (datAt s k) = ckAt s k ∧ dig (datAt s k) = idAt s k
instance (s : ByteArray) (k : Nat) : Decidable (Sound s k) := by unfold Sound; infer_instance
def Sealed (s : ByteArray) : Prop := dig (s.extract 0 (s.size - 32)) = s.extract (s.size - 32) s.size
instance (s : ByteArray) : Decidable (Sealed s) := by unfold Sealed; infer_instance
/-- what Read answers -/
def rd (s : ByteArray) : List Itm × Int :=
  if s.size < 1112 then ([], 3) else if ¬ Sealed s then ([], 20) else if ¬ Form s then ([], 4) else if ∀ k, k < num s → Sound s k then (itms s (num s), 0) else ([], 20)
theorem itms_succ (s : ByteArray) (k : Nat) : itms s (k + 1) = itms s k ++ [itmAt s k] := by simp [itms, List.range_succ]
theorem idsAt_succ (s : ByteArray) (k : Nat) : idsAt s (k + 1) = idsAt s k ++ [idAt s k] := by simp [idsAt, List.range_succ]
theorem itms_length (s : ByteArray) (k : Nat) : (itms s k).length = k := by simp [itms]
theorem idsAt_length (s : ByteArray) (k : Nat) : (idsAt s k).length = k := by simp [idsAt]
theorem itms_get (s : ByteArray) (n k : Nat) (h : k < n) : (itms s n)[k]? = some (itmAt s k) := by simp [itms, h]
theorem ids_itms (s : ByteArray) (k : Nat) : ids (itms s k) = idsAt s k := by simp [ids, itms, idsAt, itmAt]
theorem upTo_le (s : ByteArray) {j k : Nat} (h : j ≤ k) : upTo s j ≤ upTo s k := by
  induction k with
  | zero => obtain rfl : j = 0 := by omega
            exact Nat.le_refl _
  | succ k ih =>
    by_cases e : j = k + 1
    · rw [e]; exact Nat.le_refl _
    · exact Nat.le_trans (ih (by omega)) (Nat.le_add_right _ _)
/-- what Find answers -/
def seek (s id : ByteArray) : Nat → Nat → Option Nat
  | 0, _ => none
  | f + 1, k => if idAt s k = id then some k else seek s id f (k + 1)
def there (s : ByteArray) (k : Nat) : ByteArray := s.extract (start s + (atAt s k).toNat) (start s + (atAt s k).toNat + (szAt s k).toNat)
def tell (s : ByteArray) (k : Nat) : ByteArray × Bool × Int :=
  if 131072 < szAt s k ∨ (s.size : Int) < start s + atAt s k + szAt s k + 32 then (empty, false, 4) else if chk (there s k) = ckAt s k then (there s k, true, 0) else (empty, false, 20)
def lo (s id : ByteArray) : Int := if byteAt id 0 = 0 then 0 else fanAt s ((byteAt id 0).toNat - 1)
def hi (s id : ByteArray) : Int := fanAt s (byteAt id 0).toNat
def told (s : ByteArray) : Option Nat → ByteArray × Bool × Int
  | none => (empty, false, 0)
  | some k => tell s k
def fnd (s id : ByteArray) : ByteArray × Bool × Int :=
  if id.size ≠ 32 then (empty, false, 1) else if s.size < 1112 then (empty, false, 3) else if ¬ Begins s then (empty, false, 4)
  else if lo s id ≤ hi s id ∧ hi s id ≤ cnt s then told s (seek s id ((hi s id).toNat - (lo s id).toNat) (lo s id).toNat) else (empty, false, 4)

/-! ### a pack is read -/
structure Good (L : List Itm) : Prop where
  pos : 0 < L.length
  len : L.length ≤ 1024
  up : Up L
  id : ∀ x ∈ L, x.id = dig x.data
  sz : ∀ x ∈ L, x.data.size ≤ 131072
  sum : sumD L ≤ 4000000
theorem Good.id32 {L : List Itm} (h : Good L) : ∀ x ∈ L, x.id.size = 32 := fun x hx => by rw [h.id x hx, dig_size]
theorem pack_four (L : List Itm) : pack L = title ++ num4 L.length ++ (fanB (ids L) 256 ++ (idxB 0 L ++ (dataB L ++ dig (body L)))) := by
  unfold pack
  rw [show body L = head L ++ dataB L from rfl]
  unfold head
  simp only [ByteArray.append_assoc]
theorem pack_cnt {L : List Itm} (h : L.length ≤ 1024) : cnt (pack L) = L.length := by
  rw [pack_four]
  exact rd_mid title _ _ (by omega) (by omega)
theorem pack_title (L : List Itm) : (pack L).extract 0 8 = title := by
  rw [pack_four, ByteArray.append_assoc]
  exact extract_append_left title _
theorem fanB_split (I : List ByteArray) (k : Nat) : ∀ n, k < n → ∃ c, fanB I n = fanB I k ++ (num4 (fanN I k) ++ c)
  | 0, h => by omega
  | n + 1, h => by
    by_cases e : k = n
    · subst e; exact ⟨empty, by rw [append_empty]; rfl⟩
    · obtain ⟨c, hc⟩ := fanB_split I k n (by omega)
      exact ⟨c ++ num4 (fanN I n), by rw [fanB, hc]; simp only [ByteArray.append_assoc]⟩
theorem pack_fan {L : List Itm} (h : L.length ≤ 1024) (i : Nat) (hi : i < 256) : fanAt (pack L) i = fanN (ids L) i := by
  obtain ⟨c, hc⟩ := fanB_split (ids L) i 256 hi
  have hl := fanN_le (ids L) i
  have hl2 : (ids L).length = L.length := List.length_map _
  have e : pack L = (title ++ num4 L.length ++ fanB (ids L) i) ++ num4 (fanN (ids L) i) ++ (c ++ (idxB 0 L ++ (dataB L ++ dig (body L)))) := by
    rw [pack_four, hc]; simp only [ByteArray.append_assoc]
  have := rd_mid (title ++ num4 L.length ++ fanB (ids L) i) (c ++ (idxB 0 L ++ (dataB L ++ dig (body L)))) (fanN (ids L) i) (by omega) (by omega)
  rw [← e] at this
  rw [show (title ++ num4 L.length ++ fanB (ids L) i).size = 12 + 4 * i by simp only [ByteArray.size_append, num4_size, fanB_size, title_size]] at this
  exact this
/-- a pack around its k-th entry -/
theorem pack_ent {L : List Itm} (h : Good L) (k : Nat) (hk : k < L.length) : ∃ a c, a.size = 1036 + 44 * k ∧ pack L = a ++ (entB L[k] (sumD (L.take k)) ++ c) := by
  refine ⟨title ++ num4 L.length ++ fanB (ids L) 256 ++ idxB 0 (L.take k), idxB (0 + sumD (L.take (k + 1))) (L.drop (k + 1)) ++ (dataB L ++ dig (body L)), ?_, ?_⟩
  · have := idxB_size (L.take k) 0 fun x hx => h.id32 x (List.mem_of_mem_take hx)
    rw [List.length_take, Nat.min_eq_left (by omega)] at this
    simp only [ByteArray.size_append, num4_size, fanB_size, title_size, this]
  · have e : idxB 0 L = idxB 0 (L.take k) ++ entB L[k] (sumD (L.take k)) ++ idxB (0 + sumD (L.take (k + 1))) (L.drop (k + 1)) := by
      rw [← idxB_next hk, ← idxB_append, List.take_append_drop]
    rw [pack_four, e]; simp only [ByteArray.append_assoc]
theorem pack_entry {L : List Itm} (h : Good L) (k : Nat) (hk : k < L.length) : idAt (pack L) k = L[k].id ∧ atAt (pack L) k = sumD (L.take k) ∧ szAt (pack L) k = L[k].data.size ∧ ckAt (pack L) k = chk L[k].data := by
  obtain ⟨a, c, ha, e⟩ := pack_ent h k hk
  have h32 := h.id32 _ (List.getElem_mem hk)
  have hs := h.sz _ (List.getElem_mem hk)
  have hsum := sumD_take_le L k
  have := h.sum
  have hc := chk_range L[k].data
  unfold entB at e
  refine ⟨?_, ?_, ?_, ?_⟩
  · have e1 : pack L = a ++ L[k].id ++ (num4 (sumD (L.take k)) ++ (num4 L[k].data.size ++ (num4 (chk L[k].data) ++ c))) := by rw [e]; simp only [ByteArray.append_assoc]
    have := mid a L[k].id (num4 (sumD (L.take k)) ++ (num4 L[k].data.size ++ (num4 (chk L[k].data) ++ c)))
    rw [← e1, ha, h32] at this
    exact this
  · have e1 : pack L = (a ++ L[k].id) ++ num4 (sumD (L.take k)) ++ (num4 L[k].data.size ++ (num4 (chk L[k].data) ++ c)) := by rw [e]; simp only [ByteArray.append_assoc]
    have := rd_mid (a ++ L[k].id) (num4 L[k].data.size ++ (num4 (chk L[k].data) ++ c)) (sumD (L.take k)) (by omega) (by omega)
    rw [← e1, ByteArray.size_append, ha, h32] at this
    exact this
  · have e1 : pack L = (a ++ L[k].id ++ num4 (sumD (L.take k))) ++ num4 L[k].data.size ++ (num4 (chk L[k].data) ++ c) := by rw [e]; simp only [ByteArray.append_assoc]
    have := rd_mid (a ++ L[k].id ++ num4 (sumD (L.take k))) (num4 (chk L[k].data) ++ c) L[k].data.size (by omega) (by omega)
    rw [← e1, ByteArray.size_append, ByteArray.size_append, num4_size, ha, h32] at this
    exact this
  · have e1 : pack L = (a ++ L[k].id ++ num4 (sumD (L.take k)) ++ num4 L[k].data.size) ++ num4 (chk L[k].data) ++ c := by rw [e]; simp only [ByteArray.append_assoc]
    have := rd_mid (a ++ L[k].id ++ num4 (sumD (L.take k)) ++ num4 L[k].data.size) c (chk L[k].data) hc.1 hc.2
    rw [← e1, ByteArray.size_append, ByteArray.size_append, ByteArray.size_append, num4_size, num4_size, ha, h32] at this
    exact this
theorem pack_num {L : List Itm} (h : L.length ≤ 1024) : num (pack L) = L.length := by unfold num; rw [pack_cnt h]; rfl
theorem pack_upTo {L : List Itm} (h : Good L) : ∀ k, k ≤ L.length → upTo (pack L) k = sumD (L.take k)
  | 0, _ => by simp [upTo, sumD]
  | k + 1, hk => by
    rw [upTo, pack_upTo h k (by omega), (pack_entry h k (by omega)).2.2.1, sumD_next (by omega)]; rfl
theorem pack_data {L : List Itm} (h : Good L) (k : Nat) (hk : k < L.length) : (pack L).extract (start (pack L) + sumD (L.take k)) (start (pack L) + sumD (L.take k) + L[k].data.size) = L[k].data := by
  have e0 : dataB L = dataB (L.take k) ++ L[k].data ++ dataB (L.drop (k + 1)) := by
    rw [← dataB_next hk, ← dataB_append, List.take_append_drop]
  have e : pack L = (head L ++ dataB (L.take k)) ++ L[k].data ++ (dataB (L.drop (k + 1)) ++ dig (body L)) := by
    unfold pack
    rw [show body L ++ dig (body L) = head L ++ dataB L ++ dig (body L) from rfl]
    generalize dig (body L) = d
    rw [e0]; simp only [ByteArray.append_assoc]
  have := mid (head L ++ dataB (L.take k)) L[k].data (dataB (L.drop (k + 1)) ++ dig (body L))
  rw [← e, ByteArray.size_append, head_size L h.id32, dataB_size] at this
  unfold start
  rw [pack_num h.len]
  exact this
theorem pack_dat {L : List Itm} (h : Good L) (k : Nat) (hk : k < L.length) : datAt (pack L) k = L[k].data := by
  unfold datAt
  rw [pack_upTo h k (by omega), (pack_entry h k hk).2.2.1]
  exact pack_data h k hk
theorem pack_itm {L : List Itm} (h : Good L) (k : Nat) (hk : k < L.length) : itmAt (pack L) k = L[k] := by
  unfold itmAt
  rw [(pack_entry h k hk).1, pack_dat h k hk]
theorem pack_itms {L : List Itm} (h : Good L) : itms (pack L) L.length = L := by
  apply List.ext_getElem (itms_length _ _)
  intro k h1 h2
  simp only [itms, List.getElem_map, List.getElem_range]
  exact pack_itm h k h2
theorem pack_begins {L : List Itm} (h : Good L) : Begins (pack L) := by
  have hz := pack_size L h.id32
  have := h.pos
  have := h.len
  refine ⟨pack_title L, by rw [pack_cnt h.len]; omega, by rw [pack_cnt h.len]; omega, ?_⟩
  unfold start
  rw [pack_num h.len, hz]; omega
theorem pack_sealed {L : List Itm} (h : Good L) : Sealed (pack L) := by
  have hz := pack_size L h.id32
  have hb := body_size L h.id32
  have e : (pack L).size - 32 = (body L).size := by omega
  unfold Sealed
  rw [e]
  unfold pack
  rw [extract_append_left, extract_append_right]
theorem pack_form {L : List Itm} (h : Good L) : Form (pack L) := by
  have hz := pack_size L h.id32
  have hn := pack_num h.len
  refine ⟨pack_begins h, fun k hk => ?_, ?_, fun i hi => ?_⟩
  · rw [hn] at hk
    obtain ⟨e1, e2, e3, _⟩ := pack_entry h k hk
    refine ⟨?_, ?_, fun h0 => ?_⟩
    · rw [e3]; have := h.sz _ (List.getElem_mem hk); omega
    · rw [e2, pack_upTo h k (by omega)]
    · rw [e1, (pack_entry h (k - 1) (by omega)).1]
      exact List.pairwise_iff_getElem.1 h.up (k - 1) k (by omega) hk (by omega)
  · rw [hn, pack_upTo h _ (Nat.le_refl _), List.take_length, hz]
    unfold start
    rw [hn]; omega
  · rw [hn, pack_fan h.len i hi, ← ids_itms, pack_itms h]
theorem pack_sound {L : List Itm} (h : Good L) (k : Nat) (hk : k < L.length) : Sound (pack L) k := by
  obtain ⟨e1, _, _, e4⟩ := pack_entry h k hk
  unfold Sound
  rw [pack_dat h k hk, e1, e4]
  exact ⟨rfl, (h.id _ (List.getElem_mem hk)).symm⟩
theorem rd_pack {L : List Itm} (h : Good L) : rd (pack L) = (L, 0) := by
  have hz := pack_size L h.id32
  have := h.pos
  have hn := pack_num h.len
  unfold rd
  rw [if_neg (by omega), if_neg (fun g => g (pack_sealed h)), if_neg (fun g => g (pack_form h)), if_pos (fun k hk => pack_sound h k (by omega)), hn, pack_itms h]
theorem rd_sealed {s : ByteArray} (h : (rd s).2 = 0) : Sealed s := by
  unfold rd at h
  by_cases c1 : s.size < 1112
  · rw [if_pos c1] at h; cases h
  · rw [if_neg c1] at h
    by_cases c2 : Sealed s
    · exact c2
    · rw [if_pos c2] at h; cases h
theorem rd_bad {s : ByteArray} (h : (rd s).2 ≠ 0) : (rd s).1 = [] := by
  unfold rd at h ⊢
  by_cases c1 : s.size < 1112
  · rw [if_pos c1]
  · rw [if_neg c1] at h ⊢
    by_cases c2 : ¬ Sealed s
    · rw [if_pos c2]
    · rw [if_neg c2] at h ⊢
      by_cases c3 : ¬ Form s
      · rw [if_pos c3]
      · rw [if_neg c3] at h ⊢
        by_cases c4 : ∀ k, k < num s → Sound s k
        · rw [if_pos c4] at h; exact absurd rfl h
        · rw [if_neg c4]

/-! ### the fan of rising ids -/
abbrev UpI (I : List ByteArray) : Prop := I.Pairwise fun a b => lt a b = true
theorem up_ids {L : List Itm} (h : Up L) : UpI (ids L) := List.pairwise_map.2 h
theorem fan_at : ∀ (I : List ByteArray), UpI I → (∀ i ∈ I, i.size = 32) → ∀ (n k : Nat) (hk : k < I.length), byteAt I[k] 0 ≤ n ↔ k < fanN I n
  | [], _, _, n, k, hk => by simp at hk
  | a :: I, h, h32, n, k, hk => by
    obtain ⟨h1, h2⟩ := List.pairwise_cons.1 h
    have hle : ∀ b ∈ I, byteAt a 0 ≤ byteAt b 0 := fun b hb => lt_byte (h32 a (by simp)) (h32 b (List.mem_cons_of_mem _ hb)) (h1 b hb)
    by_cases c : byteAt a 0 ≤ n
    · have hf : fanN (a :: I) n = fanN I n + 1 := List.countP_cons_of_pos (by simp only [low, decide_eq_true_eq]; exact c)
      rw [hf]
      match k, hk with
      | 0, _ => exact ⟨fun _ => by omega, fun _ => c⟩
      | k + 1, hk =>
        have := fan_at I h2 (fun i hi => h32 i (List.mem_cons_of_mem _ hi)) n k (by simpa using hk)
        rw [List.getElem_cons_succ, this]; omega
    · have hf : fanN (a :: I) n = 0 := by
        unfold fanN
        rw [List.countP_eq_zero]
        intro b hb
        simp only [low, decide_eq_true_eq]
        rcases List.mem_cons.1 hb with e | e
        · rw [e]; exact c
        · have := hle b e; omega
      rw [hf]
      refine ⟨fun g => ?_, fun g => by omega⟩
      match k, hk with
      | 0, _ => exact absurd g c
      | k + 1, hk =>
        have := hle _ (List.getElem_mem (show k < I.length by simpa using hk))
        rw [List.getElem_cons_succ] at g
        omega

/-! ### Find in a pack -/
theorem seek_none {s id : ByteArray} : ∀ (f k : Nat), (∀ j, k ≤ j → j < k + f → idAt s j ≠ id) → seek s id f k = none
  | 0, _, _ => rfl
  | f + 1, k, h => by
    rw [seek, if_neg (h k (Nat.le_refl _) (by omega)), seek_none f (k + 1) fun j h1 h2 => h j (by omega) (by omega)]
theorem seek_some {s id : ByteArray} {m : Nat} : ∀ (f k : Nat), k ≤ m → m < k + f → idAt s m = id → (∀ j, k ≤ j → j < m → idAt s j ≠ id) → seek s id f k = some m
  | 0, k, h1, h2, _, _ => by omega
  | f + 1, k, h1, h2, he, h => by
    rw [seek]
    by_cases c : k = m
    · subst c; rw [if_pos he]
    · rw [if_neg (h k (Nat.le_refl _) (by omega)), seek_some f (k + 1) (by omega) (by omega) he fun j g1 g2 => h j (by omega) g2]
theorem pack_lo {L : List Itm} (h : Good L) (id : ByteArray) : lo (pack L) id = if byteAt id 0 = 0 then 0 else (fanN (ids L) ((byteAt id 0).toNat - 1) : Int) := by
  unfold lo
  have := byteAt_range id 0
  split
  · rfl
  · exact pack_fan h.len _ (by omega)
theorem pack_hi {L : List Itm} (h : Good L) (id : ByteArray) : hi (pack L) id = fanN (ids L) (byteAt id 0).toNat := by
  have := byteAt_range id 0
  exact pack_fan h.len _ (by omega)
theorem pack_range {L : List Itm} (h : Good L) (id : ByteArray) : lo (pack L) id ≤ hi (pack L) id ∧ hi (pack L) id ≤ cnt (pack L) := by
  rw [pack_lo h, pack_hi h, pack_cnt h.len]
  have h1 := fanN_le (ids L) (byteAt id 0).toNat
  have h2 := fanN_mono (ids L) (show (byteAt id 0).toNat - 1 ≤ (byteAt id 0).toNat by omega)
  have h3 : (ids L).length = L.length := List.length_map _
  split <;> omega
theorem pack_in {L : List Itm} (h : Good L) (k : Nat) (hk : k < L.length) : (lo (pack L) L[k].id).toNat ≤ k ∧ k < (hi (pack L) L[k].id).toNat := by
  rw [pack_lo h, pack_hi h]
  have hb := byteAt_range L[k].id 0
  have h32 : ∀ i ∈ ids L, i.size = 32 := fun i hi => by
    obtain ⟨x, hx, rfl⟩ := List.mem_map.1 hi
    exact h.id32 x hx
  have hk' : k < (ids L).length := by rw [ids, List.length_map]; exact hk
  have he : (ids L)[k] = L[k].id := by simp [ids]
  have f1 := fan_at (ids L) (up_ids h.up) h32 (byteAt L[k].id 0).toNat k hk'
  have f2 := fan_at (ids L) (up_ids h.up) h32 ((byteAt L[k].id 0).toNat - 1) k hk'
  rw [he] at f1 f2
  refine ⟨?_, ?_⟩
  · split
    · exact Nat.zero_le _
    · rename_i hne
      have : ¬ k < fanN (ids L) ((byteAt L[k].id 0).toNat - 1) := fun g => by have := f2.2 g; omega
      simp; omega
  · have := f1.1 (by omega)
    simp; omega
theorem fnd_open {s id : ByteArray} (h1 : id.size = 32) (h2 : ¬ s.size < 1112) (h3 : Begins s) (h4 : lo s id ≤ hi s id ∧ hi s id ≤ cnt s) :
    fnd s id = told s (seek s id ((hi s id).toNat - (lo s id).toNat) (lo s id).toNat) := by
  unfold fnd
  rw [if_neg (fun g => g h1), if_neg h2, if_neg (fun g => g h3), if_pos h4]
theorem pack_least {L : List Itm} (h : Good L) : ¬ (pack L).size < 1112 := by
  have := pack_size L h.id32
  have := h.pos
  omega
theorem fnd_there {L : List Itm} (h : Good L) (x : Itm) (hx : x ∈ L) : fnd (pack L) x.id = (x.data, true, 0) := by
  obtain ⟨k, hk, rfl⟩ := List.getElem_of_mem hx
  have hr := pack_range h (L[k]'hk).id
  obtain ⟨i1, i2⟩ := pack_in h k hk
  obtain ⟨e1, e2, e3, e4⟩ := pack_entry h k hk
  rw [fnd_open (h.id32 _ hx) (pack_least h) (pack_begins h) hr, seek_some (m := k) _ _ i1 (by omega) e1 fun j hj1 hj2 => ?_]
  · show tell _ _ = _
    have ht : there (pack L) k = (L[k]'hk).data := by
      unfold there
      rw [e2, e3]
      exact pack_data h k hk
    have hs := h.sz _ hx
    have hz := pack_size L h.id32
    have hs2 := sumD_take_le L (k + 1)
    rw [sumD_next hk] at hs2
    unfold tell
    rw [ht, e2, e3, e4, if_neg, if_pos rfl]
    unfold start
    rw [pack_num h.len, hz]
    omega
  · rw [(pack_entry h j (by omega)).1]
    intro e
    have := List.pairwise_iff_getElem.1 h.up j k (by omega) hk hj2
    rw [e, lt_irrefl] at this; cases this
theorem fnd_none {L : List Itm} (h : Good L) (id : ByteArray) (hi32 : id.size = 32) (hn : ∀ x ∈ L, x.id ≠ id) : fnd (pack L) id = (empty, false, 0) := by
  have hr := pack_range h id
  have hc := pack_cnt h.len
  rw [fnd_open hi32 (pack_least h) (pack_begins h) hr, seek_none _ _ fun j hj1 hj2 => ?_]
  · rfl
  · have hj : j < L.length := by omega
    rw [(pack_entry h j hj).1]
    exact hn _ (List.getElem_mem hj)
theorem fnd_arg (s id : ByteArray) (h : id.size ≠ 32) : fnd s id = (empty, false, 1) := by
  unfold fnd; rw [if_pos h]
/-- what was made is good -/
theorem made_good {l : List ByteArray} (h : (mk l).2 = 0) (hl : l.length ≤ 1024) (hs : sumB l ≤ 4000000) : Good (srt l) := by
  obtain ⟨h1, h2, h3, _⟩ := mk_ok h
  have e1 := srt_length l
  have e2 := srt_sum l
  refine ⟨by omega, by omega, srt_up h3, srt_ids, fun x hx => ?_, by omega⟩
  obtain ⟨s, hs, rfl⟩ := srt_mem.1 hx
  exact h2 s hs
end Go.Proofs.YtliojhhiadfmiaaDoor.Pk
