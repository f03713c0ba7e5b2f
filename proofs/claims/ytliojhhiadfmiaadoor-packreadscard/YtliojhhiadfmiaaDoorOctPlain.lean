/-
  Plain functions on bytes: how a number stands in four bytes, what a reader of bytes answers to each call and how it stands behind it. No Go text here. Conditions: none.
-/
import Derived.Laws.BytesArg
import Derived.Lib.EndianBits
namespace Go.Proofs.YtliojhhiadfmiaaDoor.Oct
open Go

/-- the four bytes of a number, the lowest first -/
def num4 (n : Int) : ByteArray := strOfNums [n % 256, n / 256 % 256, n / 65536 % 256, n / 16777216]
@[go_sem] theorem num4_size (n : Int) : (num4 n).size = 4 := by simp [num4, strOfNums_size]

/-- byte k of a text -/
def byteAt (s : ByteArray) (k : Nat) : Int := ((s.data.toList.getD k 0).toNat : Int)
theorem byteAt_range (s : ByteArray) (k : Nat) : 0 ≤ byteAt s k ∧ byteAt s k < 256 := by
  have h := (s.data.toList.getD k 0).toNat_lt
  unfold byteAt; omega
/-- the number of the first four bytes -/
def rd4 (s : ByteArray) : Int := byteAt s 0 + byteAt s 1 * 256 + byteAt s 2 * 65536 + byteAt s 3 * 16777216
theorem rd4_range (s : ByteArray) : 0 ≤ rd4 s ∧ rd4 s < 4294967296 := by
  have h0 := byteAt_range s 0
  have h1 := byteAt_range s 1
  have h2 := byteAt_range s 2
  have h3 := byteAt_range s 3
  unfold rd4; omega

/-- a reader's state: what was not read, and whether it went wrong -/
structure St where
  rest : ByteArray
  bad : Bool

abbrev empty : ByteArray := ⟨#[]⟩

/-- Take -/
def take (q : St) (n : Int) : ByteArray × St :=
  if q.bad = true then (empty, q)
  else if n < 0 ∨ (q.rest.size : Int) < n then (empty, ⟨q.rest, true⟩)
  else (q.rest.extract 0 n.toNat, ⟨q.rest.extract n.toNat q.rest.size, false⟩)
/-- Num -/
def num (q : St) : Int × St :=
  if (take q 4).2.bad = true then (0, (take q 4).2) else (rd4 q.rest, (take q 4).2)
/-- Text -/
def text (q : St) (most : Int) : ByteArray × St :=
  if most < (num q).1 then (empty, ⟨(num q).2.rest, true⟩) else take (num q).2 (num q).1
/-- Left -/
def left (q : St) : Int := if q.bad = true then 0 else (q.rest.size : Int)
/-- Whole -/
def whole (q : St) : Bool := !q.bad && ((q.rest.size : Int) == 0)

@[go_sem] theorem left_bad (s : ByteArray) : left ⟨s, true⟩ = 0 := rfl
@[go_sem] theorem whole_bad (s : ByteArray) : whole ⟨s, true⟩ = false := rfl
@[go_sem] theorem left_good (s : ByteArray) : left ⟨s, false⟩ = (s.size : Int) := rfl
@[go_sem] theorem whole_good (s : ByteArray) : whole ⟨s, false⟩ = ((s.size : Int) == 0) := rfl
theorem take_bad (q : St) (n : Int) (h : q.bad = true) : take q n = (empty, q) := by simp [take, h]
theorem take_over (q : St) (n : Int) (h : q.bad = false) (hn : n < 0 ∨ (q.rest.size : Int) < n) : take q n = (empty, ⟨q.rest, true⟩) := by simp [take, h, hn]
theorem take_ok (q : St) (n : Int) (h : q.bad = false) (h0 : 0 ≤ n) (hn : n ≤ q.rest.size) : take q n = (q.rest.extract 0 n.toNat, ⟨q.rest.extract n.toNat q.rest.size, false⟩) := by
  have : ¬ (n < 0 ∨ (q.rest.size : Int) < n) := by omega
  simp [take, h, this]
theorem num_bad (q : St) (h : q.bad = true) : num q = (0, q) := by simp [num, take_bad q 4 h, h]
theorem num_over (q : St) (h : q.bad = false) (hn : q.rest.size < 4) : num q = (0, ⟨q.rest, true⟩) := by simp [num, take_over q 4 h (by omega)]
theorem num_ok (q : St) (h : q.bad = false) (hn : 4 ≤ q.rest.size) : num q = (rd4 q.rest, ⟨q.rest.extract 4 q.rest.size, false⟩) := by
  simp [num, take_ok q 4 h (by omega) (by omega)]
theorem num_range (q : St) : 0 ≤ (num q).1 ∧ (num q).1 < 4294967296 := by
  unfold num; split
  · simp
  · exact rd4_range _

theorem extract_byte (s : ByteArray) (k : Nat) (hn : 4 ≤ s.size) (hk : k < 4) (h : k < (s.extract 0 4).size) : ((s.extract 0 4)[k].toNat : Int) = byteAt s k := by
  unfold byteAt
  have e : (s.extract 0 4)[k] = s[k]'(by omega) := by
    simp [ByteArray.getElem_extract]
  rw [e]
  have h2 : k < s.data.toList.length := by rw [Array.length_toList]; show k < s.size; omega
  rw [List.getD_eq_getElem?_getD, List.getElem?_eq_getElem h2]
  simp
  rfl
/-- what the Go text reckons of four bytes is the number -/
theorem or_bytes (s : ByteArray) (hn : 4 ≤ s.size) (h0 : 0 < (s.extract 0 4).size) (h1 : 1 < (s.extract 0 4).size) (h2 : 2 < (s.extract 0 4).size) (h3 : 3 < (s.extract 0 4).size) :
    bits .or .u32 (bits .or .u32 (bits .or .u32 ((s.extract 0 4)[0].toNat % 4294967296) (((s.extract 0 4)[1].toNat : Int) % 4294967296 * 256 % 4294967296)) (((s.extract 0 4)[2].toNat : Int) % 4294967296 * 65536 % 4294967296)) (((s.extract 0 4)[3].toNat : Int) % 4294967296 * 16777216 % 4294967296) = rd4 s := by
  rw [extract_byte s 0 hn (by omega) h0, extract_byte s 1 hn (by omega) h1, extract_byte s 2 hn (by omega) h2, extract_byte s 3 hn (by omega) h3]
  have b0 := byteAt_range s 0
  have b1 := byteAt_range s 1
  have b2 := byteAt_range s 2
  have b3 := byteAt_range s 3
  unfold rd4
  generalize byteAt s 0 = x0 at *
  generalize byteAt s 1 = x1 at *
  generalize byteAt s 2 = x2 at *
  generalize byteAt s 3 = x3 at *
  have e0 : x0 % 4294967296 = x0 := by omega
  have e1 : x1 % 4294967296 * 256 % 4294967296 = x1 * 256 := by omega
  have e2 : x2 % 4294967296 * 65536 % 4294967296 = x2 * 65536 := by omega
  have e3 : x3 % 4294967296 * 16777216 % 4294967296 = x3 * 16777216 := by omega
  rw [e0, e1, e2, e3]
  rw [Go.u32_or8 x0 (x1 * 256) (by omega) (by omega) (by omega) (by omega) (by omega)]
  rw [Go.u32_or16 (x0 + x1 * 256) (x2 * 65536) (by omega) (by omega) (by omega) (by omega) (by omega)]
  rw [Go.u32_or24 (x0 + x1 * 256 + x2 * 65536) (x3 * 16777216) (by omega) (by omega) (by omega) (by omega) (by omega)]

/-! ### written, then read -/
theorem size_toList (s : ByteArray) : s.data.toList.length = s.size := by rw [Array.length_toList]; rfl
theorem append_toList (s t : ByteArray) : (s ++ t).data.toList = s.data.toList ++ t.data.toList := by simp [ByteArray.data_append]
theorem extract_toList (s : ByteArray) (i j : Nat) : (s.extract i j).data.toList = (s.data.toList.drop i).take (j - i) := by
  simp [ByteArray.data_extract, List.extract]
theorem ext_toList {s t : ByteArray} (h : s.data.toList = t.data.toList) : s = t := by
  apply ByteArray.ext
  exact Array.toList_inj.1 h
theorem byteAt_append (s t : ByteArray) (k : Nat) (h : k < s.size) : byteAt (s ++ t) k = byteAt s k := by
  unfold byteAt
  rw [append_toList, List.getD_eq_getElem?_getD, List.getD_eq_getElem?_getD, List.getElem?_append_left (by rw [size_toList]; exact h)]
theorem byteAt_extract (s : ByteArray) (j k : Nat) (h : k < j) : byteAt (s.extract 0 j) k = byteAt s k := by
  unfold byteAt
  rw [extract_toList, List.getD_eq_getElem?_getD, List.getD_eq_getElem?_getD, List.drop_zero, List.getElem?_take_of_lt (by omega)]
theorem rd4_extract (s : ByteArray) (j : Nat) (h : 4 ≤ j) : rd4 (s.extract 0 j) = rd4 s := by
  unfold rd4
  rw [byteAt_extract s j 0 (by omega), byteAt_extract s j 1 (by omega), byteAt_extract s j 2 (by omega), byteAt_extract s j 3 (by omega)]
theorem rd4_num4 (n : Int) (h0 : 0 ≤ n) (h1 : n < 4294967296) (t : ByteArray) : rd4 (num4 n ++ t) = n := by
  unfold rd4
  rw [byteAt_append _ _ 0 (by rw [num4_size]; omega), byteAt_append _ _ 1 (by rw [num4_size]; omega), byteAt_append _ _ 2 (by rw [num4_size]; omega), byteAt_append _ _ 3 (by rw [num4_size]; omega)]
  have b0 : byteAt (num4 n) 0 = n % 256 := by simp [byteAt, num4, strOfNums]; omega
  have b1 : byteAt (num4 n) 1 = n / 256 % 256 := by simp [byteAt, num4, strOfNums]; omega
  have b2 : byteAt (num4 n) 2 = n / 65536 % 256 := by simp [byteAt, num4, strOfNums]; omega
  have b3 : byteAt (num4 n) 3 = n / 16777216 := by simp [byteAt, num4, strOfNums]; omega
  rw [b0, b1, b2, b3]
  omega
theorem extract_append_right (s t : ByteArray) : (s ++ t).extract s.size (s ++ t).size = t := by
  apply ext_toList
  rw [extract_toList, append_toList, ← size_toList s, List.drop_left]
  apply List.take_of_length_le
  rw [← size_toList, append_toList, List.length_append]
  omega
theorem extract_append_left (s t : ByteArray) : (s ++ t).extract 0 s.size = s := by
  apply ext_toList
  rw [extract_toList, append_toList, List.drop_zero, Nat.sub_zero, ← size_toList s, List.take_left]
theorem extract_size (s : ByteArray) (i j : Nat) (h : j ≤ s.size) : (s.extract i j).size = j - i := by
  rw [← size_toList, extract_toList, List.length_take, List.length_drop, size_toList]; omega
/-- a written number is read as it was -/
theorem num_written (n : Int) (h0 : 0 ≤ n) (h1 : n < 4294967296) (t : ByteArray) : num ⟨num4 n ++ t, false⟩ = (n, ⟨t, false⟩) := by
  have hs : (num4 n ++ t).size = 4 + t.size := by rw [ByteArray.size_append, num4_size]
  rw [num_ok _ rfl (by show 4 ≤ (num4 n ++ t).size; omega)]
  show (rd4 (num4 n ++ t), (⟨(num4 n ++ t).extract 4 (num4 n ++ t).size, false⟩ : St)) = _
  rw [rd4_num4 n h0 h1 t]
  have e := extract_append_right (num4 n) t
  rw [num4_size] at e
  rw [e]
/-- a written text is read as it was -/
theorem text_written (s t : ByteArray) (most : Int) (h : (s.size : Int) ≤ most) (h1 : s.size < 4294967296) : text ⟨num4 s.size ++ s ++ t, false⟩ most = (s, ⟨t, false⟩) := by
  have e : num ⟨num4 s.size ++ s ++ t, false⟩ = ((s.size : Int), ⟨s ++ t, false⟩) := by
    rw [ByteArray.append_assoc]; exact num_written _ (by omega) (by omega) _
  unfold text
  rw [e]
  have hm : ¬ most < (s.size : Int) := by omega
  simp only [hm, if_false]
  have hz : (s ++ t).size = s.size + t.size := ByteArray.size_append
  rw [take_ok _ _ rfl (by omega) (by show (s.size : Int) ≤ ((s ++ t).size : Int); omega)]
  simp only [Int.toNat_natCast]
  rw [extract_append_left, extract_append_right]
/-- a written text that is cut off goes wrong -/
theorem text_cut (s : ByteArray) (most : Int) (k : Nat) (h0 : 0 ≤ most) (h1 : s.size < 4294967296) (hk : k < 4 + s.size) : (text ⟨(num4 s.size ++ s).extract 0 k, false⟩ most).1 = empty ∧ (text ⟨(num4 s.size ++ s).extract 0 k, false⟩ most).2.bad = true := by
  have hz : (num4 (s.size : Int) ++ s).size = 4 + s.size := by rw [ByteArray.size_append, num4_size]
  have hx : ((num4 (s.size : Int) ++ s).extract 0 k).size = k := by rw [extract_size _ _ _ (by omega)]; omega
  rcases Nat.lt_or_ge k 4 with g | g
  · have e := num_over ⟨(num4 (s.size : Int) ++ s).extract 0 k, false⟩ rfl (by show ((num4 (s.size : Int) ++ s).extract 0 k).size < 4; omega)
    unfold text
    rw [e]
    have hm : ¬ most < 0 := by omega
    simp only [hm, if_false]
    rw [take_bad _ _ rfl]
    exact ⟨rfl, rfl⟩
  · have e := num_ok ⟨(num4 (s.size : Int) ++ s).extract 0 k, false⟩ rfl (by show 4 ≤ ((num4 (s.size : Int) ++ s).extract 0 k).size; omega)
    simp only [rd4_extract _ _ g, rd4_num4 (s.size : Int) (by omega) (by omega), hx] at e
    unfold text
    rw [e]
    dsimp only
    by_cases hm : most < (s.size : Int)
    · simp only [hm, if_true]; exact ⟨trivial, trivial⟩
    · simp only [hm, if_false]
      have hy : (((num4 (s.size : Int) ++ s).extract 0 k).extract 4 k).size = k - 4 := by rw [extract_size _ _ _ (by omega)]
      rw [take_over _ _ rfl (Or.inr (by show ((((num4 (s.size : Int) ++ s).extract 0 k).extract 4 k).size : Int) < s.size; omega))]
      exact ⟨rfl, rfl⟩
/-- a written text above the limit goes wrong -/
theorem text_less (s : ByteArray) (most : Int) (h1 : s.size < 4294967296) (hk : most < s.size) : (text ⟨num4 s.size ++ s, false⟩ most).1 = empty ∧ (text ⟨num4 s.size ++ s, false⟩ most).2.bad = true := by
  unfold text
  rw [num_written _ (by omega) (by omega)]
  simp only [hk, if_true]
  exact ⟨trivial, trivial⟩

theorem num4_inj {a b : Int} (h0 : 0 ≤ a) (h1 : a < 4294967296) (h2 : 0 ≤ b) (h3 : b < 4294967296) (h : num4 a = num4 b) : a = b := by
  have x := rd4_num4 a h0 h1 empty
  have y := rd4_num4 b h2 h3 empty
  rw [h] at x
  omega
/-- of two written texts that begin alike, as far as both go, both are one -/
theorem apart_eq {s t : ByteArray} (h1 : s.size < 4294967296) (h2 : t.size < 4294967296) (n : Nat) (hn : n = min (4 + s.size) (4 + t.size)) (h : (num4 s.size ++ s).extract 0 n = (num4 t.size ++ t).extract 0 n) : s = t := by
  have x := rd4_extract (num4 s.size ++ s) n (by omega)
  have y := rd4_extract (num4 t.size ++ t) n (by omega)
  rw [rd4_num4 _ (by omega) (by omega)] at x y
  rw [h] at x
  have e : s.size = t.size := by omega
  have zs : (num4 (s.size : Int) ++ s).size = n := by rw [ByteArray.size_append, num4_size]; omega
  have zt : (num4 (t.size : Int) ++ t).size = n := by rw [ByteArray.size_append, num4_size]; omega
  have xs : (num4 (s.size : Int) ++ s).extract 0 n = num4 s.size ++ s := by
    apply ext_toList; rw [extract_toList, List.drop_zero, List.take_of_length_le]; rw [size_toList]; omega
  have xt : (num4 (t.size : Int) ++ t).extract 0 n = num4 t.size ++ t := by
    apply ext_toList; rw [extract_toList, List.drop_zero, List.take_of_length_le]; rw [size_toList]; omega
  rw [xs, xt, e] at h
  have a := extract_append_right (num4 (t.size : Int)) s
  have b := extract_append_right (num4 (t.size : Int)) t
  rw [h] at a
  exact a.symm.trans b

end Go.Proofs.YtliojhhiadfmiaaDoor.Oct
