/-
  Plain functions on bytes: how a number stands in four bytes, what a reader of bytes answers to each call and how it stands behind it. No Go text here. Conditions: none.
-/
import Derived.Laws.BytesArg
import Derived.Lib.EndianBits
namespace Go.Proofs.Ytnpdjdcbbmjdaaa.Oct
open Go

/-- the four bytes of a number, the lowest first -/
def num4 (n : Int) : ByteArray := strOfNums [n % 256, n / 256 % 256, n / 65536 % 256, n / 16777216]
@[go_sem] theorem num4_size (n : Int) : (num4 n).size = 4 := by simp [num4, strOfNums_size]

/-- byte k of a text -/
def byteAt (s : ByteArray) (k : Nat) : Int := ((s.data.toList.getD k 0).toNat : Int)
theorem byteAt_range (s : ByteArray) (k : Nat) : 0 ≤ byteAt s k ∧ byteAt s k < 256 := by
  have h := (s.data.toList.getD k 0).toNat_lt
  unfold byteAt; omega
/-- the number of the first four bytes -/
def rd4 (s : ByteArray) : Int := byteAt s 0 + byteAt s 1 * 256 + byteAt s 2 * 65536 + byteAt s 3 * 16777216
theorem rd4_range (s : ByteArray) : 0 ≤ rd4 s ∧ rd4 s < 4294967296 := by
  have h0 := byteAt_range s 0
  have h1 := byteAt_range s 1
  have h2 := byteAt_range s 2
  have h3 := byteAt_range s 3
  unfold rd4; omega

/-- a reader's state: what was not read, and whether it went wrong -/
structure St where
  rest : ByteArray
  bad : Bool

def empty : ByteArray := ⟨#[]⟩

/-- Take -/
def take (q : St) (n : Int) : ByteArray × St :=
  if q.bad = true then (empty, q)
  else if n < 0 ∨ (q.rest.size : Int) < n then (empty, ⟨q.rest, true⟩)
  else (q.rest.extract 0 n.toNat, ⟨q.rest.extract n.toNat q.rest.size, false⟩)
/-- Num -/
def num (q : St) : Int × St :=
  if (take q 4).2.bad = true then (0, (take q 4).2) else (rd4 q.rest, (take q 4).2)
/-- Text -/
def text (q : St) (most : Int) : ByteArray × St :=
  if most < (num q).1 then (empty, ⟨(num q).2.rest, true⟩) else take (num q).2 (num q).1
/-- Left -/
def left (q : St) : Int := if q.bad = true then 0 else (q.rest.size : Int)
/-- Whole -/
def whole (q : St) : Bool := !q.bad && ((q.rest.size : Int) == 0)

theorem take_bad (q : St) (n : Int) (h : q.bad = true) : take q n = (empty, q) := by simp [take, h]
theorem take_over (q : St) (n : Int) (h : q.bad = false) (hn : n < 0 ∨ (q.rest.size : Int) < n) : take q n = (empty, ⟨q.rest, true⟩) := by simp [take, h, hn]
theorem take_ok (q : St) (n : Int) (h : q.bad = false) (h0 : 0 ≤ n) (hn : n ≤ q.rest.size) : take q n = (q.rest.extract 0 n.toNat, ⟨q.rest.extract n.toNat q.rest.size, false⟩) := by
  have : ¬ (n < 0 ∨ (q.rest.size : Int) < n) := by omega
  simp [take, h, this]
theorem num_bad (q : St) (h : q.bad = true) : num q = (0, q) := by simp [num, take_bad q 4 h, h]
theorem num_over (q : St) (h : q.bad = false) (hn : q.rest.size < 4) : num q = (0, ⟨q.rest, true⟩) := by simp [num, take_over q 4 h (by omega)]
theorem num_ok (q : St) (h : q.bad = false) (hn : 4 ≤ q.rest.size) : num q = (rd4 q.rest, ⟨q.rest.extract 4 q.rest.size, false⟩) := by
  simp [num, take_ok q 4 h (by omega) (by omega)]
theorem num_range (q : St) : 0 ≤ (num q).1 ∧ (num q).1 < 4294967296 := by
  unfold num; split
  · simp
  · exact rd4_range _

theorem extract_byte (s : ByteArray) (k : Nat) (hn : 4 ≤ s.size) (hk : k < 4) (h : k < (s.extract 0 4).size) : ((s.extract 0 4)[k].toNat : Int) = byteAt s k := by
  unfold byteAt
  have e : (s.extract 0 4)[k] = s[k]'(by omega) := by
    simp [ByteArray.getElem_extract]
  rw [e]
  have h2 : k < s.data.toList.length := by rw [Array.length_toList]; show k < s.size; omega
  rw [List.getD_eq_getElem?_getD, List.getElem?_eq_getElem h2]
  simp
  rfl
/-- what the Go text reckons of four bytes is the number -/
theorem or_bytes (s : ByteArray) (hn : 4 ≤ s.size) (h0 : 0 < (s.extract 0 4).size) (h1 : 1 < (s.extract 0 4).size) (h2 : 2 < (s.extract 0 4).size) (h3 : 3 < (s.extract 0 4).size) :
    bits .or .u32 (bits .or .u32 (bits .or .u32 ((s.extract 0 4)[0].toNat % 4294967296) (((s.extract 0 4)[1].toNat : Int) % 4294967296 * 256 % 4294967296)) (((s.extract 0 4)[2].toNat : Int) % 4294967296 * 65536 % 4294967296)) (((s.extract 0 4)[3].toNat : Int) % 4294967296 * 16777216 % 4294967296) = rd4 s := by
  rw [extract_byte s 0 hn (by omega) h0, extract_byte s 1 hn (by omega) h1, extract_byte s 2 hn (by omega) h2, extract_byte s 3 hn (by omega) h3]
  have b0 := byteAt_range s 0
  have b1 := byteAt_range s 1
  have b2 := byteAt_range s 2
  have b3 := byteAt_range s 3
  unfold rd4
  generalize byteAt s 0 = x0 at *
  generalize byteAt s 1 = x1 at *
  generalize byteAt s 2 = x2 at *
  generalize byteAt s 3 = x3 at *
  have e0 : x0 % 4294967296 = x0 := by omega
  have e1 : x1 % 4294967296 * 256 % 4294967296 = x1 * 256 := by omega
  have e2 : x2 % 4294967296 * 65536 % 4294967296 = x2 * 65536 := by omega
  have e3 : x3 % 4294967296 * 16777216 % 4294967296 = x3 * 16777216 := by omega
  rw [e0, e1, e2, e3]
  rw [Go.u32_or8 x0 (x1 * 256) (by omega) (by omega) (by omega) (by omega) (by omega)]
  rw [Go.u32_or16 (x0 + x1 * 256) (x2 * 65536) (by omega) (by omega) (by omega) (by omega) (by omega)]
  rw [Go.u32_or24 (x0 + x1 * 256 + x2 * 65536) (x3 * 16777216) (by omega) (by omega) (by omega) (by omega) (by omega)]

end Go.Proofs.Ytnpdjdcbbmjdaaa.Oct
