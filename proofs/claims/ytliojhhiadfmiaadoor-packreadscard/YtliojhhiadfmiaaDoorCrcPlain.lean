/-
  Layer 4 as plain functions: the check of bytes over words of 32 bits; that it is linear, goes by a table, and tells bursts; of no program. Conditions: none.
-/
import Derived.KernelRfl
namespace Go.Proofs.YtliojhhiadfmiaaDoor.Crc

def poly : UInt32 := 0x82f63b78
/-- one bit's step -/
def T (c : UInt32) : UInt32 := if c.toNat % 2 = 1 then (c >>> 1) ^^^ poly else c >>> 1
def Tn : Nat → UInt32 → UInt32
  | 0, c => c
  | n + 1, c => Tn n (T c)
/-- one byte's step -/
def feed (c : UInt32) (b : UInt8) : UInt32 := Tn 8 (c ^^^ b.toUInt32)
def run (c : UInt32) (l : List UInt8) : UInt32 := l.foldl feed c
def more (sum : UInt32) (l : List UInt8) : UInt32 := ~~~ (run (~~~ sum) l)
def sum (l : List UInt8) : UInt32 := more 0 l

theorem not_not (x : UInt32) : ~~~ (~~~ x) = x := by simp
theorem run_append (c : UInt32) (l m : List UInt8) : run c (l ++ m) = run (run c l) m := by simp [run]
theorem more_sum (l m : List UInt8) : more (sum l) m = sum (l ++ m) := by simp [more, sum, run_append]
theorem more_nil (s : UInt32) : more s [] = s := by simp [more, run]

theorem half (c : UInt32) : (c >>> 1).toNat = c.toNat / 2 := by simp [UInt32.toNat_shiftRight, Nat.shiftRight_eq_div_pow]
theorem xor_odd (a b : UInt32) : (a ^^^ b).toNat % 2 = 1 ↔ ¬ (a.toNat % 2 = 1 ↔ b.toNat % 2 = 1) := by
  rw [UInt32.toNat_xor]; exact Nat.xor_mod_two_eq_one
theorem shr_xor (a b : UInt32) (n : UInt32) : (a ^^^ b) >>> n = (a >>> n) ^^^ (b >>> n) := by
  apply UInt32.toBitVec_inj.1
  simp [BitVec.ushiftRight_xor_distrib]
theorem T_xor (a b : UInt32) : T (a ^^^ b) = T a ^^^ T b := by
  unfold T
  by_cases ha : a.toNat % 2 = 1 <;> by_cases hb : b.toNat % 2 = 1
  · rw [if_neg (by rw [xor_odd]; simp [ha, hb]), if_pos ha, if_pos hb, shr_xor]
    rw [show (a >>> 1 ^^^ poly) ^^^ (b >>> 1 ^^^ poly) = (a >>> 1 ^^^ b >>> 1) ^^^ (poly ^^^ poly) by ac_rfl]
    simp
  · rw [if_pos (by rw [xor_odd]; simp [ha, hb]), if_pos ha, if_neg hb, shr_xor]; ac_rfl
  · rw [if_pos (by rw [xor_odd]; simp [ha, hb]), if_neg ha, if_pos hb, shr_xor]; ac_rfl
  · rw [if_neg (by rw [xor_odd]; simp [ha, hb]), if_neg ha, if_neg hb, shr_xor]
theorem Tn_xor : ∀ n a b, Tn n (a ^^^ b) = Tn n a ^^^ Tn n b
  | 0, _, _ => rfl
  | n + 1, a, b => by rw [Tn, T_xor, Tn_xor n]; rfl
theorem Tn_zero : ∀ n, Tn n 0 = 0
  | 0 => rfl
  | n + 1 => by rw [Tn, show T 0 = 0 by decide, Tn_zero n]
theorem Tn_add : ∀ m n c, Tn (m + n) c = Tn n (Tn m c)
  | 0, n, c => by rw [Nat.zero_add]; rfl
  | m + 1, n, c => by rw [show m + 1 + n = (m + n) + 1 by omega, Tn, Tn_add m n]; rfl
theorem T_even {c : UInt32} (h : c.toNat % 2 = 0) : T c = c >>> 1 := if_neg (by omega)
theorem poly_high : (2147483648 : Nat) ≤ poly.toNat := by decide
theorem xor_poly_ne {x : UInt32} (h : x.toNat < 2147483648) : x ^^^ poly ≠ 0 := fun e => by
  have e2 : x = poly := by
    have := congrArg (· ^^^ poly) e
    simp only [UInt32.xor_assoc, UInt32.xor_self, UInt32.xor_zero, UInt32.zero_xor] at this
    exact this
  have := poly_high
  rw [e2] at h; omega
theorem T_one {c : UInt32} (h : T c = 0) : c = 0 := by
  unfold T at h
  split at h
  · refine absurd h (xor_poly_ne ?_)
    rw [half]; have := c.toNat_lt; omega
  · rename_i ho
    have h2 := congrArg UInt32.toNat h
    rw [half] at h2
    apply UInt32.toNat.inj
    have : (0 : UInt32).toNat = 0 := rfl
    rw [this] at h2 ⊢
    omega
theorem Tn_one : ∀ {n c}, Tn n c = 0 → c = 0
  | 0, _, h => h
  | n + 1, _, h => T_one (Tn_one (n := n) h)
/-- bits that stand above n empty ones come down by n steps -/
theorem Tn_even : ∀ (n : Nat) (c : UInt32), c.toNat % 2 ^ n = 0 → (Tn n c).toNat = c.toNat / 2 ^ n
  | 0, c, _ => by simp [Tn]
  | n + 1, c, h => by
    have h1 : c.toNat % 2 = 0 := by
      have : (2 : Nat) ∣ 2 ^ (n + 1) := ⟨2 ^ n, by rw [Nat.pow_succ]; omega⟩
      exact Nat.mod_eq_zero_of_dvd (Nat.dvd_trans this (Nat.dvd_of_mod_eq_zero h))
    have h2 : (T c).toNat = c.toNat / 2 := by rw [T_even h1, half]
    have h3 : (T c).toNat % 2 ^ n = 0 := by
      rw [h2]
      obtain ⟨d, hd⟩ := Nat.dvd_of_mod_eq_zero h
      rw [hd, Nat.pow_succ, show 2 ^ n * 2 * d = 2 * (2 ^ n * d) by ac_rfl, Nat.mul_div_cancel_left _ (by decide)]
      simp
    rw [Tn, Tn_even n (T c) h3, h2, Nat.div_div_eq_div_mul, Nat.pow_succ, Nat.mul_comm 2]
/-! ### by a table -/
theorem nat_split (x n : Nat) : (x % 2 ^ n) ^^^ (x / 2 ^ n * 2 ^ n) = x := by
  apply Nat.eq_of_testBit_eq
  intro i
  rw [Nat.testBit_xor, Nat.testBit_mod_two_pow, ← Nat.shiftRight_eq_div_pow, ← Nat.shiftLeft_eq, Nat.testBit_shiftLeft, Nat.testBit_shiftRight]
  by_cases h : i < n
  · simp [h, show ¬ n ≤ i by omega]
  · simp [h, show n ≤ i by omega, show n + (i - n) = i by omega]
theorem ofNat_toNat_lt {n : Nat} (h : n < 4294967296) : (UInt32.ofNat n).toNat = n := by
  rw [UInt32.toNat_ofNat']; exact Nat.mod_eq_of_lt h
theorem split (x : UInt32) (n : Nat) : UInt32.ofNat (x.toNat % 2 ^ n) ^^^ UInt32.ofNat (x.toNat / 2 ^ n * 2 ^ n) = x := by
  have h := x.toNat_lt
  have h1 : x.toNat % 2 ^ n < 4294967296 := Nat.lt_of_le_of_lt (Nat.mod_le _ _) h
  have h2 : x.toNat / 2 ^ n * 2 ^ n < 4294967296 := Nat.lt_of_le_of_lt (Nat.div_mul_le_self _ _) h
  apply UInt32.toNat.inj
  rw [UInt32.toNat_xor, ofNat_toNat_lt h1, ofNat_toNat_lt h2, nat_split]
theorem Tn_high (x : UInt32) (n : Nat) : Tn n (UInt32.ofNat (x.toNat / 2 ^ n * 2 ^ n)) = UInt32.ofNat (x.toNat / 2 ^ n) := by
  have h := x.toNat_lt
  have h2 : x.toNat / 2 ^ n * 2 ^ n < 4294967296 := Nat.lt_of_le_of_lt (Nat.div_mul_le_self _ _) h
  apply UInt32.toNat.inj
  rw [Tn_even n _ (by rw [ofNat_toNat_lt h2]; simp), ofNat_toNat_lt h2, Nat.mul_div_cancel _ (Nat.two_pow_pos n), ofNat_toNat_lt (Nat.lt_of_le_of_lt (Nat.div_le_self _ _) h)]
/-- n steps at once: what they make of the lowest n bits, put on the others, moved -/
theorem Tn_split (x : UInt32) (n : Nat) : Tn n x = Tn n (UInt32.ofNat (x.toNat % 2 ^ n)) ^^^ UInt32.ofNat (x.toNat / 2 ^ n) := by
  rw [← Tn_high x n, ← Tn_xor, split]
theorem xor_high (c : UInt32) (b : UInt8) : (c ^^^ b.toUInt32).toNat / 2 ^ 8 = c.toNat / 2 ^ 8 := by
  have hb := b.toNat_lt
  rw [UInt32.toNat_xor, UInt8.toNat_toUInt32, ← Nat.shiftRight_eq_div_pow, Nat.shiftRight_xor_distrib, Nat.shiftRight_eq_div_pow, Nat.shiftRight_eq_div_pow, show b.toNat / 2 ^ 8 = 0 by omega, Nat.xor_zero]
theorem feed_table (c : UInt32) (b : UInt8) : feed c b = Tn 8 (UInt32.ofNat ((c ^^^ b.toUInt32).toNat % 256)) ^^^ (c >>> 8) := by
  have e : UInt32.ofNat (c.toNat / 2 ^ 8) = c >>> 8 := by
    apply UInt32.toNat.inj
    rw [ofNat_toNat_lt (Nat.lt_of_le_of_lt (Nat.div_le_self _ _) c.toNat_lt)]
    simp [UInt32.toNat_shiftRight, Nat.shiftRight_eq_div_pow]
  unfold feed
  rw [Tn_split, xor_high, e]
/-! ### linear -/
theorem feed_xor (c d : UInt32) (a b : UInt8) : feed (c ^^^ d) (a ^^^ b) = feed c a ^^^ feed d b := by
  unfold feed
  rw [← Tn_xor, UInt8.toUInt32_xor]
  congr 1
  ac_rfl
theorem run_xor : ∀ (a b : List UInt8) (x y : UInt32), a.length = b.length → run (x ^^^ y) (List.zipWith (· ^^^ ·) a b) = run x a ^^^ run y b
  | [], [], x, y, _ => rfl
  | a :: l, b :: m, x, y, h => by
    simp only [List.length_cons, Nat.add_right_cancel_iff] at h
    have := run_xor l m (feed x a) (feed y b) h
    rw [← feed_xor] at this
    exact this
theorem not3 (x y z : UInt32) : ~~~ x ^^^ ~~~ y ^^^ ~~~ z = ~~~ (x ^^^ y ^^^ z) := by
  apply UInt32.toBitVec_inj.1
  simp only [UInt32.toBitVec_xor, UInt32.toBitVec_not]
  apply BitVec.eq_of_getLsbD_eq
  intro i hi
  simp [hi]
theorem linear (a b c : List UInt8) (h1 : a.length = b.length) (h2 : b.length = c.length) : sum a ^^^ sum b ^^^ sum c = sum (List.zipWith (· ^^^ ·) (List.zipWith (· ^^^ ·) a b) c) := by
  unfold sum more
  rw [not3, ← run_xor a b _ _ h1, ← run_xor _ c _ _ (by simp [List.length_zipWith]; omega)]
  simp
theorem ext_getD {l m : List UInt8} (h : l.length = m.length) (e : ∀ j, j < l.length → l.getD j 0 = m.getD j 0) : l = m := by
  apply List.ext_getElem h
  intro j h1 h2
  have := e j h1
  rwa [List.getD_eq_getElem?_getD, List.getD_eq_getElem?_getD, List.getElem?_eq_getElem h1, List.getElem?_eq_getElem h2] at this
theorem zip_getD (a b : List UInt8) {j : Nat} (h1 : j < a.length) (h2 : j < b.length) : (List.zipWith (· ^^^ ·) a b).getD j 0 = a.getD j 0 ^^^ b.getD j 0 := by
  simp [List.getD_eq_getElem?_getD, List.getElem?_eq_getElem h1, List.getElem?_eq_getElem h2, List.getElem?_zipWith]
theorem linear_at (a b c d : List UInt8) (h1 : a.length = b.length) (h2 : b.length = c.length) (h3 : c.length = d.length) (e : ∀ j, j < d.length → d.getD j 0 = a.getD j 0 ^^^ b.getD j 0 ^^^ c.getD j 0) :
    sum a ^^^ sum b ^^^ sum c = sum d := by
  rw [linear a b c h1 h2]
  congr 1
  refine ext_getD (by simp [List.length_zipWith]; omega) fun j hj => ?_
  have hj' : j < d.length := by simp [List.length_zipWith] at hj; omega
  rw [zip_getD _ _ (by simp [List.length_zipWith]; omega) (by omega), zip_getD _ _ (by omega) (by omega), e j hj']
/-! ### bursts -/
theorem feed_zero (c : UInt32) : feed c 0 = Tn 8 c := by simp [feed]
theorem run_zeros : ∀ (n : Nat) (c : UInt32), run c (List.replicate n 0) = Tn (8 * n) c
  | 0, c => rfl
  | n + 1, c => by
    rw [List.replicate_succ, show 8 * (n + 1) = 8 + 8 * n by omega, Tn_add]
    show run (feed c 0) (List.replicate n 0) = _
    rw [run_zeros n, feed_zero]
/-- the lowest n bytes of a number, the lowest first -/
def low : Nat → Nat → List UInt8
  | 0, _ => []
  | n + 1, x => UInt8.ofNat (x % 256) :: low n (x / 256)
theorem ofNat_byte (x : Nat) : (UInt8.ofNat (x % 256)).toUInt32 = UInt32.ofNat (x % 256) := by
  apply UInt32.toNat.inj
  rw [UInt8.toNat_toUInt32, UInt8.toNat_ofNat', UInt32.toNat_ofNat']
  omega
theorem run_low : ∀ (n : Nat) (x : Nat) (c : UInt32), n ≤ 4 → x < 256 ^ n → run c (low n x) = Tn (8 * n) (c ^^^ UInt32.ofNat x)
  | 0, x, c, _, h => by
    have : x = 0 := by simpa using h
    subst this
    simp [low, run, Tn]
  | n + 1, x, c, hn, h => by
    have h32 : x < 4294967296 := Nat.lt_of_lt_of_le h (by rw [show 4294967296 = 256 ^ 4 by decide]; exact Nat.pow_le_pow_right (by decide) hn)
    have hx : (UInt32.ofNat x).toNat = x := ofNat_toNat_lt h32
    have h1 : x / 256 < 256 ^ n := by rw [Nat.div_lt_iff_lt_mul (by decide)]; rwa [Nat.pow_succ] at h
    have hs := split (UInt32.ofNat x) 8
    have hh := Tn_high (UInt32.ofNat x) 8
    rw [hx] at hs hh
    rw [low]
    show run (feed c (UInt8.ofNat (x % 256))) (low n (x / 256)) = _
    rw [run_low n (x / 256) _ (by omega) h1, show 8 * (n + 1) = 8 + 8 * n by omega, Tn_add]
    congr 1
    unfold feed
    rw [ofNat_byte, show (256 : Nat) = 2 ^ 8 by decide, ← hh, ← Tn_xor, UInt32.xor_assoc, hs]
/-- the five bytes of a burst of 32 bits that begins at a byte's bit r -/
def five (v : UInt32) (r : Nat) : List UInt8 := low 4 (v.toNat * 2 ^ r % 4294967296) ++ [UInt8.ofNat (v.toNat * 2 ^ r / 4294967296 % 256)]
theorem run_five (v : UInt32) (r : Nat) (hr : r < 8) : run 0 (five v r) = Tn (40 - r) v := by
  have hv := v.toNat_lt
  have pr : (0 : Nat) < 2 ^ r := Nat.two_pow_pos r
  have e32 : (4294967296 : Nat) = 2 ^ (32 - r) * 2 ^ r := by rw [← Nat.pow_add, show 32 - r + r = 32 by omega]
  have hlo : v.toNat * 2 ^ r % 4294967296 = v.toNat % 2 ^ (32 - r) * 2 ^ r := by rw [e32, Nat.mul_mod_mul_right]
  have hhi : v.toNat * 2 ^ r / 4294967296 = v.toNat / 2 ^ (32 - r) := by rw [e32, Nat.mul_div_mul_right _ _ pr]
  have hh8 : v.toNat / 2 ^ (32 - r) < 256 := by
    rw [Nat.div_lt_iff_lt_mul (Nat.two_pow_pos _)]
    have : (4294967296 : Nat) ≤ 256 * 2 ^ (32 - r) := by
      rw [show (256 : Nat) = 2 ^ 8 by decide, ← Nat.pow_add, show (4294967296 : Nat) = 2 ^ 32 by decide]
      exact Nat.pow_le_pow_right (by decide) (by omega)
    omega
  have hy : v.toNat % 2 ^ (32 - r) * 2 ^ r < 4294967296 := by rw [← hlo]; exact Nat.mod_lt _ (by decide)
  unfold five
  rw [run_append, run_low 4 _ 0 (Nat.le_refl _) (by rw [show (256 : Nat) ^ 4 = 4294967296 by decide]; exact Nat.mod_lt _ (by decide)), UInt32.zero_xor, hlo, hhi, Nat.mod_eq_of_lt hh8]
  show feed (Tn 32 _) _ = _
  unfold feed
  have eb : (UInt8.ofNat (v.toNat / 2 ^ (32 - r))).toUInt32 = UInt32.ofNat (v.toNat / 2 ^ (32 - r)) := by
    have := ofNat_byte (v.toNat / 2 ^ (32 - r))
    rwa [Nat.mod_eq_of_lt hh8] at this
  rw [eb, Tn_xor, ← Tn_add, ← Tn_high v (32 - r), ← Tn_add, show 32 + 8 = r + (40 - r) by omega, show 32 - r + 8 = 40 - r by omega, Tn_add, ← Tn_xor]
  congr 1
  have er : Tn r (UInt32.ofNat (v.toNat % 2 ^ (32 - r) * 2 ^ r)) = UInt32.ofNat (v.toNat % 2 ^ (32 - r)) := by
    apply UInt32.toNat.inj
    rw [Tn_even r _ (by rw [ofNat_toNat_lt hy]; simp), ofNat_toNat_lt hy, Nat.mul_div_cancel _ pr, ofNat_toNat_lt (Nat.lt_of_le_of_lt (Nat.mod_le _ _) hv)]
  rw [er, split]
theorem xor_eq_zero {x y : UInt32} (h : x ^^^ y = x) : y = 0 := by
  have := congrArg (x ^^^ ·) h
  simpa [← UInt32.xor_assoc] using this
theorem burst (s : List UInt8) (q r : Nat) (v : UInt32) (hq : q + 5 ≤ s.length) (hr : r < 8) :
    sum (List.zipWith (· ^^^ ·) s (List.replicate q 0 ++ five v r ++ List.replicate (s.length - q - 5) 0)) = sum s ↔ v = 0 := by
  have hl : (five v r).length = 5 := by simp [five, low]
  unfold sum more
  have hx := run_xor s (List.replicate q 0 ++ five v r ++ List.replicate (s.length - q - 5) 0) (~~~ 0) 0 (by simp [hl]; omega)
  rw [UInt32.xor_zero] at hx
  have hd : run 0 (List.replicate q 0 ++ five v r ++ List.replicate (s.length - q - 5) 0) = Tn (40 - r + 8 * (s.length - q - 5)) v := by
    rw [run_append, run_append, run_zeros q, Tn_zero, run_five v r hr, run_zeros, ← Tn_add]
  rw [hx, hd]
  constructor
  · intro h
    have h2 := congrArg (~~~ ·) h
    simp only [not_not] at h2
    exact Tn_one (xor_eq_zero h2)
  · rintro rfl
    rw [Tn_zero, UInt32.xor_zero]
theorem five_getD (v : UInt32) (r : Nat) (i : Nat) (hi : i < 5) : (five v r).getD i 0 = UInt8.ofNat (v.toNat * 2 ^ r / 2 ^ (8 * i) % 256) := by
  unfold five
  generalize v.toNat * 2 ^ r = x
  match i, hi with
  | 0, _ => simp [low, List.getD_eq_getElem?_getD]
  | 1, _ => simp [low, List.getD_eq_getElem?_getD]; congr 1; omega
  | 2, _ => simp [low, List.getD_eq_getElem?_getD]; congr 1; omega
  | 3, _ => simp [low, List.getD_eq_getElem?_getD]; congr 1; omega
  | 4, _ => simp [low, List.getD_eq_getElem?_getD]
/-- bursts, place by place -/
theorem burst_at (s t : List UInt8) (q r : Nat) (v : UInt32) (hq : q + 5 ≤ s.length) (hr : r < 8) (hl : t.length = s.length)
    (h : ∀ j, j < s.length → t.getD j 0 = s.getD j 0 ^^^ (if q ≤ j ∧ j < q + 5 then UInt8.ofNat (v.toNat * 2 ^ r / 2 ^ (8 * (j - q)) % 256) else 0)) : sum t = sum s ↔ v = 0 := by
  have h5 : (five v r).length = 5 := by simp [five, low]
  rw [← burst s q r v hq hr]
  have e : t = List.zipWith (· ^^^ ·) s (List.replicate q 0 ++ five v r ++ List.replicate (s.length - q - 5) 0) := by
    refine ext_getD (by simp [List.length_zipWith, h5]; omega) fun j hj => ?_
    rw [h j (by omega), zip_getD _ _ (by omega) (by simp [h5]; omega)]
    congr 1
    rw [List.getD_eq_getElem?_getD]
    by_cases h1 : j < q
    · rw [if_neg (by omega), List.getElem?_append_left (by simp; omega), List.getElem?_append_left (by simp; omega)]
      simp [h1]
    · by_cases h2 : j < q + 5
      · rw [if_pos ⟨by omega, h2⟩, List.getElem?_append_left (by simp [h5]; omega), List.getElem?_append_right (by simp; omega), List.length_replicate, ← List.getD_eq_getElem?_getD, five_getD v r (j - q) (by omega)]
      · rw [if_neg (by omega), List.getElem?_append_right (by simp [h5]; omega), List.getElem?_replicate]
        simp [h5]
        split <;> rfl
  rw [← e]
end Go.Proofs.YtliojhhiadfmiaaDoor.Crc
