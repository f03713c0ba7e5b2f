/-
  Plain mathematics of the digest (no program): words are UInt32, read as integers by 'u'; how sums, bit operations and shifts of the model's integers read on words; the round, the schedule, the block, the whole. Conditions: none.
-/
import Derived.Laws.Entries
import Derived.KernelRfl
namespace Go.Proofs.YtdmpkgdlelagjaaGreatDoor.Sha

/-- a word as the model's integer -/
def u (x : UInt32) : Int := (x.toNat : Int)
theorem u_lt (x : UInt32) : u x < 4294967296 := by have := x.toNat_lt; simp only [u]; omega
theorem u_nonneg (x : UInt32) : 0 ≤ u x := by simp only [u]; omega
theorem u_inj {x y : UInt32} (h : u x = u y) : x = y := by
  apply UInt32.toNat_inj.1; simp only [u] at h; omega
theorem wrap32 (n : Int) : IntKind.u32.wrap n = n % (4294967296 : Int) := by simp [IntKind.wrap, IntKind.bits, IntKind.signed]
theorem ofInt_u (x : UInt32) : BitVec.ofInt 32 (u x) = x.toBitVec := by
  apply BitVec.eq_of_toNat_eq
  have := x.toNat_lt
  simp only [u, BitVec.toNat_ofInt, UInt32.toNat_toBitVec]
  omega
theorem toNat_wrap (x : UInt32) : IntKind.u32.wrap (x.toBitVec.toNat : Int) = u x := by
  have := x.toNat_lt
  rw [wrap32]
  simp only [u, UInt32.toNat_toBitVec]
  omega
theorem u_xor (a b : UInt32) : bits .xor .u32 (u a) (u b) = u (a ^^^ b) := by
  rw [← toNat_wrap (a ^^^ b)]
  simp only [bits, IntKind.bits]
  rw [ofInt_u, ofInt_u]; rfl
theorem u_and (a b : UInt32) : bits .and .u32 (u a) (u b) = u (a &&& b) := by
  rw [← toNat_wrap (a &&& b)]
  simp only [bits, IntKind.bits]
  rw [ofInt_u, ofInt_u]; rfl
theorem u_or (a b : UInt32) : bits .or .u32 (u a) (u b) = u (a ||| b) := by
  rw [← toNat_wrap (a ||| b)]
  simp only [bits, IntKind.bits]
  rw [ofInt_u, ofInt_u]; rfl
theorem u_not (a : UInt32) : bits .xor .u32 4294967295 (u a) = u (~~~ a) := by
  have h : (4294967295 : Int) = u 4294967295 := by simp [u]
  have e : (4294967295 : UInt32) ^^^ a = ~~~ a := by
    apply UInt32.toBitVec_inj.1
    rw [UInt32.toBitVec_xor, UInt32.toBitVec_not, BitVec.xor_comm]
    exact BitVec.xor_allOnes
  rw [h, u_xor, e]
theorem u_not2 (a : UInt32) : bits .xor .u32 (if IntKind.u32.signed = true then -1 else IntKind.u32.max) (u a) = u (~~~ a) := u_not a
theorem u_add (a b : UInt32) : (u a + u b) % (4294967296 : Int) = u (a + b) := by
  simp only [u, UInt32.toNat_add]; omega
theorem u_shl (x : UInt32) (k : Nat) (h : k < 32) : (u x * 2 ^ k) % 4294967296 = u (x <<< (UInt32.ofNat k)) := by
  have hk : (UInt32.ofNat k).toNat = k := by rw [UInt32.toNat_ofNat']; omega
  unfold u
  rw [UInt32.toNat_shiftLeft, hk, Nat.mod_eq_of_lt h, Nat.shiftLeft_eq]
  generalize hm : (2 : Nat) ^ k = m
  have e : (2 : Int) ^ k = (m : Int) := by rw [← hm]; exact (Int.natCast_pow 2 k).symm
  rw [e]
  generalize x.toNat = y
  have e2 : (2 : Nat) ^ 32 = 4294967296 := by decide
  rw [e2, Int.natCast_emod, Int.natCast_mul]
  rfl
theorem u_shr (x : UInt32) (k : Nat) (h : k < 32) : u x / 2 ^ k = u (x >>> (UInt32.ofNat k)) := by
  have hk : (UInt32.ofNat k).toNat = k := by rw [UInt32.toNat_ofNat']; omega
  unfold u
  rw [UInt32.toNat_shiftRight, hk, Nat.mod_eq_of_lt h, Nat.shiftRight_eq_div_pow]
  rw [Int.natCast_ediv, Int.natCast_pow]
  rfl
theorem u_byte (c : UInt8) : ((c.toNat : Int)) = u c.toUInt32 := by simp [u]

theorem w_add (a b : UInt32) : IntKind.u32.wrap (u a + u b) = u (a + b) := by rw [wrap32, u_add]
theorem w_byte (c : UInt8) : IntKind.u32.wrap (c.toNat : Int) = u c.toUInt32 := by
  rw [u_byte, wrap32]; exact Int.emod_eq_of_lt (u_nonneg _) (u_lt _)
theorem m_byte (c : UInt8) : (c.toNat : Int) % (4294967296 : Int) = u c.toUInt32 := by rw [← wrap32, w_byte]
theorem m_shl24 (x : UInt32) : (u x * (16777216 : Int)) % (4294967296 : Int) = u (x <<< 24) := u_shl x 24 (by decide)
theorem m_shl16 (x : UInt32) : (u x * (65536 : Int)) % (4294967296 : Int) = u (x <<< 16) := u_shl x 16 (by decide)
theorem m_shl8 (x : UInt32) : (u x * (256 : Int)) % (4294967296 : Int) = u (x <<< 8) := u_shl x 8 (by decide)
theorem w_shl24 (x : UInt32) : IntKind.u32.wrap (u x * (16777216 : Int)) = u (x <<< 24) := (wrap32 _).trans (m_shl24 x)
theorem w_shl16 (x : UInt32) : IntKind.u32.wrap (u x * (65536 : Int)) = u (x <<< 16) := (wrap32 _).trans (m_shl16 x)
theorem w_shl8 (x : UInt32) : IntKind.u32.wrap (u x * (256 : Int)) = u (x <<< 8) := (wrap32 _).trans (m_shl8 x)
theorem m_shr3 (x : UInt32) : u x / (8 : Int) = u (x >>> 3) := u_shr x 3 (by decide)
theorem m_shr10 (x : UInt32) : u x / (1024 : Int) = u (x >>> 10) := u_shr x 10 (by decide)

/-- turned right -/
def rotr (x : UInt32) (n : Nat) : UInt32 := (x <<< (UInt32.ofNat (32 - n))) ||| (x >>> (UInt32.ofNat n))
def s0 (x : UInt32) : UInt32 := rotr x 7 ^^^ rotr x 18 ^^^ (x >>> 3)
def s1 (y : UInt32) : UInt32 := rotr y 17 ^^^ rotr y 19 ^^^ (y >>> 10)
def b0 (a : UInt32) : UInt32 := rotr a 2 ^^^ rotr a 13 ^^^ rotr a 22
def b1 (e : UInt32) : UInt32 := rotr e 6 ^^^ rotr e 11 ^^^ rotr e 25
def word (f : Nat → UInt8) (t : Nat) : UInt32 :=
  ((f (4 * t)).toUInt32 <<< 24) ||| ((f (4 * t + 1)).toUInt32 <<< 16) ||| ((f (4 * t + 2)).toUInt32 <<< 8) ||| (f (4 * t + 3)).toUInt32

/-- the eight words -/
structure V where
  a : UInt32
  b : UInt32
  c : UInt32
  d : UInt32
  e : UInt32
  f : UInt32
  g : UInt32
  h : UInt32
def V.at (v : V) : Nat → UInt32
  | 0 => v.a | 1 => v.b | 2 => v.c | 3 => v.d | 4 => v.e | 5 => v.f | 6 => v.g | _ => v.h
def V.ofFn (g : Nat → UInt32) : V := ⟨g 0, g 1, g 2, g 3, g 4, g 5, g 6, g 7⟩
theorem V.at_ofFn (g : Nat → UInt32) (i : Nat) (h : i < 8) : (V.ofFn g).at i = g i := by
  match i, h with
  | 0, _ => rfl
  | 1, _ => rfl
  | 2, _ => rfl
  | 3, _ => rfl
  | 4, _ => rfl
  | 5, _ => rfl
  | 6, _ => rfl
  | 7, _ => rfl
def p (v : V) (k w : UInt32) : UInt32 := v.h + b1 v.e + ((v.e &&& v.f) ^^^ (~~~ v.e &&& v.g)) + k + w
def q (v : V) : UInt32 := b0 v.a + ((v.a &&& v.b) ^^^ (v.a &&& v.c) ^^^ (v.b &&& v.c))
def round (v : V) (k w : UInt32) : V := ⟨p v k w + q v, v.a, v.b, v.c, v.d + p v k w, v.e, v.f, v.g⟩

/-- the schedule's words, the first n of them as a list -/
def more (l : List UInt32) : List UInt32 :=
  l ++ [l.getD (l.length - 16) 0 + s0 (l.getD (l.length - 15) 0) + l.getD (l.length - 7) 0 + s1 (l.getD (l.length - 2) 0)]
def sched (f : Nat → UInt8) : Nat → List UInt32
  | 0 => (List.range 16).map (word f)
  | n + 1 => more (sched f n)
def ks : List UInt32 := [0x428a2f98, 0x71374491, 0xb5c0fbcf, 0xe9b5dba5, 0x3956c25b, 0x59f111f1, 0x923f82a4, 0xab1c5ed5,
  0xd807aa98, 0x12835b01, 0x243185be, 0x550c7dc3, 0x72be5d74, 0x80deb1fe, 0x9bdc06a7, 0xc19bf174,
  0xe49b69c1, 0xefbe4786, 0x0fc19dc6, 0x240ca1cc, 0x2de92c6f, 0x4a7484aa, 0x5cb0a9dc, 0x76f988da,
  0x983e5152, 0xa831c66d, 0xb00327c8, 0xbf597fc7, 0xc6e00bf3, 0xd5a79147, 0x06ca6351, 0x14292967,
  0x27b70a85, 0x2e1b2138, 0x4d2c6dfc, 0x53380d13, 0x650a7354, 0x766a0abb, 0x81c2c92e, 0x92722c85,
  0xa2bfe8a1, 0xa81a664b, 0xc24b8b70, 0xc76c51a3, 0xd192e819, 0xd6990624, 0xf40e3585, 0x106aa070,
  0x19a4c116, 0x1e376c08, 0x2748774c, 0x34b0bcb5, 0x391c0cb3, 0x4ed8aa4a, 0x5b9cca4f, 0x682e6ff3,
  0x748f82ee, 0x78a5636f, 0x84c87814, 0x8cc70208, 0x90befffa, 0xa4506ceb, 0xbef9a3f7, 0xc67178f2]
def rounds (W : List UInt32) (v : V) : Nat → V
  | 0 => v
  | t + 1 => round (rounds W v t) (ks.getD t 0) (W.getD t 0)
def V.plus (v w : V) : V := ⟨v.a + w.a, v.b + w.b, v.c + w.c, v.d + w.d, v.e + w.e, v.f + w.f, v.g + w.g, v.h + w.h⟩
def block (v : V) (f : Nat → UInt8) : V := v.plus (rounds (sched f 48) v 64)
def first : V := ⟨0x6a09e667, 0xbb67ae85, 0x3c6ef372, 0xa54ff53a, 0x510e527f, 0x9b05688c, 0x1f83d9ab, 0x5be0cd19⟩
def bytes4 (x : UInt32) : List UInt8 := [(x >>> 24).toUInt8, (x >>> 16).toUInt8, (x >>> 8).toUInt8, x.toUInt8]
def V.bytes (v : V) : List UInt8 := bytes4 v.a ++ (bytes4 v.b ++ (bytes4 v.c ++ (bytes4 v.d ++ (bytes4 v.e ++ (bytes4 v.f ++ (bytes4 v.g ++ bytes4 v.h))))))

/-- the words behind the first n blocks of l -/
def fold (l : List UInt8) : Nat → V
  | 0 => first
  | n + 1 => block (fold l n) (fun i => l.getD (64 * n + i) 0)
/-- the number's eight bytes, the highest first -/
def len8 (n : Nat) : List UInt8 := [UInt8.ofNat (n / 2 ^ 56), UInt8.ofNat (n / 2 ^ 48), UInt8.ofNat (n / 2 ^ 40), UInt8.ofNat (n / 2 ^ 32), UInt8.ofNat (n / 2 ^ 24), UInt8.ofNat (n / 2 ^ 16), UInt8.ofNat (n / 2 ^ 8), UInt8.ofNat n]
/-- how many zeros stand behind the byte 80 -/
def zs (n : Nat) : Nat := (64 - (n + 9) % 64) % 64
def ending (n : Nat) : List UInt8 := 128 :: (List.replicate (zs n) 0 ++ len8 (8 * n))
def sum (l : List UInt8) : List UInt8 := (fold (l ++ ending l.length) ((l ++ ending l.length).length / 64)).bytes

set_option maxRecDepth 100000 in
theorem sum_none : sum [] = [0xe3, 0xb0, 0xc4, 0x42, 0x98, 0xfc, 0x1c, 0x14, 0x9a, 0xfb, 0xf4, 0xc8, 0x99, 0x6f, 0xb9, 0x24, 0x27, 0xae, 0x41, 0xe4, 0x64, 0x9b, 0x93, 0x4c, 0xa4, 0x95, 0x99, 0x1b, 0x78, 0x52, 0xb8, 0x55] := by kernel_rfl
end Go.Proofs.YtdmpkgdlelagjaaGreatDoor.Sha
