/-
  (*sha.Hash).Add: what is added stands behind all that was added before; no other block that was there turns. Conditions: the constants lie where the program's text lays them, the Hash lies in memory that may be written, all that was added has at most 2^48 bytes.
-/
import Derived.Test.YtdmpkgdlelagjaaGreatDoorRows
import Derived.Test.YtdmpkgdlelagjaaGreatDoorShaBytes
import Derived.WalkKit
import Derived.WalkSpells
import Derived.WalkLawsBesides
import Derived.ProofKit
import Derived.OpenShut
import Derived.Laws.BytesArg
import Derived.Deep.QuietTactic
import Derived.BigQuiet
import Derived.BigRegion
import Derived.Lib.Hide
import Derived.Lib.Builder
import Derived.Lib.UnsafeStr
import Derived.Lib.AppendStr
import Derived.Laws.Externs
import Derived.Deep.OwnRows
import Derived.Lib.SlBuf
import Derived.Lib.LazyBuf
import Derived.Deep.Cut
import Derived.Deep.MidRow
import Derived.IntWalk
import Derived.StillTailTactics
namespace Go.Proofs.YtdmpkgdlelagjaaGreatDoor.Sha
open Go.RowKit
attribute [local go_sem] u_xor u_or u_and u_not u_not2 u_add w_add w_byte m_byte m_shl24 m_shl16 m_shl8 w_shl24 w_shl16 w_shl8 m_shr3 m_shr10
/-! ### plain: blocks of what was added -/
theorem word_congr {f g : Nat → UInt8} (h : ∀ i, i < 64 → f i = g i) (t : Nat) (ht : t < 16) : word f t = word g t := by
  simp only [word]
  rw [h (4 * t) (by omega), h (4 * t + 1) (by omega), h (4 * t + 2) (by omega), h (4 * t + 3) (by omega)]
theorem sched_congr {f g : Nat → UInt8} (h : ∀ i, i < 64 → f i = g i) : ∀ n, sched f n = sched g n
  | 0 => by
    simp only [sched]
    exact List.map_congr_left fun t ht => word_congr h t (List.mem_range.1 ht)
  | n + 1 => by rw [sched, sched, sched_congr h n]
theorem block_congr (v : V) {f g : Nat → UInt8} (h : ∀ i, i < 64 → f i = g i) : block v f = block v g := by
  rw [block, block, sched_congr h]
theorem fold_append (l m : List UInt8) : ∀ n, 64 * n ≤ l.length → fold (l ++ m) n = fold l n
  | 0, _ => rfl
  | n + 1, h => by
    rw [fold, fold, fold_append l m n (by omega)]
    refine block_congr _ fun i hi => ?_
    rw [List.getD_eq_getElem?_getD, List.getD_eq_getElem?_getD, List.getElem?_append_left (by omega)]
/-- at block b lies a Hash to which l was added -/
def Ad (w : World) (b : Nat) (l : List UInt8) : Prop :=
  ∃ f, Hs w b (fold l (l.length / 64)) f (l.length : Int) ∧ ∀ i, i < l.length % 64 → f i = l.getD (64 * (l.length / 64) + i) 0
theorem Ad.lt {w : World} {b : Nat} {l : List UInt8} (h : Ad w b l) : b < w.heap.size := by obtain ⟨f, h, _⟩ := h; exact h.lt
theorem Ad.turned {w w' : World} {b b' : Nat} {l : List UInt8} (h : Ad w b l) (t : Turned b' w w') (hb : b ≠ b') : Ad w' b l := by
  obtain ⟨f, h, hf⟩ := h; exact ⟨f, h.turned t hb, hf⟩
theorem Ad.below {w w' : World} {b B : Nat} {l : List UInt8} (h : Ad w b l) (t : Below B w w') (hb : b < B) : Ad w' b l := by
  obtain ⟨f, h, hf⟩ := h; exact ⟨f, h.below t hb, hf⟩
/-- the block's bytes behind a copy of m to place r on -/
def laid (f : Nat → UInt8) (r : Nat) (m : List UInt8) (i : Nat) : UInt8 := if r ≤ i ∧ i < r + m.length then m.getD (i - r) 0 else f i
theorem Hs.copied {w : World} {b : Nat} {v : V} {f : Nat → UInt8} {n : Int} (h : Hs w b v f n) (r : Nat) (m : List UInt8) (hm : r + m.length ≤ 64) : Hs (w.setCells b (8 + r) (m.map c8)) b v (laid f r m) n :=
  ⟨fun i hi => by rw [World.cell?_setCells_out _ _ _ _ _ (fun _ _ => Or.inl (by show i < 8 + r; omega))]; exact h.st i hi,
   fun i hi => by
    unfold laid
    by_cases g : r ≤ i ∧ i < r + m.length
    · rw [if_pos g]
      have e := World.cell?_setCells_in b (m.map c8) (8 + r) w (fun j hj => by
        rw [List.length_map] at hj
        rw [show 8 + r + j = 8 + (r + j) by omega, h.bl (r + j) (by omega)]; rfl) (i - r) (by rw [List.length_map]; omega)
      rw [show 8 + r + (i - r) = 8 + i by omega] at e
      rw [e]
      simp [c8, List.getD_eq_getElem?_getD, List.getElem?_eq_getElem (show i - r < m.length by omega)]
    · rw [if_neg g, World.cell?_setCells_out _ _ _ _ _ (fun _ _ => by rw [List.length_map]; show 8 + i < 8 + r ∨ 8 + r + m.length ≤ 8 + i; omega)]
      exact h.bl i hi,
   by rw [World.cell?_setCells_out _ _ _ _ _ (fun _ _ => Or.inr (by rw [List.length_map]; show 8 + r + m.length ≤ 72; omega))]; exact h.sz,
   fun i hi => by rw [World.frozen?_setCells]; exact h.fr i hi⟩
theorem Hs.sized {w : World} {b : Nat} {v : V} {f : Nat → UInt8} {n : Int} (h : Hs w b v f n) (n' : Int) : Hs (w.setCell ⟨b, 72, none⟩ (.int .u64 n')) b v f n' :=
  ⟨fun i hi => by rw [World.cell?_setCell_other _ _ _ _ (fun g => by have := congrArg Addr.off g; simp only at this; omega)]; exact h.st i hi,
   fun i hi => by rw [World.cell?_setCell_other _ _ _ _ (fun g => by have := congrArg Addr.off g; simp only at this; omega)]; exact h.bl i hi,
   World.cell?_setCell_same _ _ _ h.sz, fun i hi => by rw [World.frozen?_setCell]; exact h.fr i hi⟩
theorem Turned.setCells {b : Nat} {w : World} : ∀ (vs : List Value) (o : Nat) (w' : World), Turned b w w' → Turned b w (w'.setCells b o vs)
  | [], _, _, h => h
  | v :: vs, o, _, h => Turned.setCells vs (o + 1) _ (h.setCell o v)
/-- the bytes that were added, when m more lie in the block, which isn't full yet -/
theorem fits_more (l m : List UInt8) (f : Nat → UInt8) (hf : ∀ i, i < l.length % 64 → f i = l.getD (64 * (l.length / 64) + i) 0) (hm : l.length % 64 + m.length < 64) :
    fold (l ++ m) ((l ++ m).length / 64) = fold l (l.length / 64) ∧ ∀ i, i < (l ++ m).length % 64 → laid f (l.length % 64) m i = (l ++ m).getD (64 * ((l ++ m).length / 64) + i) 0 := by
  have hd := Nat.div_add_mod l.length 64
  have hr := Nat.mod_lt l.length (show 0 < 64 by decide)
  have e1 : (l ++ m).length / 64 = l.length / 64 := by rw [List.length_append]; omega
  have e2 : (l ++ m).length % 64 = l.length % 64 + m.length := by rw [List.length_append]; omega
  rw [e1, e2]
  refine ⟨fold_append l m _ (by omega), fun i hi => ?_⟩
  unfold laid
  by_cases g : l.length % 64 ≤ i
  · rw [if_pos ⟨g, hi⟩, List.getD_eq_getElem?_getD, List.getD_eq_getElem?_getD, List.getElem?_append_right (by omega), show 64 * (l.length / 64) + i - l.length = i - l.length % 64 by omega]
  · rw [if_neg (by omega), hf i (by omega), List.getD_eq_getElem?_getD, List.getD_eq_getElem?_getD, List.getElem?_append_left (by omega)]
/-- .. and when it is full with them -/
theorem fits_full (l m : List UInt8) (f : Nat → UInt8) (hf : ∀ i, i < l.length % 64 → f i = l.getD (64 * (l.length / 64) + i) 0) (hm : l.length % 64 + m.length = 64) :
    fold (l ++ m) ((l ++ m).length / 64) = block (fold l (l.length / 64)) (laid f (l.length % 64) m) ∧ (l ++ m).length % 64 = 0 := by
  have hd := Nat.div_add_mod l.length 64
  have hr := Nat.mod_lt l.length (show 0 < 64 by decide)
  have e1 : (l ++ m).length / 64 = l.length / 64 + 1 := by rw [List.length_append]; omega
  have e2 : (l ++ m).length % 64 = 0 := by rw [List.length_append]; omega
  rw [e1, e2, fold, fold_append l m _ (by omega)]
  refine ⟨block_congr _ fun i hi => ?_, rfl⟩
  unfold laid
  by_cases g : l.length % 64 ≤ i
  · rw [if_pos ⟨g, by omega⟩, List.getD_eq_getElem?_getD, List.getD_eq_getElem?_getD, List.getElem?_append_right (by omega), show 64 * (l.length / 64) + i - l.length = i - l.length % 64 by omega]
  · rw [if_neg (by omega), hf i (by omega), List.getD_eq_getElem?_getD, List.getD_eq_getElem?_getD, List.getElem?_append_left (by omega)]
/-- a string's length -/
def lenS : Value → Nat
  | .string t => t.size
  | _ => 0
/-- 'copy(dst, t)' of a string: as many bytes as fit -/
theorem run_copy_cut {P : Program} (w : World) (dT sT ty elem : TypeId) (b o dLen dCap : Nat) (t : ByteArray)
    (hu : P.underlying dT = some (.slice elem)) (hz : ∀ w, (Go.sizeOf elem).run P w = .ok 1 w) (n : Nat) (hn : n = min t.size dLen)
    (hc : ∀ j, j < n → (w.cell? ⟨b, o + j, none⟩).isSome = true) (hf : ∀ j, j < n → w.frozen? ⟨b, o + j, none⟩ = false) :
    (Builtin.copy_ #[dT, sT] ty #[.slice (some ⟨b, o, none⟩) dLen dCap, .string t]).run P w = .ok (.int .i64 n) (w.setCells b o ((t.data.toList.take n).map c8)) := by
  have hl : ((t.data.toList.take n).map c8).length = n := by rw [List.length_map, List.length_take, ← Lib.size_eq]; omega
  have hst := run_storeCells_cells (P := P) b o ((t.data.toList.take n).map c8) 0 w (by rw [hl]; simpa using hc) (by rw [hl]; simpa using hf) (by
    intro v hv
    obtain ⟨x, _, rfl⟩ := List.mem_map.1 hv
    rfl)
  have hmin : Nat.min t.size dLen = n := hn.symm
  simp [Builtin.copy_, run_underlying hu, Builtin.lenOf, Builtin.firstCells, hz, hmin]
  have e : (t.data.toList.map fun b => Value.int IntKind.u8 (b.toNat : Int)).take n = (t.data.toList.take n).map c8 := by rw [List.map_take]; rfl
  have e2 : (t.data.toList.map c8).take n = (t.data.toList.take n).map c8 := by rw [List.map_take]
  rw [e, e2, hst]; rfl
theorem drop_toList (t : ByteArray) (n : Nat) (_h : n ≤ t.size) : (t.extract n t.size).data.toList = t.data.toList.drop n := by
  have e : t.size = t.data.toList.length := Lib.size_eq t
  rw [ByteArray.data_extract, Array.toList_extract, List.extract, e, ← List.length_drop, List.take_length]
theorem sizeByte : ∀ w, (Go.sizeOf 5).run Tryz.prog w = .ok 1 w := fun w => by kernel_rfl
attribute [local irreducible] fold block laid
set_option maxRecDepth 100000 in
set_option maxHeartbeats 1000000 in
theorem Add_calls (b : Nat) (l : List UInt8) (s : ByteArray) (w : World) (hk : Kc w) (hb : 0 < b) (h : Ad w b l) (hn : l.length + s.size ≤ 281474976710656) :
    Calls Tryz.prog 56 #[.pointer (some ⟨b, 0, none⟩), .string s] w fun e w' => e = .returned (.tuple #[]) ∧ Ad w' b (l ++ s.data.toList) ∧ Turned b w w' := by
  replace hk := Lib.hid hk
  replace h := Lib.hid h
  go_enter Tryz.func56, Tryz.ntmps56
  go_wp2
  go_loopw [1] (fun s1 wr => ∃ (t : ByteArray) (l1 : List UInt8), s1 = .string t ∧ l1 ++ t.data.toList = l ++ s.data.toList ∧ Ad wr b l1 ∧ Turned b w wr) (fun s1 _ => lenS s1)
  case atStart => exact ⟨s, l, rfl, rfl, h.out, Turned.refl b w⟩
  case round =>
    obtain ⟨t, l1, rfl, he, hA, hT⟩ := hrel
    replace he := Lib.hid he
    have hsz : l1.length + t.size = l.length + s.size := by
      have := congrArg List.length he.out
      rwa [List.length_append, List.length_append, ← Lib.size_eq, ← Lib.size_eq] at this
    obtain ⟨f, hH, hf⟩ := hA
    replace hf := Lib.hid hf
    have hK := hk.out.turned hT hb
    by_cases ht : 0 < t.size
    · have it : (0 : Int) < t.size := by omega
      have c72 := hH.sz
      have hr : (l1.length : Int) % 64 = ((l1.length % 64 : Nat) : Int) := by omega
      have hr2 := Nat.mod_lt l1.length (show 0 < 64 by decide)
      have hmore := Lib.hid (fun m => fits_more l1 m f hf.out)
      have hfull := Lib.hid (fun m => fits_full l1 m f hf.out)
      clear hf
      generalize l1.length % 64 = r at *
      obtain ⟨n, hnn⟩ : ∃ n, n = min t.size (64 - r) := ⟨_, rfl⟩
      have hn1 : n ≤ t.size := by omega
      have hn2 : n ≤ 64 - r := by omega
      have hn3 : 0 < n := by omega
      have hml : (t.data.toList.take n).length = n := by rw [List.length_take, ← Lib.size_eq]; omega
      have hcp := run_copy_cut (P := Tryz.prog) wr 42 9 3 5 b (8 + r) (64 - r) (64 - r) t Tryz.underlying42 sizeByte n hnn
        (fun j hj => by rw [show 8 + r + j = 8 + (r + j) by omega, hH.bl (r + j) (by omega)]; rfl) (fun j hj => hH.fr (8 + r + j) (by omega))
      have hH2 := hH.copied r (t.data.toList.take n) (by rw [hml]; omega)
      have hT2 := hT.setCells ((t.data.toList.take n).map c8) (8 + r) wr
      have hfin : n = t.size ∨ r + n = 64 := by omega
      generalize wr.setCells b (8 + r) ((t.data.toList.take n).map c8) = w2 at *
      have hK2 := hk.out.turned hT2 hb
      clear hH hT hK hnn
      replace hml := Lib.hid hml
      have d72 := hH2.sz
      have f72 := hH2.fr 72 (by decide)
      have hH3 := hH2.sized ((l1.length : Int) + n)
      have hT3 := hT2.setCell 72 (.int .u64 ((l1.length : Int) + n))
      have k1 : (r : Int) < 64 := by omega
      have k2 : (r : Int) ≤ 64 := by omega
      have k3 : 0 ≤ (r : Int) := by omega
      have k4 : (n : Int) ≤ t.size := by omega
      have k5 : (r : Int) + n ≤ 64 := by omega
      have hex := Lib.hid (drop_toList t n hn1)
      have hex2 : (t.extract n t.size).size = t.size - n := by rw [Lib.size_eq, hex.out, List.length_drop, ← Lib.size_eq]
      replace hex2 := Lib.hid hex2
      have he2 : (l1 ++ t.data.toList.take n) ++ (t.extract n t.size).data.toList = l ++ s.data.toList := by
        rw [hex.out, List.append_assoc, List.take_append_drop]; exact he.out
      replace he2 := Lib.hid he2
      have hlen : ((l1 ++ t.data.toList.take n).length : Int) = (l1.length : Int) + n := by rw [List.length_append, hml.out]; omega
      replace hlen := Lib.hid hlen
      by_cases hfl : r + n = 64
      · have hq : ((r : Int) + n == 64) = true := by simp; omega
        obtain ⟨q1, q2⟩ := hfull.out (t.data.toList.take n) (by rw [hml.out]; exact hfl)
        replace q1 := Lib.hid q1
        replace q2 := Lib.hid q2
        have hK3 := hk.out.turned hT3 hb
        clear hfull hmore hH2 hT2 hK2 hfin
        go_wp2_with fail
        clear d72 f72 c72 hcp hr hq
        generalize w2.setCell ⟨b, 72, none⟩ (.int .u64 ((l1.length : Int) + n)) = w3 at *
        go_still_tail 6, (by kernel_rfl)
        change wpList _ _ _ _ _ w3.drew
        go_wp2_with fail
        refine (mix_calls b _ _ _ w3.drew ⟨hK3.cell⟩ hb ⟨hH3.st, hH3.bl, hH3.sz, hH3.fr⟩).mono ?_
        rintro e w4 ⟨rfl, hH4, hT4⟩
        go_wp2_with fail
        refine ⟨⟨t.extract n t.size, l1 ++ t.data.toList.take n, rfl, he2.out, ⟨laid f r (t.data.toList.take n), ?_, fun i hi => ?_⟩, hT3.drew.trans hT4⟩, ?_⟩
        · rw [hlen.out, q1.out]; exact hH4
        · rw [q2.out] at hi; exact absurd hi (Nat.not_lt_zero i)
        · show (t.extract n t.size).size < t.size
          rw [hex2.out]; omega
      · have hq : ((r : Int) + n == 64) = false := by simp; omega
        obtain ⟨q1, q2⟩ := hmore.out (t.data.toList.take n) (by rw [hml.out]; omega)
        replace q1 := Lib.hid q1
        replace q2 := Lib.hid q2
        clear hfull hmore hH2 hT2 hK2 hfin
        go_wp2_with fail
        refine ⟨⟨t.extract n t.size, l1 ++ t.data.toList.take n, rfl, he2.out, ⟨laid f r (t.data.toList.take n), ?_, q2.out⟩, hT3⟩, ?_⟩
        · rw [hlen.out, q1.out]; exact hH3
        · show (t.extract n t.size).size < t.size
          rw [hex2.out]; omega
    · have hd : decide ((0 : Int) < t.size) = false := decide_eq_false (by omega)
      have ht0 : t.data.toList = [] := List.eq_nil_of_length_eq_zero (by rw [← Lib.size_eq]; omega)
      have hend : l1 = l ++ s.data.toList := by rw [← he.out, ht0, List.append_nil]
      have hfin : Ad wr b (l ++ s.data.toList) := by rw [← hend]; exact ⟨f, hH, hf.out⟩
      replace hfin := Lib.hid hfin
      clear ht0 hend hf hH hK
      go_wp2
      go_end0
      exact ⟨rfl, hfin.out, hT⟩
end Go.Proofs.YtdmpkgdlelagjaaGreatDoor.Sha
