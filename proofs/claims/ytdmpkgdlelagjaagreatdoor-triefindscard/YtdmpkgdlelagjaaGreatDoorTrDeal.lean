/-
  trie.deal: a rising list dealt out by the next digit, over the library's binary search. Conditions: the ids begin alike and rise; at most 1000 of them.
-/
import Derived.Test.YtdmpkgdlelagjaaGreatDoorRows
import Derived.Test.YtdmpkgdlelagjaaGreatDoorTrRead
import Derived.Deep.RegionLaw
import Derived.Deep.RegionHeld3
import Derived.StillTailTactics
namespace Go.Proofs.YtdmpkgdlelagjaaGreatDoor.Tr
open Go Go.RowKit
open Ident (by_ val dg digit has digits)
open Sh (b_alloc b_drew b_drewN b_next b_then Rises)

/-- a call answers whether something holds -/
def Tells (e : Ending) (p : Prop) : Prop := ∃ x, e = .returned (.bool x) ∧ (x = true ↔ p)
theorem Tells.yes {p : Prop} (h : p) : Tells (.returned (.bool true)) p := ⟨true, rfl, by simp [h]⟩
theorem Tells.no {p : Prop} (h : ¬ p) : Tells (.returned (.bool false)) p := ⟨false, rfl, by simp [h]⟩
set_option maxHeartbeats 1000000 in
theorem deal1_calls (i pi pa pd : Nat) (a : Option Addr) (cap b off : Nat) (R : List ByteArray) (k d : Nat) (w : World) (hi : i < R.length) (hk : k < 64) (hs : R[i].size = 32)
    (c1 : w.cell? ⟨pi, 0, none⟩ = some (.slice a R.length cap)) (c2 : w.cell? ⟨pa, 0, none⟩ = some (.int .i64 (k : Int))) (c3 : w.cell? ⟨pd, 0, none⟩ = some (.int .i64 (d : Int))) (hT : TxAt w a b off R) :
    Calls Tryz.prog 97 #[.int .i64 (i : Int), .pointer (some ⟨pi, 0, none⟩), .pointer (some ⟨pa, 0, none⟩), .pointer (some ⟨pd, 0, none⟩)] w fun e w' => Tells e (d < digit R[i] k) ∧ Below w.heap.size w w' := by
  have ha := hT.addr (by omega)
  subst ha
  have c0 := hT.cell i _ (List.getElem?_eq_getElem hi)
  have hD := fun w' => Ident.Digit_calls R[i] (k : Int) w'
  rw [Ident.digitAt_in hs hk] at hD
  generalize R[i] = x at *
  generalize digit x k = g at *
  obtain ⟨n, hn⟩ : ∃ n, R.length = n := ⟨_, rfl⟩
  rw [hn] at c1 hi
  have i0 : (0 : Int) ≤ i := by omega
  have i1 : (i : Int) < n := by omega
  have hD2 := Lib.hid fun w' => (hD w').mono fun e w'' ⟨h1, h2⟩ => (⟨h1, h2.symm⟩ : _ ∧ w'' = w')
  clear hn hT hs hD
  by_cases hg : d < g
  · have d0 : (d : Int) < g := by omega
    have d1 : decide (d < g) = true := decide_eq_true hg
    replace hg := Lib.hid hg
    go_enter Tryz.func97, Tryz.ntmps97
    go_wp2_with fail
    go_quiet ((go_at_call 53; exact Calls.quiet_of_same (hD2.out _)))
    go_wp2
    go_ret
    exact ⟨.yes hg.out, b_drewN _ _⟩
  · have d0 : ¬ (d : Int) < g := by omega
    have d1 : decide (d < g) = false := decide_eq_false hg
    replace hg := Lib.hid hg
    go_enter Tryz.func97, Tryz.ntmps97
    go_wp2_with fail
    go_quiet ((go_at_call 53; exact Calls.quiet_of_same (hD2.out _)))
    go_wp2
    go_ret
    exact ⟨.no hg.out, b_drewN _ _⟩
theorem half (i j : Nat) : (((i + j) / 2 : Nat) : Int) = ((i : Int) + j) / 2 := by omega
set_option maxRecDepth 100000 in
set_option maxHeartbeats 1000000 in
/-- the library's binary search: the first place at which something holds that stays -/
theorem Search_calls (n : Nat) (hn : n ≤ 1000000) (g : Nat) (cb : Array Value) (p : Nat → Prop) (hmono : ∀ i j, i ≤ j → j < n → p i → p j) (w : World) (eg : ∀ args w, (callFunc g args).run Tryz.prog w = .ok (.enter g args) w)
    (hf : ∀ i wr, i < n → Below w.heap.size w wr → Calls Tryz.prog g (#[.int .i64 (i : Int)] ++ cb) wr fun e w' => Tells e (p i) ∧ Below wr.heap.size wr w') :
    Calls Tryz.prog 96 #[.int .i64 (n : Int), .func (.func g) #[] cb] w fun e w' => (∃ k : Nat, e = .returned (.int .i64 k) ∧ k ≤ n ∧ (∀ i, i < k → ¬ p i) ∧ (k < n → p k)) ∧ Below w.heap.size w w' := by
  replace hf := Lib.hid hf
  replace hmono := Lib.hid hmono
  have hB0 := Lib.hid (Below.refl w.heap.size w)
  go_enter Tryz.func96, Tryz.ntmps96
  go_wp2
  go_loopw [5, 6, 7] (fun x y _ wr => ∃ i j : Nat, x = .int .i64 i ∧ y = .int .i64 j ∧ i ≤ j ∧ j ≤ n ∧ Hid ((∀ t, t < i → ¬ p t) ∧ (j < n → p j)) ∧ Hid (Below w.heap.size w wr)) (fun x y _ _ => (intOf y).toNat - (intOf x).toNat)
  case atStart => exact ⟨0, n, rfl, rfl, by omega, by omega, Lib.hid ⟨fun t ht => by omega, fun h => by omega⟩, hB0⟩
  case round =>
    obtain ⟨i, j, rfl, rfl, hij, hj, hI, hB⟩ := hrel
    clear hB0
    by_cases hlt : i < j
    · have d0 : (i : Int) < j := by omega
      have u1 : IntKind.i64.wrap ((i : Int) + j) = (i : Int) + j := IntWalk.i64_in _ (by omega)
      have u2 : IntKind.u64.wrap ((i : Int) + j) = (i : Int) + j := by rw [IntKind.wrap_u64]; omega
      obtain ⟨h, hh⟩ : ∃ h, (i + j) / 2 = h := ⟨_, rfl⟩
      have u3 : ((i : Int) + j) / 2 = h := by rw [← hh, half]
      have u4 : IntKind.i64.wrap (h : Int) = h := IntWalk.i64_in _ (by omega)
      have b1 : i ≤ h := by omega
      have b2 : h < j := by omega
      clear hh
      go_wp2_with fail
      refine (hf.out h wr (by omega) hB.out).mono ?_
      rintro e w' ⟨⟨x, rfl, hx⟩, hb⟩
      have hB2 := Lib.hid (b_then hB.out hb)
      clear u1 u2 u3 u4 hb
      cases x with
      | true =>
        have hp : Hid (p h) := Lib.hid (hx.1 rfl)
        clear hx
        go_wp2
        exact ⟨⟨i, h, rfl, rfl, b1, by omega, Lib.hid ⟨hI.out.1, fun _ => hp.out⟩, hB2⟩, by simp [intOf]; omega⟩
      | false =>
        have hp : Hid (¬ p h) := Lib.hid fun c => absurd (hx.2 c) (by decide)
        clear hx
        go_wp2
        exact ⟨⟨h + 1, j, by go_num, rfl, by omega, hj, Lib.hid ⟨fun t ht hc => hp.out (hmono.out t h (by omega) (by omega) hc), hI.out.2⟩, hB2⟩, by simp [intOf]; omega⟩
    · have d0 : decide ((i : Int) < j) = false := decide_eq_false (by omega)
      have d1 : (j : Int) ≤ i := by omega
      obtain rfl : i = j := by omega
      go_wp2
      go_ret
      exact ⟨⟨i, rfl, hj, hI.out.1, hI.out.2⟩, hB.out⟩
/-- sixteen values in a block -/
structure Sx (w : World) (b : Nat) (V : Nat → Value) : Prop where
  cell : ∀ i, i < 16 → w.cell? ⟨b, i, none⟩ = some (V i)
  frozen : ∀ i, i < 16 → w.frozen? ⟨b, i, none⟩ = false
theorem Sx.new (w : World) (t : TypeId) (v : Value) : Sx (w.alloc (.cells (Array.replicate 16 v) t)) w.heap.size (fun _ => v) :=
  ⟨fun i hi => by simp [go_sem, hi], fun i hi => by simp [go_sem]⟩
theorem Sx.lt {w : World} {b : Nat} {V : Nat → Value} (h : Sx w b V) : b < w.heap.size := Oct.lt_of_cell (h.cell 0 (by omega))
theorem Sx.next {w w' : World} {b : Nat} {V : Nat → Value} (h : Sx w b V) (t : Below w.heap.size w w') : Sx w' b V :=
  ⟨fun i hi => (t.cell (p := ⟨b, i, none⟩) h.lt).trans (h.cell i hi), fun i hi => (t.frozen (p := ⟨b, i, none⟩) h.lt).trans (h.frozen i hi)⟩
theorem Sx.set {w : World} {b : Nat} {V : Nat → Value} (h : Sx w b V) (t : Nat) (ht : t < 16) (v : Value) : Sx (w.setCell ⟨b, t, none⟩ v) b (fun i => if i = t then v else V i) :=
  ⟨fun i hi => by
    by_cases e : i = t
    · subst e; rw [if_pos rfl]; exact World.cell?_setCell_same _ _ _ (h.cell i hi)
    · rw [if_neg e, World.cell?_setCell_other]
      · exact h.cell i hi
      · exact fun g => e (congrArg Addr.off g).symm,
   fun i hi => by rw [World.frozen?_setCell]; exact h.frozen i hi⟩
theorem Sx.other {w : World} {b c o : Nat} {V : Nat → Value} (h : Sx w b V) (hc : c ≠ b) (v : Value) : Sx (w.setCell ⟨c, o, none⟩ v) b V :=
  ⟨fun i hi => by
    rw [World.cell?_setCell_other]
    · exact h.cell i hi
    · exact fun g => hc (congrArg Addr.block g),
   fun i hi => by rw [World.frozen?_setCell]; exact h.frozen i hi⟩
/-- what has been dealt out, and what is left -/
structure Deal (w : World) (k : Nat) (L : List ByteArray) (B d : Nat) (V : Nat → Value) (a : Option Addr) (m cap : Nat) (wr : World) : Prop where
  below : Below B w wr
  ids : wr.cell? ⟨B, 0, none⟩ = some (.slice a m cap)
  idsf : wr.frozen? ⟨B, 0, none⟩ = false
  at_ : wr.cell? ⟨B + 1, 0, none⟩ = some (.int .i64 (k : Int))
  arr : Sx wr (B + 1 + 1) V
  len : m = (rest L k d).length
  le : m ≤ cap
  left : ∃ b off, TxAt w a b off (rest L k d)
  done : ∀ j, j < d → Lst w (V j) (part L k j)
theorem Deal.step {w wr w2 : World} {k d t m cap : Nat} {L : List ByteArray} {V : Nat → Value} {a a2 : Option Addr} (h : Deal w k L w.heap.size d V a m cap wr) (hb : Below wr.heap.size wr w2) (hd : d < 16) (ht : t = (part L k d).length)
    (hm : L.Pairwise fun x y => digit x k ≤ digit y k) (ha : t < m → a2 = a.map fun x => x.add t) :
    Deal w k L w.heap.size (d + 1) (fun i => if i = d then .slice a t cap else V i) a2 (m - t) (cap - t) ((w2.setCell ⟨w.heap.size + 1 + 1, d, none⟩ (.slice a t cap)).setCell ⟨w.heap.size, 0, none⟩ (.slice a2 (m - t) (cap - t))).drew := by
  have hlt : w.heap.size + 1 + 1 < wr.heap.size := h.arr.lt
  have e := rest_split (d := d) hm
  have hlen := h.len
  have hle := h.le
  have el := congrArg List.length e
  rw [List.length_append] at el
  have hA2 := h.arr.next hb
  have hA3 : Sx ((w2.setCell ⟨w.heap.size + 1 + 1, d, none⟩ (.slice a t cap)).setCell ⟨w.heap.size, 0, none⟩ (.slice a2 (m - t) (cap - t))).drew (w.heap.size + 1 + 1) (fun i => if i = d then .slice a t cap else V i) := by
    have := (hA2.set d hd (.slice a t cap)).other (c := w.heap.size) (o := 0) (by omega) (.slice a2 (m - t) (cap - t))
    exact ⟨this.cell, this.frozen⟩
  have c0 : w2.cell? ⟨w.heap.size, 0, none⟩ = some (.slice a m cap) := (hb.cell (p := ⟨w.heap.size, 0, none⟩) (by show w.heap.size < _; omega)).trans h.ids
  have f0 : w2.frozen? ⟨w.heap.size, 0, none⟩ = false := (hb.frozen (p := ⟨w.heap.size, 0, none⟩) (by show w.heap.size < _; omega)).trans h.idsf
  have c1 : w2.cell? ⟨w.heap.size + 1, 0, none⟩ = some (.int .i64 (k : Int)) := (hb.cell (p := ⟨w.heap.size + 1, 0, none⟩) (by show w.heap.size + 1 < _; omega)).trans h.at_
  obtain ⟨b, off, hT⟩ := h.left
  have hT2 := hT
  rw [e] at hT2
  refine ⟨?_, ?_, ?_, ?_, hA3, by omega, by omega, ?_, fun j hj => ?_⟩
  · have b1 : Below w.heap.size w w2 := h.below.trans (hb.mono (by omega))
    have b2 := (b1.setCell (p := ⟨w.heap.size + 1 + 1, d, none⟩) (by show w.heap.size ≤ w.heap.size + 1 + 1; omega) (.slice a t cap)).setCell (p := ⟨w.heap.size, 0, none⟩) (Nat.le_refl _) (.slice a2 (m - t) (cap - t))
    exact ⟨b2.os, b2.tape, b2.output, b2.size, b2.block⟩
  · show ((w2.setCell ⟨w.heap.size + 1 + 1, d, none⟩ (.slice a t cap)).setCell ⟨w.heap.size, 0, none⟩ (.slice a2 (m - t) (cap - t))).cell? ⟨w.heap.size, 0, none⟩ = _
    exact World.cell?_setCell_same _ _ _ ((World.cell?_setCell_other _ _ _ _ (fun g => by have := congrArg Addr.block g; simp at this; omega)).trans c0)
  · show ((w2.setCell ⟨w.heap.size + 1 + 1, d, none⟩ (.slice a t cap)).setCell ⟨w.heap.size, 0, none⟩ (.slice a2 (m - t) (cap - t))).frozen? ⟨w.heap.size, 0, none⟩ = _
    rw [World.frozen?_setCell, World.frozen?_setCell]; exact f0
  · show ((w2.setCell ⟨w.heap.size + 1 + 1, d, none⟩ (.slice a t cap)).setCell ⟨w.heap.size, 0, none⟩ (.slice a2 (m - t) (cap - t))).cell? ⟨w.heap.size + 1, 0, none⟩ = _
    rw [World.cell?_setCell_other _ _ _ _ (fun g => by have := congrArg Addr.block g; simp at this), World.cell?_setCell_other _ _ _ _ (fun g => by have := congrArg Addr.block g; simp at this)]
    exact c1
  · refine ⟨b, off + (part L k d).length, ?_⟩
    by_cases g : t < m
    · have := hT2.drop
      rw [ha g, hT.addr (by omega)]
      show TxAt w (some ((⟨b, off, none⟩ : Addr).add t)) _ _ _
      rw [Addr.add_mid, ht]
      exact this
    · have : rest L k (d + 1) = [] := List.length_eq_zero_iff.1 (by omega)
      rw [this]
      exact .nil _ _ _ _
  · by_cases g : j = d
    · subst g
      show Lst w (if j = j then Value.slice a t cap else V j) _
      rw [if_pos rfl]
      exact ⟨a, cap, b, off, by rw [ht], by omega, hT2.take⟩
    · show Lst w (if j = d then Value.slice a t cap else V j) _
      rw [if_neg g]
      exact h.done j (by omega)
def DealIs (w : World) (k : Nat) (L : List ByteArray) (e : Ending) (w' : World) : Prop := ∃ vs : Array Value, e = .returned (.agg vs) ∧ vs.size = 16 ∧ (∀ j v, vs[j]? = some v → Lst w v (part L k j)) ∧ Below w.heap.size w w'
set_option maxRecDepth 100000 in
set_option maxHeartbeats 4000000 in
theorem deal_calls (a : Option Addr) (cap b off : Nat) (L : List ByteArray) (k : Nat) (w : World) (hT : TxAt w a b off L) (hcap : L.length ≤ cap) (hn : L.length ≤ 1000000) (hs : IsSet L) (hal : Alike k L) (hk : k < 64) :
    Calls Tryz.prog 66 #[.slice a L.length cap, .int .i64 (k : Int)] w (DealIs w k L) := by
  have hm := Lib.hid (digit_mono hs hal hk)
  have h0 : Hid (Deal w k L w.heap.size 0 (fun _ => .slice none 0 0) a L.length cap (((w.alloc (.cells #[.slice a L.length cap] 22)).alloc (.cells #[.int .i64 (k : Int)] 3)).alloc (.cells (Array.replicate 16 (.slice none 0 0)) 91))) := Lib.hid
    { below := ((b_alloc w _).alloc (by simp) _).alloc (by simp; omega) _
      ids := by simp [go_sem]
      idsf := by simp [go_sem]
      at_ := by simp [go_sem]
      arr := by
        have h := Sx.new ((w.alloc (.cells #[.slice a L.length cap] 22)).alloc (.cells #[.int .i64 (k : Int)] 3)) 91 (.slice none 0 0)
        rw [World.size_alloc, World.size_alloc] at h
        exact h
      len := by rw [rest_zero]
      le := hcap
      left := ⟨b, off, by rw [rest_zero]; exact hT⟩
      done := fun j hj => absurd hj (Nat.not_lt_zero _) }
  obtain ⟨n, hn'⟩ : ∃ n, Hid (L.length = n) := ⟨_, Lib.hid rfl⟩
  rw [hn'.out] at hn h0 ⊢
  clear hT hcap
  replace hs := Lib.hid hs
  go_enter Tryz.func66, Tryz.ntmps66
  go_wp2
  go_loopw [7] (fun i wr => ∃ (d : Nat) (V : Nat → Value) (a : Option Addr) (m cap : Nat), d ≤ 16 ∧ i = .int .i64 d ∧ Hid (Deal w k L w.heap.size d V a m cap wr)) (fun i _ => 16 - (intOf i).toNat)
  case atStart => exact ⟨0, _, _, _, _, by omega, rfl, h0⟩
  case round =>
    clear h0
    obtain ⟨d, V, a, m, cap, hd, rfl, hD⟩ := hrel
    by_cases hlt : d < 16
    · have l0 : (d : Int) < 16 := by omega
      have l1 : (0 : Int) ≤ d := by omega
      have hmR : Hid (m = (rest L k d).length) := Lib.hid hD.out.len
      have hmn : m ≤ 1000000 := by rw [hmR.out]; exact Nat.le_trans (List.length_filter_le _ _) (by rw [hn'.out]; exact hn)
      have ba := b_alloc wr (.cells #[.int .i64 (d : Int)] 3)
      have szw : w.heap.size + 1 + 1 < wr.heap.size := hD.out.arr.lt
      have hids := hD.out.ids
      have szw0 : w.heap.size < wr.heap.size := by omega
      have szw1 : w.heap.size + 1 < wr.heap.size := by omega
      have hSe := Lib.hid (Search_calls m hmn 97 #[.pointer (some ⟨w.heap.size, 0, none⟩), .pointer (some ⟨w.heap.size + 1, 0, none⟩), .pointer (some ⟨wr.heap.size, 0, none⟩)] (fun i => d < digit ((rest L k d)[i]?.getD ByteArray.empty) k)
        (fun i j hij hj hp => by
          rw [hmR.out] at hj
          rw [List.getElem?_eq_getElem (by omega), Option.getD_some] at hp
          rw [List.getElem?_eq_getElem hj, Option.getD_some]
          rcases Nat.lt_or_ge i j with g | g
          · have := List.pairwise_iff_getElem.1 (hm.out.filter (p := fun x => decide (d ≤ digit x k))) i j (by show _ < (rest L k d).length; omega) hj g
            exact Nat.lt_of_lt_of_le hp this
          · obtain rfl : i = j := by omega
            exact hp)
        (wr.alloc (.cells #[.int .i64 (d : Int)] 3)) (enters_of Tryz.func97 (by kernel_rfl) rfl)
        (fun i w2 hi hb => by
          have hb2 := b_then ba hb
          obtain ⟨bb, oo, hTx⟩ := hD.out.left
          have hir : i < (rest L k d).length := by rw [← hmR.out]; exact hi
          have hid2 := hD.out.ids
          rw [hmR.out] at hid2
          refine (deal1_calls i w.heap.size (w.heap.size + 1) wr.heap.size a cap bb oo (rest L k d) k d w2 hir hk (hs.out.1 _ ((List.mem_filter.1 (List.getElem_mem hir)).1))
            ((hb2.cell (p := ⟨w.heap.size, 0, none⟩) (by show w.heap.size < _; omega)).trans hid2) ((hb2.cell (p := ⟨w.heap.size + 1, 0, none⟩) (by show w.heap.size + 1 < _; omega)).trans hD.out.at_)
            ((hb.cell (p := ⟨wr.heap.size, 0, none⟩) (by show wr.heap.size < _; simp)).trans (by simp [go_sem])) (hTx.next (b_then hD.out.below hb2))).mono ?_
          rintro e w3 ⟨h1, h2⟩
          refine ⟨?_, h2⟩
          rw [List.getElem?_eq_getElem hir]
          exact h1))
      go_wp2_with fail
      refine hSe.out.mono ?_
      rintro e w2 ⟨⟨t, rfl, htm, ht1, ht2⟩, b2⟩
      have htp : Hid (t = (part L k d).length) := Lib.hid (rest_at hm.out (by rw [← hmR.out]; exact htm) (fun i hi hit => by
          have := ht1 i hit
          rw [List.getElem?_eq_getElem hi, Option.getD_some] at this
          omega) (fun hi => by
          have := ht2 (by rw [hmR.out]; exact hi)
          rw [List.getElem?_eq_getElem hi, Option.getD_some] at this
          exact this))
      have bw2 := b_then ba b2
      have e1 : w2.cell? ⟨w.heap.size, 0, none⟩ = some (.slice a m cap) := (bw2.cell (p := ⟨w.heap.size, 0, none⟩) (by show w.heap.size < _; omega)).trans hids
      have e2 : w2.frozen? ⟨w.heap.size, 0, none⟩ = false := (bw2.frozen (p := ⟨w.heap.size, 0, none⟩) (by show w.heap.size < _; omega)).trans hD.out.idsf
      have e3 : w2.cell? ⟨wr.heap.size, 0, none⟩ = some (.int .i64 (d : Int)) := (b2.cell (p := ⟨wr.heap.size, 0, none⟩) (by show wr.heap.size < _; simp)).trans (by simp [go_sem])
      have e4 : w2.cell? ⟨w.heap.size + 1 + 1, d, none⟩ = some (V d) := (bw2.cell (p := ⟨w.heap.size + 1 + 1, d, none⟩) szw).trans (hD.out.arr.cell d hlt)
      have e5 : w2.frozen? ⟨w.heap.size + 1 + 1, d, none⟩ = false := (bw2.frozen (p := ⟨w.heap.size + 1 + 1, d, none⟩) szw).trans (hD.out.arr.frozen d hlt)
      have l2 : (t : Int) ≤ m := by omega
      have l3 : (0 : Int) ≤ t := by omega
      have hmc := hD.out.le
      have l4 : (t : Int) ≤ cap := by omega
      have hSt := Lib.hid fun a2 (ha : t < m → a2 = a.map fun x => x.add t) => hD.out.step bw2 hlt htp.out hm.out (a2 := a2) ha
      clear ht1 ht2 hids hSe b2 ba bw2
      replace hmR := Lib.hid hmR
      go_wp2_with fail
      by_cases hct : cap = t
      · go_region
        have hX := hSt.out a fun h => by omega
        rw [hct, Nat.sub_self] at hX
        replace hX := Lib.hid hX
        go_wp2
        exact ⟨⟨d + 1, _, _, _, _, by omega, by go_num, hX⟩, by simp [intOf]; omega⟩
      · go_region
        go_wp2
        exact ⟨⟨d + 1, _, _, _, _, by omega, by go_num, Lib.hid (hSt.out _ fun _ => rfl)⟩, by simp [intOf]; omega⟩
    · obtain rfl : d = 16 := by omega
      have hA := hD.out.arr
      have hth : wr.there (w.heap.size + 1 + 1) 0 ((List.range 16).map V).toArray.size := fun j hj => by
        simp only [List.size_toArray, List.length_map, List.length_range] at hj
        rw [Nat.zero_add]
        exact ⟨by rw [hA.cell j hj]; rfl, hA.frozen j hj⟩
      have hr : wr.rangeAt (w.heap.size + 1 + 1) 0 ((List.range 16).map V) := fun j v hv => by
        rw [Nat.zero_add]
        rcases Nat.lt_or_ge j 16 with g | g
        · rw [List.getElem?_map, List.getElem?_range g] at hv
          rw [hA.cell j g]; exact hv
        · rw [List.getElem?_eq_none (by simpa using g)] at hv; cases hv
      have hi := Lib.hid (show (Tryz.prog.info? 91).map (·.size) = some ((List.range 16).map V).length by rw [List.length_map, List.length_range]; kernel_rfl)
      have h1 : ((List.range 16).map V).toArray.all (·.oneCell') = true := by
        refine all_oneCell_toArray fun v hv => ?_
        obtain ⟨j, hj, rfl⟩ := List.mem_map.1 hv
        obtain ⟨a, c, b, o, e, _⟩ := hD.out.done j (List.mem_range.1 hj)
        rw [e]; rfl
      have hE : Hid (DealIs w k L (.returned (.agg ((List.range 16).map V).toArray)) (wr.setCells (w.heap.size + 1 + 1) 0 ((List.range 16).map V))) := Lib.hid
        ⟨_, rfl, by simp, (fun j v hv => by
          rcases Nat.lt_or_ge j 16 with g | g
          · simp only [List.getElem?_toArray, List.getElem?_map, List.getElem?_range g, Option.map_some, Option.some.injEq] at hv
            rw [← hv]; exact hD.out.done j g
          · rw [List.getElem?_toArray, List.getElem?_eq_none (by simpa using g)] at hv; cases hv), Sha.below_setCells _ (by omega) _ _ _ hD.out.below⟩
      go_upto_region 7 with (fail)
      refine wp_region_lit ?_
      refine wpList_load_mid rfl 91 (.tmp 4) rfl (w.heap.size + 1 + 1) 0 rfl ((List.range 16).map V) _ hr Tryz.underlying91 rfl hi.out ?_
      refine wpList_store_mid rfl 91 (.tmp 4) (.tmp 23) rfl (w.heap.size + 1 + 1) 0 ((List.range 16).map V).toArray rfl rfl hth (by simpa using hi.out) h1 ?_
      go_wp2_with fail
      exact bodyPost_ret (Sha.results_cell Tryz.results66 rfl (World.rangeAt_setCells_same wr (w.heap.size + 1 + 1) 0 ((List.range 16).map V) (by simpa using hth)) Tryz.underlying91 rfl hi.out) rfl hE.out
end Go.Proofs.YtdmpkgdlelagjaaGreatDoor.Tr
