/-
  Of every row of calls each answer of a map of texts to numbers is what a plain list of pairs gives (MapExact). Conditions: none.
-/
import Derived.Test.YtkdghmbglaghlaaRows
import Derived.Test.YtkdghmbglaghlaaOctKit
import Derived.Test.YtkdghmbglaghlaaShAwake
import Derived.Test.YtkdghmbglaghlaaShPair
import Derived.Test.YtkdghmbglaghlaaShCalls
import Derived.ProofKit
import Derived.OpenShut
import Derived.Stop.Joined
import Derived.Deep.AppendLies
namespace Go.Proofs.Ytkdghmbglaghlaa.mapExact
open Go Go.ChangeShapes Go.WideShapes Go.ChangeAt Go.RowKit Sh
open Tm (MapAt keysV Turns)
open Rp (Sl Pr pz CallsAt)
attribute [local go_sem] fold_none

theorem sl_turned {w w' : World} {b : Nat} {L M : List Pr} {u : Value} (hu : Sl w u M) (hS : MapAt w (some ⟨b, 0, none⟩) L) (hg : w.grownBy w' (some b)) : Sl w' u M := by
  obtain ⟨s, cap, rfl, h1⟩ := hu
  refine ⟨s, cap, rfl, fun h0 => ?_⟩
  obtain ⟨g, off, e, hlt, hc⟩ := h1 h0
  have hne : g ≠ b := by
    rintro rfl
    rcases hS with ⟨h, _⟩ | ⟨b', p, T, h, hB, _, _⟩
    · cases h
    · obtain rfl : g = b' := by simpa using h
      have h2 := (hc 0 h0).1
      by_cases ho : off = 0
      · subst ho
        have h3 := hB.cell
        rw [Nat.zero_mul, Nat.zero_add] at h2
        rw [h2] at h3
        cases h3
      · have hB' : w.heap[g]? = some (.cells #[.pointer p] 83) := hB
        simp [World.cell?, hB', ho] at h2
  refine ⟨g, off, e, Nat.lt_of_lt_of_le hlt hg.size, fun j hj => ⟨?_, ?_⟩⟩
  · exact (hg.cell_far ⟨g, off + j * 2, none⟩ hlt (by simpa using hne)).trans (hc j hj).1
  · exact (hg.cell_far ⟨g, off + j * 2 + 1, none⟩ hlt (by simpa using hne)).trans (hc j hj).2

/-- where the two are behind some of the calls -/
structure St (w wr : World) (b k : Nat) (L : List Pr) (ua : Option Addr) (n uc : Nat) : Prop where
  len : L.length = n
  rises : Rises L
  map : MapAt wr (some ⟨b, 0, none⟩) L
  sl : Sl wr (.slice ua n uc) L
  few : L.length ≤ k
  below : Below w.heap.size w wr
  own : w.heap.size ≤ b
theorem St.next {w wr w' : World} {b k n uc : Nat} {L : List Pr} {ua : Option Addr} (h : St w wr b k L ua n uc) (hb : Below wr.heap.size wr w') : St w w' b k L ua n uc :=
  ⟨h.len, h.rises, h.map.next hb, h.sl.next hb, h.few, b_then h.below hb, h.own⟩
theorem St.step {w wr : World} {b k n uc : Nat} {L : List Pr} {ua : Option Addr} (h : St w wr b k L ua n uc) : St w wr b (k + 1) L ua n uc :=
  ⟨h.len, h.rises, h.map, h.sl, by have := h.few; omega, h.below, h.own⟩
theorem St.turn {w wr w1 : World} {b k n uc : Nat} {L L' : List Pr} {ua : Option Addr} (h : St w wr b k L ua n uc) (ht : Turns wr 83 b L' w1) : Sl w1 (.slice ua n uc) L ∧ Below w.heap.size w w1 :=
  ⟨sl_turned h.sl h.map ht.2, h.below.grown ht.2 h.below.size (fun q e => by cases e; exact h.own)⟩
theorem St.more {w wr w1 w2 : World} {b k n uc : Nat} {L L' : List Pr} {ua : Option Addr} {u : Value} (h : St w wr b k L ua n uc) (ht : Turns wr 83 b L' w1) (hu : Sl w2 u L') (hb : Below w1.heap.size w1 w2) (hR : Rises L') (hl : L'.length ≤ L.length + 1) :
    ∃ ua' uc', u = .slice ua' L'.length uc' ∧ St w w2 b (k + 1) L' ua' L'.length uc' := by
  obtain ⟨s, c, rfl, hx⟩ := hu
  exact ⟨s, c, rfl, rfl, hR, ht.1.next hb, ⟨s, c, rfl, hx⟩, by have := h.few; omega, b_then (h.turn ht).2 hb, h.own⟩
theorem got (s : ByteArray) (L : List Pr) : ∃ (v : Int) (z : Bool), ((fnd s L = none ∧ v = 0 ∧ z = false) ∨ (∃ x, fnd s L = some x ∧ v = x.2 ∧ z = true)) ∧ has s L = z := by
  cases h : fnd s L with
  | none => exact ⟨0, false, Or.inl ⟨rfl, rfl, rfl⟩, by rw [has_fnd, h]; rfl⟩
  | some x => exact ⟨x.2, true, Or.inr ⟨x, rfl, rfl, rfl⟩, by rw [has_fnd, h]; rfl⟩

set_option maxHeartbeats 16000000 in
set_option maxRecDepth 100000 in
theorem walk (w : World) (a : Option Addr) (cap nb b2 o2 : Nat) (X : Nat → Int) (K : Nat → ByteArray) (V : Nat → Int) (hP : CallsAt w a b2 o2 nb X K V) :
    Calls Try.prog 5 #[.slice a nb cap] w fun e w' => e = .returned (.bool true) ∧ Below w.heap.size w w' := by
  have hAw := Lib.hid (Law.awake_calls w)
  have hP0 := Lib.hid hP
  clear hP
  go_enter Try.func5, Try.ntmps5
  go_wp2_with fail
  refine hAw.out.mono ?_
  rintro e w1 ⟨rfl, b1⟩
  have hN := Lib.hid (Tm.New_calls w1)
  replace b1 := Lib.hid b1
  clear hAw
  go_wp2_with fail
  refine hN.out.mono ?_
  rintro e w2 ⟨rfl, hM, b2'⟩
  have hsz := b1.out.size
  obtain ⟨p, hp⟩ : ∃ p, w1.heap.size = p := ⟨_, rfl⟩
  rw [hp] at hM hsz ⊢
  have st0 : Hid (St w (w2.alloc (.cells #[] 59)) p 0 [] (some ⟨w2.heap.size, 0, none⟩) 0 0) :=
    Lib.hid ⟨rfl, List.Pairwise.nil, hM.next (b_alloc _ _), (Rp.OwnP.new w2).sl, by simp, b_then b1.out (b_then b2' (b_alloc _ _)), hsz⟩
  clear hN hM b1 b2' hp hsz
  go_wp2_with fail
  generalize (w2.alloc (.cells #[] 59)) = w3 at *
  go_loopg [4, 5] 200 (fun gg s4 s5 wr => ∃ (k : Nat) (L : List Pr) (ua : Option Addr) (n uc : Nat), s4 = .slice ua n uc ∧ s5 = .int .i64 (k : Int) ∧ k ≤ nb ∧ k ≤ 200 ∧ 200 - k ≤ gg ∧ Hid (St w wr p k L ua n uc))
  case atStart => exact ⟨0, [], _, 0, 0, rfl, rfl, by omega, by omega, by omega, st0⟩
  case round =>
    clear st0
    obtain ⟨k, L, ua, n, uc, rfl, rfl, hk, hk2, hgg, hst⟩ := hrel
    by_cases hlt : k < nb ∧ k < 200
    · have l1 : (k : Int) < nb := by omega
      have l2 : (0 : Int) ≤ k := by omega
      have l3 : (k : Int) < 200 := by omega
      have ea := hP0.out.addr (by omega)
      have cx := hP0.out.kind k hlt.1
      have ck := hP0.out.key k hlt.1
      have cv := hP0.out.val k hlt.1
      have hb2 : b2 < w.heap.size := World.block_lt_of_cell? w _ ck
      have cx1 := (hst.out.below.cell (p := ⟨b2, o2 + k * 3, none⟩) hb2).trans cx
      have ck1 := (hst.out.below.cell (p := ⟨b2, o2 + k * 3 + 1, none⟩) hb2).trans ck
      have cv1 := (hst.out.below.cell (p := ⟨b2, o2 + k * 3 + 2, none⟩) hb2).trans cv
      have hms : Hid (200 - (k + 1) < gk) := Lib.hid (by omega)
      have hkn : Hid (k + 1 ≤ nb ∧ k + 1 ≤ 200) := Lib.hid (by omega)
      have hw1 : IntKind.i64.wrap ((k : Int) + 1) = ((k + 1 : Nat) : Int) := wrap_nat (k + 1) (by omega)
      have hLn := hst.out.len
      have hL1 : Hid (L.length ≤ 200) := Lib.hid (by have := hst.out.few; omega)
      subst ea
      clear hb2 ck cx cv hlt hk hk2 hgg hP0
      generalize X k = kd at *
      generalize K k = s at *
      generalize V k = x at *
      replace hLn := Lib.hid hLn
      obtain ⟨v, z, hv, hz⟩ := got s L
      obtain ⟨W, hW⟩ : ∃ W, W = wr.alloc (.cells #[.int .i64 kd, .string s, .int .i64 x] 48) := ⟨_, rfl⟩
      have hs0 : Hid (St w W p k L ua n uc) := Lib.hid (by rw [hW]; exact hst.out.next (b_alloc _ _))
      have hcl : Hid (∀ W2, W.grownBy W2 (some p) → W2.cell? ⟨wr.heap.size, 0, none⟩ = some (.int .i64 kd) ∧ W2.cell? ⟨wr.heap.size, 1, none⟩ = some (.string s) ∧ W2.cell? ⟨wr.heap.size, 2, none⟩ = some (.int .i64 x)) := Lib.hid fun W2 hg => by
        have hlt : p < wr.heap.size := by obtain ⟨q, hq⟩ := hst.out.map.box; exact hq.lt
        have h := World.alloc_heap_new wr (.cells #[.int .i64 kd, .string s, .int .i64 x] 48)
        have hb : wr.heap.size < W.heap.size := by rw [hW]; simp
        have hne : some wr.heap.size ≠ some p := by intro e; cases e; omega
        rw [← hW] at h
        exact ⟨(hg.cell_far ⟨wr.heap.size, 0, none⟩ hb hne).trans (by simp [World.cell?, h]), (hg.cell_far ⟨wr.heap.size, 1, none⟩ hb hne).trans (by simp [World.cell?, h]), (hg.cell_far ⟨wr.heap.size, 2, none⟩ hb hne).trans (by simp [World.cell?, h])⟩
      have hcb : Hid (∀ W2, Below W.heap.size W W2 → W2.cell? ⟨wr.heap.size, 0, none⟩ = some (.int .i64 kd) ∧ W2.cell? ⟨wr.heap.size, 1, none⟩ = some (.string s) ∧ W2.cell? ⟨wr.heap.size, 2, none⟩ = some (.int .i64 x)) := Lib.hid fun W2 hb => hcl.out W2 ⟨hb.os, hb.tape, hb.output, hb.size, fun k hk _ => hb.block k hk⟩
      obtain ⟨d0, d1, d2⟩ := hcb.out W (Below.refl _ _)
      have hG := Lib.hid (Rp.RGet_calls W (.slice ua n uc) L s (by have := hL1.out; omega) hs0.out.sl v z hv)
      have hv2 := Lib.hid hv
      have hz2 := Lib.hid hz
      clear hst hv hz
      obtain ⟨bc, hbn⟩ : ∃ bc, Hid (wr.heap.size = bc) := ⟨_, Lib.hid rfl⟩
      rw [hbn.out] at hcl hcb d0 d1 d2
      have hwr : Hid (W = wr.alloc (.cells #[.int .i64 kd, .string s, .int .i64 x] 48)) := Lib.hid hW
      go_wp2_with fail
      rw [← hwr.out, hbn.out]
      refine hG.out.mono ?_
      rintro e w5 ⟨rfl, hw5⟩
      obtain rfl := hw5.symm
      clear hw5 hG hwr hW
      clear cx1 ck1 cv1
      by_cases e1 : kd = 1
      · subst e1
        have hp := Lib.hid (Tm.Put_calls W 83 p L (s, x) (by decide) hs0.out.map hs0.out.rises (by have := hL1.out; omega))
        rw [show has (Ent.key ((s, x) : Pr)) L = z from hz2.out] at hp
        have hSt := Lib.hid fun w4 (ht : Turns W 83 p (ins (s, x) L) w4) => Rp.RSet_calls w4 (.slice ua n uc) L s x (by have := hL1.out; omega) hs0.out.rises (hs0.out.turn ht).1
        clear hz2 hv2
        cases z
        all_goals
          go_wp2_with fail
          refine hp.out.mono ?_
          rintro e w4 ⟨rfl, ht⟩
          obtain ⟨f0, f1, f2⟩ := hcl.out w4 ht.2
          have hS2 := Lib.hid (hSt.out w4 ht)
          replace ht := Lib.hid ht
          clear d0 d1 d2 hcl hcb hp hSt
          go_wp2_with fail
          refine hS2.out.mono ?_
          rintro e w6 ⟨u, rfl, hu, b6⟩
          obtain ⟨ya, yc, rfl, hs6⟩ := hs0.out.more ht.out hu b6 (rises_ins (s, x) hs0.out.rises) (ins_len_le (s, x) L)
          replace hs6 := Lib.hid hs6
          clear hu b6 hS2
          generalize ins (s, x) L = L6 at *
          obtain ⟨n6, hn6⟩ : ∃ n6, L6.length = n6 := ⟨_, rfl⟩
          rw [hn6] at hs6 ⊢
          clear hn6 ht hs0
          have hQ := Tm.Len_calls w6 _ _ L6 hs6.out.map
          rw [hs6.out.len] at hQ
          replace hQ := Lib.hid hQ
          go_wp2_with fail
          refine hQ.out.mono ?_
          rintro e w9 ⟨rfl, hw9⟩
          obtain rfl := hw9.symm
          clear hw9 hQ
          go_wp2
          go_roundg (200 - (k + 1))
          case measure => exact hms.out
          case rel => exact ⟨k + 1, L6, ya, n6, yc, rfl, by simp, hkn.out.1, hkn.out.2, Nat.le_refl _, hs6⟩
      have f1 : (kd == 1) = false := beq_eq_false_iff_ne.2 e1
      by_cases e2 : kd = 2
      · subst e2
        have hp := Lib.hid (Tm.Get_calls W 83 _ L s hs0.out.map hs0.out.rises v z hv2.out)
        have hs4 := Lib.hid hs0.out.step
        clear hz2 hv2 hs0 hcl hcb
        cases z
        all_goals
          go_wp2_with fail
          refine hp.out.mono ?_
          rintro e w4 ⟨rfl, hw4⟩
          obtain rfl := hw4.symm
          clear hw4 hp
          have hQ := Tm.Len_calls W _ _ L hs4.out.map
          rw [hs4.out.len] at hQ
          replace hQ := Lib.hid hQ
          go_wp2_with fail
          refine hQ.out.mono ?_
          rintro e w9 ⟨rfl, hw9⟩
          obtain rfl := hw9.symm
          clear hw9 hQ
          go_wp2
          go_roundg (200 - (k + 1))
          case measure => exact hms.out
          case rel => exact ⟨k + 1, L, ua, n, uc, rfl, by simp, hkn.out.1, hkn.out.2, Nat.le_refl _, hs4⟩
      have f2 : (kd == 2) = false := beq_eq_false_iff_ne.2 e2
      by_cases e3 : kd = 3
      · subst e3
        have hp := Lib.hid (Tm.Del_calls W 83 p L s (by decide) hs0.out.map hs0.out.rises (by have := hL1.out; omega))
        rw [hz2.out] at hp
        have hSt := Lib.hid fun w4 (ht : Turns W 83 p (del s L) w4) => Rp.RCut_calls w4 (.slice ua n uc) L s (by have := hL1.out; omega) (hs0.out.turn ht).1
        clear hz2 hv2
        cases z
        all_goals
          go_wp2_with fail
          refine hp.out.mono ?_
          rintro e w4 ⟨rfl, ht⟩
          obtain ⟨f0, f1, f2⟩ := hcl.out w4 ht.2
          have hS2 := Lib.hid (hSt.out w4 ht)
          replace ht := Lib.hid ht
          clear d0 d1 d2 hcl hcb hp hSt
          go_wp2_with fail
          refine hS2.out.mono ?_
          rintro e w6 ⟨u, rfl, hu, b6⟩
          obtain ⟨ya, yc, rfl, hs6⟩ := hs0.out.more ht.out hu b6 (rises_del s hs0.out.rises) (Nat.le_succ_of_le (del_len_le s L))
          replace hs6 := Lib.hid hs6
          clear hu b6 hS2
          generalize del s L = L6 at *
          obtain ⟨n6, hn6⟩ : ∃ n6, L6.length = n6 := ⟨_, rfl⟩
          rw [hn6] at hs6 ⊢
          clear hn6 ht hs0
          have hQ := Tm.Len_calls w6 _ _ L6 hs6.out.map
          rw [hs6.out.len] at hQ
          replace hQ := Lib.hid hQ
          go_wp2_with fail
          refine hQ.out.mono ?_
          rintro e w9 ⟨rfl, hw9⟩
          obtain rfl := hw9.symm
          clear hw9 hQ
          go_wp2
          go_roundg (200 - (k + 1))
          case measure => exact hms.out
          case rel => exact ⟨k + 1, L6, ya, n6, yc, rfl, by simp, hkn.out.1, hkn.out.2, Nat.le_refl _, hs6⟩
      have f3 : (kd == 3) = false := beq_eq_false_iff_ne.2 e3
      by_cases e4 : kd = 4
      · subst e4
        have hp := Lib.hid (Tm.goes_calls W _ (.slice ua n uc) L hs0.out.map hs0.out.sl (by have := hL1.out; omega))
        go_wp2_with fail
        refine hp.out.mono ?_
        rintro e w4 ⟨rfl, b4⟩
        have hs4 := Lib.hid (hs0.out.next b4).step
        clear hz2 hv2 hs0 hcl hcb d0 d1 d2 hp b4
        have hQ := Tm.Len_calls w4 _ _ L hs4.out.map
        rw [hs4.out.len] at hQ
        replace hQ := Lib.hid hQ
        go_wp2_with fail
        refine hQ.out.mono ?_
        rintro e w9 ⟨rfl, hw9⟩
        obtain rfl := hw9.symm
        clear hw9 hQ
        go_wp2
        go_roundg (200 - (k + 1))
        case measure => exact hms.out
        case rel => exact ⟨k + 1, L, ua, n, uc, rfl, by simp, hkn.out.1, hkn.out.2, Nat.le_refl _, hs4⟩
      have f4 : (kd == 4) = false := beq_eq_false_iff_ne.2 e4
      have hs4 := Lib.hid hs0.out.step
      clear hz2 hv2 hs0 hcl hcb
      have hQ := Tm.Len_calls W _ _ L hs4.out.map
      rw [hs4.out.len] at hQ
      replace hQ := Lib.hid hQ
      go_wp2_with fail
      refine hQ.out.mono ?_
      rintro e w9 ⟨rfl, hw9⟩
      obtain rfl := hw9.symm
      clear hw9 hQ
      go_wp2
      go_roundg (200 - (k + 1))
      case measure => exact hms.out
      case rel => exact ⟨k + 1, L, ua, n, uc, rfl, by simp, hkn.out.1, hkn.out.2, Nat.le_refl _, hs4⟩
    · have hend : decide ((k : Int) < nb) = false ∨ (decide ((k : Int) < 200) = false ∧ (k : Int) < nb) := by
        by_cases h : k < nb
        · exact Or.inr ⟨decide_eq_false (by omega), by omega⟩
        · exact Or.inl (decide_eq_false (by omega))
      have hz := Lib.hid (Tm.Keys_calls wr 83 _ L hst.out.map (by have := hst.out.few; omega))
      have hkl : Hid ((keysV L).length = n) := Lib.hid (by rw [Tm.keysV_len]; exact hst.out.len)
      have hk7 : Hid (L.length ≤ 200) := Lib.hid (by have := hst.out.few; omega)
      have hn7 : Hid (n ≤ 200) := Lib.hid (by have := hst.out.few; have := hst.out.len; omega)
      clear hk hk2 hgg hlt hP0
      rcases hend with he | ⟨he, he2⟩
      all_goals
        first | (have he3 : (nb : Int) ≤ k := by simpa using he) | (have he4 : (200 : Int) ≤ k := by simpa using he)
        go_wp2_with fail
        refine hz.out.mono ?_
        rintro e w4 ⟨v4, rfl, ⟨ho4, g4, k4, rfl⟩, b4⟩
        have hs4 := Lib.hid (hst.out.next b4)
        rw [hkl.out] at ho4 ⊢
        have hcl : Hid (g4 < w4.heap.size ∧ ∀ j, j < n → w4.cell? ⟨g4, j, none⟩ = some (.string (L[j]?.getD pz).1)) := Lib.hid (by
          have hb : (Value.slice (some ⟨g4, 0, none⟩) n k4).ownBlock = some g4 := rfl
          refine ⟨(ho4.lt g4 hb).2, fun j hj => ?_⟩
          have hj2 : j < L.length := by rw [hst.out.len]; exact hj
          have h5 : (keysV L)[j]? = some (.string (L[j]?.getD pz).1) := by simp [keysV, List.getElem?_eq_getElem hj2]
          have := World.ownsRow.cells ho4 hb j _ h5
          rwa [Addr.add_mid, Nat.zero_add] at this)
        have e0 : ((n : Int) == n) = true := by simp
        clear hz hst ho4 b4 hkl
        go_wp2
        go_loopg [12] n (fun gg s12 W2 => ∃ i : Nat, s12 = .int .i64 (i : Int) ∧ i ≤ n ∧ n - i ≤ gg ∧ Hid (Below w4.heap.size w4 W2))
        case atStart => exact ⟨0, rfl, by omega, by omega, Lib.hid (Below.refl _ _)⟩
        case round =>
          obtain ⟨i, rfl, hi, hig, hbi⟩ := hrel
          have hs5 := Lib.hid (hs4.out.next hbi.out)
          by_cases hin : i < n
          · obtain ⟨q1, q2⟩ := hcl.out
            have c1 : wr.cell? ⟨g4, i, none⟩ = some (.string (L[i]?.getD pz).1) := by exact (hbi.out.cell (p := ⟨g4, i, none⟩) q1).trans (q2 i hin)
            have hcl2 : ∃ g off, ua = some ⟨g, off, none⟩ ∧ wr.cell? ⟨g, off + i * 2, none⟩ = some (.string (L[i]?.getD pz).1) := by
              obtain ⟨s', c', e, h1⟩ := hs5.out.sl
              have hln := hs5.out.len
              obtain ⟨g, off, e2, hg, hc⟩ := h1 (by omega)
              obtain ⟨rfl, _, _⟩ : ua = s' ∧ n = L.length ∧ uc = c' := by simpa using e
              exact ⟨g, off, e2, (hc i (by omega)).1⟩
            obtain ⟨g, off, rfl, c2⟩ := hcl2
            have l1 : (i : Int) < n := by omega
            have l2 : (0 : Int) ≤ i := by omega
            have hms : Hid (n - (i + 1) < gk) := Lib.hid (by omega)
            have hk2 : Hid (i + 1 ≤ n) := Lib.hid (by omega)
            have hw1 : IntKind.i64.wrap ((i : Int) + 1) = ((i + 1 : Nat) : Int) := wrap_nat (i + 1) (by have := hn7.out; omega)
            generalize (L[i]?.getD pz).1 = y at c1 c2
            have hq := Rp.text_eq (rfl : y = y)
            clear q1 q2 hcl hs4 hs5 hin hi hig
            go_wp2_with fail
            go_quiet (fail)
            have hb2 : Hid (Below w4.heap.size w4 (wr.drewN nq)) := Lib.hid (b_next hbi.out (b_drewN _ _) (Nat.le_refl _))
            go_wp2
            go_roundg (n - (i + 1))
            case measure => exact hms.out
            case rel => exact ⟨i + 1, by simp, hk2.out, Nat.le_refl _, hb2⟩
          · obtain rfl : i = n := by omega
            have l1 : ¬ (i : Int) < i := by omega
            have hG := Lib.hid (Tm.goes_calls wr _ (.slice ua i uc) L hs5.out.map hs5.out.sl (by have := hk7.out; omega))
            clear hcl hs4 hi hig hin
            go_wp2_with fail
            refine hG.out.mono ?_
            rintro e w6 ⟨rfl, b6⟩
            have hs6 := Lib.hid (hs5.out.next b6)
            clear hG b6 hs5
            go_wp2
            go_ret
            exact ⟨rfl, hs6.out.below⟩

theorem own : ownKnob Try.prog.godebug = none := by kernel_rfl
theorem laidOut : laidOutB Try.prog = true := by kernel_rfl
set_option maxRecDepth 100000 in
theorem lifted (os : Os) (started : os.Started) (H : Type) (enc : TypeId × Value → H) :
    ReturnsInHanded {} Try.checked os 5 .any (Rows.mapExactSpec.pre6 enc Try.prog Try.f5 Rows.mapExactRow.domain false) (Rows.mapExactSpec.post enc Try.prog Try.f5 false true false false) := by
  refine returnsInHanded_of_change_sized (C := Try.checked) own started (by kernel_rfl) Try.func5
    (ChangeSpec.witness6 (enc := enc) (C := Try.checked) false ⟨#[], #[.slice none 0 0], []⟩ 8 (by kernel_rfl) (by kernel_rfl) (by kernel_rfl) (by kernel_rfl)) ?_
  intro W base args ds gs before hval0 hW hcnd hsz0 _
  have hval : ∀ (j : Nat) t v, Try.f5.params[j]? = some t → args[j]? = some v → Value.okWide Try.prog W .any base t v := hval0
  have hsz : (DataW.weightsEach Try.prog (Try.f5.params.toList ++ Rows.mapExactSpec.plain.varTypes Try.prog) (ds ++ gs)).all (· ≤ reachBytes) = true := hsz0
  have hW' := hW
  obtain ⟨p, q, hA0, hV, rfl, hfz, hnd⟩ := hW
  have hA : DataW.TrodAll enc Try.prog W 0 (fun _ => true) true Try.f5.params.toList args.toList ds p := hA0
  rw [Try.params5] at hA hval hsz
  obtain ⟨v0, vs0, d0, ds0, p0, q0, hargs, rfl, rfl, h0, r0⟩ := trodAll_cons hA
  obtain ⟨rfl, rfl, rfl⟩ := trodAll_nil r0
  obtain rfl : args = #[v0] := by cases args; simp_all
  obtain ⟨rfl, rfl⟩ := trodVars_none hV
  have k0 := h0
  have lt0 : ∀ x ∈ p0, x.block < W.heap.size := by obtain ⟨m, hm⟩ := k0; exact DataW.trod_lt m _ _ _ hm
  have ok0 := hval 0 43 v0 rfl rfl
  clear hA0 hval0 hsz0
  obtain ⟨a0, n0, c0, b0, o0, X, K, V, rfl, hP⟩ := Rp.open_calls ok0 h0
  refine (walk W a0 c0 n0 b0 o0 X K V hP).mono fun e W' ⟨he, bel⟩ => ?_
  subst he
  exact ⟨_, rfl, _, _, _, [], _, [], hW', trodAll_mk1 (shut_bool Try.underlying4 _), (trodAll_cons_mk (Below.trod laidOut (by kernel_rfl) (of_decide_eq_true (by kernel_rfl)) k0 bel lt0) trodAll_mk0), rfl, bel.frame _, fun h => by cases h⟩

/-- the statement -/
theorem proved : Rows.MapExactSaid :=
  OpenClaim.holds_of_wide 5 Try.f5 rfl rfl rfl rfl rfl rfl rfl ⟨rfl, rfl, rfl, rfl, rfl⟩ rfl rfl rfl rfl rfl (by kernel_rfl) Try.func5 (by kernel_rfl)
    (of_decide_eq_true (by kernel_rfl)) (by unfold Func.isWrapper; first | (rw [if_pos (by decide +kernel)]; kernel_rfl) | (rw [if_neg (by decide +kernel)]; exact ⟨rfl, rfl⟩))
    (fun os started H enc _ => lifted os started H enc)
end Go.Proofs.Ytkdghmbglaghlaa.mapExact
