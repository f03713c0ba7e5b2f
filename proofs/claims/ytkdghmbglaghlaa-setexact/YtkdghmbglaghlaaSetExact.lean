/-
  Of every list of numbers and every row of calls: each answer of the set made of the list is what a plain list gives (SetExact). Conditions: none.
-/
import Derived.Test.YtkdghmbglaghlaaRows
import Derived.Test.YtkdghmbglaghlaaOctKit
import Derived.Test.YtkdghmbglaghlaaShAwake
import Derived.Test.YtkdghmbglaghlaaShGone
import Derived.Test.YtkdghmbglaghlaaShOpen
import Derived.ProofKit
import Derived.OpenShut
import Derived.Stop.Joined
import Derived.Deep.AppendLies
namespace Go.Proofs.Ytkdghmbglaghlaa.setExact
open Go Go.ChangeShapes Go.WideShapes Go.ChangeAt Go.RowKit Sh
open Ti (SetAt Makes IsOf keysV Turns)
open Rf (Sl reads_sl fold_of sl_open wf_i64)
attribute [local go_sem] fold_none

theorem sl_turned {w w' : World} {b : Nat} {L M : List Int} {u : Value} (hu : Sl w u M) (hS : SetAt w (some ⟨b, 0, none⟩) L) (hg : w.grownBy w' (some b)) : Sl w' u M := by
  obtain ⟨s, cap, rfl, h1⟩ := hu
  refine ⟨s, cap, rfl, fun h0 => ?_⟩
  obtain ⟨g, off, e, hlt, hc⟩ := h1 h0
  have hne : g ≠ b := by
    rintro rfl
    rcases hS with ⟨h, _⟩ | ⟨b', p, T, h, hB, _, _⟩
    · cases h
    · obtain rfl : g = b' := by simpa using h
      have h2 := hc 0 h0
      by_cases ho : off = 0
      · subst ho
        have h3 := hB.cell
        rw [Nat.zero_add] at h2
        rw [h2] at h3
        cases h3
      · have hB' : w.heap[g]? = some (.cells #[.pointer p] 98) := hB
        simp [World.cell?, hB', ho] at h2
  refine ⟨g, off, e, Nat.lt_of_lt_of_le hlt hg.size, fun j hj => ?_⟩
  exact (hg.cell_far ⟨g, off + j, none⟩ hlt (by simpa using hne)).trans (hc j hj)

/-- where the two are behind some of the calls -/
structure St (w wr : World) (b k : Nat) (L : List Int) (ua : Option Addr) (n uc : Nat) : Prop where
  len : L.length = n
  rises : Rises L
  set : SetAt wr (some ⟨b, 0, none⟩) L
  sl : Sl wr (.slice ua n uc) L
  few : L.length ≤ 500 + k
  below : Below w.heap.size w wr
  own : w.heap.size ≤ b
theorem St.next {w wr w' : World} {b k n uc : Nat} {L : List Int} {ua : Option Addr} (h : St w wr b k L ua n uc) (hb : Below wr.heap.size wr w') : St w w' b (k + 1) L ua n uc :=
  ⟨h.len, h.rises, h.set.next hb, h.sl.next hb, by have := h.few; omega, b_then h.below hb, h.own⟩
theorem St.turn {w wr w1 : World} {b k n uc : Nat} {L L' : List Int} {ua : Option Addr} (h : St w wr b k L ua n uc) (ht : Turns wr 98 b L' w1) : Sl w1 (.slice ua n uc) L ∧ Below w.heap.size w w1 :=
  ⟨sl_turned h.sl h.set ht.2, h.below.grown ht.2 h.below.size (fun q e => by cases e; exact h.own)⟩
theorem St.more {w wr w1 w2 : World} {b k n uc : Nat} {L L' : List Int} {ua : Option Addr} {u : Value} (h : St w wr b k L ua n uc) (ht : Turns wr 98 b L' w1) (hu : Sl w2 u L') (hb : Below w1.heap.size w1 w2) (hR : Rises L') (hl : L'.length ≤ L.length + 1) :
    ∃ ua' uc', u = .slice ua' L'.length uc' ∧ St w w2 b (k + 1) L' ua' L'.length uc' := by
  obtain ⟨s, c, rfl, hx⟩ := hu
  exact ⟨s, c, rfl, rfl, hR, ht.1.next hb, ⟨s, c, rfl, hx⟩, by have := h.few; omega, b_then (h.turn ht).2 hb, h.own⟩
theorem St.more5 {w wr w' : World} {b k n uc : Nat} {L : List Int} {ua : Option Addr} (h : St w wr b k L ua n uc) (hb : Below wr.heap.size wr w') : St w w' b k L ua n uc :=
  ⟨h.len, h.rises, h.set.next hb, h.sl.next hb, h.few, b_then h.below hb, h.own⟩
theorem nth_cases (x : Int) (L : List Int) : (nth x L = none ∧ ¬ (0 ≤ x ∧ x < L.length)) ∨ (∃ j : Nat, x = j ∧ j < L.length ∧ nth x L = some (L[j]?.getD 0)) := by
  by_cases h0 : 0 ≤ x
  · obtain ⟨j, rfl⟩ := Int.eq_ofNat_of_zero_le h0
    by_cases h1 : j < L.length
    · exact Or.inr ⟨j, rfl, h1, by simp [nth, List.getElem?_eq_getElem h1]⟩
    · exact Or.inl ⟨by simp [nth, List.getElem?_eq_none (by omega : L.length ≤ j)], by omega⟩
  · exact Or.inl ⟨by simp [nth, h0], by omega⟩

set_option maxHeartbeats 16000000 in
set_option maxRecDepth 100000 in
theorem walk (w : World) (s1 s2 : Option Addr) (c1 c2 na nb b2 o2 : Nat) (M : List Int) (X Y : Nat → Int) (hna : M.length = na) (hv : Sl w (.slice s1 na c1) M) (hP : Oct.PairsAt .i64 .i64 w s2 b2 o2 nb X Y) :
    Calls Try.prog 3 #[.slice s1 na c1, .slice s2 nb c2] w fun e w' => e = .returned (.bool true) ∧ Below w.heap.size w w' := by
  have hAw := Lib.hid (Law.awake_calls w)
  by_cases g1 : 500 < na
  · have d1 : (500 : Int) < na := by omega
    clear hv hP hna
    go_enter Try.func3, Try.ntmps3
    go_wp2_with (go_at_call 8; refine hAw.out.mono ?_; rintro e w1 ⟨rfl, b1⟩)
    go_ret
    exact ⟨rfl, b1⟩
  have d1 : decide ((500 : Int) < na) = false := decide_eq_false (by omega)
  have d2 : (na : Int) ≤ 500 := by omega
  have hv0 := Lib.hid hv
  have hP0 := Lib.hid hP
  have hm : Hid (na ≤ 500) := Lib.hid (by omega)
  replace hna := Lib.hid hna
  clear hv hP g1
  go_enter Try.func3, Try.ntmps3
  go_wp2_with fail
  refine hAw.out.mono ?_
  rintro e w1 ⟨rfl, b1⟩
  have hv1 := hv0.out.next b1
  have hOf := Ti.Of_calls w1 s1 c1 M (by have := hna.out; have := hm.out; omega) (reads_sl hna.out hv1)
  rw [hna.out] at hOf
  replace hOf := Lib.hid hOf
  replace b1 := Lib.hid b1
  clear hAw hv0
  go_wp2_with fail
  refine hOf.out.mono ?_
  rintro e w2 ⟨A, hA, p, rfl, hp, hS, b2'⟩
  have hv2 := hv1.next b2'
  have b02 := Lib.hid (b_then b1.out b2')
  have hO3 := Rf.ROf_calls w2 (.slice s1 na c1) M (by have := hna.out; have := hm.out; omega) hv2
  rw [fold_of hA] at hO3
  replace hO3 := Lib.hid hO3
  have hp' : Hid (w.heap.size ≤ p) := Lib.hid (Nat.le_trans b1.out.size hp)
  have lA : Hid (A.length ≤ 500) := Lib.hid (by have := hA.2.2; have := hna.out; have := hm.out; omega)
  have rA := Lib.hid hA.1
  clear hOf hv1 b1 b2' hA hp hv2
  go_wp2_with fail
  refine hO3.out.mono ?_
  rintro e w3 ⟨x, rfl, hX, b3⟩
  obtain ⟨xa, xc, rfl, hX2⟩ := hX
  have st0 : Hid (St w w3 p 0 A xa A.length xc) := Lib.hid ⟨rfl, rA.out, hS.next b3, ⟨xa, xc, rfl, hX2⟩, by have := lA.out; omega, b_then b02.out b3, hp'.out⟩
  clear hO3 hX2 b3 hS rA lA b02 hp' hm hna
  generalize A.length = n0 at *
  go_wp2_with fail
  go_loopg [6, 7] 200 (fun gg s6 s7 wr => ∃ (k : Nat) (L : List Int) (ua : Option Addr) (n uc : Nat), s6 = .slice ua n uc ∧ s7 = .int .i64 (k : Int) ∧ k ≤ nb ∧ k ≤ 200 ∧ 200 - k ≤ gg ∧ Hid (St w wr p k L ua n uc))
  case atStart => exact ⟨0, A, xa, n0, xc, rfl, rfl, by omega, by omega, by omega, st0⟩
  case round =>
    clear st0
    obtain ⟨k, L, ua, n, uc, rfl, rfl, hk, hk2, hgg, hst⟩ := hrel
    by_cases hlt : k < nb ∧ k < 200
    · have l1 : (k : Int) < nb := by omega
      have l2 : (0 : Int) ≤ k := by omega
      have l3 : (k : Int) < 200 := by omega
      have ea := hP0.out.addr (by omega)
      obtain ⟨ck, -⟩ := hP0.out.fst k hlt.1
      obtain ⟨cx, wx⟩ := hP0.out.snd k hlt.1
      have hb2 : b2 < w.heap.size := World.block_lt_of_cell? w _ ck
      have ck1 := (hst.out.below.cell (p := ⟨b2, o2 + k * 2, none⟩) hb2).trans ck
      have cx1 := (hst.out.below.cell (p := ⟨b2, o2 + k * 2 + 1, none⟩) hb2).trans cx
      have hms : Hid (200 - (k + 1) < gk) := Lib.hid (by omega)
      have hkn : Hid (k + 1 ≤ nb ∧ k + 1 ≤ 200) := Lib.hid (by omega)
      have hw1 : IntKind.i64.wrap ((k : Int) + 1) = ((k + 1 : Nat) : Int) := wrap_nat (k + 1) (by omega)
      have hx63 : Hid (Y k < 9223372036854775808) := Lib.hid (by have := (wf_i64 wx).2; omega)
      have hLn := hst.out.len
      have hL1 : Hid (L.length ≤ 700) := Lib.hid (by have := hst.out.few; omega)
      subst ea
      clear hb2 ck cx wx hlt hk hk2 hgg hP0
      generalize X k = kd at *
      generalize Y k = x at *
      replace hLn := Lib.hid hLn
      by_cases e1 : kd = 1
      · subst e1
        have hz := Lib.hid (Ti.Add_calls wr p L x hst.out.set hst.out.rises (by have := hL1.out; omega))
        obtain ⟨z, hzz⟩ : ∃ z, Hid (has x L = z) := ⟨_, Lib.hid rfl⟩
        go_wp2_with fail
        refine hz.out.mono ?_
        rintro e w4 ⟨rfl, ht⟩
        rw [show has (Ent.key x) L = z from hzz.out]
        have hH := Rf.RHas_calls w4 (.slice ua n uc) L x (by have := hL1.out; omega) (hst.out.turn ht).1
        rw [hzz.out] at hH
        replace hH := Lib.hid hH
        have hPu := Lib.hid (Rf.RPut_calls w4 (.slice ua n uc) L x (by have := hL1.out; omega) hst.out.rises (hst.out.turn ht).1)
        replace ht := Lib.hid ht
        clear hz hzz cx1 ck1
        cases z
        all_goals
          go_wp2_with fail
          refine hH.out.mono ?_
          rintro e w5 ⟨rfl, hw5⟩
          obtain rfl := hw5.symm
          clear hw5 hH
          go_wp2_with fail
          refine hPu.out.mono ?_
          rintro e w6 ⟨u, rfl, hu, b6⟩
          obtain ⟨ya, yc, rfl, hs6⟩ := hst.out.more ht.out hu b6 (rises_ins x hst.out.rises) (ins_len_le x L)
          replace hs6 := Lib.hid hs6
          clear hPu hu b6
          generalize ins x L = L6 at *
          obtain ⟨n6, hn6⟩ : ∃ n6, L6.length = n6 := ⟨_, rfl⟩
          rw [hn6] at hs6 ⊢
          clear hn6 ht hst
          have hQ := Ti.SetLen_calls w6 _ L6 hs6.out.set
          rw [hs6.out.len] at hQ
          replace hQ := Lib.hid hQ
          go_wp2_with fail
          refine hQ.out.mono ?_
          rintro e w9 ⟨rfl, hw9⟩
          obtain rfl := hw9.symm
          clear hw9 hQ
          go_wp2
          go_roundg (200 - (k + 1))
          case measure => exact hms.out
          case rel => exact ⟨k + 1, L6, ya, n6, yc, rfl, by simp, hkn.out.1, hkn.out.2, Nat.le_refl _, hs6⟩
      have f1 : (kd == 1) = false := beq_eq_false_iff_ne.2 e1
      by_cases e2 : kd = 2
      · subst e2
        have hz := Lib.hid (Ti.SetDel_calls wr p L x hst.out.set hst.out.rises (by have := hL1.out; omega))
        obtain ⟨z, hzz⟩ : ∃ z, Hid (has x L = z) := ⟨_, Lib.hid rfl⟩
        rw [hzz.out] at hz
        go_wp2_with fail
        refine hz.out.mono ?_
        rintro e w4 ⟨rfl, ht⟩
        have hH := Rf.RHas_calls w4 (.slice ua n uc) L x (by have := hL1.out; omega) (hst.out.turn ht).1
        rw [hzz.out] at hH
        replace hH := Lib.hid hH
        have hPu := Lib.hid (Rf.RWithout_calls w4 (.slice ua n uc) L x (by have := hL1.out; omega) (hst.out.turn ht).1)
        replace ht := Lib.hid ht
        clear hz hzz cx1 ck1
        cases z
        all_goals
          go_wp2_with fail
          refine hH.out.mono ?_
          rintro e w5 ⟨rfl, hw5⟩
          obtain rfl := hw5.symm
          clear hw5 hH
          go_wp2_with fail
          refine hPu.out.mono ?_
          rintro e w6 ⟨u, rfl, hu, b6⟩
          obtain ⟨ya, yc, rfl, hs6⟩ := hst.out.more ht.out (Rf.sl_of_owns hu) b6 (rises_del x hst.out.rises) (Nat.le_succ_of_le (del_len_le x L))
          replace hs6 := Lib.hid hs6
          clear hPu hu b6
          obtain ⟨L6, hL6⟩ : ∃ L6, del x L = L6 := ⟨_, rfl⟩
          rw [hL6] at hs6 ⊢
          obtain ⟨n6, hn6⟩ : ∃ n6, L6.length = n6 := ⟨_, rfl⟩
          rw [hn6] at hs6 ⊢
          clear hn6 ht hst hL6
          have hQ := Ti.SetLen_calls w6 _ L6 hs6.out.set
          rw [hs6.out.len] at hQ
          replace hQ := Lib.hid hQ
          go_wp2_with fail
          refine hQ.out.mono ?_
          rintro e w9 ⟨rfl, hw9⟩
          obtain rfl := hw9.symm
          clear hw9 hQ
          go_wp2
          go_roundg (200 - (k + 1))
          case measure => exact hms.out
          case rel => exact ⟨k + 1, L6, ya, n6, yc, rfl, by simp, hkn.out.1, hkn.out.2, Nat.le_refl _, hs6⟩
      have f2 : (kd == 2) = false := beq_eq_false_iff_ne.2 e2
      by_cases e3 : kd = 3
      · subst e3
        have hz := Lib.hid (Ti.Has_calls wr _ L x hst.out.set hst.out.rises)
        obtain ⟨z, hzz⟩ : ∃ z, Hid (has x L = z) := ⟨_, Lib.hid rfl⟩
        rw [hzz.out] at hz
        go_wp2_with fail
        refine hz.out.mono ?_
        rintro e w4 ⟨rfl, b4⟩
        have hs4 := Lib.hid (hst.out.next b4)
        have hH := Rf.RHas_calls w4 (.slice ua n uc) L x (by have := hL1.out; omega) hs4.out.sl
        rw [hzz.out] at hH
        replace hH := Lib.hid hH
        clear hz hzz cx1 ck1 b4 hst
        cases z
        all_goals
          go_wp2_with fail
          refine hH.out.mono ?_
          rintro e w5 ⟨rfl, hw5⟩
          obtain rfl := hw5.symm
          clear hw5 hH
          have hQ := Ti.SetLen_calls w4 _ L hs4.out.set
          rw [hs4.out.len] at hQ
          replace hQ := Lib.hid hQ
          go_wp2_with fail
          refine hQ.out.mono ?_
          rintro e w9 ⟨rfl, hw9⟩
          obtain rfl := hw9.symm
          clear hw9 hQ
          go_wp2
          go_roundg (200 - (k + 1))
          case measure => exact hms.out
          case rel => exact ⟨k + 1, L, ua, n, uc, rfl, by simp, hkn.out.1, hkn.out.2, Nat.le_refl _, hs4⟩
      have f3 : (kd == 3) = false := beq_eq_false_iff_ne.2 e3
      by_cases e4 : kd = 4
      · subst e4
        have hs4 := Lib.hid (hst.out.next (Below.refl _ _))
        rcases nth_cases x L with ⟨hn, hno⟩ | ⟨j, rfl, hj, hn⟩
        · have hz := Lib.hid (Ti.SetAt_calls wr _ L x hst.out.set (by have := hL1.out; omega) hx63.out 0 false (Or.inl ⟨hn, rfl, rfl⟩))
          rw [hLn.out] at hno
          clear hst hn
          by_cases h0 : 0 ≤ x
          · have h1 : decide (x < (n : Int)) = false := decide_eq_false (by omega)
            have h2 : ¬ x < (n : Int) := by omega
            replace hno := Lib.hid hno
            go_wp2_with fail
            refine hz.out.mono ?_
            rintro e w4 ⟨rfl, hw4⟩
            obtain rfl := hw4.symm
            clear hw4 hz cx1 ck1
            have hQ := Ti.SetLen_calls wr _ L hs4.out.set
            rw [hs4.out.len] at hQ
            replace hQ := Lib.hid hQ
            go_wp2_with fail
            refine hQ.out.mono ?_
            rintro e w9 ⟨rfl, hw9⟩
            obtain rfl := hw9.symm
            clear hw9 hQ
            go_wp2
            go_roundg (200 - (k + 1))
            case measure => exact hms.out
            case rel => exact ⟨k + 1, L, ua, n, uc, rfl, by simp, hkn.out.1, hkn.out.2, Nat.le_refl _, hs4⟩
          · have h1 : decide (0 ≤ x) = false := decide_eq_false (by omega)
            have h2 : x < 0 := by omega
            replace hno := Lib.hid hno
            go_wp2_with fail
            refine hz.out.mono ?_
            rintro e w4 ⟨rfl, hw4⟩
            obtain rfl := hw4.symm
            clear hw4 hz cx1 ck1
            have hQ := Ti.SetLen_calls wr _ L hs4.out.set
            rw [hs4.out.len] at hQ
            replace hQ := Lib.hid hQ
            go_wp2_with fail
            refine hQ.out.mono ?_
            rintro e w9 ⟨rfl, hw9⟩
            obtain rfl := hw9.symm
            clear hw9 hQ
            go_wp2
            go_roundg (200 - (k + 1))
            case measure => exact hms.out
            case rel => exact ⟨k + 1, L, ua, n, uc, rfl, by simp, hkn.out.1, hkn.out.2, Nat.le_refl _, hs4⟩
        · have hz := Lib.hid (Ti.SetAt_calls wr _ L j hst.out.set (by have := hL1.out; omega) hx63.out _ true (Or.inr ⟨hn, rfl⟩))
          have hcl : ∃ g off, ua = some ⟨g, off, none⟩ ∧ wr.cell? ⟨g, off + j, none⟩ = some (.int .i64 (L[j]?.getD 0)) := by
            obtain ⟨s', c', e, h1⟩ := hst.out.sl
            obtain ⟨g, off, e2, hg, hc⟩ := h1 (by omega)
            obtain ⟨rfl, _, _⟩ : ua = s' ∧ n = L.length ∧ uc = c' := by simpa using e
            exact ⟨g, off, e2, hc j hj⟩
          obtain ⟨g, off, rfl, hc⟩ := hcl
          rw [hLn.out] at hj
          have h1 : (j : Int) < n := by omega
          have h2 : (0 : Int) ≤ j := by omega
          clear hst hn
          generalize L[j]?.getD 0 = y at *
          replace hj := Lib.hid hj
          go_wp2_with fail
          refine hz.out.mono ?_
          rintro e w4 ⟨rfl, hw4⟩
          obtain rfl := hw4.symm
          clear hw4 hz cx1 ck1
          have hQ := Ti.SetLen_calls wr _ L hs4.out.set
          rw [hs4.out.len] at hQ
          replace hQ := Lib.hid hQ
          go_wp2_with fail
          refine hQ.out.mono ?_
          rintro e w9 ⟨rfl, hw9⟩
          obtain rfl := hw9.symm
          clear hw9 hQ
          go_wp2
          go_roundg (200 - (k + 1))
          case measure => exact hms.out
          case rel => exact ⟨k + 1, L, (some ⟨g, off, none⟩), n, uc, rfl, by simp, hkn.out.1, hkn.out.2, Nat.le_refl _, hs4⟩
      have f4 : (kd == 4) = false := beq_eq_false_iff_ne.2 e4
      by_cases e5 : kd = 5
      · subst e5
        have hz := Lib.hid (Ti.goneFrom_calls wr _ x L hst.out.set (by have := hL1.out; omega) hst.out.rises)
        go_wp2_with fail
        refine hz.out.mono ?_
        rintro e w4 ⟨v4, rfl, ⟨ho4, g4, k4, rfl⟩, b4⟩
        have hs4 := Lib.hid (hst.out.next b4)
        have sl4 := Lib.hid (Rf.sl_of_owns ho4)
        have hH := Lib.hid (Rf.Above_calls w4 (.slice ua n uc) L x (by have := hL1.out; omega) hs4.out.sl)
        clear hz cx1 ck1 hst ho4
        go_wp2_with fail
        refine hH.out.mono ?_
        rintro e w5 ⟨u5, rfl, ho5, b5⟩
        have hs5 := Lib.hid (hs4.out.more5 b5)
        have sl5 := Rf.sl_of_owns ho5
        obtain ⟨ya, yn, yc, rfl⟩ : ∃ a n c, u5 = .slice a n c := by obtain ⟨s, c, rfl, _⟩ := sl5; exact ⟨_, _, _, rfl⟩
        have hE := Rf.RSame_calls w5 (.slice (some ⟨g4, 0, none⟩) (keysV (abv x L)).length k4) (.slice ya yn yc) (abv x L) (abv x L) (by have := List.length_filter_le (fun y => !Key.lt (Ent.key y) x) L; have := hL1.out; unfold abv; omega) (sl4.out.next b5) sl5
        rw [decide_eq_true (rfl : abv x L = abv x L)] at hE
        replace hE := Lib.hid hE
        clear hH hs4 b4 sl4 ho5 sl5 b5
        go_wp2_with fail
        refine hE.out.mono ?_
        rintro e w6 ⟨rfl, b6⟩
        have hs6 := Lib.hid (hs5.out.more5 b6)
        clear hE b6 hs5
        have hQ := Ti.SetLen_calls w6 _ L hs6.out.set
        rw [hs6.out.len] at hQ
        replace hQ := Lib.hid hQ
        go_wp2_with fail
        refine hQ.out.mono ?_
        rintro e w9 ⟨rfl, hw9⟩
        obtain rfl := hw9.symm
        clear hw9 hQ
        go_wp2
        go_roundg (200 - (k + 1))
        case measure => exact hms.out
        case rel => exact ⟨k + 1, L, ua, n, uc, rfl, by simp, hkn.out.1, hkn.out.2, Nat.le_refl _, hs6⟩
      have f5 : (kd == 5) = false := beq_eq_false_iff_ne.2 e5
      by_cases e6 : kd = 6
      · subst e6
        have hz := Lib.hid (Ti.goneAll_calls wr _ 0 L hst.out.set (by have := hL1.out; omega) hst.out.rises)
        go_wp2_with fail
        refine hz.out.mono ?_
        rintro e w4 ⟨v4, rfl, ⟨ho4, g4, k4, rfl⟩, b4⟩
        have hs4 := Lib.hid (hst.out.next b4)
        have sl4 := Lib.hid (Rf.sl_of_owns ho4)
        have hE := Rf.RSame_calls w4 (.slice (some ⟨g4, 0, none⟩) (keysV L).length k4) (.slice ua n uc) L L (by have := hL1.out; omega) sl4.out hs4.out.sl
        rw [decide_eq_true (rfl : L = L)] at hE
        replace hE := Lib.hid hE
        clear hz cx1 ck1 hst ho4 sl4 b4
        go_wp2_with fail
        refine hE.out.mono ?_
        rintro e w6 ⟨rfl, b6⟩
        have hs6 := Lib.hid (hs4.out.more5 b6)
        clear hE b6 hs4
        have hQ := Ti.SetLen_calls w6 _ L hs6.out.set
        rw [hs6.out.len] at hQ
        replace hQ := Lib.hid hQ
        go_wp2_with fail
        refine hQ.out.mono ?_
        rintro e w9 ⟨rfl, hw9⟩
        obtain rfl := hw9.symm
        clear hw9 hQ
        go_wp2
        go_roundg (200 - (k + 1))
        case measure => exact hms.out
        case rel => exact ⟨k + 1, L, ua, n, uc, rfl, by simp, hkn.out.1, hkn.out.2, Nat.le_refl _, hs6⟩
      have f6 : (kd == 6) = false := beq_eq_false_iff_ne.2 e6
      have hs4 := Lib.hid (hst.out.next (Below.refl _ _))
      clear hst
      have hQ := Ti.SetLen_calls wr _ L hs4.out.set
      rw [hs4.out.len] at hQ
      replace hQ := Lib.hid hQ
      go_wp2_with fail
      refine hQ.out.mono ?_
      rintro e w9 ⟨rfl, hw9⟩
      obtain rfl := hw9.symm
      clear hw9 hQ
      go_wp2
      go_roundg (200 - (k + 1))
      case measure => exact hms.out
      case rel => exact ⟨k + 1, L, ua, n, uc, rfl, by simp, hkn.out.1, hkn.out.2, Nat.le_refl _, hs4⟩
    · have hend : decide ((k : Int) < nb) = false ∨ (decide ((k : Int) < 200) = false ∧ (k : Int) < nb) := by
        by_cases h : k < nb
        · exact Or.inr ⟨decide_eq_false (by omega), by omega⟩
        · exact Or.inl (decide_eq_false (by omega))
      have hz := Lib.hid (Ti.SetList_calls wr _ L hst.out.set (by have := hst.out.few; omega))
      have hlt2 : (k : Int) < 200 ∨ (200 : Int) ≤ k := by omega
      have hlt3 : (k : Int) < nb ∨ (nb : Int) ≤ k := by omega
      have hk7 : Hid (L.length ≤ 700) := Lib.hid (by have := hst.out.few; omega)
      clear hk hk2 hgg hlt hP0
      rcases hend with he | ⟨he, he2⟩
      all_goals
        first | (have he3 : (nb : Int) ≤ k := by simpa using he) | (have he4 : (200 : Int) ≤ k := by simpa using he)
        clear hlt2 hlt3
        go_wp2_with fail
        refine hz.out.mono ?_
        rintro e w4 ⟨v4, rfl, ⟨ho4, g4, k4, rfl⟩, b4⟩
        have hs4 := Lib.hid (hst.out.next b4)
        have sl4 := Lib.hid (Rf.sl_of_owns ho4)
        have hE := Rf.RSame_calls w4 (.slice (some ⟨g4, 0, none⟩) (keysV L).length k4) (.slice ua n uc) L L (by have := hk7.out; omega) sl4.out hs4.out.sl
        rw [decide_eq_true (rfl : L = L)] at hE
        replace hE := Lib.hid hE
        clear hz hst ho4 sl4 b4
        go_wp2_with fail
        refine hE.out.mono ?_
        rintro e w6 ⟨rfl, b6⟩
        have hs6 := Lib.hid (hs4.out.more5 b6)
        clear hE b6 hs4
        go_wp2
        go_ret
        exact ⟨rfl, hs6.out.below⟩

theorem own : ownKnob Try.prog.godebug = none := by kernel_rfl
theorem laidOut : laidOutB Try.prog = true := by kernel_rfl
set_option maxRecDepth 100000 in
theorem lifted (os : Os) (started : os.Started) (H : Type) (enc : TypeId × Value → H) :
    ReturnsInHanded {} Try.checked os 3 .any (Rows.setExactSpec.pre6 enc Try.prog Try.f3 Rows.setExactRow.domain false) (Rows.setExactSpec.post enc Try.prog Try.f3 false true false false) := by
  refine returnsInHanded_of_change_sized (C := Try.checked) own started (by kernel_rfl) Try.func3
    (ChangeSpec.witness6 (enc := enc) (C := Try.checked) false ⟨#[], #[.slice none 0 0, .slice none 0 0], []⟩ 8 (by kernel_rfl) (by kernel_rfl) (by kernel_rfl) (by kernel_rfl)) ?_
  intro W base args ds gs before hval0 hW hcnd hsz0 _
  have hval : ∀ (j : Nat) t v, Try.f3.params[j]? = some t → args[j]? = some v → Value.okWide Try.prog W .any base t v := hval0
  have hsz : (DataW.weightsEach Try.prog (Try.f3.params.toList ++ Rows.setExactSpec.plain.varTypes Try.prog) (ds ++ gs)).all (· ≤ reachBytes) = true := hsz0
  have hW' := hW
  obtain ⟨p, q, hA0, hV, rfl, hfz, hnd⟩ := hW
  have hA : DataW.TrodAll enc Try.prog W 0 (fun _ => true) true Try.f3.params.toList args.toList ds p := hA0
  rw [Try.params3] at hA hval hsz
  obtain ⟨v0, vs0, d0, ds0, p0, q0, hargs, rfl, rfl, h0, r0⟩ := trodAll_cons hA
  obtain ⟨v1, vs1, d1, ds1, p1, q1, rfl, rfl, rfl, h1, r1⟩ := trodAll_cons r0
  obtain ⟨rfl, rfl, rfl⟩ := trodAll_nil r1
  obtain rfl : args = #[v0, v1] := by cases args; simp_all
  obtain ⟨rfl, rfl⟩ := trodVars_none hV
  have k0 := h0
  have lt0 : ∀ x ∈ p0, x.block < W.heap.size := by obtain ⟨m, hm⟩ := k0; exact DataW.trod_lt m _ _ _ hm
  have ok0 := hval 0 22 v0 rfl rfl
  have k1 := h1
  have lt1 : ∀ x ∈ p1, x.block < W.heap.size := by obtain ⟨m, hm⟩ := k1; exact DataW.trod_lt m _ _ _ hm
  have ok1 := hval 1 23 v1 rfl rfl
  clear hA0 hval0 hsz0
  obtain ⟨a0, n0, c0, x0, o0, N0, rfl, i0, -⟩ := Oct.open_nums Try.underlying22 Try.underlying3 (by kernel_rfl) (of_decide_eq_true (by kernel_rfl)) ok0 h0 (Oct.arg_weights hsz (j := 0) rfl rfl)
  obtain ⟨aP, lP, cP, bP, oP, X, Y, rfl, hP, -⟩ := Oct.open_pairs Try.underlying23 Try.underlying29 (by kernel_rfl) rfl rfl Try.underlying3 Try.underlying3 (by kernel_rfl) (by kernel_rfl) (of_decide_eq_true (by kernel_rfl)) ok1 h1 (Oct.arg_weights hsz (j := 1) rfl rfl)
  refine (walk W a0 aP c0 cP n0 lP bP oP _ X Y (sl_open (cap := c0) i0).2 (sl_open i0).1 hP).mono fun e W' ⟨he, bel⟩ => ?_
  subst he
  exact ⟨_, rfl, _, _, _, [], _, [], hW', trodAll_mk1 (shut_bool Try.underlying4 _), (trodAll_cons_mk (Below.trod laidOut (by kernel_rfl) (of_decide_eq_true (by kernel_rfl)) k0 bel lt0) (trodAll_cons_mk (Below.trod laidOut (by kernel_rfl) (of_decide_eq_true (by kernel_rfl)) k1 bel lt1) trodAll_mk0)), rfl, bel.frame _, fun h => by cases h⟩

/-- the statement -/
theorem proved : Rows.SetExactSaid :=
  OpenClaim.holds_of_wide 3 Try.f3 rfl rfl rfl rfl rfl rfl rfl ⟨rfl, rfl, rfl, rfl, rfl⟩ rfl rfl rfl rfl rfl (by kernel_rfl) Try.func3 (by kernel_rfl)
    (of_decide_eq_true (by kernel_rfl)) (by unfold Func.isWrapper; first | (rw [if_pos (by decide +kernel)]; kernel_rfl) | (rw [if_neg (by decide +kernel)]; exact ⟨rfl, rfl⟩))
    (fun os started H enc _ => lifted os started H enc)
end Go.Proofs.Ytkdghmbglaghlaa.setExact
