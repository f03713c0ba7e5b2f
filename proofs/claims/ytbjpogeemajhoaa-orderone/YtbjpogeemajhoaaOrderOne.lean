/-
  OrderOne: the order is one: turned round it is turned, it can be gone on with, only the same height and Id stand alike; the best of a list is in it, and nothing stands above it. Conditions: none.
-/
import Derived.Test.YtbjpogeemajhoaaRows
import Derived.Test.YtbjpogeemajhoaaOrCmp
import Derived.Test.YtbjpogeemajhoaaOrBest
import Derived.Test.YtbjpogeemajhoaaOrSame
import Derived.Test.YtbjpogeemajhoaaOrAwake
import Derived.Test.YtbjpogeemajhoaaOrOpen
import Derived.ProofKit
import Derived.OpenShut
import Derived.Stop.Joined
import Derived.Carry
namespace Go.Proofs.Ytbjpogeemajhoaa.orderOne
open Go Go.ChangeShapes Go.WideShapes Go.ChangeAt Go.RowKit Go.Proofs.Ytbjpogeemajhoaa.Or

/-- what Best tells of a list -/
def BestIs (L : List Fx) (f : Fct) (t : Bool) : Prop := t = decide (0 < L.length) ∧ (0 < L.length → (∃ x ∈ L, x.f = f) ∧ ∀ y ∈ L, ¬ under f y.f)
theorem Best_is (w : World) (a : Option Addr) (cap b off : Nat) (L : List Fx) (hL : FxsAt w a b off L) (hF : Facts w L) (hP : ∀ x ∈ L, x.f.pars.length ≤ 100000) (hl : L.length ≤ 100000) :
    Calls Try.prog 10 #[.slice a L.length cap] w fun e w' => ∃ x t, e = .returned (.tuple #[Fx.val x, .bool t]) ∧ BestIs L x.f t ∧ Pars w' x ∧ x.f.pars.length ≤ 100000 ∧ Below w.heap.size w w' := by
  by_cases h0 : L.length = 0
  · have e0 : decide (0 < L.length) = false := by rw [h0]; rfl
    have e1 : ¬ 0 < L.length := by omega
    unfold BestIs
    rw [e0]
    rw [h0] at e1 ⊢
    refine (Best_none w a cap).mono ?_
    rintro e w' ⟨rfl, hb⟩
    exact ⟨noFact, false, rfl, ⟨rfl, fun h => absurd h e1⟩, ⟨Nat.le_refl _, 0, 0, TxAt.nil _ _ _ _⟩, Nat.zero_le _, hb⟩
  · refine (Best_calls w a cap b off L hL hF hP (by omega) hl).mono ?_
    rintro e w' ⟨i, x, hx, hB, pa, pc, rfl, hp, hb⟩
    exact ⟨⟨x.f, pa, pc⟩, true, rfl, ⟨by rw [decide_eq_true]; omega, fun _ => ⟨⟨x, List.mem_of_getElem? hx, rfl⟩, fun y hy => hB.2.1 _ (List.mem_map.2 ⟨y, hy, rfl⟩)⟩⟩, hp, hP x (List.mem_of_getElem? hx), hb⟩
/-- it can be gone on with -/
theorem goes_on {x y z : Fct} (h1 : cmp x y ≤ 0) (h2 : cmp y z ≤ 0) : ¬ 0 < cmp x z := fun h => by
  have k1 : ¬ under y x := fun k => by have := cmp_pos.2 k; omega
  have k2 : ¬ under z y := fun k => by have := cmp_pos.2 k; omega
  have k3 := cmp_pos.1 h
  rcases under_tri x y with u | u | u
  · exact k2 (under_tra k3 u)
  · exact k2 ((like_under u.1 u.2).1 k3)
  · exact k1 u
set_option maxRecDepth 100000 in
set_option maxHeartbeats 4000000 in
theorem walk (w : World) (x y : Fx) (a : Option Addr) (cap b off : Nat) (L : List Fx) (hL : FxsAt w a b off L) (hK : ∀ z ∈ L, Known w z) (hl : L.length ≤ 140737488351232) :
    Calls Try.prog 5 #[x.val, y.val, .slice a L.length cap] w fun e w' => e = .returned (.bool true) ∧ Below w.heap.size w w' := by
  have hX := Lib.hid (FxVar.new w x)
  have hA := b_alloc w (.cells #[.string x.f.id, .int .i64 x.f.high, .slice x.pa x.f.pars.length x.pc] 24)
  have hY := Lib.hid (FxVar.new (w.alloc (.cells #[.string x.f.id, .int .i64 x.f.high, .slice x.pa x.f.pars.length x.pc] 24)) y)
  have hA2 := b_alloc (w.alloc (.cells #[.string x.f.id, .int .i64 x.f.high, .slice x.pa x.f.pars.length x.pc] 24)) (.cells #[.string y.f.id, .int .i64 y.f.high, .slice y.pa y.f.pars.length y.pc] 24)
  have hsz : (w.alloc (.cells #[.string x.f.id, .int .i64 x.f.high, .slice x.pa x.f.pars.length x.pc] 24)).heap.size = w.heap.size + 1 := by simp
  rw [hsz] at hY
  replace hX := Lib.hid (hX.out.next hA2)
  have hB := Lib.hid (b_then hA hA2)
  have hFw := Lib.hid (Known.facts hK)
  replace hL := Lib.hid hL
  have hAw := Lib.hid fun w => awake_calls w
  obtain ⟨nL, hnL⟩ : ∃ n : Nat, n = L.length := ⟨_, rfl⟩
  rw [← hnL] at hl ⊢
  replace hnL := Lib.hid hnL
  dsimp only [Fx.val]
  clear hA hA2 hsz hK
  go_enter Try.func5, Try.ntmps5
  go_upto_region 1 with (fail)
  generalize (w.alloc (.cells #[.string x.f.id, .int .i64 x.f.high, .slice x.pa x.f.pars.length x.pc] 24)).alloc (.cells #[.string y.f.id, .int .i64 y.f.high, .slice y.pa y.f.pars.length y.pc] 24) = w1 at *
  go_wp2_with fail
  refine (hAw.out w1).mono ?_
  rintro e w2 ⟨rfl, b2⟩
  replace hX := Lib.hid (hX.out.next b2)
  replace hY := Lib.hid (hY.out.next b2)
  replace hB := Lib.hid (b_then hB.out b2)
  have hG := great_calls w2 a cap b off L (hL.out.next hB.out) (by rw [← hnL.out]; exact hl)
  rw [← hnL.out] at hG
  replace hG := Lib.hid hG
  clear b2 hAw
  go_wp2_with fail
  refine hG.out.mono ?_
  rintro e w3 ⟨⟨t, rfl, ht⟩, rfl⟩
  clear hG
  cases t with
  | true =>
    clear ht
    go_wp2
    go_ret
    exact ⟨rfl, hB.out⟩
  | false =>
    have hsm : nL ≤ 60 ∧ ∀ x ∈ L, x.f.pars.length ≤ 20 := Classical.byContradiction fun h => by have := ht.2 h; cases this
    have hn60 := hsm.1
    have hP : ∀ x ∈ L, x.f.pars.length ≤ 100000 := fun x hx => Nat.le_trans (hsm.2 x hx) (by omega)
    have hl2 : L.length ≤ 100000 := by rw [← hnL.out]; omega
    have hBe := Lib.hid fun w' (bb : Below w2.heap.size w2 w') => Best_is w' a cap b off L (hL.out.next (b_then hB.out bb)) (hFw.out.next (b_then hB.out bb)) hP hl2
    rw [← hnL.out] at hBe
    have hLz := Lib.hid fun w' (bb : Below w2.heap.size w2 w') => hL.out.next (b_then hB.out bb)
    replace hP := Lib.hid hP
    clear ht hsm hl2
    obtain ⟨r, hr⟩ : ∃ r, r = cmp x.f y.f := ⟨_, rfl⟩
    have hC1 := Compare_calls x y w2
    have hC2 := Lib.hid fun w' => Compare_calls y x w'
    rw [cmp_turn x.f y.f] at hC2
    rw [← hr] at hC1 hC2
    replace hC1 := Lib.hid hC1
    replace hr := Lib.hid hr
    obtain ⟨x0, x1, x2⟩ := hX.out.cell
    obtain ⟨y0, y1, y2⟩ := hY.out.cell
    dsimp only [Fx.val] at hC1 hC2
    go_wp2_with fail
    refine hC1.out.mono ?_
    rintro e w3 ⟨rfl, q, os, hw3⟩
    have b3 : Below w2.heap.size w2 w3 := by rw [hw3]; exact below_grow _ _ _
    replace hX := Lib.hid (hX.out.next b3)
    replace hY := Lib.hid (hY.out.next b3)
    replace b3 := Lib.hid b3
    clear hw3 x0 x1 x2 y0 y1 y2 hC1
    obtain ⟨x0, x1, x2⟩ := hX.out.cell
    obtain ⟨y0, y1, y2⟩ := hY.out.cell
    go_wp2_with fail
    refine (hC2.out _).mono ?_
    rintro e w4 ⟨rfl, q, os, hw4⟩
    have b4 : Below w3.heap.size w3 w4 := by rw [hw4]; exact below_grow _ _ _
    replace hX := Lib.hid (hX.out.next b4)
    replace hY := Lib.hid (hY.out.next b4)
    replace b3 := Lib.hid (b_then b3.out b4)
    clear hw4 x0 x1 x2 y0 y1 y2 hC2 b4
    obtain ⟨x0, x1, x2⟩ := hX.out.cell
    obtain ⟨y0, y1, y2⟩ := hY.out.cell
    have hkey : (r = 0 ∧ x.f.high = y.f.high ∧ x.f.id = y.f.id) ∨ ((r = -1 ∨ r = 1) ∧ x.f.high = y.f.high ∧ x.f.id ≠ y.f.id) ∨ ((r = -1 ∨ r = 1) ∧ x.f.high ≠ y.f.high) := by
      have h0 : r = 0 ↔ x.f.high = y.f.high ∧ x.f.id = y.f.id := by rw [hr.out]; exact cmp_zero
      have h1 : r = -1 ∨ r = 0 ∨ r = 1 := by rw [hr.out]; exact cmp_one _ _
      by_cases e1 : x.f.high = y.f.high
      · by_cases e2 : x.f.id = y.f.id
        · exact Or.inl ⟨h0.2 ⟨e1, e2⟩, e1, e2⟩
        · have : r ≠ 0 := fun h => e2 (h0.1 h).2
          exact Or.inr (Or.inl ⟨by omega, e1, e2⟩)
      · have : r ≠ 0 := fun h => e1 (h0.1 h).1
        exact Or.inr (Or.inr ⟨by omega, e1⟩)
    rcases hkey with ⟨rfl, h1, h2⟩ | ⟨rfl | rfl, h1, h2⟩ | ⟨rfl | rfl, h1⟩
    · have e1 : (x.f.high == y.f.high) = true := by simpa using h1
      have e2 := str_eq h2
      clear h1 h2
      go_upto_region 8 with (fail)
      have hBe4 := Lib.hid (hBe.out w4 b3.out)
      clear hBe x0 x1 x2 y0 y1 y2 e1 e2
      go_wp2_with fail
      refine hBe4.out.mono ?_
      rintro e w5 ⟨bx, bt, rfl, hTop, hPb, hPl, b5⟩
      dsimp only [Fx.val]
      have hbt : bt = decide (0 < nL) := by rw [hnL.out]; exact hTop.1
      have hbe : (bt != decide ((0 : Int) < nL)) = false := by rw [hbt]; simp
      go_upto_region 9 with (fail)
      have hV := Lib.hid (FxVar.new w5 bx)
      have bA := b_alloc w5 (.cells #[.string bx.f.id, .int .i64 bx.f.high, .slice bx.pa bx.f.pars.length bx.pc] 24)
      replace b3 := Lib.hid (b_then (b_then b3.out b5) bA)
      replace hX := Lib.hid ((hX.out.next b5).next bA)
      replace hY := Lib.hid ((hY.out.next b5).next bA)
      replace hPb := Lib.hid (hPb.next bA)
      obtain ⟨g4, hg4⟩ : ∃ g, g = w5.heap.size := ⟨_, rfl⟩
      rw [← hg4] at hV ⊢
      generalize w5.alloc (.cells #[.string bx.f.id, .int .i64 bx.f.high, .slice bx.pa bx.f.pars.length bx.pc] 24) = v0 at *
      have hst : Hid ((!decide (0 < nL)) = true ↔ (nL = 0 ∨ ∃ z ∈ L.take 0, z.f = bx.f)) := Lib.hid (by simp)
      have hend : Hid (nL = 0 ∨ ∃ z ∈ L, z.f = bx.f) := Lib.hid (by
        by_cases h0 : nL = 0
        · exact Or.inl h0
        · exact Or.inr (hTop.2 (by rw [← hnL.out]; omega)).1)
      have hnone : Hid (∀ z ∈ L, ¬ under bx.f z.f) := Lib.hid fun z hz => (hTop.2 (List.length_pos_of_mem hz)).2 z hz
      have hcell : Hid (∀ k, k < nL → ∃ y, L[k]? = some y) := Lib.hid fun k hk => by
        have := hnL.out
        exact ⟨L[k], List.getElem?_eq_getElem (by omega)⟩
      have hkeep0 := Lib.hid fun w' (bb : Below v0.heap.size v0 w') => (⟨hV.out.next bb, hX.out.next bb, hY.out.next bb, hLz.out w' (b_then b3.out bb), hPb.out.next bb, fun z hz => (hFw.out.pars z hz).next (b_then hB.out (b_then b3.out bb))⟩ : FxVar w' g4 bx ∧ FxVar w' w.heap.size x ∧ FxVar w' (w.heap.size + 1) y ∧ FxsAt w' a b off L ∧ Pars w' bx ∧ ∀ z ∈ L, Pars w' z)
      have hres := Lib.hid (b_then hB.out b3.out)
      replace hn60 := Lib.hid hn60
      clear hBe4 hTop bA hV hX hY hPb b5 hbt hg4 hLz hB b3
      go_upto_region 13 with (fail)
      clear hbe
      go_loopw [10, 11] (fun inn i wr => ∃ (k : Nat) (t : Bool), k ≤ nL ∧ inn = .bool t ∧ i = .int .i64 (k : Int) ∧ Hid (t = true ↔ (nL = 0 ∨ ∃ z ∈ L.take k, z.f = bx.f)) ∧ Below v0.heap.size v0 wr) (fun _ i _ => nL - (intOf i).toNat)
      case atStart => exact ⟨0, _, Nat.zero_le _, rfl, rfl, hst, Below.refl _ _⟩
      case round =>
        obtain ⟨k, t, hk, rfl, rfl, ht, hb⟩ := hrel
        clear hst
        by_cases hlt : k < nL
        · obtain ⟨z, hz⟩ := hcell.out k hlt
          have hzm := List.mem_of_getElem? hz
          obtain ⟨-, -, -, hLr, -, -⟩ := hkeep0.out _ hb
          obtain rfl := hLr.addr (by have := hnL.out; omega)
          have k1 : (k : Int) < nL := by omega
          have k0 : 0 ≤ (k : Int) := by omega
          have hwk2 : wrap64 ((k : Int) + 1) = ((k + 1 : Nat) : Int) := wrap_next k (by have := hn60.out; omega)
          have hms : Hid (nL - (k + 1) < nL - k) := Lib.hid (by omega)
          have hkl : Hid (k + 1 ≤ nL) := Lib.hid hlt
          have htk : Hid (L.take (k + 1) = L.take k ++ [z]) := Lib.hid (by rw [List.take_add_one, hz]; rfl)
          have hkeep : Hid (∀ w', Below wr.heap.size wr w' → (w'.cell? ⟨b, off + k * 3, none⟩ = some (.string z.f.id) ∧ w'.cell? ⟨b, off + k * 3 + 1, none⟩ = some (.int .i64 z.f.high) ∧ w'.cell? ⟨b, off + k * 3 + 2, none⟩ = some (.slice z.pa z.f.pars.length z.pc)) ∧ (w'.cell? ⟨g4, 0, none⟩ = some (.string bx.f.id) ∧ w'.cell? ⟨g4, 1, none⟩ = some (.int .i64 bx.f.high) ∧ w'.cell? ⟨g4, 2, none⟩ = some (.slice bx.pa bx.f.pars.length bx.pc)) ∧ (w'.cell? ⟨w.heap.size, 0, none⟩ = some (.string x.f.id) ∧ w'.cell? ⟨w.heap.size, 1, none⟩ = some (.int .i64 x.f.high) ∧ w'.cell? ⟨w.heap.size, 2, none⟩ = some (.slice x.pa x.f.pars.length x.pc)) ∧ (w'.cell? ⟨w.heap.size + 1, 0, none⟩ = some (.string y.f.id) ∧ w'.cell? ⟨w.heap.size + 1, 1, none⟩ = some (.int .i64 y.f.high) ∧ w'.cell? ⟨w.heap.size + 1, 2, none⟩ = some (.slice y.pa y.f.pars.length y.pc))) := Lib.hid fun w' bb => by
            obtain ⟨h1, h2, h3, h4, -, -⟩ := hkeep0.out w' (b_next hb bb (Nat.le_refl _))
            exact ⟨⟨h4.id k z hz, h4.high k z hz, h4.pars k z hz⟩, h1.cell, h2.cell, h3.cell⟩
          obtain ⟨c, hc⟩ : ∃ c, c = cmp z.f bx.f := ⟨_, rfl⟩
          have hc0 : ¬ 0 < c := fun h => hnone.out z hzm (cmp_pos.1 (by rw [← hc]; exact h))
          have hC := Lib.hid fun w' => Compare_calls z bx w'
          rw [← hc] at hC
          have hS := Lib.hid fun w' (bb : Below wr.heap.size wr w') => same_calls w' z bx ((hkeep0.out w' (b_next hb bb (Nat.le_refl _))).2.2.2.2.2 z hzm) (hkeep0.out w' (b_next hb bb (Nat.le_refl _))).2.2.2.2.1 (hP.out z hzm) hPl
          obtain ⟨c1, hc1e⟩ : ∃ c, c = cmp y.f z.f := ⟨_, rfl⟩
          obtain ⟨c2, hc2e⟩ : ∃ c, c = cmp x.f z.f := ⟨_, rfl⟩
          replace hc1e := Lib.hid hc1e
          replace hc2e := Lib.hid hc2e
          have bd := b_drew1 wr
          have hk0 := hkeep.out _ bd
          replace hb := Lib.hid hb
          replace hz := Lib.hid hz
          replace hzm := Lib.hid hzm
          clear hlt hk hLr hc
          dsimp only [Fx.val] at hC hS
          go_wp2_with fail
          go_region_held3 (fun w' => (w'.cell? ⟨b, off + k * 3, none⟩ = some (.string z.f.id) ∧ w'.cell? ⟨b, off + k * 3 + 1, none⟩ = some (.int .i64 z.f.high) ∧ w'.cell? ⟨b, off + k * 3 + 2, none⟩ = some (.slice z.pa z.f.pars.length z.pc)) ∧ (w'.cell? ⟨g4, 0, none⟩ = some (.string bx.f.id) ∧ w'.cell? ⟨g4, 1, none⟩ = some (.int .i64 bx.f.high) ∧ w'.cell? ⟨g4, 2, none⟩ = some (.slice bx.pa bx.f.pars.length bx.pc)) ∧ (w'.cell? ⟨w.heap.size, 0, none⟩ = some (.string x.f.id) ∧ w'.cell? ⟨w.heap.size, 1, none⟩ = some (.int .i64 x.f.high) ∧ w'.cell? ⟨w.heap.size, 2, none⟩ = some (.slice x.pa x.f.pars.length x.pc)) ∧ (w'.cell? ⟨w.heap.size + 1, 0, none⟩ = some (.string y.f.id) ∧ w'.cell? ⟨w.heap.size + 1, 1, none⟩ = some (.int .i64 y.f.high) ∧ w'.cell? ⟨w.heap.size + 1, 2, none⟩ = some (.slice y.pa y.f.pars.length y.pc))) (first | exact hk0 | exact hkeep.out _ b5)
            (first | (go_at_call 12; refine (hC.out _).mono ?_; rintro e w5 ⟨rfl, q5, o5, hw5⟩; have b5 : Below wr.heap.size wr w5 := (by rw [hw5]; exact b_then bd (below_grow _ _ _)); clear hw5))
          all_goals
            have hk5 := hkeep.out _ (b_then b5 (b_drew1 w5))
            have bd5 := b_then b5 (b_drew1 w5)
            clear hk0
            cases t with
            | true =>
              have htF : Hid (true = true ↔ (nL = 0 ∨ ∃ z ∈ L.take (k + 1), z.f = bx.f)) := Lib.hid (by
                refine iff_of_true rfl ?_
                rcases ht.out.1 rfl with h | ⟨q, hq, e⟩
                · exact Or.inl h
                · exact Or.inr ⟨q, by rw [htk.out]; exact List.mem_append_left _ hq, e⟩)
              go_wp2_with fail
              refine wp_region_held_drew (S := (fun w' => (w'.cell? ⟨b, off + k * 3, none⟩ = some (.string z.f.id) ∧ w'.cell? ⟨b, off + k * 3 + 1, none⟩ = some (.int .i64 z.f.high) ∧ w'.cell? ⟨b, off + k * 3 + 2, none⟩ = some (.slice z.pa z.f.pars.length z.pc)) ∧ (w'.cell? ⟨g4, 0, none⟩ = some (.string bx.f.id) ∧ w'.cell? ⟨g4, 1, none⟩ = some (.int .i64 bx.f.high) ∧ w'.cell? ⟨g4, 2, none⟩ = some (.slice bx.pa bx.f.pars.length bx.pc)) ∧ (w'.cell? ⟨w.heap.size, 0, none⟩ = some (.string x.f.id) ∧ w'.cell? ⟨w.heap.size, 1, none⟩ = some (.int .i64 x.f.high) ∧ w'.cell? ⟨w.heap.size, 2, none⟩ = some (.slice x.pa x.f.pars.length x.pc)) ∧ (w'.cell? ⟨w.heap.size + 1, 0, none⟩ = some (.string y.f.id) ∧ w'.cell? ⟨w.heap.size + 1, 1, none⟩ = some (.int .i64 y.f.high) ∧ w'.cell? ⟨w.heap.size + 1, 2, none⟩ = some (.slice y.pa y.f.pars.length y.pc)))) (by kernel_rfl) (hk5) (fun hHeld => ?_)
              refine wpAnyH_take (i := 0) (oi := { dst := some 67, op := _, type := _, pos := _, after := _, guard := none }) (v := ?vr1_0) rfl (by kernel_rfl) (by kernel_rfl) (by kernel_rfl) (fun _ _ _ h => h) (Or.inl ⟨by rfl, ?hyr1_0⟩) (by assumption) ?restr1_0
              case hyr1_0 => (intro w hSw; (try dsimp only at hSw); go_simp <;> with_reducible rfl)
              (try simp only [Act.put, List.setIfInBounds_toArray, List.set_cons_zero, List.set_cons_succ])
              refine wpAnyH_take (i := 1) (oi := { dst := some 68, op := _, type := _, pos := _, after := _, guard := none }) (v := ?vr1_1) rfl (by kernel_rfl) (by kernel_rfl) (by kernel_rfl) (fun _ _ _ h => h) (Or.inl ⟨by rfl, ?hyr1_1⟩) (by assumption) ?restr1_1
              case hyr1_1 => (intro w hSw; (try dsimp only at hSw); go_simp <;> with_reducible rfl)
              (try simp only [Act.put, List.setIfInBounds_toArray, List.set_cons_zero, List.set_cons_succ])
              refine wpAnyH_take (i := 2) (oi := { dst := some 69, op := _, type := _, pos := _, after := _, guard := some (1, false) }) (v := undef) rfl (by kernel_rfl) (by kernel_rfl) (by kernel_rfl) (fun _ _ _ h => h) (Or.inr ⟨by rfl, rfl⟩) (by assumption) ?_
              (try simp only [Act.put, List.setIfInBounds_toArray, List.set_cons_zero, List.set_cons_succ])
              refine wpAnyH_take (i := 3) (oi := { dst := some 70, op := _, type := _, pos := _, after := _, guard := some (1, false) }) (v := undef) rfl (by kernel_rfl) (by kernel_rfl) (by kernel_rfl) (fun _ _ _ h => h) (Or.inr ⟨by rfl, rfl⟩) (by assumption) ?_
              (try simp only [Act.put, List.setIfInBounds_toArray, List.set_cons_zero, List.set_cons_succ])
              refine wpAnyH_take (i := 4) (oi := { dst := some 71, op := _, type := _, pos := _, after := _, guard := some (1, false) }) (v := undef) rfl (by kernel_rfl) (by kernel_rfl) (by kernel_rfl) (fun _ _ _ h => h) (Or.inr ⟨by rfl, rfl⟩) (by assumption) ?_
              (try simp only [Act.put, List.setIfInBounds_toArray, List.set_cons_zero, List.set_cons_succ])
              refine wpAnyH_take (i := 5) (oi := { dst := some 72, op := _, type := _, pos := _, after := _, guard := some (1, false) }) (v := undef) rfl (by kernel_rfl) (by kernel_rfl) (by kernel_rfl) (fun _ _ _ h => h) (Or.inr ⟨by rfl, rfl⟩) (by assumption) ?_
              (try simp only [Act.put, List.setIfInBounds_toArray, List.set_cons_zero, List.set_cons_succ])
              refine wpAnyH_take (i := 6) (oi := { dst := some 73, op := _, type := _, pos := _, after := _, guard := some (1, false) }) (v := undef) rfl (by kernel_rfl) (by kernel_rfl) (by kernel_rfl) (fun _ _ _ h => h) (Or.inr ⟨by rfl, rfl⟩) (by assumption) ?_
              (try simp only [Act.put, List.setIfInBounds_toArray, List.set_cons_zero, List.set_cons_succ])
              refine wpAnyH_take (i := 7) (oi := { dst := some 74, op := _, type := _, pos := _, after := _, guard := some (1, false) }) (v := undef) rfl (by kernel_rfl) (by kernel_rfl) (by kernel_rfl) (fun _ _ _ h => h) (Or.inr ⟨by rfl, rfl⟩) (by assumption) ?_
              (try simp only [Act.put, List.setIfInBounds_toArray, List.set_cons_zero, List.set_cons_succ])
              refine wpAnyH_take (i := 8) (oi := { dst := some 75, op := _, type := _, pos := _, after := _, guard := none }) (v := ?vr1_8) rfl (by kernel_rfl) (by kernel_rfl) (by kernel_rfl) (fun _ _ _ h => h) (Or.inl ⟨by rfl, ?hyr1_8⟩) (by assumption) ?restr1_8
              case hyr1_8 => (intro w hSw; (try dsimp only at hSw); go_simp <;> with_reducible rfl)
              (try simp only [Act.put, List.setIfInBounds_toArray, List.set_cons_zero, List.set_cons_succ])
              refine wpAnyH_take (i := 9) (oi := { dst := some 10, op := _, type := _, pos := _, after := _, guard := none }) (v := ?vr1_9) rfl (by kernel_rfl) (by kernel_rfl) (by kernel_rfl) (fun _ _ _ h => h) (Or.inl ⟨by rfl, ?hyr1_9⟩) (by assumption) ?restr1_9
              case hyr1_9 => (intro w hSw; (try dsimp only at hSw); go_simp <;> with_reducible rfl)
              (try simp only [Act.put, List.setIfInBounds_toArray, List.set_cons_zero, List.set_cons_succ])
              refine wpAnyH_done (by kernel_rfl) ?_ _
              obtain ⟨w6, hw6⟩ : ∃ w6, w6 = w5.drew := ⟨_, rfl⟩
              have b6 := Lib.hid bd5
              rw [← hw6] at b6 ⊢
              have hk6 := hkeep.out _ (b_then b6.out (b_drew1 w6))
              clear hw6 bd5 hk5 b5
              have hc1 : Calls Try.prog 12 #[y.val, z.val] w6.drew fun e w' => e = .returned (.int .i64 c1) ∧ ∃ q os, w' = Sort.grow (w6.drew.drewN q) os := by rw [hc1e.out]; exact Compare_calls y z w6.drew
              have hc2 := Lib.hid fun w' => Compare_calls x z w'
              rw [← hc2e.out] at hc2
              replace hc1 := Lib.hid hc1
              dsimp only [Fx.val] at hc1 hc2
              by_cases k1 : c1 ≤ 0
              · have k2 : ¬ 0 < c2 := by rw [hc2e.out]; rw [hc1e.out] at k1; exact goes_on (by rw [← hr.out]; decide) k1
                have d1 : decide (c1 ≤ 0) = true := decide_eq_true k1
                have d2 : decide (0 < c2) = false := decide_eq_false k2
                go_wp2_with fail
                refine wp_region_held_drew (S := (fun w' => (w'.cell? ⟨b, off + k * 3, none⟩ = some (.string z.f.id) ∧ w'.cell? ⟨b, off + k * 3 + 1, none⟩ = some (.int .i64 z.f.high) ∧ w'.cell? ⟨b, off + k * 3 + 2, none⟩ = some (.slice z.pa z.f.pars.length z.pc)) ∧ (w'.cell? ⟨g4, 0, none⟩ = some (.string bx.f.id) ∧ w'.cell? ⟨g4, 1, none⟩ = some (.int .i64 bx.f.high) ∧ w'.cell? ⟨g4, 2, none⟩ = some (.slice bx.pa bx.f.pars.length bx.pc)) ∧ (w'.cell? ⟨w.heap.size, 0, none⟩ = some (.string x.f.id) ∧ w'.cell? ⟨w.heap.size, 1, none⟩ = some (.int .i64 x.f.high) ∧ w'.cell? ⟨w.heap.size, 2, none⟩ = some (.slice x.pa x.f.pars.length x.pc)) ∧ (w'.cell? ⟨w.heap.size + 1, 0, none⟩ = some (.string y.f.id) ∧ w'.cell? ⟨w.heap.size + 1, 1, none⟩ = some (.int .i64 y.f.high) ∧ w'.cell? ⟨w.heap.size + 1, 2, none⟩ = some (.slice y.pa y.f.pars.length y.pc)))) (by kernel_rfl) (hk6) (fun hHeld => ?_)
                refine wpAnyH_take (i := 0) (oi := { dst := some 78, op := _, type := _, pos := _, after := _, guard := none }) (v := ?vr2_0) rfl (by kernel_rfl) (by kernel_rfl) (by kernel_rfl) (fun _ _ _ h => h) (Or.inl ⟨by rfl, ?hyr2_0⟩) (by assumption) ?restr2_0
                case hyr2_0 => (intro w hSw; (try dsimp only at hSw); go_simp <;> with_reducible rfl)
                (try simp only [Act.put, List.setIfInBounds_toArray, List.set_cons_zero, List.set_cons_succ])
                refine wpAnyH_take (i := 1) (oi := { dst := some 79, op := _, type := _, pos := _, after := _, guard := none }) (v := ?vr2_1) rfl (by kernel_rfl) (by kernel_rfl) (by kernel_rfl) (fun _ _ _ h => h) (Or.inl ⟨by rfl, ?hyr2_1⟩) (by assumption) ?restr2_1
                case hyr2_1 => (intro w hSw; (try dsimp only at hSw); go_simp <;> with_reducible rfl)
                (try simp only [Act.put, List.setIfInBounds_toArray, List.set_cons_zero, List.set_cons_succ])
                refine wpAnyH_take (i := 2) (oi := { dst := some 80, op := _, type := _, pos := _, after := _, guard := none }) (v := ?vr2_2) rfl (by kernel_rfl) (by kernel_rfl) (by kernel_rfl) (fun _ _ _ h => h) (Or.inl ⟨by rfl, ?hyr2_2⟩) (by assumption) ?restr2_2
                case hyr2_2 => (intro w hSw; (try dsimp only at hSw); go_simp <;> with_reducible rfl)
                (try simp only [Act.put, List.setIfInBounds_toArray, List.set_cons_zero, List.set_cons_succ])
                refine wpAnyH_take (i := 3) (oi := { dst := some 81, op := _, type := _, pos := _, after := _, guard := some (2, true) }) (v := ?vr2_3) rfl (by kernel_rfl) (by kernel_rfl) (by kernel_rfl) (fun _ _ _ h => h) (Or.inl ⟨by rfl, ?hyr2_3⟩) (by assumption) ?restr2_3
                case hyr2_3 => (intro w hSw; (try dsimp only at hSw); go_simp <;> with_reducible rfl)
                (try simp only [Act.put, List.setIfInBounds_toArray, List.set_cons_zero, List.set_cons_succ])
                refine wpAnyH_take (i := 4) (oi := { dst := some 82, op := _, type := _, pos := _, after := _, guard := some (2, true) }) (v := ?vr2_4) rfl (by kernel_rfl) (by kernel_rfl) (by kernel_rfl) (fun _ _ _ h => h) (Or.inl ⟨by rfl, ?hyr2_4⟩) (by assumption) ?restr2_4
                case hyr2_4 => (intro w hSw; (try dsimp only at hSw); go_simp <;> with_reducible rfl)
                (try simp only [Act.put, List.setIfInBounds_toArray, List.set_cons_zero, List.set_cons_succ])
                refine wpAnyH_take (i := 5) (oi := { dst := some 83, op := _, type := _, pos := _, after := _, guard := some (2, true) }) (v := ?vr2_5) rfl (by kernel_rfl) (by kernel_rfl) (by kernel_rfl) (fun _ _ _ h => h) (Or.inl ⟨by rfl, ?hyr2_5⟩) (by assumption) ?restr2_5
                case hyr2_5 => (intro w hSw; (try dsimp only at hSw); go_simp <;> with_reducible rfl)
                (try simp only [Act.put, List.setIfInBounds_toArray, List.set_cons_zero, List.set_cons_succ])
                refine wpAnyH_take (i := 6) (oi := { dst := some 84, op := _, type := _, pos := _, after := _, guard := some (2, true) }) (v := ?vr2_6) rfl (by kernel_rfl) (by kernel_rfl) (by kernel_rfl) (fun _ _ _ h => h) (Or.inl ⟨by rfl, ?hyr2_6⟩) (by assumption) ?restr2_6
                case hyr2_6 => (intro w hSw; (try dsimp only at hSw); go_simp <;> with_reducible rfl)
                (try simp only [Act.put, List.setIfInBounds_toArray, List.set_cons_zero, List.set_cons_succ])
                refine wpAnyH_take (i := 7) (oi := { dst := some 85, op := _, type := _, pos := _, after := _, guard := some (2, true) }) (v := ?vr2_7) rfl (by kernel_rfl) (by kernel_rfl) (by kernel_rfl) (fun _ _ _ h => h) (Or.inl ⟨by rfl, ?hyr2_7⟩) (by assumption) ?restr2_7
                case hyr2_7 => (intro w hSw; (try dsimp only at hSw); go_simp <;> with_reducible rfl)
                (try simp only [Act.put, List.setIfInBounds_toArray, List.set_cons_zero, List.set_cons_succ])
                refine wpAnyH_ready (rs := [8]) (by kernel_rfl) (by simp) ?_
                refine AllReadyH.cons (o := { dst := some 86, op := _, type := _, pos := _, after := _, guard := some (2, true) }) rfl (fun K hK => ?_) AllReadyH.nil
                go_simp
                (refine hc1.out.mono ?_; rintro e w7 ⟨rfl, q7, o7, hw7⟩; have b7 : Below w6.heap.size w6 w7 := (by rw [hw7]; exact b_then (b_drew1 w6) (below_grow _ _ _)); clear hw7)
                (try go_wp2_with fail)
                refine hK.out _ _ ((hkeep.out _ (b_then b6.out b7))) (fun hHeld => ?_)
                clear hK K
                (try simp only [Act.put, List.setIfInBounds_toArray, List.set_cons_zero, List.set_cons_succ])
                refine wpAnyH_take (i := 9) (oi := { dst := some 87, op := _, type := _, pos := _, after := _, guard := some (2, true) }) (v := ?vr2_8) rfl (by kernel_rfl) (by kernel_rfl) (by kernel_rfl) (fun _ _ _ h => h) (Or.inl ⟨by rfl, ?hyr2_8⟩) (by assumption) ?restr2_8
                case hyr2_8 => (intro w hSw; (try dsimp only at hSw); go_simp <;> with_reducible rfl)
                (try simp only [Act.put, List.setIfInBounds_toArray, List.set_cons_zero, List.set_cons_succ])
                refine wpAnyH_take (i := 10) (oi := { dst := some 88, op := _, type := _, pos := _, after := _, guard := none }) (v := ?vr2_9) rfl (by kernel_rfl) (by kernel_rfl) (by kernel_rfl) (fun _ _ _ h => h) (Or.inl ⟨by rfl, ?hyr2_9⟩) (by assumption) ?restr2_9
                case hyr2_9 => (intro w hSw; (try dsimp only at hSw); go_simp <;> with_reducible rfl)
                (try simp only [Act.put, List.setIfInBounds_toArray, List.set_cons_zero, List.set_cons_succ])
                refine wpAnyH_take (i := 11) (oi := { dst := some 89, op := _, type := _, pos := _, after := _, guard := none }) (v := ?vr2_10) rfl (by kernel_rfl) (by kernel_rfl) (by kernel_rfl) (fun _ _ _ h => h) (Or.inl ⟨by rfl, ?hyr2_10⟩) (by assumption) ?restr2_10
                case hyr2_10 => (intro w hSw; (try dsimp only at hSw); go_simp <;> with_reducible rfl)
                (try simp only [Act.put, List.setIfInBounds_toArray, List.set_cons_zero, List.set_cons_succ])
                refine wpAnyH_take (i := 12) (oi := { dst := some 90, op := _, type := _, pos := _, after := _, guard := some (11, true) }) (v := ?vr2_11) rfl (by kernel_rfl) (by kernel_rfl) (by kernel_rfl) (fun _ _ _ h => h) (Or.inl ⟨by rfl, ?hyr2_11⟩) (by assumption) ?restr2_11
                case hyr2_11 => (intro w hSw; (try dsimp only at hSw); go_simp <;> with_reducible rfl)
                (try simp only [Act.put, List.setIfInBounds_toArray, List.set_cons_zero, List.set_cons_succ])
                refine wpAnyH_take (i := 13) (oi := { dst := some 91, op := _, type := _, pos := _, after := _, guard := some (11, true) }) (v := ?vr2_12) rfl (by kernel_rfl) (by kernel_rfl) (by kernel_rfl) (fun _ _ _ h => h) (Or.inl ⟨by rfl, ?hyr2_12⟩) (by assumption) ?restr2_12
                case hyr2_12 => (intro w hSw; (try dsimp only at hSw); go_simp <;> with_reducible rfl)
                (try simp only [Act.put, List.setIfInBounds_toArray, List.set_cons_zero, List.set_cons_succ])
                refine wpAnyH_take (i := 14) (oi := { dst := some 92, op := _, type := _, pos := _, after := _, guard := some (11, true) }) (v := ?vr2_13) rfl (by kernel_rfl) (by kernel_rfl) (by kernel_rfl) (fun _ _ _ h => h) (Or.inl ⟨by rfl, ?hyr2_13⟩) (by assumption) ?restr2_13
                case hyr2_13 => (intro w hSw; (try dsimp only at hSw); go_simp <;> with_reducible rfl)
                (try simp only [Act.put, List.setIfInBounds_toArray, List.set_cons_zero, List.set_cons_succ])
                refine wpAnyH_take (i := 15) (oi := { dst := some 93, op := _, type := _, pos := _, after := _, guard := some (11, true) }) (v := ?vr2_14) rfl (by kernel_rfl) (by kernel_rfl) (by kernel_rfl) (fun _ _ _ h => h) (Or.inl ⟨by rfl, ?hyr2_14⟩) (by assumption) ?restr2_14
                case hyr2_14 => (intro w hSw; (try dsimp only at hSw); go_simp <;> with_reducible rfl)
                (try simp only [Act.put, List.setIfInBounds_toArray, List.set_cons_zero, List.set_cons_succ])
                refine wpAnyH_take (i := 16) (oi := { dst := some 94, op := _, type := _, pos := _, after := _, guard := some (11, true) }) (v := ?vr2_15) rfl (by kernel_rfl) (by kernel_rfl) (by kernel_rfl) (fun _ _ _ h => h) (Or.inl ⟨by rfl, ?hyr2_15⟩) (by assumption) ?restr2_15
                case hyr2_15 => (intro w hSw; (try dsimp only at hSw); go_simp <;> with_reducible rfl)
                (try simp only [Act.put, List.setIfInBounds_toArray, List.set_cons_zero, List.set_cons_succ])
                refine wpAnyH_ready (rs := [17]) (by kernel_rfl) (by simp) ?_
                refine AllReadyH.cons (o := { dst := some 95, op := _, type := _, pos := _, after := _, guard := some (11, true) }) rfl (fun K hK => ?_) AllReadyH.nil
                go_simp
                (refine (hc2.out _).mono ?_; rintro e w8 ⟨rfl, q8, o8, hw8⟩; have b8 : Below w6.heap.size w6 w8 := (by rw [hw8]; exact b_then b7 (below_grow _ _ _)); clear hw8)
                (try go_wp2_with fail)
                refine hK.out _ _ ((hkeep.out _ (b_then b6.out b8))) (fun hHeld => ?_)
                clear hK K
                (try simp only [Act.put, List.setIfInBounds_toArray, List.set_cons_zero, List.set_cons_succ])
                refine wpAnyH_take (i := 18) (oi := { dst := some 96, op := _, type := _, pos := _, after := _, guard := some (11, true) }) (v := ?vr2_16) rfl (by kernel_rfl) (by kernel_rfl) (by kernel_rfl) (fun _ _ _ h => h) (Or.inl ⟨by rfl, ?hyr2_16⟩) (by assumption) ?restr2_16
                case hyr2_16 => (intro w hSw; (try dsimp only at hSw); go_simp <;> with_reducible rfl)
                (try simp only [Act.put, List.setIfInBounds_toArray, List.set_cons_zero, List.set_cons_succ])
                refine wpAnyH_take (i := 19) (oi := { dst := some 97, op := _, type := _, pos := _, after := _, guard := none }) (v := ?vr2_17) rfl (by kernel_rfl) (by kernel_rfl) (by kernel_rfl) (fun _ _ _ h => h) (Or.inl ⟨by rfl, ?hyr2_17⟩) (by assumption) ?restr2_17
                case hyr2_17 => (intro w hSw; (try dsimp only at hSw); go_simp <;> with_reducible rfl)
                (try simp only [Act.put, List.setIfInBounds_toArray, List.set_cons_zero, List.set_cons_succ])
                refine wpAnyH_done (by kernel_rfl) ?_ _
                have hbF := Lib.hid (b_then b6.out b8)
                clear k1 k2
                go_wp2
                go_roundw
                case measure => simp [intOf]; exact hms.out
                case rel => exact ⟨k + 1, _, hkl.out, rfl, by simp, Lib.hid (by simpa using htF.out), b_next hb.out hbF.out (Nat.le_refl _)⟩
              · have d1 : decide (c1 ≤ 0) = false := decide_eq_false k1
                have k1' : 0 < c1 := by omega
                go_wp2_with fail
                refine wp_region_held_drew (S := (fun w' => (w'.cell? ⟨b, off + k * 3, none⟩ = some (.string z.f.id) ∧ w'.cell? ⟨b, off + k * 3 + 1, none⟩ = some (.int .i64 z.f.high) ∧ w'.cell? ⟨b, off + k * 3 + 2, none⟩ = some (.slice z.pa z.f.pars.length z.pc)) ∧ (w'.cell? ⟨g4, 0, none⟩ = some (.string bx.f.id) ∧ w'.cell? ⟨g4, 1, none⟩ = some (.int .i64 bx.f.high) ∧ w'.cell? ⟨g4, 2, none⟩ = some (.slice bx.pa bx.f.pars.length bx.pc)) ∧ (w'.cell? ⟨w.heap.size, 0, none⟩ = some (.string x.f.id) ∧ w'.cell? ⟨w.heap.size, 1, none⟩ = some (.int .i64 x.f.high) ∧ w'.cell? ⟨w.heap.size, 2, none⟩ = some (.slice x.pa x.f.pars.length x.pc)) ∧ (w'.cell? ⟨w.heap.size + 1, 0, none⟩ = some (.string y.f.id) ∧ w'.cell? ⟨w.heap.size + 1, 1, none⟩ = some (.int .i64 y.f.high) ∧ w'.cell? ⟨w.heap.size + 1, 2, none⟩ = some (.slice y.pa y.f.pars.length y.pc)))) (by kernel_rfl) (hk6) (fun hHeld => ?_)
                refine wpAnyH_take (i := 0) (oi := { dst := some 78, op := _, type := _, pos := _, after := _, guard := none }) (v := ?vr3_0) rfl (by kernel_rfl) (by kernel_rfl) (by kernel_rfl) (fun _ _ _ h => h) (Or.inl ⟨by rfl, ?hyr3_0⟩) (by assumption) ?restr3_0
                case hyr3_0 => (intro w hSw; (try dsimp only at hSw); go_simp <;> with_reducible rfl)
                (try simp only [Act.put, List.setIfInBounds_toArray, List.set_cons_zero, List.set_cons_succ])
                refine wpAnyH_take (i := 1) (oi := { dst := some 79, op := _, type := _, pos := _, after := _, guard := none }) (v := ?vr3_1) rfl (by kernel_rfl) (by kernel_rfl) (by kernel_rfl) (fun _ _ _ h => h) (Or.inl ⟨by rfl, ?hyr3_1⟩) (by assumption) ?restr3_1
                case hyr3_1 => (intro w hSw; (try dsimp only at hSw); go_simp <;> with_reducible rfl)
                (try simp only [Act.put, List.setIfInBounds_toArray, List.set_cons_zero, List.set_cons_succ])
                refine wpAnyH_take (i := 2) (oi := { dst := some 80, op := _, type := _, pos := _, after := _, guard := none }) (v := ?vr3_2) rfl (by kernel_rfl) (by kernel_rfl) (by kernel_rfl) (fun _ _ _ h => h) (Or.inl ⟨by rfl, ?hyr3_2⟩) (by assumption) ?restr3_2
                case hyr3_2 => (intro w hSw; (try dsimp only at hSw); go_simp <;> with_reducible rfl)
                (try simp only [Act.put, List.setIfInBounds_toArray, List.set_cons_zero, List.set_cons_succ])
                refine wpAnyH_take (i := 3) (oi := { dst := some 81, op := _, type := _, pos := _, after := _, guard := some (2, true) }) (v := ?vr3_3) rfl (by kernel_rfl) (by kernel_rfl) (by kernel_rfl) (fun _ _ _ h => h) (Or.inl ⟨by rfl, ?hyr3_3⟩) (by assumption) ?restr3_3
                case hyr3_3 => (intro w hSw; (try dsimp only at hSw); go_simp <;> with_reducible rfl)
                (try simp only [Act.put, List.setIfInBounds_toArray, List.set_cons_zero, List.set_cons_succ])
                refine wpAnyH_take (i := 4) (oi := { dst := some 82, op := _, type := _, pos := _, after := _, guard := some (2, true) }) (v := ?vr3_4) rfl (by kernel_rfl) (by kernel_rfl) (by kernel_rfl) (fun _ _ _ h => h) (Or.inl ⟨by rfl, ?hyr3_4⟩) (by assumption) ?restr3_4
                case hyr3_4 => (intro w hSw; (try dsimp only at hSw); go_simp <;> with_reducible rfl)
                (try simp only [Act.put, List.setIfInBounds_toArray, List.set_cons_zero, List.set_cons_succ])
                refine wpAnyH_take (i := 5) (oi := { dst := some 83, op := _, type := _, pos := _, after := _, guard := some (2, true) }) (v := ?vr3_5) rfl (by kernel_rfl) (by kernel_rfl) (by kernel_rfl) (fun _ _ _ h => h) (Or.inl ⟨by rfl, ?hyr3_5⟩) (by assumption) ?restr3_5
                case hyr3_5 => (intro w hSw; (try dsimp only at hSw); go_simp <;> with_reducible rfl)
                (try simp only [Act.put, List.setIfInBounds_toArray, List.set_cons_zero, List.set_cons_succ])
                refine wpAnyH_take (i := 6) (oi := { dst := some 84, op := _, type := _, pos := _, after := _, guard := some (2, true) }) (v := ?vr3_6) rfl (by kernel_rfl) (by kernel_rfl) (by kernel_rfl) (fun _ _ _ h => h) (Or.inl ⟨by rfl, ?hyr3_6⟩) (by assumption) ?restr3_6
                case hyr3_6 => (intro w hSw; (try dsimp only at hSw); go_simp <;> with_reducible rfl)
                (try simp only [Act.put, List.setIfInBounds_toArray, List.set_cons_zero, List.set_cons_succ])
                refine wpAnyH_take (i := 7) (oi := { dst := some 85, op := _, type := _, pos := _, after := _, guard := some (2, true) }) (v := ?vr3_7) rfl (by kernel_rfl) (by kernel_rfl) (by kernel_rfl) (fun _ _ _ h => h) (Or.inl ⟨by rfl, ?hyr3_7⟩) (by assumption) ?restr3_7
                case hyr3_7 => (intro w hSw; (try dsimp only at hSw); go_simp <;> with_reducible rfl)
                (try simp only [Act.put, List.setIfInBounds_toArray, List.set_cons_zero, List.set_cons_succ])
                refine wpAnyH_ready (rs := [8]) (by kernel_rfl) (by simp) ?_
                refine AllReadyH.cons (o := { dst := some 86, op := _, type := _, pos := _, after := _, guard := some (2, true) }) rfl (fun K hK => ?_) AllReadyH.nil
                go_simp
                (refine hc1.out.mono ?_; rintro e w7 ⟨rfl, q7, o7, hw7⟩; have b7 : Below w6.heap.size w6 w7 := (by rw [hw7]; exact b_then (b_drew1 w6) (below_grow _ _ _)); clear hw7)
                (try go_wp2_with fail)
                refine hK.out _ _ ((hkeep.out _ (b_then b6.out b7))) (fun hHeld => ?_)
                clear hK K
                (try simp only [Act.put, List.setIfInBounds_toArray, List.set_cons_zero, List.set_cons_succ])
                refine wpAnyH_take (i := 9) (oi := { dst := some 87, op := _, type := _, pos := _, after := _, guard := some (2, true) }) (v := ?vr3_8) rfl (by kernel_rfl) (by kernel_rfl) (by kernel_rfl) (fun _ _ _ h => h) (Or.inl ⟨by rfl, ?hyr3_8⟩) (by assumption) ?restr3_8
                case hyr3_8 => (intro w hSw; (try dsimp only at hSw); go_simp <;> with_reducible rfl)
                (try simp only [Act.put, List.setIfInBounds_toArray, List.set_cons_zero, List.set_cons_succ])
                refine wpAnyH_take (i := 10) (oi := { dst := some 88, op := _, type := _, pos := _, after := _, guard := none }) (v := ?vr3_9) rfl (by kernel_rfl) (by kernel_rfl) (by kernel_rfl) (fun _ _ _ h => h) (Or.inl ⟨by rfl, ?hyr3_9⟩) (by assumption) ?restr3_9
                case hyr3_9 => (intro w hSw; (try dsimp only at hSw); go_simp <;> with_reducible rfl)
                (try simp only [Act.put, List.setIfInBounds_toArray, List.set_cons_zero, List.set_cons_succ])
                refine wpAnyH_take (i := 11) (oi := { dst := some 89, op := _, type := _, pos := _, after := _, guard := none }) (v := ?vr3_10) rfl (by kernel_rfl) (by kernel_rfl) (by kernel_rfl) (fun _ _ _ h => h) (Or.inl ⟨by rfl, ?hyr3_10⟩) (by assumption) ?restr3_10
                case hyr3_10 => (intro w hSw; (try dsimp only at hSw); go_simp <;> with_reducible rfl)
                (try simp only [Act.put, List.setIfInBounds_toArray, List.set_cons_zero, List.set_cons_succ])
                refine wpAnyH_take (i := 12) (oi := { dst := some 90, op := _, type := _, pos := _, after := _, guard := some (11, true) }) (v := undef) rfl (by kernel_rfl) (by kernel_rfl) (by kernel_rfl) (fun _ _ _ h => h) (Or.inr ⟨by rfl, rfl⟩) (by assumption) ?_
                (try simp only [Act.put, List.setIfInBounds_toArray, List.set_cons_zero, List.set_cons_succ])
                refine wpAnyH_take (i := 13) (oi := { dst := some 91, op := _, type := _, pos := _, after := _, guard := some (11, true) }) (v := undef) rfl (by kernel_rfl) (by kernel_rfl) (by kernel_rfl) (fun _ _ _ h => h) (Or.inr ⟨by rfl, rfl⟩) (by assumption) ?_
                (try simp only [Act.put, List.setIfInBounds_toArray, List.set_cons_zero, List.set_cons_succ])
                refine wpAnyH_take (i := 14) (oi := { dst := some 92, op := _, type := _, pos := _, after := _, guard := some (11, true) }) (v := undef) rfl (by kernel_rfl) (by kernel_rfl) (by kernel_rfl) (fun _ _ _ h => h) (Or.inr ⟨by rfl, rfl⟩) (by assumption) ?_
                (try simp only [Act.put, List.setIfInBounds_toArray, List.set_cons_zero, List.set_cons_succ])
                refine wpAnyH_take (i := 15) (oi := { dst := some 93, op := _, type := _, pos := _, after := _, guard := some (11, true) }) (v := undef) rfl (by kernel_rfl) (by kernel_rfl) (by kernel_rfl) (fun _ _ _ h => h) (Or.inr ⟨by rfl, rfl⟩) (by assumption) ?_
                (try simp only [Act.put, List.setIfInBounds_toArray, List.set_cons_zero, List.set_cons_succ])
                refine wpAnyH_take (i := 16) (oi := { dst := some 94, op := _, type := _, pos := _, after := _, guard := some (11, true) }) (v := undef) rfl (by kernel_rfl) (by kernel_rfl) (by kernel_rfl) (fun _ _ _ h => h) (Or.inr ⟨by rfl, rfl⟩) (by assumption) ?_
                (try simp only [Act.put, List.setIfInBounds_toArray, List.set_cons_zero, List.set_cons_succ])
                refine wpAnyH_take (i := 17) (oi := { dst := some 95, op := _, type := _, pos := _, after := _, guard := some (11, true) }) (v := undef) rfl (by kernel_rfl) (by kernel_rfl) (by kernel_rfl) (fun _ _ _ h => h) (Or.inr ⟨by rfl, rfl⟩) (by assumption) ?_
                (try simp only [Act.put, List.setIfInBounds_toArray, List.set_cons_zero, List.set_cons_succ])
                refine wpAnyH_take (i := 18) (oi := { dst := some 96, op := _, type := _, pos := _, after := _, guard := some (11, true) }) (v := undef) rfl (by kernel_rfl) (by kernel_rfl) (by kernel_rfl) (fun _ _ _ h => h) (Or.inr ⟨by rfl, rfl⟩) (by assumption) ?_
                (try simp only [Act.put, List.setIfInBounds_toArray, List.set_cons_zero, List.set_cons_succ])
                refine wpAnyH_take (i := 19) (oi := { dst := some 97, op := _, type := _, pos := _, after := _, guard := none }) (v := ?vr3_18) rfl (by kernel_rfl) (by kernel_rfl) (by kernel_rfl) (fun _ _ _ h => h) (Or.inl ⟨by rfl, ?hyr3_18⟩) (by assumption) ?restr3_18
                case hyr3_18 => (intro w hSw; (try dsimp only at hSw); go_simp <;> with_reducible rfl)
                (try simp only [Act.put, List.setIfInBounds_toArray, List.set_cons_zero, List.set_cons_succ])
                refine wpAnyH_done (by kernel_rfl) ?_ _
                have hbF := Lib.hid (b_then b6.out b7)
                clear k1
                go_wp2
                go_roundw
                case measure => simp [intOf]; exact hms.out
                case rel => exact ⟨k + 1, _, hkl.out, rfl, by simp, Lib.hid (by simpa using htF.out), b_next hb.out hbF.out (Nat.le_refl _)⟩
            | false =>
              have hS5 := Lib.hid (hS.out _ bd5)
              go_wp2_with fail
              go_region_held3 (fun w' => (w'.cell? ⟨b, off + k * 3, none⟩ = some (.string z.f.id) ∧ w'.cell? ⟨b, off + k * 3 + 1, none⟩ = some (.int .i64 z.f.high) ∧ w'.cell? ⟨b, off + k * 3 + 2, none⟩ = some (.slice z.pa z.f.pars.length z.pc)) ∧ (w'.cell? ⟨g4, 0, none⟩ = some (.string bx.f.id) ∧ w'.cell? ⟨g4, 1, none⟩ = some (.int .i64 bx.f.high) ∧ w'.cell? ⟨g4, 2, none⟩ = some (.slice bx.pa bx.f.pars.length bx.pc)) ∧ (w'.cell? ⟨w.heap.size, 0, none⟩ = some (.string x.f.id) ∧ w'.cell? ⟨w.heap.size, 1, none⟩ = some (.int .i64 x.f.high) ∧ w'.cell? ⟨w.heap.size, 2, none⟩ = some (.slice x.pa x.f.pars.length x.pc)) ∧ (w'.cell? ⟨w.heap.size + 1, 0, none⟩ = some (.string y.f.id) ∧ w'.cell? ⟨w.heap.size + 1, 1, none⟩ = some (.int .i64 y.f.high) ∧ w'.cell? ⟨w.heap.size + 1, 2, none⟩ = some (.slice y.pa y.f.pars.length y.pc))) (first | exact hk5 | exact hkeep.out _ b6)
                (first | (go_at_call 14; refine (hS5.out).mono ?_; rintro e w6 ⟨⟨s, rfl, hs⟩, b6'⟩; have b6 := b_then bd5 b6'; clear b6'))
              all_goals
                have htF : Hid (s = true ↔ (nL = 0 ∨ ∃ z ∈ L.take (k + 1), z.f = bx.f)) := Lib.hid (by
                  have h0 := ht.out
                  rw [hs, htk.out]
                  constructor
                  · intro e; exact Or.inr ⟨z, List.mem_append_right _ (List.mem_singleton.2 rfl), e⟩
                  · rintro (e | ⟨q, hq, e⟩)
                    · have := h0.2 (Or.inl e); cases this
                    · rcases List.mem_append.1 hq with hq | hq
                      · have := h0.2 (Or.inr ⟨q, hq, e⟩); cases this
                      · rw [List.mem_singleton] at hq; subst hq; exact e)
                replace b6 := Lib.hid b6
                have hk6 := hkeep.out _ (b_then b6.out (b_drew1 w6))
                clear hk5 bd5 b5 hs
                have hc1 : Calls Try.prog 12 #[y.val, z.val] w6.drew fun e w' => e = .returned (.int .i64 c1) ∧ ∃ q os, w' = Sort.grow (w6.drew.drewN q) os := by rw [hc1e.out]; exact Compare_calls y z w6.drew
                have hc2 := Lib.hid fun w' => Compare_calls x z w'
                rw [← hc2e.out] at hc2
                replace hc1 := Lib.hid hc1
                dsimp only [Fx.val] at hc1 hc2
                by_cases k1 : c1 ≤ 0
                · have k2 : ¬ 0 < c2 := by rw [hc2e.out]; rw [hc1e.out] at k1; exact goes_on (by rw [← hr.out]; decide) k1
                  have d1 : decide (c1 ≤ 0) = true := decide_eq_true k1
                  have d2 : decide (0 < c2) = false := decide_eq_false k2
                  go_wp2_with fail
                  refine wp_region_held_drew (S := (fun w' => (w'.cell? ⟨b, off + k * 3, none⟩ = some (.string z.f.id) ∧ w'.cell? ⟨b, off + k * 3 + 1, none⟩ = some (.int .i64 z.f.high) ∧ w'.cell? ⟨b, off + k * 3 + 2, none⟩ = some (.slice z.pa z.f.pars.length z.pc)) ∧ (w'.cell? ⟨g4, 0, none⟩ = some (.string bx.f.id) ∧ w'.cell? ⟨g4, 1, none⟩ = some (.int .i64 bx.f.high) ∧ w'.cell? ⟨g4, 2, none⟩ = some (.slice bx.pa bx.f.pars.length bx.pc)) ∧ (w'.cell? ⟨w.heap.size, 0, none⟩ = some (.string x.f.id) ∧ w'.cell? ⟨w.heap.size, 1, none⟩ = some (.int .i64 x.f.high) ∧ w'.cell? ⟨w.heap.size, 2, none⟩ = some (.slice x.pa x.f.pars.length x.pc)) ∧ (w'.cell? ⟨w.heap.size + 1, 0, none⟩ = some (.string y.f.id) ∧ w'.cell? ⟨w.heap.size + 1, 1, none⟩ = some (.int .i64 y.f.high) ∧ w'.cell? ⟨w.heap.size + 1, 2, none⟩ = some (.slice y.pa y.f.pars.length y.pc)))) (by kernel_rfl) (hk6) (fun hHeld => ?_)
                  refine wpAnyH_take (i := 0) (oi := { dst := some 78, op := _, type := _, pos := _, after := _, guard := none }) (v := ?vr4_0) rfl (by kernel_rfl) (by kernel_rfl) (by kernel_rfl) (fun _ _ _ h => h) (Or.inl ⟨by rfl, ?hyr4_0⟩) (by assumption) ?restr4_0
                  case hyr4_0 => (intro w hSw; (try dsimp only at hSw); go_simp <;> with_reducible rfl)
                  (try simp only [Act.put, List.setIfInBounds_toArray, List.set_cons_zero, List.set_cons_succ])
                  refine wpAnyH_take (i := 1) (oi := { dst := some 79, op := _, type := _, pos := _, after := _, guard := none }) (v := ?vr4_1) rfl (by kernel_rfl) (by kernel_rfl) (by kernel_rfl) (fun _ _ _ h => h) (Or.inl ⟨by rfl, ?hyr4_1⟩) (by assumption) ?restr4_1
                  case hyr4_1 => (intro w hSw; (try dsimp only at hSw); go_simp <;> with_reducible rfl)
                  (try simp only [Act.put, List.setIfInBounds_toArray, List.set_cons_zero, List.set_cons_succ])
                  refine wpAnyH_take (i := 2) (oi := { dst := some 80, op := _, type := _, pos := _, after := _, guard := none }) (v := ?vr4_2) rfl (by kernel_rfl) (by kernel_rfl) (by kernel_rfl) (fun _ _ _ h => h) (Or.inl ⟨by rfl, ?hyr4_2⟩) (by assumption) ?restr4_2
                  case hyr4_2 => (intro w hSw; (try dsimp only at hSw); go_simp <;> with_reducible rfl)
                  (try simp only [Act.put, List.setIfInBounds_toArray, List.set_cons_zero, List.set_cons_succ])
                  refine wpAnyH_take (i := 3) (oi := { dst := some 81, op := _, type := _, pos := _, after := _, guard := some (2, true) }) (v := ?vr4_3) rfl (by kernel_rfl) (by kernel_rfl) (by kernel_rfl) (fun _ _ _ h => h) (Or.inl ⟨by rfl, ?hyr4_3⟩) (by assumption) ?restr4_3
                  case hyr4_3 => (intro w hSw; (try dsimp only at hSw); go_simp <;> with_reducible rfl)
                  (try simp only [Act.put, List.setIfInBounds_toArray, List.set_cons_zero, List.set_cons_succ])
                  refine wpAnyH_take (i := 4) (oi := { dst := some 82, op := _, type := _, pos := _, after := _, guard := some (2, true) }) (v := ?vr4_4) rfl (by kernel_rfl) (by kernel_rfl) (by kernel_rfl) (fun _ _ _ h => h) (Or.inl ⟨by rfl, ?hyr4_4⟩) (by assumption) ?restr4_4
                  case hyr4_4 => (intro w hSw; (try dsimp only at hSw); go_simp <;> with_reducible rfl)
                  (try simp only [Act.put, List.setIfInBounds_toArray, List.set_cons_zero, List.set_cons_succ])
                  refine wpAnyH_take (i := 5) (oi := { dst := some 83, op := _, type := _, pos := _, after := _, guard := some (2, true) }) (v := ?vr4_5) rfl (by kernel_rfl) (by kernel_rfl) (by kernel_rfl) (fun _ _ _ h => h) (Or.inl ⟨by rfl, ?hyr4_5⟩) (by assumption) ?restr4_5
                  case hyr4_5 => (intro w hSw; (try dsimp only at hSw); go_simp <;> with_reducible rfl)
                  (try simp only [Act.put, List.setIfInBounds_toArray, List.set_cons_zero, List.set_cons_succ])
                  refine wpAnyH_take (i := 6) (oi := { dst := some 84, op := _, type := _, pos := _, after := _, guard := some (2, true) }) (v := ?vr4_6) rfl (by kernel_rfl) (by kernel_rfl) (by kernel_rfl) (fun _ _ _ h => h) (Or.inl ⟨by rfl, ?hyr4_6⟩) (by assumption) ?restr4_6
                  case hyr4_6 => (intro w hSw; (try dsimp only at hSw); go_simp <;> with_reducible rfl)
                  (try simp only [Act.put, List.setIfInBounds_toArray, List.set_cons_zero, List.set_cons_succ])
                  refine wpAnyH_take (i := 7) (oi := { dst := some 85, op := _, type := _, pos := _, after := _, guard := some (2, true) }) (v := ?vr4_7) rfl (by kernel_rfl) (by kernel_rfl) (by kernel_rfl) (fun _ _ _ h => h) (Or.inl ⟨by rfl, ?hyr4_7⟩) (by assumption) ?restr4_7
                  case hyr4_7 => (intro w hSw; (try dsimp only at hSw); go_simp <;> with_reducible rfl)
                  (try simp only [Act.put, List.setIfInBounds_toArray, List.set_cons_zero, List.set_cons_succ])
                  refine wpAnyH_ready (rs := [8]) (by kernel_rfl) (by simp) ?_
                  refine AllReadyH.cons (o := { dst := some 86, op := _, type := _, pos := _, after := _, guard := some (2, true) }) rfl (fun K hK => ?_) AllReadyH.nil
                  go_simp
                  (refine hc1.out.mono ?_; rintro e w7 ⟨rfl, q7, o7, hw7⟩; have b7 : Below w6.heap.size w6 w7 := (by rw [hw7]; exact b_then (b_drew1 w6) (below_grow _ _ _)); clear hw7)
                  (try go_wp2_with fail)
                  refine hK.out _ _ ((hkeep.out _ (b_then b6.out b7))) (fun hHeld => ?_)
                  clear hK K
                  (try simp only [Act.put, List.setIfInBounds_toArray, List.set_cons_zero, List.set_cons_succ])
                  refine wpAnyH_take (i := 9) (oi := { dst := some 87, op := _, type := _, pos := _, after := _, guard := some (2, true) }) (v := ?vr4_8) rfl (by kernel_rfl) (by kernel_rfl) (by kernel_rfl) (fun _ _ _ h => h) (Or.inl ⟨by rfl, ?hyr4_8⟩) (by assumption) ?restr4_8
                  case hyr4_8 => (intro w hSw; (try dsimp only at hSw); go_simp <;> with_reducible rfl)
                  (try simp only [Act.put, List.setIfInBounds_toArray, List.set_cons_zero, List.set_cons_succ])
                  refine wpAnyH_take (i := 10) (oi := { dst := some 88, op := _, type := _, pos := _, after := _, guard := none }) (v := ?vr4_9) rfl (by kernel_rfl) (by kernel_rfl) (by kernel_rfl) (fun _ _ _ h => h) (Or.inl ⟨by rfl, ?hyr4_9⟩) (by assumption) ?restr4_9
                  case hyr4_9 => (intro w hSw; (try dsimp only at hSw); go_simp <;> with_reducible rfl)
                  (try simp only [Act.put, List.setIfInBounds_toArray, List.set_cons_zero, List.set_cons_succ])
                  refine wpAnyH_take (i := 11) (oi := { dst := some 89, op := _, type := _, pos := _, after := _, guard := none }) (v := ?vr4_10) rfl (by kernel_rfl) (by kernel_rfl) (by kernel_rfl) (fun _ _ _ h => h) (Or.inl ⟨by rfl, ?hyr4_10⟩) (by assumption) ?restr4_10
                  case hyr4_10 => (intro w hSw; (try dsimp only at hSw); go_simp <;> with_reducible rfl)
                  (try simp only [Act.put, List.setIfInBounds_toArray, List.set_cons_zero, List.set_cons_succ])
                  refine wpAnyH_take (i := 12) (oi := { dst := some 90, op := _, type := _, pos := _, after := _, guard := some (11, true) }) (v := ?vr4_11) rfl (by kernel_rfl) (by kernel_rfl) (by kernel_rfl) (fun _ _ _ h => h) (Or.inl ⟨by rfl, ?hyr4_11⟩) (by assumption) ?restr4_11
                  case hyr4_11 => (intro w hSw; (try dsimp only at hSw); go_simp <;> with_reducible rfl)
                  (try simp only [Act.put, List.setIfInBounds_toArray, List.set_cons_zero, List.set_cons_succ])
                  refine wpAnyH_take (i := 13) (oi := { dst := some 91, op := _, type := _, pos := _, after := _, guard := some (11, true) }) (v := ?vr4_12) rfl (by kernel_rfl) (by kernel_rfl) (by kernel_rfl) (fun _ _ _ h => h) (Or.inl ⟨by rfl, ?hyr4_12⟩) (by assumption) ?restr4_12
                  case hyr4_12 => (intro w hSw; (try dsimp only at hSw); go_simp <;> with_reducible rfl)
                  (try simp only [Act.put, List.setIfInBounds_toArray, List.set_cons_zero, List.set_cons_succ])
                  refine wpAnyH_take (i := 14) (oi := { dst := some 92, op := _, type := _, pos := _, after := _, guard := some (11, true) }) (v := ?vr4_13) rfl (by kernel_rfl) (by kernel_rfl) (by kernel_rfl) (fun _ _ _ h => h) (Or.inl ⟨by rfl, ?hyr4_13⟩) (by assumption) ?restr4_13
                  case hyr4_13 => (intro w hSw; (try dsimp only at hSw); go_simp <;> with_reducible rfl)
                  (try simp only [Act.put, List.setIfInBounds_toArray, List.set_cons_zero, List.set_cons_succ])
                  refine wpAnyH_take (i := 15) (oi := { dst := some 93, op := _, type := _, pos := _, after := _, guard := some (11, true) }) (v := ?vr4_14) rfl (by kernel_rfl) (by kernel_rfl) (by kernel_rfl) (fun _ _ _ h => h) (Or.inl ⟨by rfl, ?hyr4_14⟩) (by assumption) ?restr4_14
                  case hyr4_14 => (intro w hSw; (try dsimp only at hSw); go_simp <;> with_reducible rfl)
                  (try simp only [Act.put, List.setIfInBounds_toArray, List.set_cons_zero, List.set_cons_succ])
                  refine wpAnyH_take (i := 16) (oi := { dst := some 94, op := _, type := _, pos := _, after := _, guard := some (11, true) }) (v := ?vr4_15) rfl (by kernel_rfl) (by kernel_rfl) (by kernel_rfl) (fun _ _ _ h => h) (Or.inl ⟨by rfl, ?hyr4_15⟩) (by assumption) ?restr4_15
                  case hyr4_15 => (intro w hSw; (try dsimp only at hSw); go_simp <;> with_reducible rfl)
                  (try simp only [Act.put, List.setIfInBounds_toArray, List.set_cons_zero, List.set_cons_succ])
                  refine wpAnyH_ready (rs := [17]) (by kernel_rfl) (by simp) ?_
                  refine AllReadyH.cons (o := { dst := some 95, op := _, type := _, pos := _, after := _, guard := some (11, true) }) rfl (fun K hK => ?_) AllReadyH.nil
                  go_simp
                  (refine (hc2.out _).mono ?_; rintro e w8 ⟨rfl, q8, o8, hw8⟩; have b8 : Below w6.heap.size w6 w8 := (by rw [hw8]; exact b_then b7 (below_grow _ _ _)); clear hw8)
                  (try go_wp2_with fail)
                  refine hK.out _ _ ((hkeep.out _ (b_then b6.out b8))) (fun hHeld => ?_)
                  clear hK K
                  (try simp only [Act.put, List.setIfInBounds_toArray, List.set_cons_zero, List.set_cons_succ])
                  refine wpAnyH_take (i := 18) (oi := { dst := some 96, op := _, type := _, pos := _, after := _, guard := some (11, true) }) (v := ?vr4_16) rfl (by kernel_rfl) (by kernel_rfl) (by kernel_rfl) (fun _ _ _ h => h) (Or.inl ⟨by rfl, ?hyr4_16⟩) (by assumption) ?restr4_16
                  case hyr4_16 => (intro w hSw; (try dsimp only at hSw); go_simp <;> with_reducible rfl)
                  (try simp only [Act.put, List.setIfInBounds_toArray, List.set_cons_zero, List.set_cons_succ])
                  refine wpAnyH_take (i := 19) (oi := { dst := some 97, op := _, type := _, pos := _, after := _, guard := none }) (v := ?vr4_17) rfl (by kernel_rfl) (by kernel_rfl) (by kernel_rfl) (fun _ _ _ h => h) (Or.inl ⟨by rfl, ?hyr4_17⟩) (by assumption) ?restr4_17
                  case hyr4_17 => (intro w hSw; (try dsimp only at hSw); go_simp <;> with_reducible rfl)
                  (try simp only [Act.put, List.setIfInBounds_toArray, List.set_cons_zero, List.set_cons_succ])
                  refine wpAnyH_done (by kernel_rfl) ?_ _
                  have hbF := Lib.hid (b_then b6.out b8)
                  clear k1 k2
                  go_wp2
                  go_roundw
                  case measure => simp [intOf]; exact hms.out
                  case rel => exact ⟨k + 1, _, hkl.out, rfl, by simp, Lib.hid (by simpa using htF.out), b_next hb.out hbF.out (Nat.le_refl _)⟩
                · have d1 : decide (c1 ≤ 0) = false := decide_eq_false k1
                  have k1' : 0 < c1 := by omega
                  go_wp2_with fail
                  refine wp_region_held_drew (S := (fun w' => (w'.cell? ⟨b, off + k * 3, none⟩ = some (.string z.f.id) ∧ w'.cell? ⟨b, off + k * 3 + 1, none⟩ = some (.int .i64 z.f.high) ∧ w'.cell? ⟨b, off + k * 3 + 2, none⟩ = some (.slice z.pa z.f.pars.length z.pc)) ∧ (w'.cell? ⟨g4, 0, none⟩ = some (.string bx.f.id) ∧ w'.cell? ⟨g4, 1, none⟩ = some (.int .i64 bx.f.high) ∧ w'.cell? ⟨g4, 2, none⟩ = some (.slice bx.pa bx.f.pars.length bx.pc)) ∧ (w'.cell? ⟨w.heap.size, 0, none⟩ = some (.string x.f.id) ∧ w'.cell? ⟨w.heap.size, 1, none⟩ = some (.int .i64 x.f.high) ∧ w'.cell? ⟨w.heap.size, 2, none⟩ = some (.slice x.pa x.f.pars.length x.pc)) ∧ (w'.cell? ⟨w.heap.size + 1, 0, none⟩ = some (.string y.f.id) ∧ w'.cell? ⟨w.heap.size + 1, 1, none⟩ = some (.int .i64 y.f.high) ∧ w'.cell? ⟨w.heap.size + 1, 2, none⟩ = some (.slice y.pa y.f.pars.length y.pc)))) (by kernel_rfl) (hk6) (fun hHeld => ?_)
                  refine wpAnyH_take (i := 0) (oi := { dst := some 78, op := _, type := _, pos := _, after := _, guard := none }) (v := ?vr5_0) rfl (by kernel_rfl) (by kernel_rfl) (by kernel_rfl) (fun _ _ _ h => h) (Or.inl ⟨by rfl, ?hyr5_0⟩) (by assumption) ?restr5_0
                  case hyr5_0 => (intro w hSw; (try dsimp only at hSw); go_simp <;> with_reducible rfl)
                  (try simp only [Act.put, List.setIfInBounds_toArray, List.set_cons_zero, List.set_cons_succ])
                  refine wpAnyH_take (i := 1) (oi := { dst := some 79, op := _, type := _, pos := _, after := _, guard := none }) (v := ?vr5_1) rfl (by kernel_rfl) (by kernel_rfl) (by kernel_rfl) (fun _ _ _ h => h) (Or.inl ⟨by rfl, ?hyr5_1⟩) (by assumption) ?restr5_1
                  case hyr5_1 => (intro w hSw; (try dsimp only at hSw); go_simp <;> with_reducible rfl)
                  (try simp only [Act.put, List.setIfInBounds_toArray, List.set_cons_zero, List.set_cons_succ])
                  refine wpAnyH_take (i := 2) (oi := { dst := some 80, op := _, type := _, pos := _, after := _, guard := none }) (v := ?vr5_2) rfl (by kernel_rfl) (by kernel_rfl) (by kernel_rfl) (fun _ _ _ h => h) (Or.inl ⟨by rfl, ?hyr5_2⟩) (by assumption) ?restr5_2
                  case hyr5_2 => (intro w hSw; (try dsimp only at hSw); go_simp <;> with_reducible rfl)
                  (try simp only [Act.put, List.setIfInBounds_toArray, List.set_cons_zero, List.set_cons_succ])
                  refine wpAnyH_take (i := 3) (oi := { dst := some 81, op := _, type := _, pos := _, after := _, guard := some (2, true) }) (v := ?vr5_3) rfl (by kernel_rfl) (by kernel_rfl) (by kernel_rfl) (fun _ _ _ h => h) (Or.inl ⟨by rfl, ?hyr5_3⟩) (by assumption) ?restr5_3
                  case hyr5_3 => (intro w hSw; (try dsimp only at hSw); go_simp <;> with_reducible rfl)
                  (try simp only [Act.put, List.setIfInBounds_toArray, List.set_cons_zero, List.set_cons_succ])
                  refine wpAnyH_take (i := 4) (oi := { dst := some 82, op := _, type := _, pos := _, after := _, guard := some (2, true) }) (v := ?vr5_4) rfl (by kernel_rfl) (by kernel_rfl) (by kernel_rfl) (fun _ _ _ h => h) (Or.inl ⟨by rfl, ?hyr5_4⟩) (by assumption) ?restr5_4
                  case hyr5_4 => (intro w hSw; (try dsimp only at hSw); go_simp <;> with_reducible rfl)
                  (try simp only [Act.put, List.setIfInBounds_toArray, List.set_cons_zero, List.set_cons_succ])
                  refine wpAnyH_take (i := 5) (oi := { dst := some 83, op := _, type := _, pos := _, after := _, guard := some (2, true) }) (v := ?vr5_5) rfl (by kernel_rfl) (by kernel_rfl) (by kernel_rfl) (fun _ _ _ h => h) (Or.inl ⟨by rfl, ?hyr5_5⟩) (by assumption) ?restr5_5
                  case hyr5_5 => (intro w hSw; (try dsimp only at hSw); go_simp <;> with_reducible rfl)
                  (try simp only [Act.put, List.setIfInBounds_toArray, List.set_cons_zero, List.set_cons_succ])
                  refine wpAnyH_take (i := 6) (oi := { dst := some 84, op := _, type := _, pos := _, after := _, guard := some (2, true) }) (v := ?vr5_6) rfl (by kernel_rfl) (by kernel_rfl) (by kernel_rfl) (fun _ _ _ h => h) (Or.inl ⟨by rfl, ?hyr5_6⟩) (by assumption) ?restr5_6
                  case hyr5_6 => (intro w hSw; (try dsimp only at hSw); go_simp <;> with_reducible rfl)
                  (try simp only [Act.put, List.setIfInBounds_toArray, List.set_cons_zero, List.set_cons_succ])
                  refine wpAnyH_take (i := 7) (oi := { dst := some 85, op := _, type := _, pos := _, after := _, guard := some (2, true) }) (v := ?vr5_7) rfl (by kernel_rfl) (by kernel_rfl) (by kernel_rfl) (fun _ _ _ h => h) (Or.inl ⟨by rfl, ?hyr5_7⟩) (by assumption) ?restr5_7
                  case hyr5_7 => (intro w hSw; (try dsimp only at hSw); go_simp <;> with_reducible rfl)
                  (try simp only [Act.put, List.setIfInBounds_toArray, List.set_cons_zero, List.set_cons_succ])
                  refine wpAnyH_ready (rs := [8]) (by kernel_rfl) (by simp) ?_
                  refine AllReadyH.cons (o := { dst := some 86, op := _, type := _, pos := _, after := _, guard := some (2, true) }) rfl (fun K hK => ?_) AllReadyH.nil
                  go_simp
                  (refine hc1.out.mono ?_; rintro e w7 ⟨rfl, q7, o7, hw7⟩; have b7 : Below w6.heap.size w6 w7 := (by rw [hw7]; exact b_then (b_drew1 w6) (below_grow _ _ _)); clear hw7)
                  (try go_wp2_with fail)
                  refine hK.out _ _ ((hkeep.out _ (b_then b6.out b7))) (fun hHeld => ?_)
                  clear hK K
                  (try simp only [Act.put, List.setIfInBounds_toArray, List.set_cons_zero, List.set_cons_succ])
                  refine wpAnyH_take (i := 9) (oi := { dst := some 87, op := _, type := _, pos := _, after := _, guard := some (2, true) }) (v := ?vr5_8) rfl (by kernel_rfl) (by kernel_rfl) (by kernel_rfl) (fun _ _ _ h => h) (Or.inl ⟨by rfl, ?hyr5_8⟩) (by assumption) ?restr5_8
                  case hyr5_8 => (intro w hSw; (try dsimp only at hSw); go_simp <;> with_reducible rfl)
                  (try simp only [Act.put, List.setIfInBounds_toArray, List.set_cons_zero, List.set_cons_succ])
                  refine wpAnyH_take (i := 10) (oi := { dst := some 88, op := _, type := _, pos := _, after := _, guard := none }) (v := ?vr5_9) rfl (by kernel_rfl) (by kernel_rfl) (by kernel_rfl) (fun _ _ _ h => h) (Or.inl ⟨by rfl, ?hyr5_9⟩) (by assumption) ?restr5_9
                  case hyr5_9 => (intro w hSw; (try dsimp only at hSw); go_simp <;> with_reducible rfl)
                  (try simp only [Act.put, List.setIfInBounds_toArray, List.set_cons_zero, List.set_cons_succ])
                  refine wpAnyH_take (i := 11) (oi := { dst := some 89, op := _, type := _, pos := _, after := _, guard := none }) (v := ?vr5_10) rfl (by kernel_rfl) (by kernel_rfl) (by kernel_rfl) (fun _ _ _ h => h) (Or.inl ⟨by rfl, ?hyr5_10⟩) (by assumption) ?restr5_10
                  case hyr5_10 => (intro w hSw; (try dsimp only at hSw); go_simp <;> with_reducible rfl)
                  (try simp only [Act.put, List.setIfInBounds_toArray, List.set_cons_zero, List.set_cons_succ])
                  refine wpAnyH_take (i := 12) (oi := { dst := some 90, op := _, type := _, pos := _, after := _, guard := some (11, true) }) (v := undef) rfl (by kernel_rfl) (by kernel_rfl) (by kernel_rfl) (fun _ _ _ h => h) (Or.inr ⟨by rfl, rfl⟩) (by assumption) ?_
                  (try simp only [Act.put, List.setIfInBounds_toArray, List.set_cons_zero, List.set_cons_succ])
                  refine wpAnyH_take (i := 13) (oi := { dst := some 91, op := _, type := _, pos := _, after := _, guard := some (11, true) }) (v := undef) rfl (by kernel_rfl) (by kernel_rfl) (by kernel_rfl) (fun _ _ _ h => h) (Or.inr ⟨by rfl, rfl⟩) (by assumption) ?_
                  (try simp only [Act.put, List.setIfInBounds_toArray, List.set_cons_zero, List.set_cons_succ])
                  refine wpAnyH_take (i := 14) (oi := { dst := some 92, op := _, type := _, pos := _, after := _, guard := some (11, true) }) (v := undef) rfl (by kernel_rfl) (by kernel_rfl) (by kernel_rfl) (fun _ _ _ h => h) (Or.inr ⟨by rfl, rfl⟩) (by assumption) ?_
                  (try simp only [Act.put, List.setIfInBounds_toArray, List.set_cons_zero, List.set_cons_succ])
                  refine wpAnyH_take (i := 15) (oi := { dst := some 93, op := _, type := _, pos := _, after := _, guard := some (11, true) }) (v := undef) rfl (by kernel_rfl) (by kernel_rfl) (by kernel_rfl) (fun _ _ _ h => h) (Or.inr ⟨by rfl, rfl⟩) (by assumption) ?_
                  (try simp only [Act.put, List.setIfInBounds_toArray, List.set_cons_zero, List.set_cons_succ])
                  refine wpAnyH_take (i := 16) (oi := { dst := some 94, op := _, type := _, pos := _, after := _, guard := some (11, true) }) (v := undef) rfl (by kernel_rfl) (by kernel_rfl) (by kernel_rfl) (fun _ _ _ h => h) (Or.inr ⟨by rfl, rfl⟩) (by assumption) ?_
                  (try simp only [Act.put, List.setIfInBounds_toArray, List.set_cons_zero, List.set_cons_succ])
                  refine wpAnyH_take (i := 17) (oi := { dst := some 95, op := _, type := _, pos := _, after := _, guard := some (11, true) }) (v := undef) rfl (by kernel_rfl) (by kernel_rfl) (by kernel_rfl) (fun _ _ _ h => h) (Or.inr ⟨by rfl, rfl⟩) (by assumption) ?_
                  (try simp only [Act.put, List.setIfInBounds_toArray, List.set_cons_zero, List.set_cons_succ])
                  refine wpAnyH_take (i := 18) (oi := { dst := some 96, op := _, type := _, pos := _, after := _, guard := some (11, true) }) (v := undef) rfl (by kernel_rfl) (by kernel_rfl) (by kernel_rfl) (fun _ _ _ h => h) (Or.inr ⟨by rfl, rfl⟩) (by assumption) ?_
                  (try simp only [Act.put, List.setIfInBounds_toArray, List.set_cons_zero, List.set_cons_succ])
                  refine wpAnyH_take (i := 19) (oi := { dst := some 97, op := _, type := _, pos := _, after := _, guard := none }) (v := ?vr5_18) rfl (by kernel_rfl) (by kernel_rfl) (by kernel_rfl) (fun _ _ _ h => h) (Or.inl ⟨by rfl, ?hyr5_18⟩) (by assumption) ?restr5_18
                  case hyr5_18 => (intro w hSw; (try dsimp only at hSw); go_simp <;> with_reducible rfl)
                  (try simp only [Act.put, List.setIfInBounds_toArray, List.set_cons_zero, List.set_cons_succ])
                  refine wpAnyH_done (by kernel_rfl) ?_ _
                  have hbF := Lib.hid (b_then b6.out b7)
                  clear k1
                  go_wp2
                  go_roundw
                  case measure => simp [intOf]; exact hms.out
                  case rel => exact ⟨k + 1, _, hkl.out, rfl, by simp, Lib.hid (by simpa using htF.out), b_next hb.out hbF.out (Nat.le_refl _)⟩
        · obtain rfl : k = nL := by omega
          have d0 : ¬ (k : Int) < k := by omega
          have ht2 : t = true := ht.out.2 (by
            rcases hend.out with h | ⟨q, hq, e⟩
            · exact Or.inl h
            · exact Or.inr ⟨q, by rw [hnL.out, List.take_length]; exact hq, e⟩)
          subst ht2
          have bb := Lib.hid (b_then hres.out hb)
          clear hb
          go_wp2
          go_ret
          exact ⟨rfl, bb.out⟩
    · have e1 : (x.f.high == y.f.high) = true := by simpa using h1
      have e2 := str_ne h2
      clear h1 h2
      go_upto_region 8 with (fail)
      have hBe4 := Lib.hid (hBe.out w4 b3.out)
      clear hBe x0 x1 x2 y0 y1 y2 e1 e2
      go_wp2_with fail
      refine hBe4.out.mono ?_
      rintro e w5 ⟨bx, bt, rfl, hTop, hPb, hPl, b5⟩
      dsimp only [Fx.val]
      have hbt : bt = decide (0 < nL) := by rw [hnL.out]; exact hTop.1
      have hbe : (bt != decide ((0 : Int) < nL)) = false := by rw [hbt]; simp
      go_upto_region 9 with (fail)
      have hV := Lib.hid (FxVar.new w5 bx)
      have bA := b_alloc w5 (.cells #[.string bx.f.id, .int .i64 bx.f.high, .slice bx.pa bx.f.pars.length bx.pc] 24)
      replace b3 := Lib.hid (b_then (b_then b3.out b5) bA)
      replace hX := Lib.hid ((hX.out.next b5).next bA)
      replace hY := Lib.hid ((hY.out.next b5).next bA)
      replace hPb := Lib.hid (hPb.next bA)
      obtain ⟨g4, hg4⟩ : ∃ g, g = w5.heap.size := ⟨_, rfl⟩
      rw [← hg4] at hV ⊢
      generalize w5.alloc (.cells #[.string bx.f.id, .int .i64 bx.f.high, .slice bx.pa bx.f.pars.length bx.pc] 24) = v0 at *
      have hst : Hid ((!decide (0 < nL)) = true ↔ (nL = 0 ∨ ∃ z ∈ L.take 0, z.f = bx.f)) := Lib.hid (by simp)
      have hend : Hid (nL = 0 ∨ ∃ z ∈ L, z.f = bx.f) := Lib.hid (by
        by_cases h0 : nL = 0
        · exact Or.inl h0
        · exact Or.inr (hTop.2 (by rw [← hnL.out]; omega)).1)
      have hnone : Hid (∀ z ∈ L, ¬ under bx.f z.f) := Lib.hid fun z hz => (hTop.2 (List.length_pos_of_mem hz)).2 z hz
      have hcell : Hid (∀ k, k < nL → ∃ y, L[k]? = some y) := Lib.hid fun k hk => by
        have := hnL.out
        exact ⟨L[k], List.getElem?_eq_getElem (by omega)⟩
      have hkeep0 := Lib.hid fun w' (bb : Below v0.heap.size v0 w') => (⟨hV.out.next bb, hX.out.next bb, hY.out.next bb, hLz.out w' (b_then b3.out bb), hPb.out.next bb, fun z hz => (hFw.out.pars z hz).next (b_then hB.out (b_then b3.out bb))⟩ : FxVar w' g4 bx ∧ FxVar w' w.heap.size x ∧ FxVar w' (w.heap.size + 1) y ∧ FxsAt w' a b off L ∧ Pars w' bx ∧ ∀ z ∈ L, Pars w' z)
      have hres := Lib.hid (b_then hB.out b3.out)
      replace hn60 := Lib.hid hn60
      clear hBe4 hTop bA hV hX hY hPb b5 hbt hg4 hLz hB b3
      go_upto_region 13 with (fail)
      clear hbe
      go_loopw [10, 11] (fun inn i wr => ∃ (k : Nat) (t : Bool), k ≤ nL ∧ inn = .bool t ∧ i = .int .i64 (k : Int) ∧ Hid (t = true ↔ (nL = 0 ∨ ∃ z ∈ L.take k, z.f = bx.f)) ∧ Below v0.heap.size v0 wr) (fun _ i _ => nL - (intOf i).toNat)
      case atStart => exact ⟨0, _, Nat.zero_le _, rfl, rfl, hst, Below.refl _ _⟩
      case round =>
        obtain ⟨k, t, hk, rfl, rfl, ht, hb⟩ := hrel
        clear hst
        by_cases hlt : k < nL
        · obtain ⟨z, hz⟩ := hcell.out k hlt
          have hzm := List.mem_of_getElem? hz
          obtain ⟨-, -, -, hLr, -, -⟩ := hkeep0.out _ hb
          obtain rfl := hLr.addr (by have := hnL.out; omega)
          have k1 : (k : Int) < nL := by omega
          have k0 : 0 ≤ (k : Int) := by omega
          have hwk2 : wrap64 ((k : Int) + 1) = ((k + 1 : Nat) : Int) := wrap_next k (by have := hn60.out; omega)
          have hms : Hid (nL - (k + 1) < nL - k) := Lib.hid (by omega)
          have hkl : Hid (k + 1 ≤ nL) := Lib.hid hlt
          have htk : Hid (L.take (k + 1) = L.take k ++ [z]) := Lib.hid (by rw [List.take_add_one, hz]; rfl)
          have hkeep : Hid (∀ w', Below wr.heap.size wr w' → (w'.cell? ⟨b, off + k * 3, none⟩ = some (.string z.f.id) ∧ w'.cell? ⟨b, off + k * 3 + 1, none⟩ = some (.int .i64 z.f.high) ∧ w'.cell? ⟨b, off + k * 3 + 2, none⟩ = some (.slice z.pa z.f.pars.length z.pc)) ∧ (w'.cell? ⟨g4, 0, none⟩ = some (.string bx.f.id) ∧ w'.cell? ⟨g4, 1, none⟩ = some (.int .i64 bx.f.high) ∧ w'.cell? ⟨g4, 2, none⟩ = some (.slice bx.pa bx.f.pars.length bx.pc)) ∧ (w'.cell? ⟨w.heap.size, 0, none⟩ = some (.string x.f.id) ∧ w'.cell? ⟨w.heap.size, 1, none⟩ = some (.int .i64 x.f.high) ∧ w'.cell? ⟨w.heap.size, 2, none⟩ = some (.slice x.pa x.f.pars.length x.pc)) ∧ (w'.cell? ⟨w.heap.size + 1, 0, none⟩ = some (.string y.f.id) ∧ w'.cell? ⟨w.heap.size + 1, 1, none⟩ = some (.int .i64 y.f.high) ∧ w'.cell? ⟨w.heap.size + 1, 2, none⟩ = some (.slice y.pa y.f.pars.length y.pc))) := Lib.hid fun w' bb => by
            obtain ⟨h1, h2, h3, h4, -, -⟩ := hkeep0.out w' (b_next hb bb (Nat.le_refl _))
            exact ⟨⟨h4.id k z hz, h4.high k z hz, h4.pars k z hz⟩, h1.cell, h2.cell, h3.cell⟩
          obtain ⟨c, hc⟩ : ∃ c, c = cmp z.f bx.f := ⟨_, rfl⟩
          have hc0 : ¬ 0 < c := fun h => hnone.out z hzm (cmp_pos.1 (by rw [← hc]; exact h))
          have hC := Lib.hid fun w' => Compare_calls z bx w'
          rw [← hc] at hC
          have hS := Lib.hid fun w' (bb : Below wr.heap.size wr w') => same_calls w' z bx ((hkeep0.out w' (b_next hb bb (Nat.le_refl _))).2.2.2.2.2 z hzm) (hkeep0.out w' (b_next hb bb (Nat.le_refl _))).2.2.2.2.1 (hP.out z hzm) hPl
          obtain ⟨c1, hc1e⟩ : ∃ c, c = cmp y.f z.f := ⟨_, rfl⟩
          obtain ⟨c2, hc2e⟩ : ∃ c, c = cmp x.f z.f := ⟨_, rfl⟩
          replace hc1e := Lib.hid hc1e
          replace hc2e := Lib.hid hc2e
          have bd := b_drew1 wr
          have hk0 := hkeep.out _ bd
          replace hb := Lib.hid hb
          replace hz := Lib.hid hz
          replace hzm := Lib.hid hzm
          clear hlt hk hLr hc
          dsimp only [Fx.val] at hC hS
          go_wp2_with fail
          go_region_held3 (fun w' => (w'.cell? ⟨b, off + k * 3, none⟩ = some (.string z.f.id) ∧ w'.cell? ⟨b, off + k * 3 + 1, none⟩ = some (.int .i64 z.f.high) ∧ w'.cell? ⟨b, off + k * 3 + 2, none⟩ = some (.slice z.pa z.f.pars.length z.pc)) ∧ (w'.cell? ⟨g4, 0, none⟩ = some (.string bx.f.id) ∧ w'.cell? ⟨g4, 1, none⟩ = some (.int .i64 bx.f.high) ∧ w'.cell? ⟨g4, 2, none⟩ = some (.slice bx.pa bx.f.pars.length bx.pc)) ∧ (w'.cell? ⟨w.heap.size, 0, none⟩ = some (.string x.f.id) ∧ w'.cell? ⟨w.heap.size, 1, none⟩ = some (.int .i64 x.f.high) ∧ w'.cell? ⟨w.heap.size, 2, none⟩ = some (.slice x.pa x.f.pars.length x.pc)) ∧ (w'.cell? ⟨w.heap.size + 1, 0, none⟩ = some (.string y.f.id) ∧ w'.cell? ⟨w.heap.size + 1, 1, none⟩ = some (.int .i64 y.f.high) ∧ w'.cell? ⟨w.heap.size + 1, 2, none⟩ = some (.slice y.pa y.f.pars.length y.pc))) (first | exact hk0 | exact hkeep.out _ b5)
            (first | (go_at_call 12; refine (hC.out _).mono ?_; rintro e w5 ⟨rfl, q5, o5, hw5⟩; have b5 : Below wr.heap.size wr w5 := (by rw [hw5]; exact b_then bd (below_grow _ _ _)); clear hw5))
          all_goals
            have hk5 := hkeep.out _ (b_then b5 (b_drew1 w5))
            have bd5 := b_then b5 (b_drew1 w5)
            clear hk0
            cases t with
            | true =>
              have htF : Hid (true = true ↔ (nL = 0 ∨ ∃ z ∈ L.take (k + 1), z.f = bx.f)) := Lib.hid (by
                refine iff_of_true rfl ?_
                rcases ht.out.1 rfl with h | ⟨q, hq, e⟩
                · exact Or.inl h
                · exact Or.inr ⟨q, by rw [htk.out]; exact List.mem_append_left _ hq, e⟩)
              go_wp2_with fail
              refine wp_region_held_drew (S := (fun w' => (w'.cell? ⟨b, off + k * 3, none⟩ = some (.string z.f.id) ∧ w'.cell? ⟨b, off + k * 3 + 1, none⟩ = some (.int .i64 z.f.high) ∧ w'.cell? ⟨b, off + k * 3 + 2, none⟩ = some (.slice z.pa z.f.pars.length z.pc)) ∧ (w'.cell? ⟨g4, 0, none⟩ = some (.string bx.f.id) ∧ w'.cell? ⟨g4, 1, none⟩ = some (.int .i64 bx.f.high) ∧ w'.cell? ⟨g4, 2, none⟩ = some (.slice bx.pa bx.f.pars.length bx.pc)) ∧ (w'.cell? ⟨w.heap.size, 0, none⟩ = some (.string x.f.id) ∧ w'.cell? ⟨w.heap.size, 1, none⟩ = some (.int .i64 x.f.high) ∧ w'.cell? ⟨w.heap.size, 2, none⟩ = some (.slice x.pa x.f.pars.length x.pc)) ∧ (w'.cell? ⟨w.heap.size + 1, 0, none⟩ = some (.string y.f.id) ∧ w'.cell? ⟨w.heap.size + 1, 1, none⟩ = some (.int .i64 y.f.high) ∧ w'.cell? ⟨w.heap.size + 1, 2, none⟩ = some (.slice y.pa y.f.pars.length y.pc)))) (by kernel_rfl) (hk5) (fun hHeld => ?_)
              refine wpAnyH_take (i := 0) (oi := { dst := some 67, op := _, type := _, pos := _, after := _, guard := none }) (v := ?vr6_0) rfl (by kernel_rfl) (by kernel_rfl) (by kernel_rfl) (fun _ _ _ h => h) (Or.inl ⟨by rfl, ?hyr6_0⟩) (by assumption) ?restr6_0
              case hyr6_0 => (intro w hSw; (try dsimp only at hSw); go_simp <;> with_reducible rfl)
              (try simp only [Act.put, List.setIfInBounds_toArray, List.set_cons_zero, List.set_cons_succ])
              refine wpAnyH_take (i := 1) (oi := { dst := some 68, op := _, type := _, pos := _, after := _, guard := none }) (v := ?vr6_1) rfl (by kernel_rfl) (by kernel_rfl) (by kernel_rfl) (fun _ _ _ h => h) (Or.inl ⟨by rfl, ?hyr6_1⟩) (by assumption) ?restr6_1
              case hyr6_1 => (intro w hSw; (try dsimp only at hSw); go_simp <;> with_reducible rfl)
              (try simp only [Act.put, List.setIfInBounds_toArray, List.set_cons_zero, List.set_cons_succ])
              refine wpAnyH_take (i := 2) (oi := { dst := some 69, op := _, type := _, pos := _, after := _, guard := some (1, false) }) (v := undef) rfl (by kernel_rfl) (by kernel_rfl) (by kernel_rfl) (fun _ _ _ h => h) (Or.inr ⟨by rfl, rfl⟩) (by assumption) ?_
              (try simp only [Act.put, List.setIfInBounds_toArray, List.set_cons_zero, List.set_cons_succ])
              refine wpAnyH_take (i := 3) (oi := { dst := some 70, op := _, type := _, pos := _, after := _, guard := some (1, false) }) (v := undef) rfl (by kernel_rfl) (by kernel_rfl) (by kernel_rfl) (fun _ _ _ h => h) (Or.inr ⟨by rfl, rfl⟩) (by assumption) ?_
              (try simp only [Act.put, List.setIfInBounds_toArray, List.set_cons_zero, List.set_cons_succ])
              refine wpAnyH_take (i := 4) (oi := { dst := some 71, op := _, type := _, pos := _, after := _, guard := some (1, false) }) (v := undef) rfl (by kernel_rfl) (by kernel_rfl) (by kernel_rfl) (fun _ _ _ h => h) (Or.inr ⟨by rfl, rfl⟩) (by assumption) ?_
              (try simp only [Act.put, List.setIfInBounds_toArray, List.set_cons_zero, List.set_cons_succ])
              refine wpAnyH_take (i := 5) (oi := { dst := some 72, op := _, type := _, pos := _, after := _, guard := some (1, false) }) (v := undef) rfl (by kernel_rfl) (by kernel_rfl) (by kernel_rfl) (fun _ _ _ h => h) (Or.inr ⟨by rfl, rfl⟩) (by assumption) ?_
              (try simp only [Act.put, List.setIfInBounds_toArray, List.set_cons_zero, List.set_cons_succ])
              refine wpAnyH_take (i := 6) (oi := { dst := some 73, op := _, type := _, pos := _, after := _, guard := some (1, false) }) (v := undef) rfl (by kernel_rfl) (by kernel_rfl) (by kernel_rfl) (fun _ _ _ h => h) (Or.inr ⟨by rfl, rfl⟩) (by assumption) ?_
              (try simp only [Act.put, List.setIfInBounds_toArray, List.set_cons_zero, List.set_cons_succ])
              refine wpAnyH_take (i := 7) (oi := { dst := some 74, op := _, type := _, pos := _, after := _, guard := some (1, false) }) (v := undef) rfl (by kernel_rfl) (by kernel_rfl) (by kernel_rfl) (fun _ _ _ h => h) (Or.inr ⟨by rfl, rfl⟩) (by assumption) ?_
              (try simp only [Act.put, List.setIfInBounds_toArray, List.set_cons_zero, List.set_cons_succ])
              refine wpAnyH_take (i := 8) (oi := { dst := some 75, op := _, type := _, pos := _, after := _, guard := none }) (v := ?vr6_8) rfl (by kernel_rfl) (by kernel_rfl) (by kernel_rfl) (fun _ _ _ h => h) (Or.inl ⟨by rfl, ?hyr6_8⟩) (by assumption) ?restr6_8
              case hyr6_8 => (intro w hSw; (try dsimp only at hSw); go_simp <;> with_reducible rfl)
              (try simp only [Act.put, List.setIfInBounds_toArray, List.set_cons_zero, List.set_cons_succ])
              refine wpAnyH_take (i := 9) (oi := { dst := some 10, op := _, type := _, pos := _, after := _, guard := none }) (v := ?vr6_9) rfl (by kernel_rfl) (by kernel_rfl) (by kernel_rfl) (fun _ _ _ h => h) (Or.inl ⟨by rfl, ?hyr6_9⟩) (by assumption) ?restr6_9
              case hyr6_9 => (intro w hSw; (try dsimp only at hSw); go_simp <;> with_reducible rfl)
              (try simp only [Act.put, List.setIfInBounds_toArray, List.set_cons_zero, List.set_cons_succ])
              refine wpAnyH_done (by kernel_rfl) ?_ _
              obtain ⟨w6, hw6⟩ : ∃ w6, w6 = w5.drew := ⟨_, rfl⟩
              have b6 := Lib.hid bd5
              rw [← hw6] at b6 ⊢
              have hk6 := hkeep.out _ (b_then b6.out (b_drew1 w6))
              clear hw6 bd5 hk5 b5
              have hc1 : Calls Try.prog 12 #[y.val, z.val] w6.drew fun e w' => e = .returned (.int .i64 c1) ∧ ∃ q os, w' = Sort.grow (w6.drew.drewN q) os := by rw [hc1e.out]; exact Compare_calls y z w6.drew
              have hc2 := Lib.hid fun w' => Compare_calls x z w'
              rw [← hc2e.out] at hc2
              replace hc1 := Lib.hid hc1
              dsimp only [Fx.val] at hc1 hc2
              by_cases k1 : c1 ≤ 0
              · have k2 : ¬ 0 < c2 := by rw [hc2e.out]; rw [hc1e.out] at k1; exact goes_on (by rw [← hr.out]; decide) k1
                have d1 : decide (c1 ≤ 0) = true := decide_eq_true k1
                have d2 : decide (0 < c2) = false := decide_eq_false k2
                go_wp2_with fail
                refine wp_region_held_drew (S := (fun w' => (w'.cell? ⟨b, off + k * 3, none⟩ = some (.string z.f.id) ∧ w'.cell? ⟨b, off + k * 3 + 1, none⟩ = some (.int .i64 z.f.high) ∧ w'.cell? ⟨b, off + k * 3 + 2, none⟩ = some (.slice z.pa z.f.pars.length z.pc)) ∧ (w'.cell? ⟨g4, 0, none⟩ = some (.string bx.f.id) ∧ w'.cell? ⟨g4, 1, none⟩ = some (.int .i64 bx.f.high) ∧ w'.cell? ⟨g4, 2, none⟩ = some (.slice bx.pa bx.f.pars.length bx.pc)) ∧ (w'.cell? ⟨w.heap.size, 0, none⟩ = some (.string x.f.id) ∧ w'.cell? ⟨w.heap.size, 1, none⟩ = some (.int .i64 x.f.high) ∧ w'.cell? ⟨w.heap.size, 2, none⟩ = some (.slice x.pa x.f.pars.length x.pc)) ∧ (w'.cell? ⟨w.heap.size + 1, 0, none⟩ = some (.string y.f.id) ∧ w'.cell? ⟨w.heap.size + 1, 1, none⟩ = some (.int .i64 y.f.high) ∧ w'.cell? ⟨w.heap.size + 1, 2, none⟩ = some (.slice y.pa y.f.pars.length y.pc)))) (by kernel_rfl) (hk6) (fun hHeld => ?_)
                refine wpAnyH_take (i := 0) (oi := { dst := some 78, op := _, type := _, pos := _, after := _, guard := none }) (v := ?vr7_0) rfl (by kernel_rfl) (by kernel_rfl) (by kernel_rfl) (fun _ _ _ h => h) (Or.inl ⟨by rfl, ?hyr7_0⟩) (by assumption) ?restr7_0
                case hyr7_0 => (intro w hSw; (try dsimp only at hSw); go_simp <;> with_reducible rfl)
                (try simp only [Act.put, List.setIfInBounds_toArray, List.set_cons_zero, List.set_cons_succ])
                refine wpAnyH_take (i := 1) (oi := { dst := some 79, op := _, type := _, pos := _, after := _, guard := none }) (v := ?vr7_1) rfl (by kernel_rfl) (by kernel_rfl) (by kernel_rfl) (fun _ _ _ h => h) (Or.inl ⟨by rfl, ?hyr7_1⟩) (by assumption) ?restr7_1
                case hyr7_1 => (intro w hSw; (try dsimp only at hSw); go_simp <;> with_reducible rfl)
                (try simp only [Act.put, List.setIfInBounds_toArray, List.set_cons_zero, List.set_cons_succ])
                refine wpAnyH_take (i := 2) (oi := { dst := some 80, op := _, type := _, pos := _, after := _, guard := none }) (v := ?vr7_2) rfl (by kernel_rfl) (by kernel_rfl) (by kernel_rfl) (fun _ _ _ h => h) (Or.inl ⟨by rfl, ?hyr7_2⟩) (by assumption) ?restr7_2
                case hyr7_2 => (intro w hSw; (try dsimp only at hSw); go_simp <;> with_reducible rfl)
                (try simp only [Act.put, List.setIfInBounds_toArray, List.set_cons_zero, List.set_cons_succ])
                refine wpAnyH_take (i := 3) (oi := { dst := some 81, op := _, type := _, pos := _, after := _, guard := some (2, true) }) (v := ?vr7_3) rfl (by kernel_rfl) (by kernel_rfl) (by kernel_rfl) (fun _ _ _ h => h) (Or.inl ⟨by rfl, ?hyr7_3⟩) (by assumption) ?restr7_3
                case hyr7_3 => (intro w hSw; (try dsimp only at hSw); go_simp <;> with_reducible rfl)
                (try simp only [Act.put, List.setIfInBounds_toArray, List.set_cons_zero, List.set_cons_succ])
                refine wpAnyH_take (i := 4) (oi := { dst := some 82, op := _, type := _, pos := _, after := _, guard := some (2, true) }) (v := ?vr7_4) rfl (by kernel_rfl) (by kernel_rfl) (by kernel_rfl) (fun _ _ _ h => h) (Or.inl ⟨by rfl, ?hyr7_4⟩) (by assumption) ?restr7_4
                case hyr7_4 => (intro w hSw; (try dsimp only at hSw); go_simp <;> with_reducible rfl)
                (try simp only [Act.put, List.setIfInBounds_toArray, List.set_cons_zero, List.set_cons_succ])
                refine wpAnyH_take (i := 5) (oi := { dst := some 83, op := _, type := _, pos := _, after := _, guard := some (2, true) }) (v := ?vr7_5) rfl (by kernel_rfl) (by kernel_rfl) (by kernel_rfl) (fun _ _ _ h => h) (Or.inl ⟨by rfl, ?hyr7_5⟩) (by assumption) ?restr7_5
                case hyr7_5 => (intro w hSw; (try dsimp only at hSw); go_simp <;> with_reducible rfl)
                (try simp only [Act.put, List.setIfInBounds_toArray, List.set_cons_zero, List.set_cons_succ])
                refine wpAnyH_take (i := 6) (oi := { dst := some 84, op := _, type := _, pos := _, after := _, guard := some (2, true) }) (v := ?vr7_6) rfl (by kernel_rfl) (by kernel_rfl) (by kernel_rfl) (fun _ _ _ h => h) (Or.inl ⟨by rfl, ?hyr7_6⟩) (by assumption) ?restr7_6
                case hyr7_6 => (intro w hSw; (try dsimp only at hSw); go_simp <;> with_reducible rfl)
                (try simp only [Act.put, List.setIfInBounds_toArray, List.set_cons_zero, List.set_cons_succ])
                refine wpAnyH_take (i := 7) (oi := { dst := some 85, op := _, type := _, pos := _, after := _, guard := some (2, true) }) (v := ?vr7_7) rfl (by kernel_rfl) (by kernel_rfl) (by kernel_rfl) (fun _ _ _ h => h) (Or.inl ⟨by rfl, ?hyr7_7⟩) (by assumption) ?restr7_7
                case hyr7_7 => (intro w hSw; (try dsimp only at hSw); go_simp <;> with_reducible rfl)
                (try simp only [Act.put, List.setIfInBounds_toArray, List.set_cons_zero, List.set_cons_succ])
                refine wpAnyH_ready (rs := [8]) (by kernel_rfl) (by simp) ?_
                refine AllReadyH.cons (o := { dst := some 86, op := _, type := _, pos := _, after := _, guard := some (2, true) }) rfl (fun K hK => ?_) AllReadyH.nil
                go_simp
                (refine hc1.out.mono ?_; rintro e w7 ⟨rfl, q7, o7, hw7⟩; have b7 : Below w6.heap.size w6 w7 := (by rw [hw7]; exact b_then (b_drew1 w6) (below_grow _ _ _)); clear hw7)
                (try go_wp2_with fail)
                refine hK.out _ _ ((hkeep.out _ (b_then b6.out b7))) (fun hHeld => ?_)
                clear hK K
                (try simp only [Act.put, List.setIfInBounds_toArray, List.set_cons_zero, List.set_cons_succ])
                refine wpAnyH_take (i := 9) (oi := { dst := some 87, op := _, type := _, pos := _, after := _, guard := some (2, true) }) (v := ?vr7_8) rfl (by kernel_rfl) (by kernel_rfl) (by kernel_rfl) (fun _ _ _ h => h) (Or.inl ⟨by rfl, ?hyr7_8⟩) (by assumption) ?restr7_8
                case hyr7_8 => (intro w hSw; (try dsimp only at hSw); go_simp <;> with_reducible rfl)
                (try simp only [Act.put, List.setIfInBounds_toArray, List.set_cons_zero, List.set_cons_succ])
                refine wpAnyH_take (i := 10) (oi := { dst := some 88, op := _, type := _, pos := _, after := _, guard := none }) (v := ?vr7_9) rfl (by kernel_rfl) (by kernel_rfl) (by kernel_rfl) (fun _ _ _ h => h) (Or.inl ⟨by rfl, ?hyr7_9⟩) (by assumption) ?restr7_9
                case hyr7_9 => (intro w hSw; (try dsimp only at hSw); go_simp <;> with_reducible rfl)
                (try simp only [Act.put, List.setIfInBounds_toArray, List.set_cons_zero, List.set_cons_succ])
                refine wpAnyH_take (i := 11) (oi := { dst := some 89, op := _, type := _, pos := _, after := _, guard := none }) (v := ?vr7_10) rfl (by kernel_rfl) (by kernel_rfl) (by kernel_rfl) (fun _ _ _ h => h) (Or.inl ⟨by rfl, ?hyr7_10⟩) (by assumption) ?restr7_10
                case hyr7_10 => (intro w hSw; (try dsimp only at hSw); go_simp <;> with_reducible rfl)
                (try simp only [Act.put, List.setIfInBounds_toArray, List.set_cons_zero, List.set_cons_succ])
                refine wpAnyH_take (i := 12) (oi := { dst := some 90, op := _, type := _, pos := _, after := _, guard := some (11, true) }) (v := ?vr7_11) rfl (by kernel_rfl) (by kernel_rfl) (by kernel_rfl) (fun _ _ _ h => h) (Or.inl ⟨by rfl, ?hyr7_11⟩) (by assumption) ?restr7_11
                case hyr7_11 => (intro w hSw; (try dsimp only at hSw); go_simp <;> with_reducible rfl)
                (try simp only [Act.put, List.setIfInBounds_toArray, List.set_cons_zero, List.set_cons_succ])
                refine wpAnyH_take (i := 13) (oi := { dst := some 91, op := _, type := _, pos := _, after := _, guard := some (11, true) }) (v := ?vr7_12) rfl (by kernel_rfl) (by kernel_rfl) (by kernel_rfl) (fun _ _ _ h => h) (Or.inl ⟨by rfl, ?hyr7_12⟩) (by assumption) ?restr7_12
                case hyr7_12 => (intro w hSw; (try dsimp only at hSw); go_simp <;> with_reducible rfl)
                (try simp only [Act.put, List.setIfInBounds_toArray, List.set_cons_zero, List.set_cons_succ])
                refine wpAnyH_take (i := 14) (oi := { dst := some 92, op := _, type := _, pos := _, after := _, guard := some (11, true) }) (v := ?vr7_13) rfl (by kernel_rfl) (by kernel_rfl) (by kernel_rfl) (fun _ _ _ h => h) (Or.inl ⟨by rfl, ?hyr7_13⟩) (by assumption) ?restr7_13
                case hyr7_13 => (intro w hSw; (try dsimp only at hSw); go_simp <;> with_reducible rfl)
                (try simp only [Act.put, List.setIfInBounds_toArray, List.set_cons_zero, List.set_cons_succ])
                refine wpAnyH_take (i := 15) (oi := { dst := some 93, op := _, type := _, pos := _, after := _, guard := some (11, true) }) (v := ?vr7_14) rfl (by kernel_rfl) (by kernel_rfl) (by kernel_rfl) (fun _ _ _ h => h) (Or.inl ⟨by rfl, ?hyr7_14⟩) (by assumption) ?restr7_14
                case hyr7_14 => (intro w hSw; (try dsimp only at hSw); go_simp <;> with_reducible rfl)
                (try simp only [Act.put, List.setIfInBounds_toArray, List.set_cons_zero, List.set_cons_succ])
                refine wpAnyH_take (i := 16) (oi := { dst := some 94, op := _, type := _, pos := _, after := _, guard := some (11, true) }) (v := ?vr7_15) rfl (by kernel_rfl) (by kernel_rfl) (by kernel_rfl) (fun _ _ _ h => h) (Or.inl ⟨by rfl, ?hyr7_15⟩) (by assumption) ?restr7_15
                case hyr7_15 => (intro w hSw; (try dsimp only at hSw); go_simp <;> with_reducible rfl)
                (try simp only [Act.put, List.setIfInBounds_toArray, List.set_cons_zero, List.set_cons_succ])
                refine wpAnyH_ready (rs := [17]) (by kernel_rfl) (by simp) ?_
                refine AllReadyH.cons (o := { dst := some 95, op := _, type := _, pos := _, after := _, guard := some (11, true) }) rfl (fun K hK => ?_) AllReadyH.nil
                go_simp
                (refine (hc2.out _).mono ?_; rintro e w8 ⟨rfl, q8, o8, hw8⟩; have b8 : Below w6.heap.size w6 w8 := (by rw [hw8]; exact b_then b7 (below_grow _ _ _)); clear hw8)
                (try go_wp2_with fail)
                refine hK.out _ _ ((hkeep.out _ (b_then b6.out b8))) (fun hHeld => ?_)
                clear hK K
                (try simp only [Act.put, List.setIfInBounds_toArray, List.set_cons_zero, List.set_cons_succ])
                refine wpAnyH_take (i := 18) (oi := { dst := some 96, op := _, type := _, pos := _, after := _, guard := some (11, true) }) (v := ?vr7_16) rfl (by kernel_rfl) (by kernel_rfl) (by kernel_rfl) (fun _ _ _ h => h) (Or.inl ⟨by rfl, ?hyr7_16⟩) (by assumption) ?restr7_16
                case hyr7_16 => (intro w hSw; (try dsimp only at hSw); go_simp <;> with_reducible rfl)
                (try simp only [Act.put, List.setIfInBounds_toArray, List.set_cons_zero, List.set_cons_succ])
                refine wpAnyH_take (i := 19) (oi := { dst := some 97, op := _, type := _, pos := _, after := _, guard := none }) (v := ?vr7_17) rfl (by kernel_rfl) (by kernel_rfl) (by kernel_rfl) (fun _ _ _ h => h) (Or.inl ⟨by rfl, ?hyr7_17⟩) (by assumption) ?restr7_17
                case hyr7_17 => (intro w hSw; (try dsimp only at hSw); go_simp <;> with_reducible rfl)
                (try simp only [Act.put, List.setIfInBounds_toArray, List.set_cons_zero, List.set_cons_succ])
                refine wpAnyH_done (by kernel_rfl) ?_ _
                have hbF := Lib.hid (b_then b6.out b8)
                clear k1 k2
                go_wp2
                go_roundw
                case measure => simp [intOf]; exact hms.out
                case rel => exact ⟨k + 1, _, hkl.out, rfl, by simp, Lib.hid (by simpa using htF.out), b_next hb.out hbF.out (Nat.le_refl _)⟩
              · have d1 : decide (c1 ≤ 0) = false := decide_eq_false k1
                have k1' : 0 < c1 := by omega
                go_wp2_with fail
                refine wp_region_held_drew (S := (fun w' => (w'.cell? ⟨b, off + k * 3, none⟩ = some (.string z.f.id) ∧ w'.cell? ⟨b, off + k * 3 + 1, none⟩ = some (.int .i64 z.f.high) ∧ w'.cell? ⟨b, off + k * 3 + 2, none⟩ = some (.slice z.pa z.f.pars.length z.pc)) ∧ (w'.cell? ⟨g4, 0, none⟩ = some (.string bx.f.id) ∧ w'.cell? ⟨g4, 1, none⟩ = some (.int .i64 bx.f.high) ∧ w'.cell? ⟨g4, 2, none⟩ = some (.slice bx.pa bx.f.pars.length bx.pc)) ∧ (w'.cell? ⟨w.heap.size, 0, none⟩ = some (.string x.f.id) ∧ w'.cell? ⟨w.heap.size, 1, none⟩ = some (.int .i64 x.f.high) ∧ w'.cell? ⟨w.heap.size, 2, none⟩ = some (.slice x.pa x.f.pars.length x.pc)) ∧ (w'.cell? ⟨w.heap.size + 1, 0, none⟩ = some (.string y.f.id) ∧ w'.cell? ⟨w.heap.size + 1, 1, none⟩ = some (.int .i64 y.f.high) ∧ w'.cell? ⟨w.heap.size + 1, 2, none⟩ = some (.slice y.pa y.f.pars.length y.pc)))) (by kernel_rfl) (hk6) (fun hHeld => ?_)
                refine wpAnyH_take (i := 0) (oi := { dst := some 78, op := _, type := _, pos := _, after := _, guard := none }) (v := ?vr8_0) rfl (by kernel_rfl) (by kernel_rfl) (by kernel_rfl) (fun _ _ _ h => h) (Or.inl ⟨by rfl, ?hyr8_0⟩) (by assumption) ?restr8_0
                case hyr8_0 => (intro w hSw; (try dsimp only at hSw); go_simp <;> with_reducible rfl)
                (try simp only [Act.put, List.setIfInBounds_toArray, List.set_cons_zero, List.set_cons_succ])
                refine wpAnyH_take (i := 1) (oi := { dst := some 79, op := _, type := _, pos := _, after := _, guard := none }) (v := ?vr8_1) rfl (by kernel_rfl) (by kernel_rfl) (by kernel_rfl) (fun _ _ _ h => h) (Or.inl ⟨by rfl, ?hyr8_1⟩) (by assumption) ?restr8_1
                case hyr8_1 => (intro w hSw; (try dsimp only at hSw); go_simp <;> with_reducible rfl)
                (try simp only [Act.put, List.setIfInBounds_toArray, List.set_cons_zero, List.set_cons_succ])
                refine wpAnyH_take (i := 2) (oi := { dst := some 80, op := _, type := _, pos := _, after := _, guard := none }) (v := ?vr8_2) rfl (by kernel_rfl) (by kernel_rfl) (by kernel_rfl) (fun _ _ _ h => h) (Or.inl ⟨by rfl, ?hyr8_2⟩) (by assumption) ?restr8_2
                case hyr8_2 => (intro w hSw; (try dsimp only at hSw); go_simp <;> with_reducible rfl)
                (try simp only [Act.put, List.setIfInBounds_toArray, List.set_cons_zero, List.set_cons_succ])
                refine wpAnyH_take (i := 3) (oi := { dst := some 81, op := _, type := _, pos := _, after := _, guard := some (2, true) }) (v := ?vr8_3) rfl (by kernel_rfl) (by kernel_rfl) (by kernel_rfl) (fun _ _ _ h => h) (Or.inl ⟨by rfl, ?hyr8_3⟩) (by assumption) ?restr8_3
                case hyr8_3 => (intro w hSw; (try dsimp only at hSw); go_simp <;> with_reducible rfl)
                (try simp only [Act.put, List.setIfInBounds_toArray, List.set_cons_zero, List.set_cons_succ])
                refine wpAnyH_take (i := 4) (oi := { dst := some 82, op := _, type := _, pos := _, after := _, guard := some (2, true) }) (v := ?vr8_4) rfl (by kernel_rfl) (by kernel_rfl) (by kernel_rfl) (fun _ _ _ h => h) (Or.inl ⟨by rfl, ?hyr8_4⟩) (by assumption) ?restr8_4
                case hyr8_4 => (intro w hSw; (try dsimp only at hSw); go_simp <;> with_reducible rfl)
                (try simp only [Act.put, List.setIfInBounds_toArray, List.set_cons_zero, List.set_cons_succ])
                refine wpAnyH_take (i := 5) (oi := { dst := some 83, op := _, type := _, pos := _, after := _, guard := some (2, true) }) (v := ?vr8_5) rfl (by kernel_rfl) (by kernel_rfl) (by kernel_rfl) (fun _ _ _ h => h) (Or.inl ⟨by rfl, ?hyr8_5⟩) (by assumption) ?restr8_5
                case hyr8_5 => (intro w hSw; (try dsimp only at hSw); go_simp <;> with_reducible rfl)
                (try simp only [Act.put, List.setIfInBounds_toArray, List.set_cons_zero, List.set_cons_succ])
                refine wpAnyH_take (i := 6) (oi := { dst := some 84, op := _, type := _, pos := _, after := _, guard := some (2, true) }) (v := ?vr8_6) rfl (by kernel_rfl) (by kernel_rfl) (by kernel_rfl) (fun _ _ _ h => h) (Or.inl ⟨by rfl, ?hyr8_6⟩) (by assumption) ?restr8_6
                case hyr8_6 => (intro w hSw; (try dsimp only at hSw); go_simp <;> with_reducible rfl)
                (try simp only [Act.put, List.setIfInBounds_toArray, List.set_cons_zero, List.set_cons_succ])
                refine wpAnyH_take (i := 7) (oi := { dst := some 85, op := _, type := _, pos := _, after := _, guard := some (2, true) }) (v := ?vr8_7) rfl (by kernel_rfl) (by kernel_rfl) (by kernel_rfl) (fun _ _ _ h => h) (Or.inl ⟨by rfl, ?hyr8_7⟩) (by assumption) ?restr8_7
                case hyr8_7 => (intro w hSw; (try dsimp only at hSw); go_simp <;> with_reducible rfl)
                (try simp only [Act.put, List.setIfInBounds_toArray, List.set_cons_zero, List.set_cons_succ])
                refine wpAnyH_ready (rs := [8]) (by kernel_rfl) (by simp) ?_
                refine AllReadyH.cons (o := { dst := some 86, op := _, type := _, pos := _, after := _, guard := some (2, true) }) rfl (fun K hK => ?_) AllReadyH.nil
                go_simp
                (refine hc1.out.mono ?_; rintro e w7 ⟨rfl, q7, o7, hw7⟩; have b7 : Below w6.heap.size w6 w7 := (by rw [hw7]; exact b_then (b_drew1 w6) (below_grow _ _ _)); clear hw7)
                (try go_wp2_with fail)
                refine hK.out _ _ ((hkeep.out _ (b_then b6.out b7))) (fun hHeld => ?_)
                clear hK K
                (try simp only [Act.put, List.setIfInBounds_toArray, List.set_cons_zero, List.set_cons_succ])
                refine wpAnyH_take (i := 9) (oi := { dst := some 87, op := _, type := _, pos := _, after := _, guard := some (2, true) }) (v := ?vr8_8) rfl (by kernel_rfl) (by kernel_rfl) (by kernel_rfl) (fun _ _ _ h => h) (Or.inl ⟨by rfl, ?hyr8_8⟩) (by assumption) ?restr8_8
                case hyr8_8 => (intro w hSw; (try dsimp only at hSw); go_simp <;> with_reducible rfl)
                (try simp only [Act.put, List.setIfInBounds_toArray, List.set_cons_zero, List.set_cons_succ])
                refine wpAnyH_take (i := 10) (oi := { dst := some 88, op := _, type := _, pos := _, after := _, guard := none }) (v := ?vr8_9) rfl (by kernel_rfl) (by kernel_rfl) (by kernel_rfl) (fun _ _ _ h => h) (Or.inl ⟨by rfl, ?hyr8_9⟩) (by assumption) ?restr8_9
                case hyr8_9 => (intro w hSw; (try dsimp only at hSw); go_simp <;> with_reducible rfl)
                (try simp only [Act.put, List.setIfInBounds_toArray, List.set_cons_zero, List.set_cons_succ])
                refine wpAnyH_take (i := 11) (oi := { dst := some 89, op := _, type := _, pos := _, after := _, guard := none }) (v := ?vr8_10) rfl (by kernel_rfl) (by kernel_rfl) (by kernel_rfl) (fun _ _ _ h => h) (Or.inl ⟨by rfl, ?hyr8_10⟩) (by assumption) ?restr8_10
                case hyr8_10 => (intro w hSw; (try dsimp only at hSw); go_simp <;> with_reducible rfl)
                (try simp only [Act.put, List.setIfInBounds_toArray, List.set_cons_zero, List.set_cons_succ])
                refine wpAnyH_take (i := 12) (oi := { dst := some 90, op := _, type := _, pos := _, after := _, guard := some (11, true) }) (v := undef) rfl (by kernel_rfl) (by kernel_rfl) (by kernel_rfl) (fun _ _ _ h => h) (Or.inr ⟨by rfl, rfl⟩) (by assumption) ?_
                (try simp only [Act.put, List.setIfInBounds_toArray, List.set_cons_zero, List.set_cons_succ])
                refine wpAnyH_take (i := 13) (oi := { dst := some 91, op := _, type := _, pos := _, after := _, guard := some (11, true) }) (v := undef) rfl (by kernel_rfl) (by kernel_rfl) (by kernel_rfl) (fun _ _ _ h => h) (Or.inr ⟨by rfl, rfl⟩) (by assumption) ?_
                (try simp only [Act.put, List.setIfInBounds_toArray, List.set_cons_zero, List.set_cons_succ])
                refine wpAnyH_take (i := 14) (oi := { dst := some 92, op := _, type := _, pos := _, after := _, guard := some (11, true) }) (v := undef) rfl (by kernel_rfl) (by kernel_rfl) (by kernel_rfl) (fun _ _ _ h => h) (Or.inr ⟨by rfl, rfl⟩) (by assumption) ?_
                (try simp only [Act.put, List.setIfInBounds_toArray, List.set_cons_zero, List.set_cons_succ])
                refine wpAnyH_take (i := 15) (oi := { dst := some 93, op := _, type := _, pos := _, after := _, guard := some (11, true) }) (v := undef) rfl (by kernel_rfl) (by kernel_rfl) (by kernel_rfl) (fun _ _ _ h => h) (Or.inr ⟨by rfl, rfl⟩) (by assumption) ?_
                (try simp only [Act.put, List.setIfInBounds_toArray, List.set_cons_zero, List.set_cons_succ])
                refine wpAnyH_take (i := 16) (oi := { dst := some 94, op := _, type := _, pos := _, after := _, guard := some (11, true) }) (v := undef) rfl (by kernel_rfl) (by kernel_rfl) (by kernel_rfl) (fun _ _ _ h => h) (Or.inr ⟨by rfl, rfl⟩) (by assumption) ?_
                (try simp only [Act.put, List.setIfInBounds_toArray, List.set_cons_zero, List.set_cons_succ])
                refine wpAnyH_take (i := 17) (oi := { dst := some 95, op := _, type := _, pos := _, after := _, guard := some (11, true) }) (v := undef) rfl (by kernel_rfl) (by kernel_rfl) (by kernel_rfl) (fun _ _ _ h => h) (Or.inr ⟨by rfl, rfl⟩) (by assumption) ?_
                (try simp only [Act.put, List.setIfInBounds_toArray, List.set_cons_zero, List.set_cons_succ])
                refine wpAnyH_take (i := 18) (oi := { dst := some 96, op := _, type := _, pos := _, after := _, guard := some (11, true) }) (v := undef) rfl (by kernel_rfl) (by kernel_rfl) (by kernel_rfl) (fun _ _ _ h => h) (Or.inr ⟨by rfl, rfl⟩) (by assumption) ?_
                (try simp only [Act.put, List.setIfInBounds_toArray, List.set_cons_zero, List.set_cons_succ])
                refine wpAnyH_take (i := 19) (oi := { dst := some 97, op := _, type := _, pos := _, after := _, guard := none }) (v := ?vr8_18) rfl (by kernel_rfl) (by kernel_rfl) (by kernel_rfl) (fun _ _ _ h => h) (Or.inl ⟨by rfl, ?hyr8_18⟩) (by assumption) ?restr8_18
                case hyr8_18 => (intro w hSw; (try dsimp only at hSw); go_simp <;> with_reducible rfl)
                (try simp only [Act.put, List.setIfInBounds_toArray, List.set_cons_zero, List.set_cons_succ])
                refine wpAnyH_done (by kernel_rfl) ?_ _
                have hbF := Lib.hid (b_then b6.out b7)
                clear k1
                go_wp2
                go_roundw
                case measure => simp [intOf]; exact hms.out
                case rel => exact ⟨k + 1, _, hkl.out, rfl, by simp, Lib.hid (by simpa using htF.out), b_next hb.out hbF.out (Nat.le_refl _)⟩
            | false =>
              have hS5 := Lib.hid (hS.out _ bd5)
              go_wp2_with fail
              go_region_held3 (fun w' => (w'.cell? ⟨b, off + k * 3, none⟩ = some (.string z.f.id) ∧ w'.cell? ⟨b, off + k * 3 + 1, none⟩ = some (.int .i64 z.f.high) ∧ w'.cell? ⟨b, off + k * 3 + 2, none⟩ = some (.slice z.pa z.f.pars.length z.pc)) ∧ (w'.cell? ⟨g4, 0, none⟩ = some (.string bx.f.id) ∧ w'.cell? ⟨g4, 1, none⟩ = some (.int .i64 bx.f.high) ∧ w'.cell? ⟨g4, 2, none⟩ = some (.slice bx.pa bx.f.pars.length bx.pc)) ∧ (w'.cell? ⟨w.heap.size, 0, none⟩ = some (.string x.f.id) ∧ w'.cell? ⟨w.heap.size, 1, none⟩ = some (.int .i64 x.f.high) ∧ w'.cell? ⟨w.heap.size, 2, none⟩ = some (.slice x.pa x.f.pars.length x.pc)) ∧ (w'.cell? ⟨w.heap.size + 1, 0, none⟩ = some (.string y.f.id) ∧ w'.cell? ⟨w.heap.size + 1, 1, none⟩ = some (.int .i64 y.f.high) ∧ w'.cell? ⟨w.heap.size + 1, 2, none⟩ = some (.slice y.pa y.f.pars.length y.pc))) (first | exact hk5 | exact hkeep.out _ b6)
                (first | (go_at_call 14; refine (hS5.out).mono ?_; rintro e w6 ⟨⟨s, rfl, hs⟩, b6'⟩; have b6 := b_then bd5 b6'; clear b6'))
              all_goals
                have htF : Hid (s = true ↔ (nL = 0 ∨ ∃ z ∈ L.take (k + 1), z.f = bx.f)) := Lib.hid (by
                  have h0 := ht.out
                  rw [hs, htk.out]
                  constructor
                  · intro e; exact Or.inr ⟨z, List.mem_append_right _ (List.mem_singleton.2 rfl), e⟩
                  · rintro (e | ⟨q, hq, e⟩)
                    · have := h0.2 (Or.inl e); cases this
                    · rcases List.mem_append.1 hq with hq | hq
                      · have := h0.2 (Or.inr ⟨q, hq, e⟩); cases this
                      · rw [List.mem_singleton] at hq; subst hq; exact e)
                replace b6 := Lib.hid b6
                have hk6 := hkeep.out _ (b_then b6.out (b_drew1 w6))
                clear hk5 bd5 b5 hs
                have hc1 : Calls Try.prog 12 #[y.val, z.val] w6.drew fun e w' => e = .returned (.int .i64 c1) ∧ ∃ q os, w' = Sort.grow (w6.drew.drewN q) os := by rw [hc1e.out]; exact Compare_calls y z w6.drew
                have hc2 := Lib.hid fun w' => Compare_calls x z w'
                rw [← hc2e.out] at hc2
                replace hc1 := Lib.hid hc1
                dsimp only [Fx.val] at hc1 hc2
                by_cases k1 : c1 ≤ 0
                · have k2 : ¬ 0 < c2 := by rw [hc2e.out]; rw [hc1e.out] at k1; exact goes_on (by rw [← hr.out]; decide) k1
                  have d1 : decide (c1 ≤ 0) = true := decide_eq_true k1
                  have d2 : decide (0 < c2) = false := decide_eq_false k2
                  go_wp2_with fail
                  refine wp_region_held_drew (S := (fun w' => (w'.cell? ⟨b, off + k * 3, none⟩ = some (.string z.f.id) ∧ w'.cell? ⟨b, off + k * 3 + 1, none⟩ = some (.int .i64 z.f.high) ∧ w'.cell? ⟨b, off + k * 3 + 2, none⟩ = some (.slice z.pa z.f.pars.length z.pc)) ∧ (w'.cell? ⟨g4, 0, none⟩ = some (.string bx.f.id) ∧ w'.cell? ⟨g4, 1, none⟩ = some (.int .i64 bx.f.high) ∧ w'.cell? ⟨g4, 2, none⟩ = some (.slice bx.pa bx.f.pars.length bx.pc)) ∧ (w'.cell? ⟨w.heap.size, 0, none⟩ = some (.string x.f.id) ∧ w'.cell? ⟨w.heap.size, 1, none⟩ = some (.int .i64 x.f.high) ∧ w'.cell? ⟨w.heap.size, 2, none⟩ = some (.slice x.pa x.f.pars.length x.pc)) ∧ (w'.cell? ⟨w.heap.size + 1, 0, none⟩ = some (.string y.f.id) ∧ w'.cell? ⟨w.heap.size + 1, 1, none⟩ = some (.int .i64 y.f.high) ∧ w'.cell? ⟨w.heap.size + 1, 2, none⟩ = some (.slice y.pa y.f.pars.length y.pc)))) (by kernel_rfl) (hk6) (fun hHeld => ?_)
                  refine wpAnyH_take (i := 0) (oi := { dst := some 78, op := _, type := _, pos := _, after := _, guard := none }) (v := ?vr9_0) rfl (by kernel_rfl) (by kernel_rfl) (by kernel_rfl) (fun _ _ _ h => h) (Or.inl ⟨by rfl, ?hyr9_0⟩) (by assumption) ?restr9_0
                  case hyr9_0 => (intro w hSw; (try dsimp only at hSw); go_simp <;> with_reducible rfl)
                  (try simp only [Act.put, List.setIfInBounds_toArray, List.set_cons_zero, List.set_cons_succ])
                  refine wpAnyH_take (i := 1) (oi := { dst := some 79, op := _, type := _, pos := _, after := _, guard := none }) (v := ?vr9_1) rfl (by kernel_rfl) (by kernel_rfl) (by kernel_rfl) (fun _ _ _ h => h) (Or.inl ⟨by rfl, ?hyr9_1⟩) (by assumption) ?restr9_1
                  case hyr9_1 => (intro w hSw; (try dsimp only at hSw); go_simp <;> with_reducible rfl)
                  (try simp only [Act.put, List.setIfInBounds_toArray, List.set_cons_zero, List.set_cons_succ])
                  refine wpAnyH_take (i := 2) (oi := { dst := some 80, op := _, type := _, pos := _, after := _, guard := none }) (v := ?vr9_2) rfl (by kernel_rfl) (by kernel_rfl) (by kernel_rfl) (fun _ _ _ h => h) (Or.inl ⟨by rfl, ?hyr9_2⟩) (by assumption) ?restr9_2
                  case hyr9_2 => (intro w hSw; (try dsimp only at hSw); go_simp <;> with_reducible rfl)
                  (try simp only [Act.put, List.setIfInBounds_toArray, List.set_cons_zero, List.set_cons_succ])
                  refine wpAnyH_take (i := 3) (oi := { dst := some 81, op := _, type := _, pos := _, after := _, guard := some (2, true) }) (v := ?vr9_3) rfl (by kernel_rfl) (by kernel_rfl) (by kernel_rfl) (fun _ _ _ h => h) (Or.inl ⟨by rfl, ?hyr9_3⟩) (by assumption) ?restr9_3
                  case hyr9_3 => (intro w hSw; (try dsimp only at hSw); go_simp <;> with_reducible rfl)
                  (try simp only [Act.put, List.setIfInBounds_toArray, List.set_cons_zero, List.set_cons_succ])
                  refine wpAnyH_take (i := 4) (oi := { dst := some 82, op := _, type := _, pos := _, after := _, guard := some (2, true) }) (v := ?vr9_4) rfl (by kernel_rfl) (by kernel_rfl) (by kernel_rfl) (fun _ _ _ h => h) (Or.inl ⟨by rfl, ?hyr9_4⟩) (by assumption) ?restr9_4
                  case hyr9_4 => (intro w hSw; (try dsimp only at hSw); go_simp <;> with_reducible rfl)
                  (try simp only [Act.put, List.setIfInBounds_toArray, List.set_cons_zero, List.set_cons_succ])
                  refine wpAnyH_take (i := 5) (oi := { dst := some 83, op := _, type := _, pos := _, after := _, guard := some (2, true) }) (v := ?vr9_5) rfl (by kernel_rfl) (by kernel_rfl) (by kernel_rfl) (fun _ _ _ h => h) (Or.inl ⟨by rfl, ?hyr9_5⟩) (by assumption) ?restr9_5
                  case hyr9_5 => (intro w hSw; (try dsimp only at hSw); go_simp <;> with_reducible rfl)
                  (try simp only [Act.put, List.setIfInBounds_toArray, List.set_cons_zero, List.set_cons_succ])
                  refine wpAnyH_take (i := 6) (oi := { dst := some 84, op := _, type := _, pos := _, after := _, guard := some (2, true) }) (v := ?vr9_6) rfl (by kernel_rfl) (by kernel_rfl) (by kernel_rfl) (fun _ _ _ h => h) (Or.inl ⟨by rfl, ?hyr9_6⟩) (by assumption) ?restr9_6
                  case hyr9_6 => (intro w hSw; (try dsimp only at hSw); go_simp <;> with_reducible rfl)
                  (try simp only [Act.put, List.setIfInBounds_toArray, List.set_cons_zero, List.set_cons_succ])
                  refine wpAnyH_take (i := 7) (oi := { dst := some 85, op := _, type := _, pos := _, after := _, guard := some (2, true) }) (v := ?vr9_7) rfl (by kernel_rfl) (by kernel_rfl) (by kernel_rfl) (fun _ _ _ h => h) (Or.inl ⟨by rfl, ?hyr9_7⟩) (by assumption) ?restr9_7
                  case hyr9_7 => (intro w hSw; (try dsimp only at hSw); go_simp <;> with_reducible rfl)
                  (try simp only [Act.put, List.setIfInBounds_toArray, List.set_cons_zero, List.set_cons_succ])
                  refine wpAnyH_ready (rs := [8]) (by kernel_rfl) (by simp) ?_
                  refine AllReadyH.cons (o := { dst := some 86, op := _, type := _, pos := _, after := _, guard := some (2, true) }) rfl (fun K hK => ?_) AllReadyH.nil
                  go_simp
                  (refine hc1.out.mono ?_; rintro e w7 ⟨rfl, q7, o7, hw7⟩; have b7 : Below w6.heap.size w6 w7 := (by rw [hw7]; exact b_then (b_drew1 w6) (below_grow _ _ _)); clear hw7)
                  (try go_wp2_with fail)
                  refine hK.out _ _ ((hkeep.out _ (b_then b6.out b7))) (fun hHeld => ?_)
                  clear hK K
                  (try simp only [Act.put, List.setIfInBounds_toArray, List.set_cons_zero, List.set_cons_succ])
                  refine wpAnyH_take (i := 9) (oi := { dst := some 87, op := _, type := _, pos := _, after := _, guard := some (2, true) }) (v := ?vr9_8) rfl (by kernel_rfl) (by kernel_rfl) (by kernel_rfl) (fun _ _ _ h => h) (Or.inl ⟨by rfl, ?hyr9_8⟩) (by assumption) ?restr9_8
                  case hyr9_8 => (intro w hSw; (try dsimp only at hSw); go_simp <;> with_reducible rfl)
                  (try simp only [Act.put, List.setIfInBounds_toArray, List.set_cons_zero, List.set_cons_succ])
                  refine wpAnyH_take (i := 10) (oi := { dst := some 88, op := _, type := _, pos := _, after := _, guard := none }) (v := ?vr9_9) rfl (by kernel_rfl) (by kernel_rfl) (by kernel_rfl) (fun _ _ _ h => h) (Or.inl ⟨by rfl, ?hyr9_9⟩) (by assumption) ?restr9_9
                  case hyr9_9 => (intro w hSw; (try dsimp only at hSw); go_simp <;> with_reducible rfl)
                  (try simp only [Act.put, List.setIfInBounds_toArray, List.set_cons_zero, List.set_cons_succ])
                  refine wpAnyH_take (i := 11) (oi := { dst := some 89, op := _, type := _, pos := _, after := _, guard := none }) (v := ?vr9_10) rfl (by kernel_rfl) (by kernel_rfl) (by kernel_rfl) (fun _ _ _ h => h) (Or.inl ⟨by rfl, ?hyr9_10⟩) (by assumption) ?restr9_10
                  case hyr9_10 => (intro w hSw; (try dsimp only at hSw); go_simp <;> with_reducible rfl)
                  (try simp only [Act.put, List.setIfInBounds_toArray, List.set_cons_zero, List.set_cons_succ])
                  refine wpAnyH_take (i := 12) (oi := { dst := some 90, op := _, type := _, pos := _, after := _, guard := some (11, true) }) (v := ?vr9_11) rfl (by kernel_rfl) (by kernel_rfl) (by kernel_rfl) (fun _ _ _ h => h) (Or.inl ⟨by rfl, ?hyr9_11⟩) (by assumption) ?restr9_11
                  case hyr9_11 => (intro w hSw; (try dsimp only at hSw); go_simp <;> with_reducible rfl)
                  (try simp only [Act.put, List.setIfInBounds_toArray, List.set_cons_zero, List.set_cons_succ])
                  refine wpAnyH_take (i := 13) (oi := { dst := some 91, op := _, type := _, pos := _, after := _, guard := some (11, true) }) (v := ?vr9_12) rfl (by kernel_rfl) (by kernel_rfl) (by kernel_rfl) (fun _ _ _ h => h) (Or.inl ⟨by rfl, ?hyr9_12⟩) (by assumption) ?restr9_12
                  case hyr9_12 => (intro w hSw; (try dsimp only at hSw); go_simp <;> with_reducible rfl)
                  (try simp only [Act.put, List.setIfInBounds_toArray, List.set_cons_zero, List.set_cons_succ])
                  refine wpAnyH_take (i := 14) (oi := { dst := some 92, op := _, type := _, pos := _, after := _, guard := some (11, true) }) (v := ?vr9_13) rfl (by kernel_rfl) (by kernel_rfl) (by kernel_rfl) (fun _ _ _ h => h) (Or.inl ⟨by rfl, ?hyr9_13⟩) (by assumption) ?restr9_13
                  case hyr9_13 => (intro w hSw; (try dsimp only at hSw); go_simp <;> with_reducible rfl)
                  (try simp only [Act.put, List.setIfInBounds_toArray, List.set_cons_zero, List.set_cons_succ])
                  refine wpAnyH_take (i := 15) (oi := { dst := some 93, op := _, type := _, pos := _, after := _, guard := some (11, true) }) (v := ?vr9_14) rfl (by kernel_rfl) (by kernel_rfl) (by kernel_rfl) (fun _ _ _ h => h) (Or.inl ⟨by rfl, ?hyr9_14⟩) (by assumption) ?restr9_14
                  case hyr9_14 => (intro w hSw; (try dsimp only at hSw); go_simp <;> with_reducible rfl)
                  (try simp only [Act.put, List.setIfInBounds_toArray, List.set_cons_zero, List.set_cons_succ])
                  refine wpAnyH_take (i := 16) (oi := { dst := some 94, op := _, type := _, pos := _, after := _, guard := some (11, true) }) (v := ?vr9_15) rfl (by kernel_rfl) (by kernel_rfl) (by kernel_rfl) (fun _ _ _ h => h) (Or.inl ⟨by rfl, ?hyr9_15⟩) (by assumption) ?restr9_15
                  case hyr9_15 => (intro w hSw; (try dsimp only at hSw); go_simp <;> with_reducible rfl)
                  (try simp only [Act.put, List.setIfInBounds_toArray, List.set_cons_zero, List.set_cons_succ])
                  refine wpAnyH_ready (rs := [17]) (by kernel_rfl) (by simp) ?_
                  refine AllReadyH.cons (o := { dst := some 95, op := _, type := _, pos := _, after := _, guard := some (11, true) }) rfl (fun K hK => ?_) AllReadyH.nil
                  go_simp
                  (refine (hc2.out _).mono ?_; rintro e w8 ⟨rfl, q8, o8, hw8⟩; have b8 : Below w6.heap.size w6 w8 := (by rw [hw8]; exact b_then b7 (below_grow _ _ _)); clear hw8)
                  (try go_wp2_with fail)
                  refine hK.out _ _ ((hkeep.out _ (b_then b6.out b8))) (fun hHeld => ?_)
                  clear hK K
                  (try simp only [Act.put, List.setIfInBounds_toArray, List.set_cons_zero, List.set_cons_succ])
                  refine wpAnyH_take (i := 18) (oi := { dst := some 96, op := _, type := _, pos := _, after := _, guard := some (11, true) }) (v := ?vr9_16) rfl (by kernel_rfl) (by kernel_rfl) (by kernel_rfl) (fun _ _ _ h => h) (Or.inl ⟨by rfl, ?hyr9_16⟩) (by assumption) ?restr9_16
                  case hyr9_16 => (intro w hSw; (try dsimp only at hSw); go_simp <;> with_reducible rfl)
                  (try simp only [Act.put, List.setIfInBounds_toArray, List.set_cons_zero, List.set_cons_succ])
                  refine wpAnyH_take (i := 19) (oi := { dst := some 97, op := _, type := _, pos := _, after := _, guard := none }) (v := ?vr9_17) rfl (by kernel_rfl) (by kernel_rfl) (by kernel_rfl) (fun _ _ _ h => h) (Or.inl ⟨by rfl, ?hyr9_17⟩) (by assumption) ?restr9_17
                  case hyr9_17 => (intro w hSw; (try dsimp only at hSw); go_simp <;> with_reducible rfl)
                  (try simp only [Act.put, List.setIfInBounds_toArray, List.set_cons_zero, List.set_cons_succ])
                  refine wpAnyH_done (by kernel_rfl) ?_ _
                  have hbF := Lib.hid (b_then b6.out b8)
                  clear k1 k2
                  go_wp2
                  go_roundw
                  case measure => simp [intOf]; exact hms.out
                  case rel => exact ⟨k + 1, _, hkl.out, rfl, by simp, Lib.hid (by simpa using htF.out), b_next hb.out hbF.out (Nat.le_refl _)⟩
                · have d1 : decide (c1 ≤ 0) = false := decide_eq_false k1
                  have k1' : 0 < c1 := by omega
                  go_wp2_with fail
                  refine wp_region_held_drew (S := (fun w' => (w'.cell? ⟨b, off + k * 3, none⟩ = some (.string z.f.id) ∧ w'.cell? ⟨b, off + k * 3 + 1, none⟩ = some (.int .i64 z.f.high) ∧ w'.cell? ⟨b, off + k * 3 + 2, none⟩ = some (.slice z.pa z.f.pars.length z.pc)) ∧ (w'.cell? ⟨g4, 0, none⟩ = some (.string bx.f.id) ∧ w'.cell? ⟨g4, 1, none⟩ = some (.int .i64 bx.f.high) ∧ w'.cell? ⟨g4, 2, none⟩ = some (.slice bx.pa bx.f.pars.length bx.pc)) ∧ (w'.cell? ⟨w.heap.size, 0, none⟩ = some (.string x.f.id) ∧ w'.cell? ⟨w.heap.size, 1, none⟩ = some (.int .i64 x.f.high) ∧ w'.cell? ⟨w.heap.size, 2, none⟩ = some (.slice x.pa x.f.pars.length x.pc)) ∧ (w'.cell? ⟨w.heap.size + 1, 0, none⟩ = some (.string y.f.id) ∧ w'.cell? ⟨w.heap.size + 1, 1, none⟩ = some (.int .i64 y.f.high) ∧ w'.cell? ⟨w.heap.size + 1, 2, none⟩ = some (.slice y.pa y.f.pars.length y.pc)))) (by kernel_rfl) (hk6) (fun hHeld => ?_)
                  refine wpAnyH_take (i := 0) (oi := { dst := some 78, op := _, type := _, pos := _, after := _, guard := none }) (v := ?vr10_0) rfl (by kernel_rfl) (by kernel_rfl) (by kernel_rfl) (fun _ _ _ h => h) (Or.inl ⟨by rfl, ?hyr10_0⟩) (by assumption) ?restr10_0
                  case hyr10_0 => (intro w hSw; (try dsimp only at hSw); go_simp <;> with_reducible rfl)
                  (try simp only [Act.put, List.setIfInBounds_toArray, List.set_cons_zero, List.set_cons_succ])
                  refine wpAnyH_take (i := 1) (oi := { dst := some 79, op := _, type := _, pos := _, after := _, guard := none }) (v := ?vr10_1) rfl (by kernel_rfl) (by kernel_rfl) (by kernel_rfl) (fun _ _ _ h => h) (Or.inl ⟨by rfl, ?hyr10_1⟩) (by assumption) ?restr10_1
                  case hyr10_1 => (intro w hSw; (try dsimp only at hSw); go_simp <;> with_reducible rfl)
                  (try simp only [Act.put, List.setIfInBounds_toArray, List.set_cons_zero, List.set_cons_succ])
                  refine wpAnyH_take (i := 2) (oi := { dst := some 80, op := _, type := _, pos := _, after := _, guard := none }) (v := ?vr10_2) rfl (by kernel_rfl) (by kernel_rfl) (by kernel_rfl) (fun _ _ _ h => h) (Or.inl ⟨by rfl, ?hyr10_2⟩) (by assumption) ?restr10_2
                  case hyr10_2 => (intro w hSw; (try dsimp only at hSw); go_simp <;> with_reducible rfl)
                  (try simp only [Act.put, List.setIfInBounds_toArray, List.set_cons_zero, List.set_cons_succ])
                  refine wpAnyH_take (i := 3) (oi := { dst := some 81, op := _, type := _, pos := _, after := _, guard := some (2, true) }) (v := ?vr10_3) rfl (by kernel_rfl) (by kernel_rfl) (by kernel_rfl) (fun _ _ _ h => h) (Or.inl ⟨by rfl, ?hyr10_3⟩) (by assumption) ?restr10_3
                  case hyr10_3 => (intro w hSw; (try dsimp only at hSw); go_simp <;> with_reducible rfl)
                  (try simp only [Act.put, List.setIfInBounds_toArray, List.set_cons_zero, List.set_cons_succ])
                  refine wpAnyH_take (i := 4) (oi := { dst := some 82, op := _, type := _, pos := _, after := _, guard := some (2, true) }) (v := ?vr10_4) rfl (by kernel_rfl) (by kernel_rfl) (by kernel_rfl) (fun _ _ _ h => h) (Or.inl ⟨by rfl, ?hyr10_4⟩) (by assumption) ?restr10_4
                  case hyr10_4 => (intro w hSw; (try dsimp only at hSw); go_simp <;> with_reducible rfl)
                  (try simp only [Act.put, List.setIfInBounds_toArray, List.set_cons_zero, List.set_cons_succ])
                  refine wpAnyH_take (i := 5) (oi := { dst := some 83, op := _, type := _, pos := _, after := _, guard := some (2, true) }) (v := ?vr10_5) rfl (by kernel_rfl) (by kernel_rfl) (by kernel_rfl) (fun _ _ _ h => h) (Or.inl ⟨by rfl, ?hyr10_5⟩) (by assumption) ?restr10_5
                  case hyr10_5 => (intro w hSw; (try dsimp only at hSw); go_simp <;> with_reducible rfl)
                  (try simp only [Act.put, List.setIfInBounds_toArray, List.set_cons_zero, List.set_cons_succ])
                  refine wpAnyH_take (i := 6) (oi := { dst := some 84, op := _, type := _, pos := _, after := _, guard := some (2, true) }) (v := ?vr10_6) rfl (by kernel_rfl) (by kernel_rfl) (by kernel_rfl) (fun _ _ _ h => h) (Or.inl ⟨by rfl, ?hyr10_6⟩) (by assumption) ?restr10_6
                  case hyr10_6 => (intro w hSw; (try dsimp only at hSw); go_simp <;> with_reducible rfl)
                  (try simp only [Act.put, List.setIfInBounds_toArray, List.set_cons_zero, List.set_cons_succ])
                  refine wpAnyH_take (i := 7) (oi := { dst := some 85, op := _, type := _, pos := _, after := _, guard := some (2, true) }) (v := ?vr10_7) rfl (by kernel_rfl) (by kernel_rfl) (by kernel_rfl) (fun _ _ _ h => h) (Or.inl ⟨by rfl, ?hyr10_7⟩) (by assumption) ?restr10_7
                  case hyr10_7 => (intro w hSw; (try dsimp only at hSw); go_simp <;> with_reducible rfl)
                  (try simp only [Act.put, List.setIfInBounds_toArray, List.set_cons_zero, List.set_cons_succ])
                  refine wpAnyH_ready (rs := [8]) (by kernel_rfl) (by simp) ?_
                  refine AllReadyH.cons (o := { dst := some 86, op := _, type := _, pos := _, after := _, guard := some (2, true) }) rfl (fun K hK => ?_) AllReadyH.nil
                  go_simp
                  (refine hc1.out.mono ?_; rintro e w7 ⟨rfl, q7, o7, hw7⟩; have b7 : Below w6.heap.size w6 w7 := (by rw [hw7]; exact b_then (b_drew1 w6) (below_grow _ _ _)); clear hw7)
                  (try go_wp2_with fail)
                  refine hK.out _ _ ((hkeep.out _ (b_then b6.out b7))) (fun hHeld => ?_)
                  clear hK K
                  (try simp only [Act.put, List.setIfInBounds_toArray, List.set_cons_zero, List.set_cons_succ])
                  refine wpAnyH_take (i := 9) (oi := { dst := some 87, op := _, type := _, pos := _, after := _, guard := some (2, true) }) (v := ?vr10_8) rfl (by kernel_rfl) (by kernel_rfl) (by kernel_rfl) (fun _ _ _ h => h) (Or.inl ⟨by rfl, ?hyr10_8⟩) (by assumption) ?restr10_8
                  case hyr10_8 => (intro w hSw; (try dsimp only at hSw); go_simp <;> with_reducible rfl)
                  (try simp only [Act.put, List.setIfInBounds_toArray, List.set_cons_zero, List.set_cons_succ])
                  refine wpAnyH_take (i := 10) (oi := { dst := some 88, op := _, type := _, pos := _, after := _, guard := none }) (v := ?vr10_9) rfl (by kernel_rfl) (by kernel_rfl) (by kernel_rfl) (fun _ _ _ h => h) (Or.inl ⟨by rfl, ?hyr10_9⟩) (by assumption) ?restr10_9
                  case hyr10_9 => (intro w hSw; (try dsimp only at hSw); go_simp <;> with_reducible rfl)
                  (try simp only [Act.put, List.setIfInBounds_toArray, List.set_cons_zero, List.set_cons_succ])
                  refine wpAnyH_take (i := 11) (oi := { dst := some 89, op := _, type := _, pos := _, after := _, guard := none }) (v := ?vr10_10) rfl (by kernel_rfl) (by kernel_rfl) (by kernel_rfl) (fun _ _ _ h => h) (Or.inl ⟨by rfl, ?hyr10_10⟩) (by assumption) ?restr10_10
                  case hyr10_10 => (intro w hSw; (try dsimp only at hSw); go_simp <;> with_reducible rfl)
                  (try simp only [Act.put, List.setIfInBounds_toArray, List.set_cons_zero, List.set_cons_succ])
                  refine wpAnyH_take (i := 12) (oi := { dst := some 90, op := _, type := _, pos := _, after := _, guard := some (11, true) }) (v := undef) rfl (by kernel_rfl) (by kernel_rfl) (by kernel_rfl) (fun _ _ _ h => h) (Or.inr ⟨by rfl, rfl⟩) (by assumption) ?_
                  (try simp only [Act.put, List.setIfInBounds_toArray, List.set_cons_zero, List.set_cons_succ])
                  refine wpAnyH_take (i := 13) (oi := { dst := some 91, op := _, type := _, pos := _, after := _, guard := some (11, true) }) (v := undef) rfl (by kernel_rfl) (by kernel_rfl) (by kernel_rfl) (fun _ _ _ h => h) (Or.inr ⟨by rfl, rfl⟩) (by assumption) ?_
                  (try simp only [Act.put, List.setIfInBounds_toArray, List.set_cons_zero, List.set_cons_succ])
                  refine wpAnyH_take (i := 14) (oi := { dst := some 92, op := _, type := _, pos := _, after := _, guard := some (11, true) }) (v := undef) rfl (by kernel_rfl) (by kernel_rfl) (by kernel_rfl) (fun _ _ _ h => h) (Or.inr ⟨by rfl, rfl⟩) (by assumption) ?_
                  (try simp only [Act.put, List.setIfInBounds_toArray, List.set_cons_zero, List.set_cons_succ])
                  refine wpAnyH_take (i := 15) (oi := { dst := some 93, op := _, type := _, pos := _, after := _, guard := some (11, true) }) (v := undef) rfl (by kernel_rfl) (by kernel_rfl) (by kernel_rfl) (fun _ _ _ h => h) (Or.inr ⟨by rfl, rfl⟩) (by assumption) ?_
                  (try simp only [Act.put, List.setIfInBounds_toArray, List.set_cons_zero, List.set_cons_succ])
                  refine wpAnyH_take (i := 16) (oi := { dst := some 94, op := _, type := _, pos := _, after := _, guard := some (11, true) }) (v := undef) rfl (by kernel_rfl) (by kernel_rfl) (by kernel_rfl) (fun _ _ _ h => h) (Or.inr ⟨by rfl, rfl⟩) (by assumption) ?_
                  (try simp only [Act.put, List.setIfInBounds_toArray, List.set_cons_zero, List.set_cons_succ])
                  refine wpAnyH_take (i := 17) (oi := { dst := some 95, op := _, type := _, pos := _, after := _, guard := some (11, true) }) (v := undef) rfl (by kernel_rfl) (by kernel_rfl) (by kernel_rfl) (fun _ _ _ h => h) (Or.inr ⟨by rfl, rfl⟩) (by assumption) ?_
                  (try simp only [Act.put, List.setIfInBounds_toArray, List.set_cons_zero, List.set_cons_succ])
                  refine wpAnyH_take (i := 18) (oi := { dst := some 96, op := _, type := _, pos := _, after := _, guard := some (11, true) }) (v := undef) rfl (by kernel_rfl) (by kernel_rfl) (by kernel_rfl) (fun _ _ _ h => h) (Or.inr ⟨by rfl, rfl⟩) (by assumption) ?_
                  (try simp only [Act.put, List.setIfInBounds_toArray, List.set_cons_zero, List.set_cons_succ])
                  refine wpAnyH_take (i := 19) (oi := { dst := some 97, op := _, type := _, pos := _, after := _, guard := none }) (v := ?vr10_18) rfl (by kernel_rfl) (by kernel_rfl) (by kernel_rfl) (fun _ _ _ h => h) (Or.inl ⟨by rfl, ?hyr10_18⟩) (by assumption) ?restr10_18
                  case hyr10_18 => (intro w hSw; (try dsimp only at hSw); go_simp <;> with_reducible rfl)
                  (try simp only [Act.put, List.setIfInBounds_toArray, List.set_cons_zero, List.set_cons_succ])
                  refine wpAnyH_done (by kernel_rfl) ?_ _
                  have hbF := Lib.hid (b_then b6.out b7)
                  clear k1
                  go_wp2
                  go_roundw
                  case measure => simp [intOf]; exact hms.out
                  case rel => exact ⟨k + 1, _, hkl.out, rfl, by simp, Lib.hid (by simpa using htF.out), b_next hb.out hbF.out (Nat.le_refl _)⟩
        · obtain rfl : k = nL := by omega
          have d0 : ¬ (k : Int) < k := by omega
          have ht2 : t = true := ht.out.2 (by
            rcases hend.out with h | ⟨q, hq, e⟩
            · exact Or.inl h
            · exact Or.inr ⟨q, by rw [hnL.out, List.take_length]; exact hq, e⟩)
          subst ht2
          have bb := Lib.hid (b_then hres.out hb)
          clear hb
          go_wp2
          go_ret
          exact ⟨rfl, bb.out⟩
    · have e1 : (x.f.high == y.f.high) = true := by simpa using h1
      have e2 := str_ne h2
      clear h1 h2
      go_upto_region 8 with (fail)
      have hBe4 := Lib.hid (hBe.out w4 b3.out)
      clear hBe x0 x1 x2 y0 y1 y2 e1 e2
      go_wp2_with fail
      refine hBe4.out.mono ?_
      rintro e w5 ⟨bx, bt, rfl, hTop, hPb, hPl, b5⟩
      dsimp only [Fx.val]
      have hbt : bt = decide (0 < nL) := by rw [hnL.out]; exact hTop.1
      have hbe : (bt != decide ((0 : Int) < nL)) = false := by rw [hbt]; simp
      go_upto_region 9 with (fail)
      have hV := Lib.hid (FxVar.new w5 bx)
      have bA := b_alloc w5 (.cells #[.string bx.f.id, .int .i64 bx.f.high, .slice bx.pa bx.f.pars.length bx.pc] 24)
      replace b3 := Lib.hid (b_then (b_then b3.out b5) bA)
      replace hX := Lib.hid ((hX.out.next b5).next bA)
      replace hY := Lib.hid ((hY.out.next b5).next bA)
      replace hPb := Lib.hid (hPb.next bA)
      obtain ⟨g4, hg4⟩ : ∃ g, g = w5.heap.size := ⟨_, rfl⟩
      rw [← hg4] at hV ⊢
      generalize w5.alloc (.cells #[.string bx.f.id, .int .i64 bx.f.high, .slice bx.pa bx.f.pars.length bx.pc] 24) = v0 at *
      have hst : Hid ((!decide (0 < nL)) = true ↔ (nL = 0 ∨ ∃ z ∈ L.take 0, z.f = bx.f)) := Lib.hid (by simp)
      have hend : Hid (nL = 0 ∨ ∃ z ∈ L, z.f = bx.f) := Lib.hid (by
        by_cases h0 : nL = 0
        · exact Or.inl h0
        · exact Or.inr (hTop.2 (by rw [← hnL.out]; omega)).1)
      have hnone : Hid (∀ z ∈ L, ¬ under bx.f z.f) := Lib.hid fun z hz => (hTop.2 (List.length_pos_of_mem hz)).2 z hz
      have hcell : Hid (∀ k, k < nL → ∃ y, L[k]? = some y) := Lib.hid fun k hk => by
        have := hnL.out
        exact ⟨L[k], List.getElem?_eq_getElem (by omega)⟩
      have hkeep0 := Lib.hid fun w' (bb : Below v0.heap.size v0 w') => (⟨hV.out.next bb, hX.out.next bb, hY.out.next bb, hLz.out w' (b_then b3.out bb), hPb.out.next bb, fun z hz => (hFw.out.pars z hz).next (b_then hB.out (b_then b3.out bb))⟩ : FxVar w' g4 bx ∧ FxVar w' w.heap.size x ∧ FxVar w' (w.heap.size + 1) y ∧ FxsAt w' a b off L ∧ Pars w' bx ∧ ∀ z ∈ L, Pars w' z)
      have hres := Lib.hid (b_then hB.out b3.out)
      replace hn60 := Lib.hid hn60
      clear hBe4 hTop bA hV hX hY hPb b5 hbt hg4 hLz hB b3
      go_upto_region 13 with (fail)
      clear hbe
      go_loopw [10, 11] (fun inn i wr => ∃ (k : Nat) (t : Bool), k ≤ nL ∧ inn = .bool t ∧ i = .int .i64 (k : Int) ∧ Hid (t = true ↔ (nL = 0 ∨ ∃ z ∈ L.take k, z.f = bx.f)) ∧ Below v0.heap.size v0 wr) (fun _ i _ => nL - (intOf i).toNat)
      case atStart => exact ⟨0, _, Nat.zero_le _, rfl, rfl, hst, Below.refl _ _⟩
      case round =>
        obtain ⟨k, t, hk, rfl, rfl, ht, hb⟩ := hrel
        clear hst
        by_cases hlt : k < nL
        · obtain ⟨z, hz⟩ := hcell.out k hlt
          have hzm := List.mem_of_getElem? hz
          obtain ⟨-, -, -, hLr, -, -⟩ := hkeep0.out _ hb
          obtain rfl := hLr.addr (by have := hnL.out; omega)
          have k1 : (k : Int) < nL := by omega
          have k0 : 0 ≤ (k : Int) := by omega
          have hwk2 : wrap64 ((k : Int) + 1) = ((k + 1 : Nat) : Int) := wrap_next k (by have := hn60.out; omega)
          have hms : Hid (nL - (k + 1) < nL - k) := Lib.hid (by omega)
          have hkl : Hid (k + 1 ≤ nL) := Lib.hid hlt
          have htk : Hid (L.take (k + 1) = L.take k ++ [z]) := Lib.hid (by rw [List.take_add_one, hz]; rfl)
          have hkeep : Hid (∀ w', Below wr.heap.size wr w' → (w'.cell? ⟨b, off + k * 3, none⟩ = some (.string z.f.id) ∧ w'.cell? ⟨b, off + k * 3 + 1, none⟩ = some (.int .i64 z.f.high) ∧ w'.cell? ⟨b, off + k * 3 + 2, none⟩ = some (.slice z.pa z.f.pars.length z.pc)) ∧ (w'.cell? ⟨g4, 0, none⟩ = some (.string bx.f.id) ∧ w'.cell? ⟨g4, 1, none⟩ = some (.int .i64 bx.f.high) ∧ w'.cell? ⟨g4, 2, none⟩ = some (.slice bx.pa bx.f.pars.length bx.pc)) ∧ (w'.cell? ⟨w.heap.size, 0, none⟩ = some (.string x.f.id) ∧ w'.cell? ⟨w.heap.size, 1, none⟩ = some (.int .i64 x.f.high) ∧ w'.cell? ⟨w.heap.size, 2, none⟩ = some (.slice x.pa x.f.pars.length x.pc)) ∧ (w'.cell? ⟨w.heap.size + 1, 0, none⟩ = some (.string y.f.id) ∧ w'.cell? ⟨w.heap.size + 1, 1, none⟩ = some (.int .i64 y.f.high) ∧ w'.cell? ⟨w.heap.size + 1, 2, none⟩ = some (.slice y.pa y.f.pars.length y.pc))) := Lib.hid fun w' bb => by
            obtain ⟨h1, h2, h3, h4, -, -⟩ := hkeep0.out w' (b_next hb bb (Nat.le_refl _))
            exact ⟨⟨h4.id k z hz, h4.high k z hz, h4.pars k z hz⟩, h1.cell, h2.cell, h3.cell⟩
          obtain ⟨c, hc⟩ : ∃ c, c = cmp z.f bx.f := ⟨_, rfl⟩
          have hc0 : ¬ 0 < c := fun h => hnone.out z hzm (cmp_pos.1 (by rw [← hc]; exact h))
          have hC := Lib.hid fun w' => Compare_calls z bx w'
          rw [← hc] at hC
          have hS := Lib.hid fun w' (bb : Below wr.heap.size wr w') => same_calls w' z bx ((hkeep0.out w' (b_next hb bb (Nat.le_refl _))).2.2.2.2.2 z hzm) (hkeep0.out w' (b_next hb bb (Nat.le_refl _))).2.2.2.2.1 (hP.out z hzm) hPl
          obtain ⟨c1, hc1e⟩ : ∃ c, c = cmp y.f z.f := ⟨_, rfl⟩
          obtain ⟨c2, hc2e⟩ : ∃ c, c = cmp x.f z.f := ⟨_, rfl⟩
          replace hc1e := Lib.hid hc1e
          replace hc2e := Lib.hid hc2e
          have bd := b_drew1 wr
          have hk0 := hkeep.out _ bd
          replace hb := Lib.hid hb
          replace hz := Lib.hid hz
          replace hzm := Lib.hid hzm
          clear hlt hk hLr hc
          dsimp only [Fx.val] at hC hS
          go_wp2_with fail
          go_region_held3 (fun w' => (w'.cell? ⟨b, off + k * 3, none⟩ = some (.string z.f.id) ∧ w'.cell? ⟨b, off + k * 3 + 1, none⟩ = some (.int .i64 z.f.high) ∧ w'.cell? ⟨b, off + k * 3 + 2, none⟩ = some (.slice z.pa z.f.pars.length z.pc)) ∧ (w'.cell? ⟨g4, 0, none⟩ = some (.string bx.f.id) ∧ w'.cell? ⟨g4, 1, none⟩ = some (.int .i64 bx.f.high) ∧ w'.cell? ⟨g4, 2, none⟩ = some (.slice bx.pa bx.f.pars.length bx.pc)) ∧ (w'.cell? ⟨w.heap.size, 0, none⟩ = some (.string x.f.id) ∧ w'.cell? ⟨w.heap.size, 1, none⟩ = some (.int .i64 x.f.high) ∧ w'.cell? ⟨w.heap.size, 2, none⟩ = some (.slice x.pa x.f.pars.length x.pc)) ∧ (w'.cell? ⟨w.heap.size + 1, 0, none⟩ = some (.string y.f.id) ∧ w'.cell? ⟨w.heap.size + 1, 1, none⟩ = some (.int .i64 y.f.high) ∧ w'.cell? ⟨w.heap.size + 1, 2, none⟩ = some (.slice y.pa y.f.pars.length y.pc))) (first | exact hk0 | exact hkeep.out _ b5)
            (first | (go_at_call 12; refine (hC.out _).mono ?_; rintro e w5 ⟨rfl, q5, o5, hw5⟩; have b5 : Below wr.heap.size wr w5 := (by rw [hw5]; exact b_then bd (below_grow _ _ _)); clear hw5))
          all_goals
            have hk5 := hkeep.out _ (b_then b5 (b_drew1 w5))
            have bd5 := b_then b5 (b_drew1 w5)
            clear hk0
            cases t with
            | true =>
              have htF : Hid (true = true ↔ (nL = 0 ∨ ∃ z ∈ L.take (k + 1), z.f = bx.f)) := Lib.hid (by
                refine iff_of_true rfl ?_
                rcases ht.out.1 rfl with h | ⟨q, hq, e⟩
                · exact Or.inl h
                · exact Or.inr ⟨q, by rw [htk.out]; exact List.mem_append_left _ hq, e⟩)
              go_wp2_with fail
              refine wp_region_held_drew (S := (fun w' => (w'.cell? ⟨b, off + k * 3, none⟩ = some (.string z.f.id) ∧ w'.cell? ⟨b, off + k * 3 + 1, none⟩ = some (.int .i64 z.f.high) ∧ w'.cell? ⟨b, off + k * 3 + 2, none⟩ = some (.slice z.pa z.f.pars.length z.pc)) ∧ (w'.cell? ⟨g4, 0, none⟩ = some (.string bx.f.id) ∧ w'.cell? ⟨g4, 1, none⟩ = some (.int .i64 bx.f.high) ∧ w'.cell? ⟨g4, 2, none⟩ = some (.slice bx.pa bx.f.pars.length bx.pc)) ∧ (w'.cell? ⟨w.heap.size, 0, none⟩ = some (.string x.f.id) ∧ w'.cell? ⟨w.heap.size, 1, none⟩ = some (.int .i64 x.f.high) ∧ w'.cell? ⟨w.heap.size, 2, none⟩ = some (.slice x.pa x.f.pars.length x.pc)) ∧ (w'.cell? ⟨w.heap.size + 1, 0, none⟩ = some (.string y.f.id) ∧ w'.cell? ⟨w.heap.size + 1, 1, none⟩ = some (.int .i64 y.f.high) ∧ w'.cell? ⟨w.heap.size + 1, 2, none⟩ = some (.slice y.pa y.f.pars.length y.pc)))) (by kernel_rfl) (hk5) (fun hHeld => ?_)
              refine wpAnyH_take (i := 0) (oi := { dst := some 67, op := _, type := _, pos := _, after := _, guard := none }) (v := ?vr11_0) rfl (by kernel_rfl) (by kernel_rfl) (by kernel_rfl) (fun _ _ _ h => h) (Or.inl ⟨by rfl, ?hyr11_0⟩) (by assumption) ?restr11_0
              case hyr11_0 => (intro w hSw; (try dsimp only at hSw); go_simp <;> with_reducible rfl)
              (try simp only [Act.put, List.setIfInBounds_toArray, List.set_cons_zero, List.set_cons_succ])
              refine wpAnyH_take (i := 1) (oi := { dst := some 68, op := _, type := _, pos := _, after := _, guard := none }) (v := ?vr11_1) rfl (by kernel_rfl) (by kernel_rfl) (by kernel_rfl) (fun _ _ _ h => h) (Or.inl ⟨by rfl, ?hyr11_1⟩) (by assumption) ?restr11_1
              case hyr11_1 => (intro w hSw; (try dsimp only at hSw); go_simp <;> with_reducible rfl)
              (try simp only [Act.put, List.setIfInBounds_toArray, List.set_cons_zero, List.set_cons_succ])
              refine wpAnyH_take (i := 2) (oi := { dst := some 69, op := _, type := _, pos := _, after := _, guard := some (1, false) }) (v := undef) rfl (by kernel_rfl) (by kernel_rfl) (by kernel_rfl) (fun _ _ _ h => h) (Or.inr ⟨by rfl, rfl⟩) (by assumption) ?_
              (try simp only [Act.put, List.setIfInBounds_toArray, List.set_cons_zero, List.set_cons_succ])
              refine wpAnyH_take (i := 3) (oi := { dst := some 70, op := _, type := _, pos := _, after := _, guard := some (1, false) }) (v := undef) rfl (by kernel_rfl) (by kernel_rfl) (by kernel_rfl) (fun _ _ _ h => h) (Or.inr ⟨by rfl, rfl⟩) (by assumption) ?_
              (try simp only [Act.put, List.setIfInBounds_toArray, List.set_cons_zero, List.set_cons_succ])
              refine wpAnyH_take (i := 4) (oi := { dst := some 71, op := _, type := _, pos := _, after := _, guard := some (1, false) }) (v := undef) rfl (by kernel_rfl) (by kernel_rfl) (by kernel_rfl) (fun _ _ _ h => h) (Or.inr ⟨by rfl, rfl⟩) (by assumption) ?_
              (try simp only [Act.put, List.setIfInBounds_toArray, List.set_cons_zero, List.set_cons_succ])
              refine wpAnyH_take (i := 5) (oi := { dst := some 72, op := _, type := _, pos := _, after := _, guard := some (1, false) }) (v := undef) rfl (by kernel_rfl) (by kernel_rfl) (by kernel_rfl) (fun _ _ _ h => h) (Or.inr ⟨by rfl, rfl⟩) (by assumption) ?_
              (try simp only [Act.put, List.setIfInBounds_toArray, List.set_cons_zero, List.set_cons_succ])
              refine wpAnyH_take (i := 6) (oi := { dst := some 73, op := _, type := _, pos := _, after := _, guard := some (1, false) }) (v := undef) rfl (by kernel_rfl) (by kernel_rfl) (by kernel_rfl) (fun _ _ _ h => h) (Or.inr ⟨by rfl, rfl⟩) (by assumption) ?_
              (try simp only [Act.put, List.setIfInBounds_toArray, List.set_cons_zero, List.set_cons_succ])
              refine wpAnyH_take (i := 7) (oi := { dst := some 74, op := _, type := _, pos := _, after := _, guard := some (1, false) }) (v := undef) rfl (by kernel_rfl) (by kernel_rfl) (by kernel_rfl) (fun _ _ _ h => h) (Or.inr ⟨by rfl, rfl⟩) (by assumption) ?_
              (try simp only [Act.put, List.setIfInBounds_toArray, List.set_cons_zero, List.set_cons_succ])
              refine wpAnyH_take (i := 8) (oi := { dst := some 75, op := _, type := _, pos := _, after := _, guard := none }) (v := ?vr11_8) rfl (by kernel_rfl) (by kernel_rfl) (by kernel_rfl) (fun _ _ _ h => h) (Or.inl ⟨by rfl, ?hyr11_8⟩) (by assumption) ?restr11_8
              case hyr11_8 => (intro w hSw; (try dsimp only at hSw); go_simp <;> with_reducible rfl)
              (try simp only [Act.put, List.setIfInBounds_toArray, List.set_cons_zero, List.set_cons_succ])
              refine wpAnyH_take (i := 9) (oi := { dst := some 10, op := _, type := _, pos := _, after := _, guard := none }) (v := ?vr11_9) rfl (by kernel_rfl) (by kernel_rfl) (by kernel_rfl) (fun _ _ _ h => h) (Or.inl ⟨by rfl, ?hyr11_9⟩) (by assumption) ?restr11_9
              case hyr11_9 => (intro w hSw; (try dsimp only at hSw); go_simp <;> with_reducible rfl)
              (try simp only [Act.put, List.setIfInBounds_toArray, List.set_cons_zero, List.set_cons_succ])
              refine wpAnyH_done (by kernel_rfl) ?_ _
              obtain ⟨w6, hw6⟩ : ∃ w6, w6 = w5.drew := ⟨_, rfl⟩
              have b6 := Lib.hid bd5
              rw [← hw6] at b6 ⊢
              have hk6 := hkeep.out _ (b_then b6.out (b_drew1 w6))
              clear hw6 bd5 hk5 b5
              have b7 := b_drew1 w6
              go_wp2_with fail
              refine wp_region_held_drew (S := (fun w' => (w'.cell? ⟨b, off + k * 3, none⟩ = some (.string z.f.id) ∧ w'.cell? ⟨b, off + k * 3 + 1, none⟩ = some (.int .i64 z.f.high) ∧ w'.cell? ⟨b, off + k * 3 + 2, none⟩ = some (.slice z.pa z.f.pars.length z.pc)) ∧ (w'.cell? ⟨g4, 0, none⟩ = some (.string bx.f.id) ∧ w'.cell? ⟨g4, 1, none⟩ = some (.int .i64 bx.f.high) ∧ w'.cell? ⟨g4, 2, none⟩ = some (.slice bx.pa bx.f.pars.length bx.pc)) ∧ (w'.cell? ⟨w.heap.size, 0, none⟩ = some (.string x.f.id) ∧ w'.cell? ⟨w.heap.size, 1, none⟩ = some (.int .i64 x.f.high) ∧ w'.cell? ⟨w.heap.size, 2, none⟩ = some (.slice x.pa x.f.pars.length x.pc)) ∧ (w'.cell? ⟨w.heap.size + 1, 0, none⟩ = some (.string y.f.id) ∧ w'.cell? ⟨w.heap.size + 1, 1, none⟩ = some (.int .i64 y.f.high) ∧ w'.cell? ⟨w.heap.size + 1, 2, none⟩ = some (.slice y.pa y.f.pars.length y.pc)))) (by kernel_rfl) (hk6) (fun hHeld => ?_)
              refine wpAnyH_take (i := 0) (oi := { dst := some 78, op := _, type := _, pos := _, after := _, guard := none }) (v := ?vr12_0) rfl (by kernel_rfl) (by kernel_rfl) (by kernel_rfl) (fun _ _ _ h => h) (Or.inl ⟨by rfl, ?hyr12_0⟩) (by assumption) ?restr12_0
              case hyr12_0 => (intro w hSw; (try dsimp only at hSw); go_simp <;> with_reducible rfl)
              (try simp only [Act.put, List.setIfInBounds_toArray, List.set_cons_zero, List.set_cons_succ])
              refine wpAnyH_take (i := 1) (oi := { dst := some 79, op := _, type := _, pos := _, after := _, guard := none }) (v := ?vr12_1) rfl (by kernel_rfl) (by kernel_rfl) (by kernel_rfl) (fun _ _ _ h => h) (Or.inl ⟨by rfl, ?hyr12_1⟩) (by assumption) ?restr12_1
              case hyr12_1 => (intro w hSw; (try dsimp only at hSw); go_simp <;> with_reducible rfl)
              (try simp only [Act.put, List.setIfInBounds_toArray, List.set_cons_zero, List.set_cons_succ])
              refine wpAnyH_take (i := 2) (oi := { dst := some 80, op := _, type := _, pos := _, after := _, guard := none }) (v := ?vr12_2) rfl (by kernel_rfl) (by kernel_rfl) (by kernel_rfl) (fun _ _ _ h => h) (Or.inl ⟨by rfl, ?hyr12_2⟩) (by assumption) ?restr12_2
              case hyr12_2 => (intro w hSw; (try dsimp only at hSw); go_simp <;> with_reducible rfl)
              (try simp only [Act.put, List.setIfInBounds_toArray, List.set_cons_zero, List.set_cons_succ])
              refine wpAnyH_take (i := 3) (oi := { dst := some 81, op := _, type := _, pos := _, after := _, guard := some (2, true) }) (v := undef) rfl (by kernel_rfl) (by kernel_rfl) (by kernel_rfl) (fun _ _ _ h => h) (Or.inr ⟨by rfl, rfl⟩) (by assumption) ?_
              (try simp only [Act.put, List.setIfInBounds_toArray, List.set_cons_zero, List.set_cons_succ])
              refine wpAnyH_take (i := 4) (oi := { dst := some 82, op := _, type := _, pos := _, after := _, guard := some (2, true) }) (v := undef) rfl (by kernel_rfl) (by kernel_rfl) (by kernel_rfl) (fun _ _ _ h => h) (Or.inr ⟨by rfl, rfl⟩) (by assumption) ?_
              (try simp only [Act.put, List.setIfInBounds_toArray, List.set_cons_zero, List.set_cons_succ])
              refine wpAnyH_take (i := 5) (oi := { dst := some 83, op := _, type := _, pos := _, after := _, guard := some (2, true) }) (v := undef) rfl (by kernel_rfl) (by kernel_rfl) (by kernel_rfl) (fun _ _ _ h => h) (Or.inr ⟨by rfl, rfl⟩) (by assumption) ?_
              (try simp only [Act.put, List.setIfInBounds_toArray, List.set_cons_zero, List.set_cons_succ])
              refine wpAnyH_take (i := 6) (oi := { dst := some 84, op := _, type := _, pos := _, after := _, guard := some (2, true) }) (v := undef) rfl (by kernel_rfl) (by kernel_rfl) (by kernel_rfl) (fun _ _ _ h => h) (Or.inr ⟨by rfl, rfl⟩) (by assumption) ?_
              (try simp only [Act.put, List.setIfInBounds_toArray, List.set_cons_zero, List.set_cons_succ])
              refine wpAnyH_take (i := 7) (oi := { dst := some 85, op := _, type := _, pos := _, after := _, guard := some (2, true) }) (v := undef) rfl (by kernel_rfl) (by kernel_rfl) (by kernel_rfl) (fun _ _ _ h => h) (Or.inr ⟨by rfl, rfl⟩) (by assumption) ?_
              (try simp only [Act.put, List.setIfInBounds_toArray, List.set_cons_zero, List.set_cons_succ])
              refine wpAnyH_take (i := 8) (oi := { dst := some 86, op := _, type := _, pos := _, after := _, guard := some (2, true) }) (v := undef) rfl (by kernel_rfl) (by kernel_rfl) (by kernel_rfl) (fun _ _ _ h => h) (Or.inr ⟨by rfl, rfl⟩) (by assumption) ?_
              (try simp only [Act.put, List.setIfInBounds_toArray, List.set_cons_zero, List.set_cons_succ])
              refine wpAnyH_take (i := 9) (oi := { dst := some 87, op := _, type := _, pos := _, after := _, guard := some (2, true) }) (v := undef) rfl (by kernel_rfl) (by kernel_rfl) (by kernel_rfl) (fun _ _ _ h => h) (Or.inr ⟨by rfl, rfl⟩) (by assumption) ?_
              (try simp only [Act.put, List.setIfInBounds_toArray, List.set_cons_zero, List.set_cons_succ])
              refine wpAnyH_take (i := 10) (oi := { dst := some 88, op := _, type := _, pos := _, after := _, guard := none }) (v := ?vr12_10) rfl (by kernel_rfl) (by kernel_rfl) (by kernel_rfl) (fun _ _ _ h => h) (Or.inl ⟨by rfl, ?hyr12_10⟩) (by assumption) ?restr12_10
              case hyr12_10 => (intro w hSw; (try dsimp only at hSw); go_simp <;> with_reducible rfl)
              (try simp only [Act.put, List.setIfInBounds_toArray, List.set_cons_zero, List.set_cons_succ])
              refine wpAnyH_take (i := 11) (oi := { dst := some 89, op := _, type := _, pos := _, after := _, guard := none }) (v := ?vr12_11) rfl (by kernel_rfl) (by kernel_rfl) (by kernel_rfl) (fun _ _ _ h => h) (Or.inl ⟨by rfl, ?hyr12_11⟩) (by assumption) ?restr12_11
              case hyr12_11 => (intro w hSw; (try dsimp only at hSw); go_simp <;> with_reducible rfl)
              (try simp only [Act.put, List.setIfInBounds_toArray, List.set_cons_zero, List.set_cons_succ])
              refine wpAnyH_take (i := 12) (oi := { dst := some 90, op := _, type := _, pos := _, after := _, guard := some (11, true) }) (v := undef) rfl (by kernel_rfl) (by kernel_rfl) (by kernel_rfl) (fun _ _ _ h => h) (Or.inr ⟨by rfl, rfl⟩) (by assumption) ?_
              (try simp only [Act.put, List.setIfInBounds_toArray, List.set_cons_zero, List.set_cons_succ])
              refine wpAnyH_take (i := 13) (oi := { dst := some 91, op := _, type := _, pos := _, after := _, guard := some (11, true) }) (v := undef) rfl (by kernel_rfl) (by kernel_rfl) (by kernel_rfl) (fun _ _ _ h => h) (Or.inr ⟨by rfl, rfl⟩) (by assumption) ?_
              (try simp only [Act.put, List.setIfInBounds_toArray, List.set_cons_zero, List.set_cons_succ])
              refine wpAnyH_take (i := 14) (oi := { dst := some 92, op := _, type := _, pos := _, after := _, guard := some (11, true) }) (v := undef) rfl (by kernel_rfl) (by kernel_rfl) (by kernel_rfl) (fun _ _ _ h => h) (Or.inr ⟨by rfl, rfl⟩) (by assumption) ?_
              (try simp only [Act.put, List.setIfInBounds_toArray, List.set_cons_zero, List.set_cons_succ])
              refine wpAnyH_take (i := 15) (oi := { dst := some 93, op := _, type := _, pos := _, after := _, guard := some (11, true) }) (v := undef) rfl (by kernel_rfl) (by kernel_rfl) (by kernel_rfl) (fun _ _ _ h => h) (Or.inr ⟨by rfl, rfl⟩) (by assumption) ?_
              (try simp only [Act.put, List.setIfInBounds_toArray, List.set_cons_zero, List.set_cons_succ])
              refine wpAnyH_take (i := 16) (oi := { dst := some 94, op := _, type := _, pos := _, after := _, guard := some (11, true) }) (v := undef) rfl (by kernel_rfl) (by kernel_rfl) (by kernel_rfl) (fun _ _ _ h => h) (Or.inr ⟨by rfl, rfl⟩) (by assumption) ?_
              (try simp only [Act.put, List.setIfInBounds_toArray, List.set_cons_zero, List.set_cons_succ])
              refine wpAnyH_take (i := 17) (oi := { dst := some 95, op := _, type := _, pos := _, after := _, guard := some (11, true) }) (v := undef) rfl (by kernel_rfl) (by kernel_rfl) (by kernel_rfl) (fun _ _ _ h => h) (Or.inr ⟨by rfl, rfl⟩) (by assumption) ?_
              (try simp only [Act.put, List.setIfInBounds_toArray, List.set_cons_zero, List.set_cons_succ])
              refine wpAnyH_take (i := 18) (oi := { dst := some 96, op := _, type := _, pos := _, after := _, guard := some (11, true) }) (v := undef) rfl (by kernel_rfl) (by kernel_rfl) (by kernel_rfl) (fun _ _ _ h => h) (Or.inr ⟨by rfl, rfl⟩) (by assumption) ?_
              (try simp only [Act.put, List.setIfInBounds_toArray, List.set_cons_zero, List.set_cons_succ])
              refine wpAnyH_take (i := 19) (oi := { dst := some 97, op := _, type := _, pos := _, after := _, guard := none }) (v := ?vr12_19) rfl (by kernel_rfl) (by kernel_rfl) (by kernel_rfl) (fun _ _ _ h => h) (Or.inl ⟨by rfl, ?hyr12_19⟩) (by assumption) ?restr12_19
              case hyr12_19 => (intro w hSw; (try dsimp only at hSw); go_simp <;> with_reducible rfl)
              (try simp only [Act.put, List.setIfInBounds_toArray, List.set_cons_zero, List.set_cons_succ])
              refine wpAnyH_done (by kernel_rfl) ?_ _
              have hbF := Lib.hid (b_then b6.out b7)
              go_wp2
              go_roundw
              case measure => simp [intOf]; exact hms.out
              case rel => exact ⟨k + 1, _, hkl.out, rfl, by simp, Lib.hid (by simpa using htF.out), b_next hb.out hbF.out (Nat.le_refl _)⟩
            | false =>
              have hS5 := Lib.hid (hS.out _ bd5)
              go_wp2_with fail
              go_region_held3 (fun w' => (w'.cell? ⟨b, off + k * 3, none⟩ = some (.string z.f.id) ∧ w'.cell? ⟨b, off + k * 3 + 1, none⟩ = some (.int .i64 z.f.high) ∧ w'.cell? ⟨b, off + k * 3 + 2, none⟩ = some (.slice z.pa z.f.pars.length z.pc)) ∧ (w'.cell? ⟨g4, 0, none⟩ = some (.string bx.f.id) ∧ w'.cell? ⟨g4, 1, none⟩ = some (.int .i64 bx.f.high) ∧ w'.cell? ⟨g4, 2, none⟩ = some (.slice bx.pa bx.f.pars.length bx.pc)) ∧ (w'.cell? ⟨w.heap.size, 0, none⟩ = some (.string x.f.id) ∧ w'.cell? ⟨w.heap.size, 1, none⟩ = some (.int .i64 x.f.high) ∧ w'.cell? ⟨w.heap.size, 2, none⟩ = some (.slice x.pa x.f.pars.length x.pc)) ∧ (w'.cell? ⟨w.heap.size + 1, 0, none⟩ = some (.string y.f.id) ∧ w'.cell? ⟨w.heap.size + 1, 1, none⟩ = some (.int .i64 y.f.high) ∧ w'.cell? ⟨w.heap.size + 1, 2, none⟩ = some (.slice y.pa y.f.pars.length y.pc))) (first | exact hk5 | exact hkeep.out _ b6)
                (first | (go_at_call 14; refine (hS5.out).mono ?_; rintro e w6 ⟨⟨s, rfl, hs⟩, b6'⟩; have b6 := b_then bd5 b6'; clear b6'))
              all_goals
                have htF : Hid (s = true ↔ (nL = 0 ∨ ∃ z ∈ L.take (k + 1), z.f = bx.f)) := Lib.hid (by
                  have h0 := ht.out
                  rw [hs, htk.out]
                  constructor
                  · intro e; exact Or.inr ⟨z, List.mem_append_right _ (List.mem_singleton.2 rfl), e⟩
                  · rintro (e | ⟨q, hq, e⟩)
                    · have := h0.2 (Or.inl e); cases this
                    · rcases List.mem_append.1 hq with hq | hq
                      · have := h0.2 (Or.inr ⟨q, hq, e⟩); cases this
                      · rw [List.mem_singleton] at hq; subst hq; exact e)
                replace b6 := Lib.hid b6
                have hk6 := hkeep.out _ (b_then b6.out (b_drew1 w6))
                clear hk5 bd5 b5 hs
                have b7 := b_drew1 w6
                go_wp2_with fail
                refine wp_region_held_drew (S := (fun w' => (w'.cell? ⟨b, off + k * 3, none⟩ = some (.string z.f.id) ∧ w'.cell? ⟨b, off + k * 3 + 1, none⟩ = some (.int .i64 z.f.high) ∧ w'.cell? ⟨b, off + k * 3 + 2, none⟩ = some (.slice z.pa z.f.pars.length z.pc)) ∧ (w'.cell? ⟨g4, 0, none⟩ = some (.string bx.f.id) ∧ w'.cell? ⟨g4, 1, none⟩ = some (.int .i64 bx.f.high) ∧ w'.cell? ⟨g4, 2, none⟩ = some (.slice bx.pa bx.f.pars.length bx.pc)) ∧ (w'.cell? ⟨w.heap.size, 0, none⟩ = some (.string x.f.id) ∧ w'.cell? ⟨w.heap.size, 1, none⟩ = some (.int .i64 x.f.high) ∧ w'.cell? ⟨w.heap.size, 2, none⟩ = some (.slice x.pa x.f.pars.length x.pc)) ∧ (w'.cell? ⟨w.heap.size + 1, 0, none⟩ = some (.string y.f.id) ∧ w'.cell? ⟨w.heap.size + 1, 1, none⟩ = some (.int .i64 y.f.high) ∧ w'.cell? ⟨w.heap.size + 1, 2, none⟩ = some (.slice y.pa y.f.pars.length y.pc)))) (by kernel_rfl) (hk6) (fun hHeld => ?_)
                refine wpAnyH_take (i := 0) (oi := { dst := some 78, op := _, type := _, pos := _, after := _, guard := none }) (v := ?vr13_0) rfl (by kernel_rfl) (by kernel_rfl) (by kernel_rfl) (fun _ _ _ h => h) (Or.inl ⟨by rfl, ?hyr13_0⟩) (by assumption) ?restr13_0
                case hyr13_0 => (intro w hSw; (try dsimp only at hSw); go_simp <;> with_reducible rfl)
                (try simp only [Act.put, List.setIfInBounds_toArray, List.set_cons_zero, List.set_cons_succ])
                refine wpAnyH_take (i := 1) (oi := { dst := some 79, op := _, type := _, pos := _, after := _, guard := none }) (v := ?vr13_1) rfl (by kernel_rfl) (by kernel_rfl) (by kernel_rfl) (fun _ _ _ h => h) (Or.inl ⟨by rfl, ?hyr13_1⟩) (by assumption) ?restr13_1
                case hyr13_1 => (intro w hSw; (try dsimp only at hSw); go_simp <;> with_reducible rfl)
                (try simp only [Act.put, List.setIfInBounds_toArray, List.set_cons_zero, List.set_cons_succ])
                refine wpAnyH_take (i := 2) (oi := { dst := some 80, op := _, type := _, pos := _, after := _, guard := none }) (v := ?vr13_2) rfl (by kernel_rfl) (by kernel_rfl) (by kernel_rfl) (fun _ _ _ h => h) (Or.inl ⟨by rfl, ?hyr13_2⟩) (by assumption) ?restr13_2
                case hyr13_2 => (intro w hSw; (try dsimp only at hSw); go_simp <;> with_reducible rfl)
                (try simp only [Act.put, List.setIfInBounds_toArray, List.set_cons_zero, List.set_cons_succ])
                refine wpAnyH_take (i := 3) (oi := { dst := some 81, op := _, type := _, pos := _, after := _, guard := some (2, true) }) (v := undef) rfl (by kernel_rfl) (by kernel_rfl) (by kernel_rfl) (fun _ _ _ h => h) (Or.inr ⟨by rfl, rfl⟩) (by assumption) ?_
                (try simp only [Act.put, List.setIfInBounds_toArray, List.set_cons_zero, List.set_cons_succ])
                refine wpAnyH_take (i := 4) (oi := { dst := some 82, op := _, type := _, pos := _, after := _, guard := some (2, true) }) (v := undef) rfl (by kernel_rfl) (by kernel_rfl) (by kernel_rfl) (fun _ _ _ h => h) (Or.inr ⟨by rfl, rfl⟩) (by assumption) ?_
                (try simp only [Act.put, List.setIfInBounds_toArray, List.set_cons_zero, List.set_cons_succ])
                refine wpAnyH_take (i := 5) (oi := { dst := some 83, op := _, type := _, pos := _, after := _, guard := some (2, true) }) (v := undef) rfl (by kernel_rfl) (by kernel_rfl) (by kernel_rfl) (fun _ _ _ h => h) (Or.inr ⟨by rfl, rfl⟩) (by assumption) ?_
                (try simp only [Act.put, List.setIfInBounds_toArray, List.set_cons_zero, List.set_cons_succ])
                refine wpAnyH_take (i := 6) (oi := { dst := some 84, op := _, type := _, pos := _, after := _, guard := some (2, true) }) (v := undef) rfl (by kernel_rfl) (by kernel_rfl) (by kernel_rfl) (fun _ _ _ h => h) (Or.inr ⟨by rfl, rfl⟩) (by assumption) ?_
                (try simp only [Act.put, List.setIfInBounds_toArray, List.set_cons_zero, List.set_cons_succ])
                refine wpAnyH_take (i := 7) (oi := { dst := some 85, op := _, type := _, pos := _, after := _, guard := some (2, true) }) (v := undef) rfl (by kernel_rfl) (by kernel_rfl) (by kernel_rfl) (fun _ _ _ h => h) (Or.inr ⟨by rfl, rfl⟩) (by assumption) ?_
                (try simp only [Act.put, List.setIfInBounds_toArray, List.set_cons_zero, List.set_cons_succ])
                refine wpAnyH_take (i := 8) (oi := { dst := some 86, op := _, type := _, pos := _, after := _, guard := some (2, true) }) (v := undef) rfl (by kernel_rfl) (by kernel_rfl) (by kernel_rfl) (fun _ _ _ h => h) (Or.inr ⟨by rfl, rfl⟩) (by assumption) ?_
                (try simp only [Act.put, List.setIfInBounds_toArray, List.set_cons_zero, List.set_cons_succ])
                refine wpAnyH_take (i := 9) (oi := { dst := some 87, op := _, type := _, pos := _, after := _, guard := some (2, true) }) (v := undef) rfl (by kernel_rfl) (by kernel_rfl) (by kernel_rfl) (fun _ _ _ h => h) (Or.inr ⟨by rfl, rfl⟩) (by assumption) ?_
                (try simp only [Act.put, List.setIfInBounds_toArray, List.set_cons_zero, List.set_cons_succ])
                refine wpAnyH_take (i := 10) (oi := { dst := some 88, op := _, type := _, pos := _, after := _, guard := none }) (v := ?vr13_10) rfl (by kernel_rfl) (by kernel_rfl) (by kernel_rfl) (fun _ _ _ h => h) (Or.inl ⟨by rfl, ?hyr13_10⟩) (by assumption) ?restr13_10
                case hyr13_10 => (intro w hSw; (try dsimp only at hSw); go_simp <;> with_reducible rfl)
                (try simp only [Act.put, List.setIfInBounds_toArray, List.set_cons_zero, List.set_cons_succ])
                refine wpAnyH_take (i := 11) (oi := { dst := some 89, op := _, type := _, pos := _, after := _, guard := none }) (v := ?vr13_11) rfl (by kernel_rfl) (by kernel_rfl) (by kernel_rfl) (fun _ _ _ h => h) (Or.inl ⟨by rfl, ?hyr13_11⟩) (by assumption) ?restr13_11
                case hyr13_11 => (intro w hSw; (try dsimp only at hSw); go_simp <;> with_reducible rfl)
                (try simp only [Act.put, List.setIfInBounds_toArray, List.set_cons_zero, List.set_cons_succ])
                refine wpAnyH_take (i := 12) (oi := { dst := some 90, op := _, type := _, pos := _, after := _, guard := some (11, true) }) (v := undef) rfl (by kernel_rfl) (by kernel_rfl) (by kernel_rfl) (fun _ _ _ h => h) (Or.inr ⟨by rfl, rfl⟩) (by assumption) ?_
                (try simp only [Act.put, List.setIfInBounds_toArray, List.set_cons_zero, List.set_cons_succ])
                refine wpAnyH_take (i := 13) (oi := { dst := some 91, op := _, type := _, pos := _, after := _, guard := some (11, true) }) (v := undef) rfl (by kernel_rfl) (by kernel_rfl) (by kernel_rfl) (fun _ _ _ h => h) (Or.inr ⟨by rfl, rfl⟩) (by assumption) ?_
                (try simp only [Act.put, List.setIfInBounds_toArray, List.set_cons_zero, List.set_cons_succ])
                refine wpAnyH_take (i := 14) (oi := { dst := some 92, op := _, type := _, pos := _, after := _, guard := some (11, true) }) (v := undef) rfl (by kernel_rfl) (by kernel_rfl) (by kernel_rfl) (fun _ _ _ h => h) (Or.inr ⟨by rfl, rfl⟩) (by assumption) ?_
                (try simp only [Act.put, List.setIfInBounds_toArray, List.set_cons_zero, List.set_cons_succ])
                refine wpAnyH_take (i := 15) (oi := { dst := some 93, op := _, type := _, pos := _, after := _, guard := some (11, true) }) (v := undef) rfl (by kernel_rfl) (by kernel_rfl) (by kernel_rfl) (fun _ _ _ h => h) (Or.inr ⟨by rfl, rfl⟩) (by assumption) ?_
                (try simp only [Act.put, List.setIfInBounds_toArray, List.set_cons_zero, List.set_cons_succ])
                refine wpAnyH_take (i := 16) (oi := { dst := some 94, op := _, type := _, pos := _, after := _, guard := some (11, true) }) (v := undef) rfl (by kernel_rfl) (by kernel_rfl) (by kernel_rfl) (fun _ _ _ h => h) (Or.inr ⟨by rfl, rfl⟩) (by assumption) ?_
                (try simp only [Act.put, List.setIfInBounds_toArray, List.set_cons_zero, List.set_cons_succ])
                refine wpAnyH_take (i := 17) (oi := { dst := some 95, op := _, type := _, pos := _, after := _, guard := some (11, true) }) (v := undef) rfl (by kernel_rfl) (by kernel_rfl) (by kernel_rfl) (fun _ _ _ h => h) (Or.inr ⟨by rfl, rfl⟩) (by assumption) ?_
                (try simp only [Act.put, List.setIfInBounds_toArray, List.set_cons_zero, List.set_cons_succ])
                refine wpAnyH_take (i := 18) (oi := { dst := some 96, op := _, type := _, pos := _, after := _, guard := some (11, true) }) (v := undef) rfl (by kernel_rfl) (by kernel_rfl) (by kernel_rfl) (fun _ _ _ h => h) (Or.inr ⟨by rfl, rfl⟩) (by assumption) ?_
                (try simp only [Act.put, List.setIfInBounds_toArray, List.set_cons_zero, List.set_cons_succ])
                refine wpAnyH_take (i := 19) (oi := { dst := some 97, op := _, type := _, pos := _, after := _, guard := none }) (v := ?vr13_19) rfl (by kernel_rfl) (by kernel_rfl) (by kernel_rfl) (fun _ _ _ h => h) (Or.inl ⟨by rfl, ?hyr13_19⟩) (by assumption) ?restr13_19
                case hyr13_19 => (intro w hSw; (try dsimp only at hSw); go_simp <;> with_reducible rfl)
                (try simp only [Act.put, List.setIfInBounds_toArray, List.set_cons_zero, List.set_cons_succ])
                refine wpAnyH_done (by kernel_rfl) ?_ _
                have hbF := Lib.hid (b_then b6.out b7)
                go_wp2
                go_roundw
                case measure => simp [intOf]; exact hms.out
                case rel => exact ⟨k + 1, _, hkl.out, rfl, by simp, Lib.hid (by simpa using htF.out), b_next hb.out hbF.out (Nat.le_refl _)⟩
        · obtain rfl : k = nL := by omega
          have d0 : ¬ (k : Int) < k := by omega
          have ht2 : t = true := ht.out.2 (by
            rcases hend.out with h | ⟨q, hq, e⟩
            · exact Or.inl h
            · exact Or.inr ⟨q, by rw [hnL.out, List.take_length]; exact hq, e⟩)
          subst ht2
          have bb := Lib.hid (b_then hres.out hb)
          clear hb
          go_wp2
          go_ret
          exact ⟨rfl, bb.out⟩
    · have e1 : (x.f.high == y.f.high) = false := by simpa using h1
      clear h1
      go_upto_region 8 with (fail)
      have hBe4 := Lib.hid (hBe.out w4 b3.out)
      clear hBe x0 x1 x2 y0 y1 y2 e1 
      go_wp2_with fail
      refine hBe4.out.mono ?_
      rintro e w5 ⟨bx, bt, rfl, hTop, hPb, hPl, b5⟩
      dsimp only [Fx.val]
      have hbt : bt = decide (0 < nL) := by rw [hnL.out]; exact hTop.1
      have hbe : (bt != decide ((0 : Int) < nL)) = false := by rw [hbt]; simp
      go_upto_region 9 with (fail)
      have hV := Lib.hid (FxVar.new w5 bx)
      have bA := b_alloc w5 (.cells #[.string bx.f.id, .int .i64 bx.f.high, .slice bx.pa bx.f.pars.length bx.pc] 24)
      replace b3 := Lib.hid (b_then (b_then b3.out b5) bA)
      replace hX := Lib.hid ((hX.out.next b5).next bA)
      replace hY := Lib.hid ((hY.out.next b5).next bA)
      replace hPb := Lib.hid (hPb.next bA)
      obtain ⟨g4, hg4⟩ : ∃ g, g = w5.heap.size := ⟨_, rfl⟩
      rw [← hg4] at hV ⊢
      generalize w5.alloc (.cells #[.string bx.f.id, .int .i64 bx.f.high, .slice bx.pa bx.f.pars.length bx.pc] 24) = v0 at *
      have hst : Hid ((!decide (0 < nL)) = true ↔ (nL = 0 ∨ ∃ z ∈ L.take 0, z.f = bx.f)) := Lib.hid (by simp)
      have hend : Hid (nL = 0 ∨ ∃ z ∈ L, z.f = bx.f) := Lib.hid (by
        by_cases h0 : nL = 0
        · exact Or.inl h0
        · exact Or.inr (hTop.2 (by rw [← hnL.out]; omega)).1)
      have hnone : Hid (∀ z ∈ L, ¬ under bx.f z.f) := Lib.hid fun z hz => (hTop.2 (List.length_pos_of_mem hz)).2 z hz
      have hcell : Hid (∀ k, k < nL → ∃ y, L[k]? = some y) := Lib.hid fun k hk => by
        have := hnL.out
        exact ⟨L[k], List.getElem?_eq_getElem (by omega)⟩
      have hkeep0 := Lib.hid fun w' (bb : Below v0.heap.size v0 w') => (⟨hV.out.next bb, hX.out.next bb, hY.out.next bb, hLz.out w' (b_then b3.out bb), hPb.out.next bb, fun z hz => (hFw.out.pars z hz).next (b_then hB.out (b_then b3.out bb))⟩ : FxVar w' g4 bx ∧ FxVar w' w.heap.size x ∧ FxVar w' (w.heap.size + 1) y ∧ FxsAt w' a b off L ∧ Pars w' bx ∧ ∀ z ∈ L, Pars w' z)
      have hres := Lib.hid (b_then hB.out b3.out)
      replace hn60 := Lib.hid hn60
      clear hBe4 hTop bA hV hX hY hPb b5 hbt hg4 hLz hB b3
      go_upto_region 13 with (fail)
      clear hbe
      go_loopw [10, 11] (fun inn i wr => ∃ (k : Nat) (t : Bool), k ≤ nL ∧ inn = .bool t ∧ i = .int .i64 (k : Int) ∧ Hid (t = true ↔ (nL = 0 ∨ ∃ z ∈ L.take k, z.f = bx.f)) ∧ Below v0.heap.size v0 wr) (fun _ i _ => nL - (intOf i).toNat)
      case atStart => exact ⟨0, _, Nat.zero_le _, rfl, rfl, hst, Below.refl _ _⟩
      case round =>
        obtain ⟨k, t, hk, rfl, rfl, ht, hb⟩ := hrel
        clear hst
        by_cases hlt : k < nL
        · obtain ⟨z, hz⟩ := hcell.out k hlt
          have hzm := List.mem_of_getElem? hz
          obtain ⟨-, -, -, hLr, -, -⟩ := hkeep0.out _ hb
          obtain rfl := hLr.addr (by have := hnL.out; omega)
          have k1 : (k : Int) < nL := by omega
          have k0 : 0 ≤ (k : Int) := by omega
          have hwk2 : wrap64 ((k : Int) + 1) = ((k + 1 : Nat) : Int) := wrap_next k (by have := hn60.out; omega)
          have hms : Hid (nL - (k + 1) < nL - k) := Lib.hid (by omega)
          have hkl : Hid (k + 1 ≤ nL) := Lib.hid hlt
          have htk : Hid (L.take (k + 1) = L.take k ++ [z]) := Lib.hid (by rw [List.take_add_one, hz]; rfl)
          have hkeep : Hid (∀ w', Below wr.heap.size wr w' → (w'.cell? ⟨b, off + k * 3, none⟩ = some (.string z.f.id) ∧ w'.cell? ⟨b, off + k * 3 + 1, none⟩ = some (.int .i64 z.f.high) ∧ w'.cell? ⟨b, off + k * 3 + 2, none⟩ = some (.slice z.pa z.f.pars.length z.pc)) ∧ (w'.cell? ⟨g4, 0, none⟩ = some (.string bx.f.id) ∧ w'.cell? ⟨g4, 1, none⟩ = some (.int .i64 bx.f.high) ∧ w'.cell? ⟨g4, 2, none⟩ = some (.slice bx.pa bx.f.pars.length bx.pc)) ∧ (w'.cell? ⟨w.heap.size, 0, none⟩ = some (.string x.f.id) ∧ w'.cell? ⟨w.heap.size, 1, none⟩ = some (.int .i64 x.f.high) ∧ w'.cell? ⟨w.heap.size, 2, none⟩ = some (.slice x.pa x.f.pars.length x.pc)) ∧ (w'.cell? ⟨w.heap.size + 1, 0, none⟩ = some (.string y.f.id) ∧ w'.cell? ⟨w.heap.size + 1, 1, none⟩ = some (.int .i64 y.f.high) ∧ w'.cell? ⟨w.heap.size + 1, 2, none⟩ = some (.slice y.pa y.f.pars.length y.pc))) := Lib.hid fun w' bb => by
            obtain ⟨h1, h2, h3, h4, -, -⟩ := hkeep0.out w' (b_next hb bb (Nat.le_refl _))
            exact ⟨⟨h4.id k z hz, h4.high k z hz, h4.pars k z hz⟩, h1.cell, h2.cell, h3.cell⟩
          obtain ⟨c, hc⟩ : ∃ c, c = cmp z.f bx.f := ⟨_, rfl⟩
          have hc0 : ¬ 0 < c := fun h => hnone.out z hzm (cmp_pos.1 (by rw [← hc]; exact h))
          have hC := Lib.hid fun w' => Compare_calls z bx w'
          rw [← hc] at hC
          have hS := Lib.hid fun w' (bb : Below wr.heap.size wr w') => same_calls w' z bx ((hkeep0.out w' (b_next hb bb (Nat.le_refl _))).2.2.2.2.2 z hzm) (hkeep0.out w' (b_next hb bb (Nat.le_refl _))).2.2.2.2.1 (hP.out z hzm) hPl
          obtain ⟨c1, hc1e⟩ : ∃ c, c = cmp y.f z.f := ⟨_, rfl⟩
          obtain ⟨c2, hc2e⟩ : ∃ c, c = cmp x.f z.f := ⟨_, rfl⟩
          replace hc1e := Lib.hid hc1e
          replace hc2e := Lib.hid hc2e
          have bd := b_drew1 wr
          have hk0 := hkeep.out _ bd
          replace hb := Lib.hid hb
          replace hz := Lib.hid hz
          replace hzm := Lib.hid hzm
          clear hlt hk hLr hc
          dsimp only [Fx.val] at hC hS
          go_wp2_with fail
          go_region_held3 (fun w' => (w'.cell? ⟨b, off + k * 3, none⟩ = some (.string z.f.id) ∧ w'.cell? ⟨b, off + k * 3 + 1, none⟩ = some (.int .i64 z.f.high) ∧ w'.cell? ⟨b, off + k * 3 + 2, none⟩ = some (.slice z.pa z.f.pars.length z.pc)) ∧ (w'.cell? ⟨g4, 0, none⟩ = some (.string bx.f.id) ∧ w'.cell? ⟨g4, 1, none⟩ = some (.int .i64 bx.f.high) ∧ w'.cell? ⟨g4, 2, none⟩ = some (.slice bx.pa bx.f.pars.length bx.pc)) ∧ (w'.cell? ⟨w.heap.size, 0, none⟩ = some (.string x.f.id) ∧ w'.cell? ⟨w.heap.size, 1, none⟩ = some (.int .i64 x.f.high) ∧ w'.cell? ⟨w.heap.size, 2, none⟩ = some (.slice x.pa x.f.pars.length x.pc)) ∧ (w'.cell? ⟨w.heap.size + 1, 0, none⟩ = some (.string y.f.id) ∧ w'.cell? ⟨w.heap.size + 1, 1, none⟩ = some (.int .i64 y.f.high) ∧ w'.cell? ⟨w.heap.size + 1, 2, none⟩ = some (.slice y.pa y.f.pars.length y.pc))) (first | exact hk0 | exact hkeep.out _ b5)
            (first | (go_at_call 12; refine (hC.out _).mono ?_; rintro e w5 ⟨rfl, q5, o5, hw5⟩; have b5 : Below wr.heap.size wr w5 := (by rw [hw5]; exact b_then bd (below_grow _ _ _)); clear hw5))
          all_goals
            have hk5 := hkeep.out _ (b_then b5 (b_drew1 w5))
            have bd5 := b_then b5 (b_drew1 w5)
            clear hk0
            cases t with
            | true =>
              have htF : Hid (true = true ↔ (nL = 0 ∨ ∃ z ∈ L.take (k + 1), z.f = bx.f)) := Lib.hid (by
                refine iff_of_true rfl ?_
                rcases ht.out.1 rfl with h | ⟨q, hq, e⟩
                · exact Or.inl h
                · exact Or.inr ⟨q, by rw [htk.out]; exact List.mem_append_left _ hq, e⟩)
              go_wp2_with fail
              refine wp_region_held_drew (S := (fun w' => (w'.cell? ⟨b, off + k * 3, none⟩ = some (.string z.f.id) ∧ w'.cell? ⟨b, off + k * 3 + 1, none⟩ = some (.int .i64 z.f.high) ∧ w'.cell? ⟨b, off + k * 3 + 2, none⟩ = some (.slice z.pa z.f.pars.length z.pc)) ∧ (w'.cell? ⟨g4, 0, none⟩ = some (.string bx.f.id) ∧ w'.cell? ⟨g4, 1, none⟩ = some (.int .i64 bx.f.high) ∧ w'.cell? ⟨g4, 2, none⟩ = some (.slice bx.pa bx.f.pars.length bx.pc)) ∧ (w'.cell? ⟨w.heap.size, 0, none⟩ = some (.string x.f.id) ∧ w'.cell? ⟨w.heap.size, 1, none⟩ = some (.int .i64 x.f.high) ∧ w'.cell? ⟨w.heap.size, 2, none⟩ = some (.slice x.pa x.f.pars.length x.pc)) ∧ (w'.cell? ⟨w.heap.size + 1, 0, none⟩ = some (.string y.f.id) ∧ w'.cell? ⟨w.heap.size + 1, 1, none⟩ = some (.int .i64 y.f.high) ∧ w'.cell? ⟨w.heap.size + 1, 2, none⟩ = some (.slice y.pa y.f.pars.length y.pc)))) (by kernel_rfl) (hk5) (fun hHeld => ?_)
              refine wpAnyH_take (i := 0) (oi := { dst := some 67, op := _, type := _, pos := _, after := _, guard := none }) (v := ?vr14_0) rfl (by kernel_rfl) (by kernel_rfl) (by kernel_rfl) (fun _ _ _ h => h) (Or.inl ⟨by rfl, ?hyr14_0⟩) (by assumption) ?restr14_0
              case hyr14_0 => (intro w hSw; (try dsimp only at hSw); go_simp <;> with_reducible rfl)
              (try simp only [Act.put, List.setIfInBounds_toArray, List.set_cons_zero, List.set_cons_succ])
              refine wpAnyH_take (i := 1) (oi := { dst := some 68, op := _, type := _, pos := _, after := _, guard := none }) (v := ?vr14_1) rfl (by kernel_rfl) (by kernel_rfl) (by kernel_rfl) (fun _ _ _ h => h) (Or.inl ⟨by rfl, ?hyr14_1⟩) (by assumption) ?restr14_1
              case hyr14_1 => (intro w hSw; (try dsimp only at hSw); go_simp <;> with_reducible rfl)
              (try simp only [Act.put, List.setIfInBounds_toArray, List.set_cons_zero, List.set_cons_succ])
              refine wpAnyH_take (i := 2) (oi := { dst := some 69, op := _, type := _, pos := _, after := _, guard := some (1, false) }) (v := undef) rfl (by kernel_rfl) (by kernel_rfl) (by kernel_rfl) (fun _ _ _ h => h) (Or.inr ⟨by rfl, rfl⟩) (by assumption) ?_
              (try simp only [Act.put, List.setIfInBounds_toArray, List.set_cons_zero, List.set_cons_succ])
              refine wpAnyH_take (i := 3) (oi := { dst := some 70, op := _, type := _, pos := _, after := _, guard := some (1, false) }) (v := undef) rfl (by kernel_rfl) (by kernel_rfl) (by kernel_rfl) (fun _ _ _ h => h) (Or.inr ⟨by rfl, rfl⟩) (by assumption) ?_
              (try simp only [Act.put, List.setIfInBounds_toArray, List.set_cons_zero, List.set_cons_succ])
              refine wpAnyH_take (i := 4) (oi := { dst := some 71, op := _, type := _, pos := _, after := _, guard := some (1, false) }) (v := undef) rfl (by kernel_rfl) (by kernel_rfl) (by kernel_rfl) (fun _ _ _ h => h) (Or.inr ⟨by rfl, rfl⟩) (by assumption) ?_
              (try simp only [Act.put, List.setIfInBounds_toArray, List.set_cons_zero, List.set_cons_succ])
              refine wpAnyH_take (i := 5) (oi := { dst := some 72, op := _, type := _, pos := _, after := _, guard := some (1, false) }) (v := undef) rfl (by kernel_rfl) (by kernel_rfl) (by kernel_rfl) (fun _ _ _ h => h) (Or.inr ⟨by rfl, rfl⟩) (by assumption) ?_
              (try simp only [Act.put, List.setIfInBounds_toArray, List.set_cons_zero, List.set_cons_succ])
              refine wpAnyH_take (i := 6) (oi := { dst := some 73, op := _, type := _, pos := _, after := _, guard := some (1, false) }) (v := undef) rfl (by kernel_rfl) (by kernel_rfl) (by kernel_rfl) (fun _ _ _ h => h) (Or.inr ⟨by rfl, rfl⟩) (by assumption) ?_
              (try simp only [Act.put, List.setIfInBounds_toArray, List.set_cons_zero, List.set_cons_succ])
              refine wpAnyH_take (i := 7) (oi := { dst := some 74, op := _, type := _, pos := _, after := _, guard := some (1, false) }) (v := undef) rfl (by kernel_rfl) (by kernel_rfl) (by kernel_rfl) (fun _ _ _ h => h) (Or.inr ⟨by rfl, rfl⟩) (by assumption) ?_
              (try simp only [Act.put, List.setIfInBounds_toArray, List.set_cons_zero, List.set_cons_succ])
              refine wpAnyH_take (i := 8) (oi := { dst := some 75, op := _, type := _, pos := _, after := _, guard := none }) (v := ?vr14_8) rfl (by kernel_rfl) (by kernel_rfl) (by kernel_rfl) (fun _ _ _ h => h) (Or.inl ⟨by rfl, ?hyr14_8⟩) (by assumption) ?restr14_8
              case hyr14_8 => (intro w hSw; (try dsimp only at hSw); go_simp <;> with_reducible rfl)
              (try simp only [Act.put, List.setIfInBounds_toArray, List.set_cons_zero, List.set_cons_succ])
              refine wpAnyH_take (i := 9) (oi := { dst := some 10, op := _, type := _, pos := _, after := _, guard := none }) (v := ?vr14_9) rfl (by kernel_rfl) (by kernel_rfl) (by kernel_rfl) (fun _ _ _ h => h) (Or.inl ⟨by rfl, ?hyr14_9⟩) (by assumption) ?restr14_9
              case hyr14_9 => (intro w hSw; (try dsimp only at hSw); go_simp <;> with_reducible rfl)
              (try simp only [Act.put, List.setIfInBounds_toArray, List.set_cons_zero, List.set_cons_succ])
              refine wpAnyH_done (by kernel_rfl) ?_ _
              obtain ⟨w6, hw6⟩ : ∃ w6, w6 = w5.drew := ⟨_, rfl⟩
              have b6 := Lib.hid bd5
              rw [← hw6] at b6 ⊢
              have hk6 := hkeep.out _ (b_then b6.out (b_drew1 w6))
              clear hw6 bd5 hk5 b5
              have hc1 : Calls Try.prog 12 #[y.val, z.val] w6.drew fun e w' => e = .returned (.int .i64 c1) ∧ ∃ q os, w' = Sort.grow (w6.drew.drewN q) os := by rw [hc1e.out]; exact Compare_calls y z w6.drew
              have hc2 := Lib.hid fun w' => Compare_calls x z w'
              rw [← hc2e.out] at hc2
              replace hc1 := Lib.hid hc1
              dsimp only [Fx.val] at hc1 hc2
              by_cases k1 : c1 ≤ 0
              · have k2 : ¬ 0 < c2 := by rw [hc2e.out]; rw [hc1e.out] at k1; exact goes_on (by rw [← hr.out]; decide) k1
                have d1 : decide (c1 ≤ 0) = true := decide_eq_true k1
                have d2 : decide (0 < c2) = false := decide_eq_false k2
                go_wp2_with fail
                refine wp_region_held_drew (S := (fun w' => (w'.cell? ⟨b, off + k * 3, none⟩ = some (.string z.f.id) ∧ w'.cell? ⟨b, off + k * 3 + 1, none⟩ = some (.int .i64 z.f.high) ∧ w'.cell? ⟨b, off + k * 3 + 2, none⟩ = some (.slice z.pa z.f.pars.length z.pc)) ∧ (w'.cell? ⟨g4, 0, none⟩ = some (.string bx.f.id) ∧ w'.cell? ⟨g4, 1, none⟩ = some (.int .i64 bx.f.high) ∧ w'.cell? ⟨g4, 2, none⟩ = some (.slice bx.pa bx.f.pars.length bx.pc)) ∧ (w'.cell? ⟨w.heap.size, 0, none⟩ = some (.string x.f.id) ∧ w'.cell? ⟨w.heap.size, 1, none⟩ = some (.int .i64 x.f.high) ∧ w'.cell? ⟨w.heap.size, 2, none⟩ = some (.slice x.pa x.f.pars.length x.pc)) ∧ (w'.cell? ⟨w.heap.size + 1, 0, none⟩ = some (.string y.f.id) ∧ w'.cell? ⟨w.heap.size + 1, 1, none⟩ = some (.int .i64 y.f.high) ∧ w'.cell? ⟨w.heap.size + 1, 2, none⟩ = some (.slice y.pa y.f.pars.length y.pc)))) (by kernel_rfl) (hk6) (fun hHeld => ?_)
                refine wpAnyH_take (i := 0) (oi := { dst := some 78, op := _, type := _, pos := _, after := _, guard := none }) (v := ?vr15_0) rfl (by kernel_rfl) (by kernel_rfl) (by kernel_rfl) (fun _ _ _ h => h) (Or.inl ⟨by rfl, ?hyr15_0⟩) (by assumption) ?restr15_0
                case hyr15_0 => (intro w hSw; (try dsimp only at hSw); go_simp <;> with_reducible rfl)
                (try simp only [Act.put, List.setIfInBounds_toArray, List.set_cons_zero, List.set_cons_succ])
                refine wpAnyH_take (i := 1) (oi := { dst := some 79, op := _, type := _, pos := _, after := _, guard := none }) (v := ?vr15_1) rfl (by kernel_rfl) (by kernel_rfl) (by kernel_rfl) (fun _ _ _ h => h) (Or.inl ⟨by rfl, ?hyr15_1⟩) (by assumption) ?restr15_1
                case hyr15_1 => (intro w hSw; (try dsimp only at hSw); go_simp <;> with_reducible rfl)
                (try simp only [Act.put, List.setIfInBounds_toArray, List.set_cons_zero, List.set_cons_succ])
                refine wpAnyH_take (i := 2) (oi := { dst := some 80, op := _, type := _, pos := _, after := _, guard := none }) (v := ?vr15_2) rfl (by kernel_rfl) (by kernel_rfl) (by kernel_rfl) (fun _ _ _ h => h) (Or.inl ⟨by rfl, ?hyr15_2⟩) (by assumption) ?restr15_2
                case hyr15_2 => (intro w hSw; (try dsimp only at hSw); go_simp <;> with_reducible rfl)
                (try simp only [Act.put, List.setIfInBounds_toArray, List.set_cons_zero, List.set_cons_succ])
                refine wpAnyH_take (i := 3) (oi := { dst := some 81, op := _, type := _, pos := _, after := _, guard := some (2, true) }) (v := ?vr15_3) rfl (by kernel_rfl) (by kernel_rfl) (by kernel_rfl) (fun _ _ _ h => h) (Or.inl ⟨by rfl, ?hyr15_3⟩) (by assumption) ?restr15_3
                case hyr15_3 => (intro w hSw; (try dsimp only at hSw); go_simp <;> with_reducible rfl)
                (try simp only [Act.put, List.setIfInBounds_toArray, List.set_cons_zero, List.set_cons_succ])
                refine wpAnyH_take (i := 4) (oi := { dst := some 82, op := _, type := _, pos := _, after := _, guard := some (2, true) }) (v := ?vr15_4) rfl (by kernel_rfl) (by kernel_rfl) (by kernel_rfl) (fun _ _ _ h => h) (Or.inl ⟨by rfl, ?hyr15_4⟩) (by assumption) ?restr15_4
                case hyr15_4 => (intro w hSw; (try dsimp only at hSw); go_simp <;> with_reducible rfl)
                (try simp only [Act.put, List.setIfInBounds_toArray, List.set_cons_zero, List.set_cons_succ])
                refine wpAnyH_take (i := 5) (oi := { dst := some 83, op := _, type := _, pos := _, after := _, guard := some (2, true) }) (v := ?vr15_5) rfl (by kernel_rfl) (by kernel_rfl) (by kernel_rfl) (fun _ _ _ h => h) (Or.inl ⟨by rfl, ?hyr15_5⟩) (by assumption) ?restr15_5
                case hyr15_5 => (intro w hSw; (try dsimp only at hSw); go_simp <;> with_reducible rfl)
                (try simp only [Act.put, List.setIfInBounds_toArray, List.set_cons_zero, List.set_cons_succ])
                refine wpAnyH_take (i := 6) (oi := { dst := some 84, op := _, type := _, pos := _, after := _, guard := some (2, true) }) (v := ?vr15_6) rfl (by kernel_rfl) (by kernel_rfl) (by kernel_rfl) (fun _ _ _ h => h) (Or.inl ⟨by rfl, ?hyr15_6⟩) (by assumption) ?restr15_6
                case hyr15_6 => (intro w hSw; (try dsimp only at hSw); go_simp <;> with_reducible rfl)
                (try simp only [Act.put, List.setIfInBounds_toArray, List.set_cons_zero, List.set_cons_succ])
                refine wpAnyH_take (i := 7) (oi := { dst := some 85, op := _, type := _, pos := _, after := _, guard := some (2, true) }) (v := ?vr15_7) rfl (by kernel_rfl) (by kernel_rfl) (by kernel_rfl) (fun _ _ _ h => h) (Or.inl ⟨by rfl, ?hyr15_7⟩) (by assumption) ?restr15_7
                case hyr15_7 => (intro w hSw; (try dsimp only at hSw); go_simp <;> with_reducible rfl)
                (try simp only [Act.put, List.setIfInBounds_toArray, List.set_cons_zero, List.set_cons_succ])
                refine wpAnyH_ready (rs := [8]) (by kernel_rfl) (by simp) ?_
                refine AllReadyH.cons (o := { dst := some 86, op := _, type := _, pos := _, after := _, guard := some (2, true) }) rfl (fun K hK => ?_) AllReadyH.nil
                go_simp
                (refine hc1.out.mono ?_; rintro e w7 ⟨rfl, q7, o7, hw7⟩; have b7 : Below w6.heap.size w6 w7 := (by rw [hw7]; exact b_then (b_drew1 w6) (below_grow _ _ _)); clear hw7)
                (try go_wp2_with fail)
                refine hK.out _ _ ((hkeep.out _ (b_then b6.out b7))) (fun hHeld => ?_)
                clear hK K
                (try simp only [Act.put, List.setIfInBounds_toArray, List.set_cons_zero, List.set_cons_succ])
                refine wpAnyH_take (i := 9) (oi := { dst := some 87, op := _, type := _, pos := _, after := _, guard := some (2, true) }) (v := ?vr15_8) rfl (by kernel_rfl) (by kernel_rfl) (by kernel_rfl) (fun _ _ _ h => h) (Or.inl ⟨by rfl, ?hyr15_8⟩) (by assumption) ?restr15_8
                case hyr15_8 => (intro w hSw; (try dsimp only at hSw); go_simp <;> with_reducible rfl)
                (try simp only [Act.put, List.setIfInBounds_toArray, List.set_cons_zero, List.set_cons_succ])
                refine wpAnyH_take (i := 10) (oi := { dst := some 88, op := _, type := _, pos := _, after := _, guard := none }) (v := ?vr15_9) rfl (by kernel_rfl) (by kernel_rfl) (by kernel_rfl) (fun _ _ _ h => h) (Or.inl ⟨by rfl, ?hyr15_9⟩) (by assumption) ?restr15_9
                case hyr15_9 => (intro w hSw; (try dsimp only at hSw); go_simp <;> with_reducible rfl)
                (try simp only [Act.put, List.setIfInBounds_toArray, List.set_cons_zero, List.set_cons_succ])
                refine wpAnyH_take (i := 11) (oi := { dst := some 89, op := _, type := _, pos := _, after := _, guard := none }) (v := ?vr15_10) rfl (by kernel_rfl) (by kernel_rfl) (by kernel_rfl) (fun _ _ _ h => h) (Or.inl ⟨by rfl, ?hyr15_10⟩) (by assumption) ?restr15_10
                case hyr15_10 => (intro w hSw; (try dsimp only at hSw); go_simp <;> with_reducible rfl)
                (try simp only [Act.put, List.setIfInBounds_toArray, List.set_cons_zero, List.set_cons_succ])
                refine wpAnyH_take (i := 12) (oi := { dst := some 90, op := _, type := _, pos := _, after := _, guard := some (11, true) }) (v := ?vr15_11) rfl (by kernel_rfl) (by kernel_rfl) (by kernel_rfl) (fun _ _ _ h => h) (Or.inl ⟨by rfl, ?hyr15_11⟩) (by assumption) ?restr15_11
                case hyr15_11 => (intro w hSw; (try dsimp only at hSw); go_simp <;> with_reducible rfl)
                (try simp only [Act.put, List.setIfInBounds_toArray, List.set_cons_zero, List.set_cons_succ])
                refine wpAnyH_take (i := 13) (oi := { dst := some 91, op := _, type := _, pos := _, after := _, guard := some (11, true) }) (v := ?vr15_12) rfl (by kernel_rfl) (by kernel_rfl) (by kernel_rfl) (fun _ _ _ h => h) (Or.inl ⟨by rfl, ?hyr15_12⟩) (by assumption) ?restr15_12
                case hyr15_12 => (intro w hSw; (try dsimp only at hSw); go_simp <;> with_reducible rfl)
                (try simp only [Act.put, List.setIfInBounds_toArray, List.set_cons_zero, List.set_cons_succ])
                refine wpAnyH_take (i := 14) (oi := { dst := some 92, op := _, type := _, pos := _, after := _, guard := some (11, true) }) (v := ?vr15_13) rfl (by kernel_rfl) (by kernel_rfl) (by kernel_rfl) (fun _ _ _ h => h) (Or.inl ⟨by rfl, ?hyr15_13⟩) (by assumption) ?restr15_13
                case hyr15_13 => (intro w hSw; (try dsimp only at hSw); go_simp <;> with_reducible rfl)
                (try simp only [Act.put, List.setIfInBounds_toArray, List.set_cons_zero, List.set_cons_succ])
                refine wpAnyH_take (i := 15) (oi := { dst := some 93, op := _, type := _, pos := _, after := _, guard := some (11, true) }) (v := ?vr15_14) rfl (by kernel_rfl) (by kernel_rfl) (by kernel_rfl) (fun _ _ _ h => h) (Or.inl ⟨by rfl, ?hyr15_14⟩) (by assumption) ?restr15_14
                case hyr15_14 => (intro w hSw; (try dsimp only at hSw); go_simp <;> with_reducible rfl)
                (try simp only [Act.put, List.setIfInBounds_toArray, List.set_cons_zero, List.set_cons_succ])
                refine wpAnyH_take (i := 16) (oi := { dst := some 94, op := _, type := _, pos := _, after := _, guard := some (11, true) }) (v := ?vr15_15) rfl (by kernel_rfl) (by kernel_rfl) (by kernel_rfl) (fun _ _ _ h => h) (Or.inl ⟨by rfl, ?hyr15_15⟩) (by assumption) ?restr15_15
                case hyr15_15 => (intro w hSw; (try dsimp only at hSw); go_simp <;> with_reducible rfl)
                (try simp only [Act.put, List.setIfInBounds_toArray, List.set_cons_zero, List.set_cons_succ])
                refine wpAnyH_ready (rs := [17]) (by kernel_rfl) (by simp) ?_
                refine AllReadyH.cons (o := { dst := some 95, op := _, type := _, pos := _, after := _, guard := some (11, true) }) rfl (fun K hK => ?_) AllReadyH.nil
                go_simp
                (refine (hc2.out _).mono ?_; rintro e w8 ⟨rfl, q8, o8, hw8⟩; have b8 : Below w6.heap.size w6 w8 := (by rw [hw8]; exact b_then b7 (below_grow _ _ _)); clear hw8)
                (try go_wp2_with fail)
                refine hK.out _ _ ((hkeep.out _ (b_then b6.out b8))) (fun hHeld => ?_)
                clear hK K
                (try simp only [Act.put, List.setIfInBounds_toArray, List.set_cons_zero, List.set_cons_succ])
                refine wpAnyH_take (i := 18) (oi := { dst := some 96, op := _, type := _, pos := _, after := _, guard := some (11, true) }) (v := ?vr15_16) rfl (by kernel_rfl) (by kernel_rfl) (by kernel_rfl) (fun _ _ _ h => h) (Or.inl ⟨by rfl, ?hyr15_16⟩) (by assumption) ?restr15_16
                case hyr15_16 => (intro w hSw; (try dsimp only at hSw); go_simp <;> with_reducible rfl)
                (try simp only [Act.put, List.setIfInBounds_toArray, List.set_cons_zero, List.set_cons_succ])
                refine wpAnyH_take (i := 19) (oi := { dst := some 97, op := _, type := _, pos := _, after := _, guard := none }) (v := ?vr15_17) rfl (by kernel_rfl) (by kernel_rfl) (by kernel_rfl) (fun _ _ _ h => h) (Or.inl ⟨by rfl, ?hyr15_17⟩) (by assumption) ?restr15_17
                case hyr15_17 => (intro w hSw; (try dsimp only at hSw); go_simp <;> with_reducible rfl)
                (try simp only [Act.put, List.setIfInBounds_toArray, List.set_cons_zero, List.set_cons_succ])
                refine wpAnyH_done (by kernel_rfl) ?_ _
                have hbF := Lib.hid (b_then b6.out b8)
                clear k1 k2
                go_wp2
                go_roundw
                case measure => simp [intOf]; exact hms.out
                case rel => exact ⟨k + 1, _, hkl.out, rfl, by simp, Lib.hid (by simpa using htF.out), b_next hb.out hbF.out (Nat.le_refl _)⟩
              · have d1 : decide (c1 ≤ 0) = false := decide_eq_false k1
                have k1' : 0 < c1 := by omega
                go_wp2_with fail
                refine wp_region_held_drew (S := (fun w' => (w'.cell? ⟨b, off + k * 3, none⟩ = some (.string z.f.id) ∧ w'.cell? ⟨b, off + k * 3 + 1, none⟩ = some (.int .i64 z.f.high) ∧ w'.cell? ⟨b, off + k * 3 + 2, none⟩ = some (.slice z.pa z.f.pars.length z.pc)) ∧ (w'.cell? ⟨g4, 0, none⟩ = some (.string bx.f.id) ∧ w'.cell? ⟨g4, 1, none⟩ = some (.int .i64 bx.f.high) ∧ w'.cell? ⟨g4, 2, none⟩ = some (.slice bx.pa bx.f.pars.length bx.pc)) ∧ (w'.cell? ⟨w.heap.size, 0, none⟩ = some (.string x.f.id) ∧ w'.cell? ⟨w.heap.size, 1, none⟩ = some (.int .i64 x.f.high) ∧ w'.cell? ⟨w.heap.size, 2, none⟩ = some (.slice x.pa x.f.pars.length x.pc)) ∧ (w'.cell? ⟨w.heap.size + 1, 0, none⟩ = some (.string y.f.id) ∧ w'.cell? ⟨w.heap.size + 1, 1, none⟩ = some (.int .i64 y.f.high) ∧ w'.cell? ⟨w.heap.size + 1, 2, none⟩ = some (.slice y.pa y.f.pars.length y.pc)))) (by kernel_rfl) (hk6) (fun hHeld => ?_)
                refine wpAnyH_take (i := 0) (oi := { dst := some 78, op := _, type := _, pos := _, after := _, guard := none }) (v := ?vr16_0) rfl (by kernel_rfl) (by kernel_rfl) (by kernel_rfl) (fun _ _ _ h => h) (Or.inl ⟨by rfl, ?hyr16_0⟩) (by assumption) ?restr16_0
                case hyr16_0 => (intro w hSw; (try dsimp only at hSw); go_simp <;> with_reducible rfl)
                (try simp only [Act.put, List.setIfInBounds_toArray, List.set_cons_zero, List.set_cons_succ])
                refine wpAnyH_take (i := 1) (oi := { dst := some 79, op := _, type := _, pos := _, after := _, guard := none }) (v := ?vr16_1) rfl (by kernel_rfl) (by kernel_rfl) (by kernel_rfl) (fun _ _ _ h => h) (Or.inl ⟨by rfl, ?hyr16_1⟩) (by assumption) ?restr16_1
                case hyr16_1 => (intro w hSw; (try dsimp only at hSw); go_simp <;> with_reducible rfl)
                (try simp only [Act.put, List.setIfInBounds_toArray, List.set_cons_zero, List.set_cons_succ])
                refine wpAnyH_take (i := 2) (oi := { dst := some 80, op := _, type := _, pos := _, after := _, guard := none }) (v := ?vr16_2) rfl (by kernel_rfl) (by kernel_rfl) (by kernel_rfl) (fun _ _ _ h => h) (Or.inl ⟨by rfl, ?hyr16_2⟩) (by assumption) ?restr16_2
                case hyr16_2 => (intro w hSw; (try dsimp only at hSw); go_simp <;> with_reducible rfl)
                (try simp only [Act.put, List.setIfInBounds_toArray, List.set_cons_zero, List.set_cons_succ])
                refine wpAnyH_take (i := 3) (oi := { dst := some 81, op := _, type := _, pos := _, after := _, guard := some (2, true) }) (v := ?vr16_3) rfl (by kernel_rfl) (by kernel_rfl) (by kernel_rfl) (fun _ _ _ h => h) (Or.inl ⟨by rfl, ?hyr16_3⟩) (by assumption) ?restr16_3
                case hyr16_3 => (intro w hSw; (try dsimp only at hSw); go_simp <;> with_reducible rfl)
                (try simp only [Act.put, List.setIfInBounds_toArray, List.set_cons_zero, List.set_cons_succ])
                refine wpAnyH_take (i := 4) (oi := { dst := some 82, op := _, type := _, pos := _, after := _, guard := some (2, true) }) (v := ?vr16_4) rfl (by kernel_rfl) (by kernel_rfl) (by kernel_rfl) (fun _ _ _ h => h) (Or.inl ⟨by rfl, ?hyr16_4⟩) (by assumption) ?restr16_4
                case hyr16_4 => (intro w hSw; (try dsimp only at hSw); go_simp <;> with_reducible rfl)
                (try simp only [Act.put, List.setIfInBounds_toArray, List.set_cons_zero, List.set_cons_succ])
                refine wpAnyH_take (i := 5) (oi := { dst := some 83, op := _, type := _, pos := _, after := _, guard := some (2, true) }) (v := ?vr16_5) rfl (by kernel_rfl) (by kernel_rfl) (by kernel_rfl) (fun _ _ _ h => h) (Or.inl ⟨by rfl, ?hyr16_5⟩) (by assumption) ?restr16_5
                case hyr16_5 => (intro w hSw; (try dsimp only at hSw); go_simp <;> with_reducible rfl)
                (try simp only [Act.put, List.setIfInBounds_toArray, List.set_cons_zero, List.set_cons_succ])
                refine wpAnyH_take (i := 6) (oi := { dst := some 84, op := _, type := _, pos := _, after := _, guard := some (2, true) }) (v := ?vr16_6) rfl (by kernel_rfl) (by kernel_rfl) (by kernel_rfl) (fun _ _ _ h => h) (Or.inl ⟨by rfl, ?hyr16_6⟩) (by assumption) ?restr16_6
                case hyr16_6 => (intro w hSw; (try dsimp only at hSw); go_simp <;> with_reducible rfl)
                (try simp only [Act.put, List.setIfInBounds_toArray, List.set_cons_zero, List.set_cons_succ])
                refine wpAnyH_take (i := 7) (oi := { dst := some 85, op := _, type := _, pos := _, after := _, guard := some (2, true) }) (v := ?vr16_7) rfl (by kernel_rfl) (by kernel_rfl) (by kernel_rfl) (fun _ _ _ h => h) (Or.inl ⟨by rfl, ?hyr16_7⟩) (by assumption) ?restr16_7
                case hyr16_7 => (intro w hSw; (try dsimp only at hSw); go_simp <;> with_reducible rfl)
                (try simp only [Act.put, List.setIfInBounds_toArray, List.set_cons_zero, List.set_cons_succ])
                refine wpAnyH_ready (rs := [8]) (by kernel_rfl) (by simp) ?_
                refine AllReadyH.cons (o := { dst := some 86, op := _, type := _, pos := _, after := _, guard := some (2, true) }) rfl (fun K hK => ?_) AllReadyH.nil
                go_simp
                (refine hc1.out.mono ?_; rintro e w7 ⟨rfl, q7, o7, hw7⟩; have b7 : Below w6.heap.size w6 w7 := (by rw [hw7]; exact b_then (b_drew1 w6) (below_grow _ _ _)); clear hw7)
                (try go_wp2_with fail)
                refine hK.out _ _ ((hkeep.out _ (b_then b6.out b7))) (fun hHeld => ?_)
                clear hK K
                (try simp only [Act.put, List.setIfInBounds_toArray, List.set_cons_zero, List.set_cons_succ])
                refine wpAnyH_take (i := 9) (oi := { dst := some 87, op := _, type := _, pos := _, after := _, guard := some (2, true) }) (v := ?vr16_8) rfl (by kernel_rfl) (by kernel_rfl) (by kernel_rfl) (fun _ _ _ h => h) (Or.inl ⟨by rfl, ?hyr16_8⟩) (by assumption) ?restr16_8
                case hyr16_8 => (intro w hSw; (try dsimp only at hSw); go_simp <;> with_reducible rfl)
                (try simp only [Act.put, List.setIfInBounds_toArray, List.set_cons_zero, List.set_cons_succ])
                refine wpAnyH_take (i := 10) (oi := { dst := some 88, op := _, type := _, pos := _, after := _, guard := none }) (v := ?vr16_9) rfl (by kernel_rfl) (by kernel_rfl) (by kernel_rfl) (fun _ _ _ h => h) (Or.inl ⟨by rfl, ?hyr16_9⟩) (by assumption) ?restr16_9
                case hyr16_9 => (intro w hSw; (try dsimp only at hSw); go_simp <;> with_reducible rfl)
                (try simp only [Act.put, List.setIfInBounds_toArray, List.set_cons_zero, List.set_cons_succ])
                refine wpAnyH_take (i := 11) (oi := { dst := some 89, op := _, type := _, pos := _, after := _, guard := none }) (v := ?vr16_10) rfl (by kernel_rfl) (by kernel_rfl) (by kernel_rfl) (fun _ _ _ h => h) (Or.inl ⟨by rfl, ?hyr16_10⟩) (by assumption) ?restr16_10
                case hyr16_10 => (intro w hSw; (try dsimp only at hSw); go_simp <;> with_reducible rfl)
                (try simp only [Act.put, List.setIfInBounds_toArray, List.set_cons_zero, List.set_cons_succ])
                refine wpAnyH_take (i := 12) (oi := { dst := some 90, op := _, type := _, pos := _, after := _, guard := some (11, true) }) (v := undef) rfl (by kernel_rfl) (by kernel_rfl) (by kernel_rfl) (fun _ _ _ h => h) (Or.inr ⟨by rfl, rfl⟩) (by assumption) ?_
                (try simp only [Act.put, List.setIfInBounds_toArray, List.set_cons_zero, List.set_cons_succ])
                refine wpAnyH_take (i := 13) (oi := { dst := some 91, op := _, type := _, pos := _, after := _, guard := some (11, true) }) (v := undef) rfl (by kernel_rfl) (by kernel_rfl) (by kernel_rfl) (fun _ _ _ h => h) (Or.inr ⟨by rfl, rfl⟩) (by assumption) ?_
                (try simp only [Act.put, List.setIfInBounds_toArray, List.set_cons_zero, List.set_cons_succ])
                refine wpAnyH_take (i := 14) (oi := { dst := some 92, op := _, type := _, pos := _, after := _, guard := some (11, true) }) (v := undef) rfl (by kernel_rfl) (by kernel_rfl) (by kernel_rfl) (fun _ _ _ h => h) (Or.inr ⟨by rfl, rfl⟩) (by assumption) ?_
                (try simp only [Act.put, List.setIfInBounds_toArray, List.set_cons_zero, List.set_cons_succ])
                refine wpAnyH_take (i := 15) (oi := { dst := some 93, op := _, type := _, pos := _, after := _, guard := some (11, true) }) (v := undef) rfl (by kernel_rfl) (by kernel_rfl) (by kernel_rfl) (fun _ _ _ h => h) (Or.inr ⟨by rfl, rfl⟩) (by assumption) ?_
                (try simp only [Act.put, List.setIfInBounds_toArray, List.set_cons_zero, List.set_cons_succ])
                refine wpAnyH_take (i := 16) (oi := { dst := some 94, op := _, type := _, pos := _, after := _, guard := some (11, true) }) (v := undef) rfl (by kernel_rfl) (by kernel_rfl) (by kernel_rfl) (fun _ _ _ h => h) (Or.inr ⟨by rfl, rfl⟩) (by assumption) ?_
                (try simp only [Act.put, List.setIfInBounds_toArray, List.set_cons_zero, List.set_cons_succ])
                refine wpAnyH_take (i := 17) (oi := { dst := some 95, op := _, type := _, pos := _, after := _, guard := some (11, true) }) (v := undef) rfl (by kernel_rfl) (by kernel_rfl) (by kernel_rfl) (fun _ _ _ h => h) (Or.inr ⟨by rfl, rfl⟩) (by assumption) ?_
                (try simp only [Act.put, List.setIfInBounds_toArray, List.set_cons_zero, List.set_cons_succ])
                refine wpAnyH_take (i := 18) (oi := { dst := some 96, op := _, type := _, pos := _, after := _, guard := some (11, true) }) (v := undef) rfl (by kernel_rfl) (by kernel_rfl) (by kernel_rfl) (fun _ _ _ h => h) (Or.inr ⟨by rfl, rfl⟩) (by assumption) ?_
                (try simp only [Act.put, List.setIfInBounds_toArray, List.set_cons_zero, List.set_cons_succ])
                refine wpAnyH_take (i := 19) (oi := { dst := some 97, op := _, type := _, pos := _, after := _, guard := none }) (v := ?vr16_18) rfl (by kernel_rfl) (by kernel_rfl) (by kernel_rfl) (fun _ _ _ h => h) (Or.inl ⟨by rfl, ?hyr16_18⟩) (by assumption) ?restr16_18
                case hyr16_18 => (intro w hSw; (try dsimp only at hSw); go_simp <;> with_reducible rfl)
                (try simp only [Act.put, List.setIfInBounds_toArray, List.set_cons_zero, List.set_cons_succ])
                refine wpAnyH_done (by kernel_rfl) ?_ _
                have hbF := Lib.hid (b_then b6.out b7)
                clear k1
                go_wp2
                go_roundw
                case measure => simp [intOf]; exact hms.out
                case rel => exact ⟨k + 1, _, hkl.out, rfl, by simp, Lib.hid (by simpa using htF.out), b_next hb.out hbF.out (Nat.le_refl _)⟩
            | false =>
              have hS5 := Lib.hid (hS.out _ bd5)
              go_wp2_with fail
              go_region_held3 (fun w' => (w'.cell? ⟨b, off + k * 3, none⟩ = some (.string z.f.id) ∧ w'.cell? ⟨b, off + k * 3 + 1, none⟩ = some (.int .i64 z.f.high) ∧ w'.cell? ⟨b, off + k * 3 + 2, none⟩ = some (.slice z.pa z.f.pars.length z.pc)) ∧ (w'.cell? ⟨g4, 0, none⟩ = some (.string bx.f.id) ∧ w'.cell? ⟨g4, 1, none⟩ = some (.int .i64 bx.f.high) ∧ w'.cell? ⟨g4, 2, none⟩ = some (.slice bx.pa bx.f.pars.length bx.pc)) ∧ (w'.cell? ⟨w.heap.size, 0, none⟩ = some (.string x.f.id) ∧ w'.cell? ⟨w.heap.size, 1, none⟩ = some (.int .i64 x.f.high) ∧ w'.cell? ⟨w.heap.size, 2, none⟩ = some (.slice x.pa x.f.pars.length x.pc)) ∧ (w'.cell? ⟨w.heap.size + 1, 0, none⟩ = some (.string y.f.id) ∧ w'.cell? ⟨w.heap.size + 1, 1, none⟩ = some (.int .i64 y.f.high) ∧ w'.cell? ⟨w.heap.size + 1, 2, none⟩ = some (.slice y.pa y.f.pars.length y.pc))) (first | exact hk5 | exact hkeep.out _ b6)
                (first | (go_at_call 14; refine (hS5.out).mono ?_; rintro e w6 ⟨⟨s, rfl, hs⟩, b6'⟩; have b6 := b_then bd5 b6'; clear b6'))
              all_goals
                have htF : Hid (s = true ↔ (nL = 0 ∨ ∃ z ∈ L.take (k + 1), z.f = bx.f)) := Lib.hid (by
                  have h0 := ht.out
                  rw [hs, htk.out]
                  constructor
                  · intro e; exact Or.inr ⟨z, List.mem_append_right _ (List.mem_singleton.2 rfl), e⟩
                  · rintro (e | ⟨q, hq, e⟩)
                    · have := h0.2 (Or.inl e); cases this
                    · rcases List.mem_append.1 hq with hq | hq
                      · have := h0.2 (Or.inr ⟨q, hq, e⟩); cases this
                      · rw [List.mem_singleton] at hq; subst hq; exact e)
                replace b6 := Lib.hid b6
                have hk6 := hkeep.out _ (b_then b6.out (b_drew1 w6))
                clear hk5 bd5 b5 hs
                have hc1 : Calls Try.prog 12 #[y.val, z.val] w6.drew fun e w' => e = .returned (.int .i64 c1) ∧ ∃ q os, w' = Sort.grow (w6.drew.drewN q) os := by rw [hc1e.out]; exact Compare_calls y z w6.drew
                have hc2 := Lib.hid fun w' => Compare_calls x z w'
                rw [← hc2e.out] at hc2
                replace hc1 := Lib.hid hc1
                dsimp only [Fx.val] at hc1 hc2
                by_cases k1 : c1 ≤ 0
                · have k2 : ¬ 0 < c2 := by rw [hc2e.out]; rw [hc1e.out] at k1; exact goes_on (by rw [← hr.out]; decide) k1
                  have d1 : decide (c1 ≤ 0) = true := decide_eq_true k1
                  have d2 : decide (0 < c2) = false := decide_eq_false k2
                  go_wp2_with fail
                  refine wp_region_held_drew (S := (fun w' => (w'.cell? ⟨b, off + k * 3, none⟩ = some (.string z.f.id) ∧ w'.cell? ⟨b, off + k * 3 + 1, none⟩ = some (.int .i64 z.f.high) ∧ w'.cell? ⟨b, off + k * 3 + 2, none⟩ = some (.slice z.pa z.f.pars.length z.pc)) ∧ (w'.cell? ⟨g4, 0, none⟩ = some (.string bx.f.id) ∧ w'.cell? ⟨g4, 1, none⟩ = some (.int .i64 bx.f.high) ∧ w'.cell? ⟨g4, 2, none⟩ = some (.slice bx.pa bx.f.pars.length bx.pc)) ∧ (w'.cell? ⟨w.heap.size, 0, none⟩ = some (.string x.f.id) ∧ w'.cell? ⟨w.heap.size, 1, none⟩ = some (.int .i64 x.f.high) ∧ w'.cell? ⟨w.heap.size, 2, none⟩ = some (.slice x.pa x.f.pars.length x.pc)) ∧ (w'.cell? ⟨w.heap.size + 1, 0, none⟩ = some (.string y.f.id) ∧ w'.cell? ⟨w.heap.size + 1, 1, none⟩ = some (.int .i64 y.f.high) ∧ w'.cell? ⟨w.heap.size + 1, 2, none⟩ = some (.slice y.pa y.f.pars.length y.pc)))) (by kernel_rfl) (hk6) (fun hHeld => ?_)
                  refine wpAnyH_take (i := 0) (oi := { dst := some 78, op := _, type := _, pos := _, after := _, guard := none }) (v := ?vr17_0) rfl (by kernel_rfl) (by kernel_rfl) (by kernel_rfl) (fun _ _ _ h => h) (Or.inl ⟨by rfl, ?hyr17_0⟩) (by assumption) ?restr17_0
                  case hyr17_0 => (intro w hSw; (try dsimp only at hSw); go_simp <;> with_reducible rfl)
                  (try simp only [Act.put, List.setIfInBounds_toArray, List.set_cons_zero, List.set_cons_succ])
                  refine wpAnyH_take (i := 1) (oi := { dst := some 79, op := _, type := _, pos := _, after := _, guard := none }) (v := ?vr17_1) rfl (by kernel_rfl) (by kernel_rfl) (by kernel_rfl) (fun _ _ _ h => h) (Or.inl ⟨by rfl, ?hyr17_1⟩) (by assumption) ?restr17_1
                  case hyr17_1 => (intro w hSw; (try dsimp only at hSw); go_simp <;> with_reducible rfl)
                  (try simp only [Act.put, List.setIfInBounds_toArray, List.set_cons_zero, List.set_cons_succ])
                  refine wpAnyH_take (i := 2) (oi := { dst := some 80, op := _, type := _, pos := _, after := _, guard := none }) (v := ?vr17_2) rfl (by kernel_rfl) (by kernel_rfl) (by kernel_rfl) (fun _ _ _ h => h) (Or.inl ⟨by rfl, ?hyr17_2⟩) (by assumption) ?restr17_2
                  case hyr17_2 => (intro w hSw; (try dsimp only at hSw); go_simp <;> with_reducible rfl)
                  (try simp only [Act.put, List.setIfInBounds_toArray, List.set_cons_zero, List.set_cons_succ])
                  refine wpAnyH_take (i := 3) (oi := { dst := some 81, op := _, type := _, pos := _, after := _, guard := some (2, true) }) (v := ?vr17_3) rfl (by kernel_rfl) (by kernel_rfl) (by kernel_rfl) (fun _ _ _ h => h) (Or.inl ⟨by rfl, ?hyr17_3⟩) (by assumption) ?restr17_3
                  case hyr17_3 => (intro w hSw; (try dsimp only at hSw); go_simp <;> with_reducible rfl)
                  (try simp only [Act.put, List.setIfInBounds_toArray, List.set_cons_zero, List.set_cons_succ])
                  refine wpAnyH_take (i := 4) (oi := { dst := some 82, op := _, type := _, pos := _, after := _, guard := some (2, true) }) (v := ?vr17_4) rfl (by kernel_rfl) (by kernel_rfl) (by kernel_rfl) (fun _ _ _ h => h) (Or.inl ⟨by rfl, ?hyr17_4⟩) (by assumption) ?restr17_4
                  case hyr17_4 => (intro w hSw; (try dsimp only at hSw); go_simp <;> with_reducible rfl)
                  (try simp only [Act.put, List.setIfInBounds_toArray, List.set_cons_zero, List.set_cons_succ])
                  refine wpAnyH_take (i := 5) (oi := { dst := some 83, op := _, type := _, pos := _, after := _, guard := some (2, true) }) (v := ?vr17_5) rfl (by kernel_rfl) (by kernel_rfl) (by kernel_rfl) (fun _ _ _ h => h) (Or.inl ⟨by rfl, ?hyr17_5⟩) (by assumption) ?restr17_5
                  case hyr17_5 => (intro w hSw; (try dsimp only at hSw); go_simp <;> with_reducible rfl)
                  (try simp only [Act.put, List.setIfInBounds_toArray, List.set_cons_zero, List.set_cons_succ])
                  refine wpAnyH_take (i := 6) (oi := { dst := some 84, op := _, type := _, pos := _, after := _, guard := some (2, true) }) (v := ?vr17_6) rfl (by kernel_rfl) (by kernel_rfl) (by kernel_rfl) (fun _ _ _ h => h) (Or.inl ⟨by rfl, ?hyr17_6⟩) (by assumption) ?restr17_6
                  case hyr17_6 => (intro w hSw; (try dsimp only at hSw); go_simp <;> with_reducible rfl)
                  (try simp only [Act.put, List.setIfInBounds_toArray, List.set_cons_zero, List.set_cons_succ])
                  refine wpAnyH_take (i := 7) (oi := { dst := some 85, op := _, type := _, pos := _, after := _, guard := some (2, true) }) (v := ?vr17_7) rfl (by kernel_rfl) (by kernel_rfl) (by kernel_rfl) (fun _ _ _ h => h) (Or.inl ⟨by rfl, ?hyr17_7⟩) (by assumption) ?restr17_7
                  case hyr17_7 => (intro w hSw; (try dsimp only at hSw); go_simp <;> with_reducible rfl)
                  (try simp only [Act.put, List.setIfInBounds_toArray, List.set_cons_zero, List.set_cons_succ])
                  refine wpAnyH_ready (rs := [8]) (by kernel_rfl) (by simp) ?_
                  refine AllReadyH.cons (o := { dst := some 86, op := _, type := _, pos := _, after := _, guard := some (2, true) }) rfl (fun K hK => ?_) AllReadyH.nil
                  go_simp
                  (refine hc1.out.mono ?_; rintro e w7 ⟨rfl, q7, o7, hw7⟩; have b7 : Below w6.heap.size w6 w7 := (by rw [hw7]; exact b_then (b_drew1 w6) (below_grow _ _ _)); clear hw7)
                  (try go_wp2_with fail)
                  refine hK.out _ _ ((hkeep.out _ (b_then b6.out b7))) (fun hHeld => ?_)
                  clear hK K
                  (try simp only [Act.put, List.setIfInBounds_toArray, List.set_cons_zero, List.set_cons_succ])
                  refine wpAnyH_take (i := 9) (oi := { dst := some 87, op := _, type := _, pos := _, after := _, guard := some (2, true) }) (v := ?vr17_8) rfl (by kernel_rfl) (by kernel_rfl) (by kernel_rfl) (fun _ _ _ h => h) (Or.inl ⟨by rfl, ?hyr17_8⟩) (by assumption) ?restr17_8
                  case hyr17_8 => (intro w hSw; (try dsimp only at hSw); go_simp <;> with_reducible rfl)
                  (try simp only [Act.put, List.setIfInBounds_toArray, List.set_cons_zero, List.set_cons_succ])
                  refine wpAnyH_take (i := 10) (oi := { dst := some 88, op := _, type := _, pos := _, after := _, guard := none }) (v := ?vr17_9) rfl (by kernel_rfl) (by kernel_rfl) (by kernel_rfl) (fun _ _ _ h => h) (Or.inl ⟨by rfl, ?hyr17_9⟩) (by assumption) ?restr17_9
                  case hyr17_9 => (intro w hSw; (try dsimp only at hSw); go_simp <;> with_reducible rfl)
                  (try simp only [Act.put, List.setIfInBounds_toArray, List.set_cons_zero, List.set_cons_succ])
                  refine wpAnyH_take (i := 11) (oi := { dst := some 89, op := _, type := _, pos := _, after := _, guard := none }) (v := ?vr17_10) rfl (by kernel_rfl) (by kernel_rfl) (by kernel_rfl) (fun _ _ _ h => h) (Or.inl ⟨by rfl, ?hyr17_10⟩) (by assumption) ?restr17_10
                  case hyr17_10 => (intro w hSw; (try dsimp only at hSw); go_simp <;> with_reducible rfl)
                  (try simp only [Act.put, List.setIfInBounds_toArray, List.set_cons_zero, List.set_cons_succ])
                  refine wpAnyH_take (i := 12) (oi := { dst := some 90, op := _, type := _, pos := _, after := _, guard := some (11, true) }) (v := ?vr17_11) rfl (by kernel_rfl) (by kernel_rfl) (by kernel_rfl) (fun _ _ _ h => h) (Or.inl ⟨by rfl, ?hyr17_11⟩) (by assumption) ?restr17_11
                  case hyr17_11 => (intro w hSw; (try dsimp only at hSw); go_simp <;> with_reducible rfl)
                  (try simp only [Act.put, List.setIfInBounds_toArray, List.set_cons_zero, List.set_cons_succ])
                  refine wpAnyH_take (i := 13) (oi := { dst := some 91, op := _, type := _, pos := _, after := _, guard := some (11, true) }) (v := ?vr17_12) rfl (by kernel_rfl) (by kernel_rfl) (by kernel_rfl) (fun _ _ _ h => h) (Or.inl ⟨by rfl, ?hyr17_12⟩) (by assumption) ?restr17_12
                  case hyr17_12 => (intro w hSw; (try dsimp only at hSw); go_simp <;> with_reducible rfl)
                  (try simp only [Act.put, List.setIfInBounds_toArray, List.set_cons_zero, List.set_cons_succ])
                  refine wpAnyH_take (i := 14) (oi := { dst := some 92, op := _, type := _, pos := _, after := _, guard := some (11, true) }) (v := ?vr17_13) rfl (by kernel_rfl) (by kernel_rfl) (by kernel_rfl) (fun _ _ _ h => h) (Or.inl ⟨by rfl, ?hyr17_13⟩) (by assumption) ?restr17_13
                  case hyr17_13 => (intro w hSw; (try dsimp only at hSw); go_simp <;> with_reducible rfl)
                  (try simp only [Act.put, List.setIfInBounds_toArray, List.set_cons_zero, List.set_cons_succ])
                  refine wpAnyH_take (i := 15) (oi := { dst := some 93, op := _, type := _, pos := _, after := _, guard := some (11, true) }) (v := ?vr17_14) rfl (by kernel_rfl) (by kernel_rfl) (by kernel_rfl) (fun _ _ _ h => h) (Or.inl ⟨by rfl, ?hyr17_14⟩) (by assumption) ?restr17_14
                  case hyr17_14 => (intro w hSw; (try dsimp only at hSw); go_simp <;> with_reducible rfl)
                  (try simp only [Act.put, List.setIfInBounds_toArray, List.set_cons_zero, List.set_cons_succ])
                  refine wpAnyH_take (i := 16) (oi := { dst := some 94, op := _, type := _, pos := _, after := _, guard := some (11, true) }) (v := ?vr17_15) rfl (by kernel_rfl) (by kernel_rfl) (by kernel_rfl) (fun _ _ _ h => h) (Or.inl ⟨by rfl, ?hyr17_15⟩) (by assumption) ?restr17_15
                  case hyr17_15 => (intro w hSw; (try dsimp only at hSw); go_simp <;> with_reducible rfl)
                  (try simp only [Act.put, List.setIfInBounds_toArray, List.set_cons_zero, List.set_cons_succ])
                  refine wpAnyH_ready (rs := [17]) (by kernel_rfl) (by simp) ?_
                  refine AllReadyH.cons (o := { dst := some 95, op := _, type := _, pos := _, after := _, guard := some (11, true) }) rfl (fun K hK => ?_) AllReadyH.nil
                  go_simp
                  (refine (hc2.out _).mono ?_; rintro e w8 ⟨rfl, q8, o8, hw8⟩; have b8 : Below w6.heap.size w6 w8 := (by rw [hw8]; exact b_then b7 (below_grow _ _ _)); clear hw8)
                  (try go_wp2_with fail)
                  refine hK.out _ _ ((hkeep.out _ (b_then b6.out b8))) (fun hHeld => ?_)
                  clear hK K
                  (try simp only [Act.put, List.setIfInBounds_toArray, List.set_cons_zero, List.set_cons_succ])
                  refine wpAnyH_take (i := 18) (oi := { dst := some 96, op := _, type := _, pos := _, after := _, guard := some (11, true) }) (v := ?vr17_16) rfl (by kernel_rfl) (by kernel_rfl) (by kernel_rfl) (fun _ _ _ h => h) (Or.inl ⟨by rfl, ?hyr17_16⟩) (by assumption) ?restr17_16
                  case hyr17_16 => (intro w hSw; (try dsimp only at hSw); go_simp <;> with_reducible rfl)
                  (try simp only [Act.put, List.setIfInBounds_toArray, List.set_cons_zero, List.set_cons_succ])
                  refine wpAnyH_take (i := 19) (oi := { dst := some 97, op := _, type := _, pos := _, after := _, guard := none }) (v := ?vr17_17) rfl (by kernel_rfl) (by kernel_rfl) (by kernel_rfl) (fun _ _ _ h => h) (Or.inl ⟨by rfl, ?hyr17_17⟩) (by assumption) ?restr17_17
                  case hyr17_17 => (intro w hSw; (try dsimp only at hSw); go_simp <;> with_reducible rfl)
                  (try simp only [Act.put, List.setIfInBounds_toArray, List.set_cons_zero, List.set_cons_succ])
                  refine wpAnyH_done (by kernel_rfl) ?_ _
                  have hbF := Lib.hid (b_then b6.out b8)
                  clear k1 k2
                  go_wp2
                  go_roundw
                  case measure => simp [intOf]; exact hms.out
                  case rel => exact ⟨k + 1, _, hkl.out, rfl, by simp, Lib.hid (by simpa using htF.out), b_next hb.out hbF.out (Nat.le_refl _)⟩
                · have d1 : decide (c1 ≤ 0) = false := decide_eq_false k1
                  have k1' : 0 < c1 := by omega
                  go_wp2_with fail
                  refine wp_region_held_drew (S := (fun w' => (w'.cell? ⟨b, off + k * 3, none⟩ = some (.string z.f.id) ∧ w'.cell? ⟨b, off + k * 3 + 1, none⟩ = some (.int .i64 z.f.high) ∧ w'.cell? ⟨b, off + k * 3 + 2, none⟩ = some (.slice z.pa z.f.pars.length z.pc)) ∧ (w'.cell? ⟨g4, 0, none⟩ = some (.string bx.f.id) ∧ w'.cell? ⟨g4, 1, none⟩ = some (.int .i64 bx.f.high) ∧ w'.cell? ⟨g4, 2, none⟩ = some (.slice bx.pa bx.f.pars.length bx.pc)) ∧ (w'.cell? ⟨w.heap.size, 0, none⟩ = some (.string x.f.id) ∧ w'.cell? ⟨w.heap.size, 1, none⟩ = some (.int .i64 x.f.high) ∧ w'.cell? ⟨w.heap.size, 2, none⟩ = some (.slice x.pa x.f.pars.length x.pc)) ∧ (w'.cell? ⟨w.heap.size + 1, 0, none⟩ = some (.string y.f.id) ∧ w'.cell? ⟨w.heap.size + 1, 1, none⟩ = some (.int .i64 y.f.high) ∧ w'.cell? ⟨w.heap.size + 1, 2, none⟩ = some (.slice y.pa y.f.pars.length y.pc)))) (by kernel_rfl) (hk6) (fun hHeld => ?_)
                  refine wpAnyH_take (i := 0) (oi := { dst := some 78, op := _, type := _, pos := _, after := _, guard := none }) (v := ?vr18_0) rfl (by kernel_rfl) (by kernel_rfl) (by kernel_rfl) (fun _ _ _ h => h) (Or.inl ⟨by rfl, ?hyr18_0⟩) (by assumption) ?restr18_0
                  case hyr18_0 => (intro w hSw; (try dsimp only at hSw); go_simp <;> with_reducible rfl)
                  (try simp only [Act.put, List.setIfInBounds_toArray, List.set_cons_zero, List.set_cons_succ])
                  refine wpAnyH_take (i := 1) (oi := { dst := some 79, op := _, type := _, pos := _, after := _, guard := none }) (v := ?vr18_1) rfl (by kernel_rfl) (by kernel_rfl) (by kernel_rfl) (fun _ _ _ h => h) (Or.inl ⟨by rfl, ?hyr18_1⟩) (by assumption) ?restr18_1
                  case hyr18_1 => (intro w hSw; (try dsimp only at hSw); go_simp <;> with_reducible rfl)
                  (try simp only [Act.put, List.setIfInBounds_toArray, List.set_cons_zero, List.set_cons_succ])
                  refine wpAnyH_take (i := 2) (oi := { dst := some 80, op := _, type := _, pos := _, after := _, guard := none }) (v := ?vr18_2) rfl (by kernel_rfl) (by kernel_rfl) (by kernel_rfl) (fun _ _ _ h => h) (Or.inl ⟨by rfl, ?hyr18_2⟩) (by assumption) ?restr18_2
                  case hyr18_2 => (intro w hSw; (try dsimp only at hSw); go_simp <;> with_reducible rfl)
                  (try simp only [Act.put, List.setIfInBounds_toArray, List.set_cons_zero, List.set_cons_succ])
                  refine wpAnyH_take (i := 3) (oi := { dst := some 81, op := _, type := _, pos := _, after := _, guard := some (2, true) }) (v := ?vr18_3) rfl (by kernel_rfl) (by kernel_rfl) (by kernel_rfl) (fun _ _ _ h => h) (Or.inl ⟨by rfl, ?hyr18_3⟩) (by assumption) ?restr18_3
                  case hyr18_3 => (intro w hSw; (try dsimp only at hSw); go_simp <;> with_reducible rfl)
                  (try simp only [Act.put, List.setIfInBounds_toArray, List.set_cons_zero, List.set_cons_succ])
                  refine wpAnyH_take (i := 4) (oi := { dst := some 82, op := _, type := _, pos := _, after := _, guard := some (2, true) }) (v := ?vr18_4) rfl (by kernel_rfl) (by kernel_rfl) (by kernel_rfl) (fun _ _ _ h => h) (Or.inl ⟨by rfl, ?hyr18_4⟩) (by assumption) ?restr18_4
                  case hyr18_4 => (intro w hSw; (try dsimp only at hSw); go_simp <;> with_reducible rfl)
                  (try simp only [Act.put, List.setIfInBounds_toArray, List.set_cons_zero, List.set_cons_succ])
                  refine wpAnyH_take (i := 5) (oi := { dst := some 83, op := _, type := _, pos := _, after := _, guard := some (2, true) }) (v := ?vr18_5) rfl (by kernel_rfl) (by kernel_rfl) (by kernel_rfl) (fun _ _ _ h => h) (Or.inl ⟨by rfl, ?hyr18_5⟩) (by assumption) ?restr18_5
                  case hyr18_5 => (intro w hSw; (try dsimp only at hSw); go_simp <;> with_reducible rfl)
                  (try simp only [Act.put, List.setIfInBounds_toArray, List.set_cons_zero, List.set_cons_succ])
                  refine wpAnyH_take (i := 6) (oi := { dst := some 84, op := _, type := _, pos := _, after := _, guard := some (2, true) }) (v := ?vr18_6) rfl (by kernel_rfl) (by kernel_rfl) (by kernel_rfl) (fun _ _ _ h => h) (Or.inl ⟨by rfl, ?hyr18_6⟩) (by assumption) ?restr18_6
                  case hyr18_6 => (intro w hSw; (try dsimp only at hSw); go_simp <;> with_reducible rfl)
                  (try simp only [Act.put, List.setIfInBounds_toArray, List.set_cons_zero, List.set_cons_succ])
                  refine wpAnyH_take (i := 7) (oi := { dst := some 85, op := _, type := _, pos := _, after := _, guard := some (2, true) }) (v := ?vr18_7) rfl (by kernel_rfl) (by kernel_rfl) (by kernel_rfl) (fun _ _ _ h => h) (Or.inl ⟨by rfl, ?hyr18_7⟩) (by assumption) ?restr18_7
                  case hyr18_7 => (intro w hSw; (try dsimp only at hSw); go_simp <;> with_reducible rfl)
                  (try simp only [Act.put, List.setIfInBounds_toArray, List.set_cons_zero, List.set_cons_succ])
                  refine wpAnyH_ready (rs := [8]) (by kernel_rfl) (by simp) ?_
                  refine AllReadyH.cons (o := { dst := some 86, op := _, type := _, pos := _, after := _, guard := some (2, true) }) rfl (fun K hK => ?_) AllReadyH.nil
                  go_simp
                  (refine hc1.out.mono ?_; rintro e w7 ⟨rfl, q7, o7, hw7⟩; have b7 : Below w6.heap.size w6 w7 := (by rw [hw7]; exact b_then (b_drew1 w6) (below_grow _ _ _)); clear hw7)
                  (try go_wp2_with fail)
                  refine hK.out _ _ ((hkeep.out _ (b_then b6.out b7))) (fun hHeld => ?_)
                  clear hK K
                  (try simp only [Act.put, List.setIfInBounds_toArray, List.set_cons_zero, List.set_cons_succ])
                  refine wpAnyH_take (i := 9) (oi := { dst := some 87, op := _, type := _, pos := _, after := _, guard := some (2, true) }) (v := ?vr18_8) rfl (by kernel_rfl) (by kernel_rfl) (by kernel_rfl) (fun _ _ _ h => h) (Or.inl ⟨by rfl, ?hyr18_8⟩) (by assumption) ?restr18_8
                  case hyr18_8 => (intro w hSw; (try dsimp only at hSw); go_simp <;> with_reducible rfl)
                  (try simp only [Act.put, List.setIfInBounds_toArray, List.set_cons_zero, List.set_cons_succ])
                  refine wpAnyH_take (i := 10) (oi := { dst := some 88, op := _, type := _, pos := _, after := _, guard := none }) (v := ?vr18_9) rfl (by kernel_rfl) (by kernel_rfl) (by kernel_rfl) (fun _ _ _ h => h) (Or.inl ⟨by rfl, ?hyr18_9⟩) (by assumption) ?restr18_9
                  case hyr18_9 => (intro w hSw; (try dsimp only at hSw); go_simp <;> with_reducible rfl)
                  (try simp only [Act.put, List.setIfInBounds_toArray, List.set_cons_zero, List.set_cons_succ])
                  refine wpAnyH_take (i := 11) (oi := { dst := some 89, op := _, type := _, pos := _, after := _, guard := none }) (v := ?vr18_10) rfl (by kernel_rfl) (by kernel_rfl) (by kernel_rfl) (fun _ _ _ h => h) (Or.inl ⟨by rfl, ?hyr18_10⟩) (by assumption) ?restr18_10
                  case hyr18_10 => (intro w hSw; (try dsimp only at hSw); go_simp <;> with_reducible rfl)
                  (try simp only [Act.put, List.setIfInBounds_toArray, List.set_cons_zero, List.set_cons_succ])
                  refine wpAnyH_take (i := 12) (oi := { dst := some 90, op := _, type := _, pos := _, after := _, guard := some (11, true) }) (v := undef) rfl (by kernel_rfl) (by kernel_rfl) (by kernel_rfl) (fun _ _ _ h => h) (Or.inr ⟨by rfl, rfl⟩) (by assumption) ?_
                  (try simp only [Act.put, List.setIfInBounds_toArray, List.set_cons_zero, List.set_cons_succ])
                  refine wpAnyH_take (i := 13) (oi := { dst := some 91, op := _, type := _, pos := _, after := _, guard := some (11, true) }) (v := undef) rfl (by kernel_rfl) (by kernel_rfl) (by kernel_rfl) (fun _ _ _ h => h) (Or.inr ⟨by rfl, rfl⟩) (by assumption) ?_
                  (try simp only [Act.put, List.setIfInBounds_toArray, List.set_cons_zero, List.set_cons_succ])
                  refine wpAnyH_take (i := 14) (oi := { dst := some 92, op := _, type := _, pos := _, after := _, guard := some (11, true) }) (v := undef) rfl (by kernel_rfl) (by kernel_rfl) (by kernel_rfl) (fun _ _ _ h => h) (Or.inr ⟨by rfl, rfl⟩) (by assumption) ?_
                  (try simp only [Act.put, List.setIfInBounds_toArray, List.set_cons_zero, List.set_cons_succ])
                  refine wpAnyH_take (i := 15) (oi := { dst := some 93, op := _, type := _, pos := _, after := _, guard := some (11, true) }) (v := undef) rfl (by kernel_rfl) (by kernel_rfl) (by kernel_rfl) (fun _ _ _ h => h) (Or.inr ⟨by rfl, rfl⟩) (by assumption) ?_
                  (try simp only [Act.put, List.setIfInBounds_toArray, List.set_cons_zero, List.set_cons_succ])
                  refine wpAnyH_take (i := 16) (oi := { dst := some 94, op := _, type := _, pos := _, after := _, guard := some (11, true) }) (v := undef) rfl (by kernel_rfl) (by kernel_rfl) (by kernel_rfl) (fun _ _ _ h => h) (Or.inr ⟨by rfl, rfl⟩) (by assumption) ?_
                  (try simp only [Act.put, List.setIfInBounds_toArray, List.set_cons_zero, List.set_cons_succ])
                  refine wpAnyH_take (i := 17) (oi := { dst := some 95, op := _, type := _, pos := _, after := _, guard := some (11, true) }) (v := undef) rfl (by kernel_rfl) (by kernel_rfl) (by kernel_rfl) (fun _ _ _ h => h) (Or.inr ⟨by rfl, rfl⟩) (by assumption) ?_
                  (try simp only [Act.put, List.setIfInBounds_toArray, List.set_cons_zero, List.set_cons_succ])
                  refine wpAnyH_take (i := 18) (oi := { dst := some 96, op := _, type := _, pos := _, after := _, guard := some (11, true) }) (v := undef) rfl (by kernel_rfl) (by kernel_rfl) (by kernel_rfl) (fun _ _ _ h => h) (Or.inr ⟨by rfl, rfl⟩) (by assumption) ?_
                  (try simp only [Act.put, List.setIfInBounds_toArray, List.set_cons_zero, List.set_cons_succ])
                  refine wpAnyH_take (i := 19) (oi := { dst := some 97, op := _, type := _, pos := _, after := _, guard := none }) (v := ?vr18_18) rfl (by kernel_rfl) (by kernel_rfl) (by kernel_rfl) (fun _ _ _ h => h) (Or.inl ⟨by rfl, ?hyr18_18⟩) (by assumption) ?restr18_18
                  case hyr18_18 => (intro w hSw; (try dsimp only at hSw); go_simp <;> with_reducible rfl)
                  (try simp only [Act.put, List.setIfInBounds_toArray, List.set_cons_zero, List.set_cons_succ])
                  refine wpAnyH_done (by kernel_rfl) ?_ _
                  have hbF := Lib.hid (b_then b6.out b7)
                  clear k1
                  go_wp2
                  go_roundw
                  case measure => simp [intOf]; exact hms.out
                  case rel => exact ⟨k + 1, _, hkl.out, rfl, by simp, Lib.hid (by simpa using htF.out), b_next hb.out hbF.out (Nat.le_refl _)⟩
        · obtain rfl : k = nL := by omega
          have d0 : ¬ (k : Int) < k := by omega
          have ht2 : t = true := ht.out.2 (by
            rcases hend.out with h | ⟨q, hq, e⟩
            · exact Or.inl h
            · exact Or.inr ⟨q, by rw [hnL.out, List.take_length]; exact hq, e⟩)
          subst ht2
          have bb := Lib.hid (b_then hres.out hb)
          clear hb
          go_wp2
          go_ret
          exact ⟨rfl, bb.out⟩
    · have e1 : (x.f.high == y.f.high) = false := by simpa using h1
      clear h1
      go_upto_region 8 with (fail)
      have hBe4 := Lib.hid (hBe.out w4 b3.out)
      clear hBe x0 x1 x2 y0 y1 y2 e1 
      go_wp2_with fail
      refine hBe4.out.mono ?_
      rintro e w5 ⟨bx, bt, rfl, hTop, hPb, hPl, b5⟩
      dsimp only [Fx.val]
      have hbt : bt = decide (0 < nL) := by rw [hnL.out]; exact hTop.1
      have hbe : (bt != decide ((0 : Int) < nL)) = false := by rw [hbt]; simp
      go_upto_region 9 with (fail)
      have hV := Lib.hid (FxVar.new w5 bx)
      have bA := b_alloc w5 (.cells #[.string bx.f.id, .int .i64 bx.f.high, .slice bx.pa bx.f.pars.length bx.pc] 24)
      replace b3 := Lib.hid (b_then (b_then b3.out b5) bA)
      replace hX := Lib.hid ((hX.out.next b5).next bA)
      replace hY := Lib.hid ((hY.out.next b5).next bA)
      replace hPb := Lib.hid (hPb.next bA)
      obtain ⟨g4, hg4⟩ : ∃ g, g = w5.heap.size := ⟨_, rfl⟩
      rw [← hg4] at hV ⊢
      generalize w5.alloc (.cells #[.string bx.f.id, .int .i64 bx.f.high, .slice bx.pa bx.f.pars.length bx.pc] 24) = v0 at *
      have hst : Hid ((!decide (0 < nL)) = true ↔ (nL = 0 ∨ ∃ z ∈ L.take 0, z.f = bx.f)) := Lib.hid (by simp)
      have hend : Hid (nL = 0 ∨ ∃ z ∈ L, z.f = bx.f) := Lib.hid (by
        by_cases h0 : nL = 0
        · exact Or.inl h0
        · exact Or.inr (hTop.2 (by rw [← hnL.out]; omega)).1)
      have hnone : Hid (∀ z ∈ L, ¬ under bx.f z.f) := Lib.hid fun z hz => (hTop.2 (List.length_pos_of_mem hz)).2 z hz
      have hcell : Hid (∀ k, k < nL → ∃ y, L[k]? = some y) := Lib.hid fun k hk => by
        have := hnL.out
        exact ⟨L[k], List.getElem?_eq_getElem (by omega)⟩
      have hkeep0 := Lib.hid fun w' (bb : Below v0.heap.size v0 w') => (⟨hV.out.next bb, hX.out.next bb, hY.out.next bb, hLz.out w' (b_then b3.out bb), hPb.out.next bb, fun z hz => (hFw.out.pars z hz).next (b_then hB.out (b_then b3.out bb))⟩ : FxVar w' g4 bx ∧ FxVar w' w.heap.size x ∧ FxVar w' (w.heap.size + 1) y ∧ FxsAt w' a b off L ∧ Pars w' bx ∧ ∀ z ∈ L, Pars w' z)
      have hres := Lib.hid (b_then hB.out b3.out)
      replace hn60 := Lib.hid hn60
      clear hBe4 hTop bA hV hX hY hPb b5 hbt hg4 hLz hB b3
      go_upto_region 13 with (fail)
      clear hbe
      go_loopw [10, 11] (fun inn i wr => ∃ (k : Nat) (t : Bool), k ≤ nL ∧ inn = .bool t ∧ i = .int .i64 (k : Int) ∧ Hid (t = true ↔ (nL = 0 ∨ ∃ z ∈ L.take k, z.f = bx.f)) ∧ Below v0.heap.size v0 wr) (fun _ i _ => nL - (intOf i).toNat)
      case atStart => exact ⟨0, _, Nat.zero_le _, rfl, rfl, hst, Below.refl _ _⟩
      case round =>
        obtain ⟨k, t, hk, rfl, rfl, ht, hb⟩ := hrel
        clear hst
        by_cases hlt : k < nL
        · obtain ⟨z, hz⟩ := hcell.out k hlt
          have hzm := List.mem_of_getElem? hz
          obtain ⟨-, -, -, hLr, -, -⟩ := hkeep0.out _ hb
          obtain rfl := hLr.addr (by have := hnL.out; omega)
          have k1 : (k : Int) < nL := by omega
          have k0 : 0 ≤ (k : Int) := by omega
          have hwk2 : wrap64 ((k : Int) + 1) = ((k + 1 : Nat) : Int) := wrap_next k (by have := hn60.out; omega)
          have hms : Hid (nL - (k + 1) < nL - k) := Lib.hid (by omega)
          have hkl : Hid (k + 1 ≤ nL) := Lib.hid hlt
          have htk : Hid (L.take (k + 1) = L.take k ++ [z]) := Lib.hid (by rw [List.take_add_one, hz]; rfl)
          have hkeep : Hid (∀ w', Below wr.heap.size wr w' → (w'.cell? ⟨b, off + k * 3, none⟩ = some (.string z.f.id) ∧ w'.cell? ⟨b, off + k * 3 + 1, none⟩ = some (.int .i64 z.f.high) ∧ w'.cell? ⟨b, off + k * 3 + 2, none⟩ = some (.slice z.pa z.f.pars.length z.pc)) ∧ (w'.cell? ⟨g4, 0, none⟩ = some (.string bx.f.id) ∧ w'.cell? ⟨g4, 1, none⟩ = some (.int .i64 bx.f.high) ∧ w'.cell? ⟨g4, 2, none⟩ = some (.slice bx.pa bx.f.pars.length bx.pc)) ∧ (w'.cell? ⟨w.heap.size, 0, none⟩ = some (.string x.f.id) ∧ w'.cell? ⟨w.heap.size, 1, none⟩ = some (.int .i64 x.f.high) ∧ w'.cell? ⟨w.heap.size, 2, none⟩ = some (.slice x.pa x.f.pars.length x.pc)) ∧ (w'.cell? ⟨w.heap.size + 1, 0, none⟩ = some (.string y.f.id) ∧ w'.cell? ⟨w.heap.size + 1, 1, none⟩ = some (.int .i64 y.f.high) ∧ w'.cell? ⟨w.heap.size + 1, 2, none⟩ = some (.slice y.pa y.f.pars.length y.pc))) := Lib.hid fun w' bb => by
            obtain ⟨h1, h2, h3, h4, -, -⟩ := hkeep0.out w' (b_next hb bb (Nat.le_refl _))
            exact ⟨⟨h4.id k z hz, h4.high k z hz, h4.pars k z hz⟩, h1.cell, h2.cell, h3.cell⟩
          obtain ⟨c, hc⟩ : ∃ c, c = cmp z.f bx.f := ⟨_, rfl⟩
          have hc0 : ¬ 0 < c := fun h => hnone.out z hzm (cmp_pos.1 (by rw [← hc]; exact h))
          have hC := Lib.hid fun w' => Compare_calls z bx w'
          rw [← hc] at hC
          have hS := Lib.hid fun w' (bb : Below wr.heap.size wr w') => same_calls w' z bx ((hkeep0.out w' (b_next hb bb (Nat.le_refl _))).2.2.2.2.2 z hzm) (hkeep0.out w' (b_next hb bb (Nat.le_refl _))).2.2.2.2.1 (hP.out z hzm) hPl
          obtain ⟨c1, hc1e⟩ : ∃ c, c = cmp y.f z.f := ⟨_, rfl⟩
          obtain ⟨c2, hc2e⟩ : ∃ c, c = cmp x.f z.f := ⟨_, rfl⟩
          replace hc1e := Lib.hid hc1e
          replace hc2e := Lib.hid hc2e
          have bd := b_drew1 wr
          have hk0 := hkeep.out _ bd
          replace hb := Lib.hid hb
          replace hz := Lib.hid hz
          replace hzm := Lib.hid hzm
          clear hlt hk hLr hc
          dsimp only [Fx.val] at hC hS
          go_wp2_with fail
          go_region_held3 (fun w' => (w'.cell? ⟨b, off + k * 3, none⟩ = some (.string z.f.id) ∧ w'.cell? ⟨b, off + k * 3 + 1, none⟩ = some (.int .i64 z.f.high) ∧ w'.cell? ⟨b, off + k * 3 + 2, none⟩ = some (.slice z.pa z.f.pars.length z.pc)) ∧ (w'.cell? ⟨g4, 0, none⟩ = some (.string bx.f.id) ∧ w'.cell? ⟨g4, 1, none⟩ = some (.int .i64 bx.f.high) ∧ w'.cell? ⟨g4, 2, none⟩ = some (.slice bx.pa bx.f.pars.length bx.pc)) ∧ (w'.cell? ⟨w.heap.size, 0, none⟩ = some (.string x.f.id) ∧ w'.cell? ⟨w.heap.size, 1, none⟩ = some (.int .i64 x.f.high) ∧ w'.cell? ⟨w.heap.size, 2, none⟩ = some (.slice x.pa x.f.pars.length x.pc)) ∧ (w'.cell? ⟨w.heap.size + 1, 0, none⟩ = some (.string y.f.id) ∧ w'.cell? ⟨w.heap.size + 1, 1, none⟩ = some (.int .i64 y.f.high) ∧ w'.cell? ⟨w.heap.size + 1, 2, none⟩ = some (.slice y.pa y.f.pars.length y.pc))) (first | exact hk0 | exact hkeep.out _ b5)
            (first | (go_at_call 12; refine (hC.out _).mono ?_; rintro e w5 ⟨rfl, q5, o5, hw5⟩; have b5 : Below wr.heap.size wr w5 := (by rw [hw5]; exact b_then bd (below_grow _ _ _)); clear hw5))
          all_goals
            have hk5 := hkeep.out _ (b_then b5 (b_drew1 w5))
            have bd5 := b_then b5 (b_drew1 w5)
            clear hk0
            cases t with
            | true =>
              have htF : Hid (true = true ↔ (nL = 0 ∨ ∃ z ∈ L.take (k + 1), z.f = bx.f)) := Lib.hid (by
                refine iff_of_true rfl ?_
                rcases ht.out.1 rfl with h | ⟨q, hq, e⟩
                · exact Or.inl h
                · exact Or.inr ⟨q, by rw [htk.out]; exact List.mem_append_left _ hq, e⟩)
              go_wp2_with fail
              refine wp_region_held_drew (S := (fun w' => (w'.cell? ⟨b, off + k * 3, none⟩ = some (.string z.f.id) ∧ w'.cell? ⟨b, off + k * 3 + 1, none⟩ = some (.int .i64 z.f.high) ∧ w'.cell? ⟨b, off + k * 3 + 2, none⟩ = some (.slice z.pa z.f.pars.length z.pc)) ∧ (w'.cell? ⟨g4, 0, none⟩ = some (.string bx.f.id) ∧ w'.cell? ⟨g4, 1, none⟩ = some (.int .i64 bx.f.high) ∧ w'.cell? ⟨g4, 2, none⟩ = some (.slice bx.pa bx.f.pars.length bx.pc)) ∧ (w'.cell? ⟨w.heap.size, 0, none⟩ = some (.string x.f.id) ∧ w'.cell? ⟨w.heap.size, 1, none⟩ = some (.int .i64 x.f.high) ∧ w'.cell? ⟨w.heap.size, 2, none⟩ = some (.slice x.pa x.f.pars.length x.pc)) ∧ (w'.cell? ⟨w.heap.size + 1, 0, none⟩ = some (.string y.f.id) ∧ w'.cell? ⟨w.heap.size + 1, 1, none⟩ = some (.int .i64 y.f.high) ∧ w'.cell? ⟨w.heap.size + 1, 2, none⟩ = some (.slice y.pa y.f.pars.length y.pc)))) (by kernel_rfl) (hk5) (fun hHeld => ?_)
              refine wpAnyH_take (i := 0) (oi := { dst := some 67, op := _, type := _, pos := _, after := _, guard := none }) (v := ?vr19_0) rfl (by kernel_rfl) (by kernel_rfl) (by kernel_rfl) (fun _ _ _ h => h) (Or.inl ⟨by rfl, ?hyr19_0⟩) (by assumption) ?restr19_0
              case hyr19_0 => (intro w hSw; (try dsimp only at hSw); go_simp <;> with_reducible rfl)
              (try simp only [Act.put, List.setIfInBounds_toArray, List.set_cons_zero, List.set_cons_succ])
              refine wpAnyH_take (i := 1) (oi := { dst := some 68, op := _, type := _, pos := _, after := _, guard := none }) (v := ?vr19_1) rfl (by kernel_rfl) (by kernel_rfl) (by kernel_rfl) (fun _ _ _ h => h) (Or.inl ⟨by rfl, ?hyr19_1⟩) (by assumption) ?restr19_1
              case hyr19_1 => (intro w hSw; (try dsimp only at hSw); go_simp <;> with_reducible rfl)
              (try simp only [Act.put, List.setIfInBounds_toArray, List.set_cons_zero, List.set_cons_succ])
              refine wpAnyH_take (i := 2) (oi := { dst := some 69, op := _, type := _, pos := _, after := _, guard := some (1, false) }) (v := undef) rfl (by kernel_rfl) (by kernel_rfl) (by kernel_rfl) (fun _ _ _ h => h) (Or.inr ⟨by rfl, rfl⟩) (by assumption) ?_
              (try simp only [Act.put, List.setIfInBounds_toArray, List.set_cons_zero, List.set_cons_succ])
              refine wpAnyH_take (i := 3) (oi := { dst := some 70, op := _, type := _, pos := _, after := _, guard := some (1, false) }) (v := undef) rfl (by kernel_rfl) (by kernel_rfl) (by kernel_rfl) (fun _ _ _ h => h) (Or.inr ⟨by rfl, rfl⟩) (by assumption) ?_
              (try simp only [Act.put, List.setIfInBounds_toArray, List.set_cons_zero, List.set_cons_succ])
              refine wpAnyH_take (i := 4) (oi := { dst := some 71, op := _, type := _, pos := _, after := _, guard := some (1, false) }) (v := undef) rfl (by kernel_rfl) (by kernel_rfl) (by kernel_rfl) (fun _ _ _ h => h) (Or.inr ⟨by rfl, rfl⟩) (by assumption) ?_
              (try simp only [Act.put, List.setIfInBounds_toArray, List.set_cons_zero, List.set_cons_succ])
              refine wpAnyH_take (i := 5) (oi := { dst := some 72, op := _, type := _, pos := _, after := _, guard := some (1, false) }) (v := undef) rfl (by kernel_rfl) (by kernel_rfl) (by kernel_rfl) (fun _ _ _ h => h) (Or.inr ⟨by rfl, rfl⟩) (by assumption) ?_
              (try simp only [Act.put, List.setIfInBounds_toArray, List.set_cons_zero, List.set_cons_succ])
              refine wpAnyH_take (i := 6) (oi := { dst := some 73, op := _, type := _, pos := _, after := _, guard := some (1, false) }) (v := undef) rfl (by kernel_rfl) (by kernel_rfl) (by kernel_rfl) (fun _ _ _ h => h) (Or.inr ⟨by rfl, rfl⟩) (by assumption) ?_
              (try simp only [Act.put, List.setIfInBounds_toArray, List.set_cons_zero, List.set_cons_succ])
              refine wpAnyH_take (i := 7) (oi := { dst := some 74, op := _, type := _, pos := _, after := _, guard := some (1, false) }) (v := undef) rfl (by kernel_rfl) (by kernel_rfl) (by kernel_rfl) (fun _ _ _ h => h) (Or.inr ⟨by rfl, rfl⟩) (by assumption) ?_
              (try simp only [Act.put, List.setIfInBounds_toArray, List.set_cons_zero, List.set_cons_succ])
              refine wpAnyH_take (i := 8) (oi := { dst := some 75, op := _, type := _, pos := _, after := _, guard := none }) (v := ?vr19_8) rfl (by kernel_rfl) (by kernel_rfl) (by kernel_rfl) (fun _ _ _ h => h) (Or.inl ⟨by rfl, ?hyr19_8⟩) (by assumption) ?restr19_8
              case hyr19_8 => (intro w hSw; (try dsimp only at hSw); go_simp <;> with_reducible rfl)
              (try simp only [Act.put, List.setIfInBounds_toArray, List.set_cons_zero, List.set_cons_succ])
              refine wpAnyH_take (i := 9) (oi := { dst := some 10, op := _, type := _, pos := _, after := _, guard := none }) (v := ?vr19_9) rfl (by kernel_rfl) (by kernel_rfl) (by kernel_rfl) (fun _ _ _ h => h) (Or.inl ⟨by rfl, ?hyr19_9⟩) (by assumption) ?restr19_9
              case hyr19_9 => (intro w hSw; (try dsimp only at hSw); go_simp <;> with_reducible rfl)
              (try simp only [Act.put, List.setIfInBounds_toArray, List.set_cons_zero, List.set_cons_succ])
              refine wpAnyH_done (by kernel_rfl) ?_ _
              obtain ⟨w6, hw6⟩ : ∃ w6, w6 = w5.drew := ⟨_, rfl⟩
              have b6 := Lib.hid bd5
              rw [← hw6] at b6 ⊢
              have hk6 := hkeep.out _ (b_then b6.out (b_drew1 w6))
              clear hw6 bd5 hk5 b5
              have b7 := b_drew1 w6
              go_wp2_with fail
              refine wp_region_held_drew (S := (fun w' => (w'.cell? ⟨b, off + k * 3, none⟩ = some (.string z.f.id) ∧ w'.cell? ⟨b, off + k * 3 + 1, none⟩ = some (.int .i64 z.f.high) ∧ w'.cell? ⟨b, off + k * 3 + 2, none⟩ = some (.slice z.pa z.f.pars.length z.pc)) ∧ (w'.cell? ⟨g4, 0, none⟩ = some (.string bx.f.id) ∧ w'.cell? ⟨g4, 1, none⟩ = some (.int .i64 bx.f.high) ∧ w'.cell? ⟨g4, 2, none⟩ = some (.slice bx.pa bx.f.pars.length bx.pc)) ∧ (w'.cell? ⟨w.heap.size, 0, none⟩ = some (.string x.f.id) ∧ w'.cell? ⟨w.heap.size, 1, none⟩ = some (.int .i64 x.f.high) ∧ w'.cell? ⟨w.heap.size, 2, none⟩ = some (.slice x.pa x.f.pars.length x.pc)) ∧ (w'.cell? ⟨w.heap.size + 1, 0, none⟩ = some (.string y.f.id) ∧ w'.cell? ⟨w.heap.size + 1, 1, none⟩ = some (.int .i64 y.f.high) ∧ w'.cell? ⟨w.heap.size + 1, 2, none⟩ = some (.slice y.pa y.f.pars.length y.pc)))) (by kernel_rfl) (hk6) (fun hHeld => ?_)
              refine wpAnyH_take (i := 0) (oi := { dst := some 78, op := _, type := _, pos := _, after := _, guard := none }) (v := ?vr20_0) rfl (by kernel_rfl) (by kernel_rfl) (by kernel_rfl) (fun _ _ _ h => h) (Or.inl ⟨by rfl, ?hyr20_0⟩) (by assumption) ?restr20_0
              case hyr20_0 => (intro w hSw; (try dsimp only at hSw); go_simp <;> with_reducible rfl)
              (try simp only [Act.put, List.setIfInBounds_toArray, List.set_cons_zero, List.set_cons_succ])
              refine wpAnyH_take (i := 1) (oi := { dst := some 79, op := _, type := _, pos := _, after := _, guard := none }) (v := ?vr20_1) rfl (by kernel_rfl) (by kernel_rfl) (by kernel_rfl) (fun _ _ _ h => h) (Or.inl ⟨by rfl, ?hyr20_1⟩) (by assumption) ?restr20_1
              case hyr20_1 => (intro w hSw; (try dsimp only at hSw); go_simp <;> with_reducible rfl)
              (try simp only [Act.put, List.setIfInBounds_toArray, List.set_cons_zero, List.set_cons_succ])
              refine wpAnyH_take (i := 2) (oi := { dst := some 80, op := _, type := _, pos := _, after := _, guard := none }) (v := ?vr20_2) rfl (by kernel_rfl) (by kernel_rfl) (by kernel_rfl) (fun _ _ _ h => h) (Or.inl ⟨by rfl, ?hyr20_2⟩) (by assumption) ?restr20_2
              case hyr20_2 => (intro w hSw; (try dsimp only at hSw); go_simp <;> with_reducible rfl)
              (try simp only [Act.put, List.setIfInBounds_toArray, List.set_cons_zero, List.set_cons_succ])
              refine wpAnyH_take (i := 3) (oi := { dst := some 81, op := _, type := _, pos := _, after := _, guard := some (2, true) }) (v := undef) rfl (by kernel_rfl) (by kernel_rfl) (by kernel_rfl) (fun _ _ _ h => h) (Or.inr ⟨by rfl, rfl⟩) (by assumption) ?_
              (try simp only [Act.put, List.setIfInBounds_toArray, List.set_cons_zero, List.set_cons_succ])
              refine wpAnyH_take (i := 4) (oi := { dst := some 82, op := _, type := _, pos := _, after := _, guard := some (2, true) }) (v := undef) rfl (by kernel_rfl) (by kernel_rfl) (by kernel_rfl) (fun _ _ _ h => h) (Or.inr ⟨by rfl, rfl⟩) (by assumption) ?_
              (try simp only [Act.put, List.setIfInBounds_toArray, List.set_cons_zero, List.set_cons_succ])
              refine wpAnyH_take (i := 5) (oi := { dst := some 83, op := _, type := _, pos := _, after := _, guard := some (2, true) }) (v := undef) rfl (by kernel_rfl) (by kernel_rfl) (by kernel_rfl) (fun _ _ _ h => h) (Or.inr ⟨by rfl, rfl⟩) (by assumption) ?_
              (try simp only [Act.put, List.setIfInBounds_toArray, List.set_cons_zero, List.set_cons_succ])
              refine wpAnyH_take (i := 6) (oi := { dst := some 84, op := _, type := _, pos := _, after := _, guard := some (2, true) }) (v := undef) rfl (by kernel_rfl) (by kernel_rfl) (by kernel_rfl) (fun _ _ _ h => h) (Or.inr ⟨by rfl, rfl⟩) (by assumption) ?_
              (try simp only [Act.put, List.setIfInBounds_toArray, List.set_cons_zero, List.set_cons_succ])
              refine wpAnyH_take (i := 7) (oi := { dst := some 85, op := _, type := _, pos := _, after := _, guard := some (2, true) }) (v := undef) rfl (by kernel_rfl) (by kernel_rfl) (by kernel_rfl) (fun _ _ _ h => h) (Or.inr ⟨by rfl, rfl⟩) (by assumption) ?_
              (try simp only [Act.put, List.setIfInBounds_toArray, List.set_cons_zero, List.set_cons_succ])
              refine wpAnyH_take (i := 8) (oi := { dst := some 86, op := _, type := _, pos := _, after := _, guard := some (2, true) }) (v := undef) rfl (by kernel_rfl) (by kernel_rfl) (by kernel_rfl) (fun _ _ _ h => h) (Or.inr ⟨by rfl, rfl⟩) (by assumption) ?_
              (try simp only [Act.put, List.setIfInBounds_toArray, List.set_cons_zero, List.set_cons_succ])
              refine wpAnyH_take (i := 9) (oi := { dst := some 87, op := _, type := _, pos := _, after := _, guard := some (2, true) }) (v := undef) rfl (by kernel_rfl) (by kernel_rfl) (by kernel_rfl) (fun _ _ _ h => h) (Or.inr ⟨by rfl, rfl⟩) (by assumption) ?_
              (try simp only [Act.put, List.setIfInBounds_toArray, List.set_cons_zero, List.set_cons_succ])
              refine wpAnyH_take (i := 10) (oi := { dst := some 88, op := _, type := _, pos := _, after := _, guard := none }) (v := ?vr20_10) rfl (by kernel_rfl) (by kernel_rfl) (by kernel_rfl) (fun _ _ _ h => h) (Or.inl ⟨by rfl, ?hyr20_10⟩) (by assumption) ?restr20_10
              case hyr20_10 => (intro w hSw; (try dsimp only at hSw); go_simp <;> with_reducible rfl)
              (try simp only [Act.put, List.setIfInBounds_toArray, List.set_cons_zero, List.set_cons_succ])
              refine wpAnyH_take (i := 11) (oi := { dst := some 89, op := _, type := _, pos := _, after := _, guard := none }) (v := ?vr20_11) rfl (by kernel_rfl) (by kernel_rfl) (by kernel_rfl) (fun _ _ _ h => h) (Or.inl ⟨by rfl, ?hyr20_11⟩) (by assumption) ?restr20_11
              case hyr20_11 => (intro w hSw; (try dsimp only at hSw); go_simp <;> with_reducible rfl)
              (try simp only [Act.put, List.setIfInBounds_toArray, List.set_cons_zero, List.set_cons_succ])
              refine wpAnyH_take (i := 12) (oi := { dst := some 90, op := _, type := _, pos := _, after := _, guard := some (11, true) }) (v := undef) rfl (by kernel_rfl) (by kernel_rfl) (by kernel_rfl) (fun _ _ _ h => h) (Or.inr ⟨by rfl, rfl⟩) (by assumption) ?_
              (try simp only [Act.put, List.setIfInBounds_toArray, List.set_cons_zero, List.set_cons_succ])
              refine wpAnyH_take (i := 13) (oi := { dst := some 91, op := _, type := _, pos := _, after := _, guard := some (11, true) }) (v := undef) rfl (by kernel_rfl) (by kernel_rfl) (by kernel_rfl) (fun _ _ _ h => h) (Or.inr ⟨by rfl, rfl⟩) (by assumption) ?_
              (try simp only [Act.put, List.setIfInBounds_toArray, List.set_cons_zero, List.set_cons_succ])
              refine wpAnyH_take (i := 14) (oi := { dst := some 92, op := _, type := _, pos := _, after := _, guard := some (11, true) }) (v := undef) rfl (by kernel_rfl) (by kernel_rfl) (by kernel_rfl) (fun _ _ _ h => h) (Or.inr ⟨by rfl, rfl⟩) (by assumption) ?_
              (try simp only [Act.put, List.setIfInBounds_toArray, List.set_cons_zero, List.set_cons_succ])
              refine wpAnyH_take (i := 15) (oi := { dst := some 93, op := _, type := _, pos := _, after := _, guard := some (11, true) }) (v := undef) rfl (by kernel_rfl) (by kernel_rfl) (by kernel_rfl) (fun _ _ _ h => h) (Or.inr ⟨by rfl, rfl⟩) (by assumption) ?_
              (try simp only [Act.put, List.setIfInBounds_toArray, List.set_cons_zero, List.set_cons_succ])
              refine wpAnyH_take (i := 16) (oi := { dst := some 94, op := _, type := _, pos := _, after := _, guard := some (11, true) }) (v := undef) rfl (by kernel_rfl) (by kernel_rfl) (by kernel_rfl) (fun _ _ _ h => h) (Or.inr ⟨by rfl, rfl⟩) (by assumption) ?_
              (try simp only [Act.put, List.setIfInBounds_toArray, List.set_cons_zero, List.set_cons_succ])
              refine wpAnyH_take (i := 17) (oi := { dst := some 95, op := _, type := _, pos := _, after := _, guard := some (11, true) }) (v := undef) rfl (by kernel_rfl) (by kernel_rfl) (by kernel_rfl) (fun _ _ _ h => h) (Or.inr ⟨by rfl, rfl⟩) (by assumption) ?_
              (try simp only [Act.put, List.setIfInBounds_toArray, List.set_cons_zero, List.set_cons_succ])
              refine wpAnyH_take (i := 18) (oi := { dst := some 96, op := _, type := _, pos := _, after := _, guard := some (11, true) }) (v := undef) rfl (by kernel_rfl) (by kernel_rfl) (by kernel_rfl) (fun _ _ _ h => h) (Or.inr ⟨by rfl, rfl⟩) (by assumption) ?_
              (try simp only [Act.put, List.setIfInBounds_toArray, List.set_cons_zero, List.set_cons_succ])
              refine wpAnyH_take (i := 19) (oi := { dst := some 97, op := _, type := _, pos := _, after := _, guard := none }) (v := ?vr20_19) rfl (by kernel_rfl) (by kernel_rfl) (by kernel_rfl) (fun _ _ _ h => h) (Or.inl ⟨by rfl, ?hyr20_19⟩) (by assumption) ?restr20_19
              case hyr20_19 => (intro w hSw; (try dsimp only at hSw); go_simp <;> with_reducible rfl)
              (try simp only [Act.put, List.setIfInBounds_toArray, List.set_cons_zero, List.set_cons_succ])
              refine wpAnyH_done (by kernel_rfl) ?_ _
              have hbF := Lib.hid (b_then b6.out b7)
              go_wp2
              go_roundw
              case measure => simp [intOf]; exact hms.out
              case rel => exact ⟨k + 1, _, hkl.out, rfl, by simp, Lib.hid (by simpa using htF.out), b_next hb.out hbF.out (Nat.le_refl _)⟩
            | false =>
              have hS5 := Lib.hid (hS.out _ bd5)
              go_wp2_with fail
              go_region_held3 (fun w' => (w'.cell? ⟨b, off + k * 3, none⟩ = some (.string z.f.id) ∧ w'.cell? ⟨b, off + k * 3 + 1, none⟩ = some (.int .i64 z.f.high) ∧ w'.cell? ⟨b, off + k * 3 + 2, none⟩ = some (.slice z.pa z.f.pars.length z.pc)) ∧ (w'.cell? ⟨g4, 0, none⟩ = some (.string bx.f.id) ∧ w'.cell? ⟨g4, 1, none⟩ = some (.int .i64 bx.f.high) ∧ w'.cell? ⟨g4, 2, none⟩ = some (.slice bx.pa bx.f.pars.length bx.pc)) ∧ (w'.cell? ⟨w.heap.size, 0, none⟩ = some (.string x.f.id) ∧ w'.cell? ⟨w.heap.size, 1, none⟩ = some (.int .i64 x.f.high) ∧ w'.cell? ⟨w.heap.size, 2, none⟩ = some (.slice x.pa x.f.pars.length x.pc)) ∧ (w'.cell? ⟨w.heap.size + 1, 0, none⟩ = some (.string y.f.id) ∧ w'.cell? ⟨w.heap.size + 1, 1, none⟩ = some (.int .i64 y.f.high) ∧ w'.cell? ⟨w.heap.size + 1, 2, none⟩ = some (.slice y.pa y.f.pars.length y.pc))) (first | exact hk5 | exact hkeep.out _ b6)
                (first | (go_at_call 14; refine (hS5.out).mono ?_; rintro e w6 ⟨⟨s, rfl, hs⟩, b6'⟩; have b6 := b_then bd5 b6'; clear b6'))
              all_goals
                have htF : Hid (s = true ↔ (nL = 0 ∨ ∃ z ∈ L.take (k + 1), z.f = bx.f)) := Lib.hid (by
                  have h0 := ht.out
                  rw [hs, htk.out]
                  constructor
                  · intro e; exact Or.inr ⟨z, List.mem_append_right _ (List.mem_singleton.2 rfl), e⟩
                  · rintro (e | ⟨q, hq, e⟩)
                    · have := h0.2 (Or.inl e); cases this
                    · rcases List.mem_append.1 hq with hq | hq
                      · have := h0.2 (Or.inr ⟨q, hq, e⟩); cases this
                      · rw [List.mem_singleton] at hq; subst hq; exact e)
                replace b6 := Lib.hid b6
                have hk6 := hkeep.out _ (b_then b6.out (b_drew1 w6))
                clear hk5 bd5 b5 hs
                have b7 := b_drew1 w6
                go_wp2_with fail
                refine wp_region_held_drew (S := (fun w' => (w'.cell? ⟨b, off + k * 3, none⟩ = some (.string z.f.id) ∧ w'.cell? ⟨b, off + k * 3 + 1, none⟩ = some (.int .i64 z.f.high) ∧ w'.cell? ⟨b, off + k * 3 + 2, none⟩ = some (.slice z.pa z.f.pars.length z.pc)) ∧ (w'.cell? ⟨g4, 0, none⟩ = some (.string bx.f.id) ∧ w'.cell? ⟨g4, 1, none⟩ = some (.int .i64 bx.f.high) ∧ w'.cell? ⟨g4, 2, none⟩ = some (.slice bx.pa bx.f.pars.length bx.pc)) ∧ (w'.cell? ⟨w.heap.size, 0, none⟩ = some (.string x.f.id) ∧ w'.cell? ⟨w.heap.size, 1, none⟩ = some (.int .i64 x.f.high) ∧ w'.cell? ⟨w.heap.size, 2, none⟩ = some (.slice x.pa x.f.pars.length x.pc)) ∧ (w'.cell? ⟨w.heap.size + 1, 0, none⟩ = some (.string y.f.id) ∧ w'.cell? ⟨w.heap.size + 1, 1, none⟩ = some (.int .i64 y.f.high) ∧ w'.cell? ⟨w.heap.size + 1, 2, none⟩ = some (.slice y.pa y.f.pars.length y.pc)))) (by kernel_rfl) (hk6) (fun hHeld => ?_)
                refine wpAnyH_take (i := 0) (oi := { dst := some 78, op := _, type := _, pos := _, after := _, guard := none }) (v := ?vr21_0) rfl (by kernel_rfl) (by kernel_rfl) (by kernel_rfl) (fun _ _ _ h => h) (Or.inl ⟨by rfl, ?hyr21_0⟩) (by assumption) ?restr21_0
                case hyr21_0 => (intro w hSw; (try dsimp only at hSw); go_simp <;> with_reducible rfl)
                (try simp only [Act.put, List.setIfInBounds_toArray, List.set_cons_zero, List.set_cons_succ])
                refine wpAnyH_take (i := 1) (oi := { dst := some 79, op := _, type := _, pos := _, after := _, guard := none }) (v := ?vr21_1) rfl (by kernel_rfl) (by kernel_rfl) (by kernel_rfl) (fun _ _ _ h => h) (Or.inl ⟨by rfl, ?hyr21_1⟩) (by assumption) ?restr21_1
                case hyr21_1 => (intro w hSw; (try dsimp only at hSw); go_simp <;> with_reducible rfl)
                (try simp only [Act.put, List.setIfInBounds_toArray, List.set_cons_zero, List.set_cons_succ])
                refine wpAnyH_take (i := 2) (oi := { dst := some 80, op := _, type := _, pos := _, after := _, guard := none }) (v := ?vr21_2) rfl (by kernel_rfl) (by kernel_rfl) (by kernel_rfl) (fun _ _ _ h => h) (Or.inl ⟨by rfl, ?hyr21_2⟩) (by assumption) ?restr21_2
                case hyr21_2 => (intro w hSw; (try dsimp only at hSw); go_simp <;> with_reducible rfl)
                (try simp only [Act.put, List.setIfInBounds_toArray, List.set_cons_zero, List.set_cons_succ])
                refine wpAnyH_take (i := 3) (oi := { dst := some 81, op := _, type := _, pos := _, after := _, guard := some (2, true) }) (v := undef) rfl (by kernel_rfl) (by kernel_rfl) (by kernel_rfl) (fun _ _ _ h => h) (Or.inr ⟨by rfl, rfl⟩) (by assumption) ?_
                (try simp only [Act.put, List.setIfInBounds_toArray, List.set_cons_zero, List.set_cons_succ])
                refine wpAnyH_take (i := 4) (oi := { dst := some 82, op := _, type := _, pos := _, after := _, guard := some (2, true) }) (v := undef) rfl (by kernel_rfl) (by kernel_rfl) (by kernel_rfl) (fun _ _ _ h => h) (Or.inr ⟨by rfl, rfl⟩) (by assumption) ?_
                (try simp only [Act.put, List.setIfInBounds_toArray, List.set_cons_zero, List.set_cons_succ])
                refine wpAnyH_take (i := 5) (oi := { dst := some 83, op := _, type := _, pos := _, after := _, guard := some (2, true) }) (v := undef) rfl (by kernel_rfl) (by kernel_rfl) (by kernel_rfl) (fun _ _ _ h => h) (Or.inr ⟨by rfl, rfl⟩) (by assumption) ?_
                (try simp only [Act.put, List.setIfInBounds_toArray, List.set_cons_zero, List.set_cons_succ])
                refine wpAnyH_take (i := 6) (oi := { dst := some 84, op := _, type := _, pos := _, after := _, guard := some (2, true) }) (v := undef) rfl (by kernel_rfl) (by kernel_rfl) (by kernel_rfl) (fun _ _ _ h => h) (Or.inr ⟨by rfl, rfl⟩) (by assumption) ?_
                (try simp only [Act.put, List.setIfInBounds_toArray, List.set_cons_zero, List.set_cons_succ])
                refine wpAnyH_take (i := 7) (oi := { dst := some 85, op := _, type := _, pos := _, after := _, guard := some (2, true) }) (v := undef) rfl (by kernel_rfl) (by kernel_rfl) (by kernel_rfl) (fun _ _ _ h => h) (Or.inr ⟨by rfl, rfl⟩) (by assumption) ?_
                (try simp only [Act.put, List.setIfInBounds_toArray, List.set_cons_zero, List.set_cons_succ])
                refine wpAnyH_take (i := 8) (oi := { dst := some 86, op := _, type := _, pos := _, after := _, guard := some (2, true) }) (v := undef) rfl (by kernel_rfl) (by kernel_rfl) (by kernel_rfl) (fun _ _ _ h => h) (Or.inr ⟨by rfl, rfl⟩) (by assumption) ?_
                (try simp only [Act.put, List.setIfInBounds_toArray, List.set_cons_zero, List.set_cons_succ])
                refine wpAnyH_take (i := 9) (oi := { dst := some 87, op := _, type := _, pos := _, after := _, guard := some (2, true) }) (v := undef) rfl (by kernel_rfl) (by kernel_rfl) (by kernel_rfl) (fun _ _ _ h => h) (Or.inr ⟨by rfl, rfl⟩) (by assumption) ?_
                (try simp only [Act.put, List.setIfInBounds_toArray, List.set_cons_zero, List.set_cons_succ])
                refine wpAnyH_take (i := 10) (oi := { dst := some 88, op := _, type := _, pos := _, after := _, guard := none }) (v := ?vr21_10) rfl (by kernel_rfl) (by kernel_rfl) (by kernel_rfl) (fun _ _ _ h => h) (Or.inl ⟨by rfl, ?hyr21_10⟩) (by assumption) ?restr21_10
                case hyr21_10 => (intro w hSw; (try dsimp only at hSw); go_simp <;> with_reducible rfl)
                (try simp only [Act.put, List.setIfInBounds_toArray, List.set_cons_zero, List.set_cons_succ])
                refine wpAnyH_take (i := 11) (oi := { dst := some 89, op := _, type := _, pos := _, after := _, guard := none }) (v := ?vr21_11) rfl (by kernel_rfl) (by kernel_rfl) (by kernel_rfl) (fun _ _ _ h => h) (Or.inl ⟨by rfl, ?hyr21_11⟩) (by assumption) ?restr21_11
                case hyr21_11 => (intro w hSw; (try dsimp only at hSw); go_simp <;> with_reducible rfl)
                (try simp only [Act.put, List.setIfInBounds_toArray, List.set_cons_zero, List.set_cons_succ])
                refine wpAnyH_take (i := 12) (oi := { dst := some 90, op := _, type := _, pos := _, after := _, guard := some (11, true) }) (v := undef) rfl (by kernel_rfl) (by kernel_rfl) (by kernel_rfl) (fun _ _ _ h => h) (Or.inr ⟨by rfl, rfl⟩) (by assumption) ?_
                (try simp only [Act.put, List.setIfInBounds_toArray, List.set_cons_zero, List.set_cons_succ])
                refine wpAnyH_take (i := 13) (oi := { dst := some 91, op := _, type := _, pos := _, after := _, guard := some (11, true) }) (v := undef) rfl (by kernel_rfl) (by kernel_rfl) (by kernel_rfl) (fun _ _ _ h => h) (Or.inr ⟨by rfl, rfl⟩) (by assumption) ?_
                (try simp only [Act.put, List.setIfInBounds_toArray, List.set_cons_zero, List.set_cons_succ])
                refine wpAnyH_take (i := 14) (oi := { dst := some 92, op := _, type := _, pos := _, after := _, guard := some (11, true) }) (v := undef) rfl (by kernel_rfl) (by kernel_rfl) (by kernel_rfl) (fun _ _ _ h => h) (Or.inr ⟨by rfl, rfl⟩) (by assumption) ?_
                (try simp only [Act.put, List.setIfInBounds_toArray, List.set_cons_zero, List.set_cons_succ])
                refine wpAnyH_take (i := 15) (oi := { dst := some 93, op := _, type := _, pos := _, after := _, guard := some (11, true) }) (v := undef) rfl (by kernel_rfl) (by kernel_rfl) (by kernel_rfl) (fun _ _ _ h => h) (Or.inr ⟨by rfl, rfl⟩) (by assumption) ?_
                (try simp only [Act.put, List.setIfInBounds_toArray, List.set_cons_zero, List.set_cons_succ])
                refine wpAnyH_take (i := 16) (oi := { dst := some 94, op := _, type := _, pos := _, after := _, guard := some (11, true) }) (v := undef) rfl (by kernel_rfl) (by kernel_rfl) (by kernel_rfl) (fun _ _ _ h => h) (Or.inr ⟨by rfl, rfl⟩) (by assumption) ?_
                (try simp only [Act.put, List.setIfInBounds_toArray, List.set_cons_zero, List.set_cons_succ])
                refine wpAnyH_take (i := 17) (oi := { dst := some 95, op := _, type := _, pos := _, after := _, guard := some (11, true) }) (v := undef) rfl (by kernel_rfl) (by kernel_rfl) (by kernel_rfl) (fun _ _ _ h => h) (Or.inr ⟨by rfl, rfl⟩) (by assumption) ?_
                (try simp only [Act.put, List.setIfInBounds_toArray, List.set_cons_zero, List.set_cons_succ])
                refine wpAnyH_take (i := 18) (oi := { dst := some 96, op := _, type := _, pos := _, after := _, guard := some (11, true) }) (v := undef) rfl (by kernel_rfl) (by kernel_rfl) (by kernel_rfl) (fun _ _ _ h => h) (Or.inr ⟨by rfl, rfl⟩) (by assumption) ?_
                (try simp only [Act.put, List.setIfInBounds_toArray, List.set_cons_zero, List.set_cons_succ])
                refine wpAnyH_take (i := 19) (oi := { dst := some 97, op := _, type := _, pos := _, after := _, guard := none }) (v := ?vr21_19) rfl (by kernel_rfl) (by kernel_rfl) (by kernel_rfl) (fun _ _ _ h => h) (Or.inl ⟨by rfl, ?hyr21_19⟩) (by assumption) ?restr21_19
                case hyr21_19 => (intro w hSw; (try dsimp only at hSw); go_simp <;> with_reducible rfl)
                (try simp only [Act.put, List.setIfInBounds_toArray, List.set_cons_zero, List.set_cons_succ])
                refine wpAnyH_done (by kernel_rfl) ?_ _
                have hbF := Lib.hid (b_then b6.out b7)
                go_wp2
                go_roundw
                case measure => simp [intOf]; exact hms.out
                case rel => exact ⟨k + 1, _, hkl.out, rfl, by simp, Lib.hid (by simpa using htF.out), b_next hb.out hbF.out (Nat.le_refl _)⟩
        · obtain rfl : k = nL := by omega
          have d0 : ¬ (k : Int) < k := by omega
          have ht2 : t = true := ht.out.2 (by
            rcases hend.out with h | ⟨q, hq, e⟩
            · exact Or.inl h
            · exact Or.inr ⟨q, by rw [hnL.out, List.take_length]; exact hq, e⟩)
          subst ht2
          have bb := Lib.hid (b_then hres.out hb)
          clear hb
          go_wp2
          go_ret
          exact ⟨rfl, bb.out⟩
theorem own : ownKnob Try.prog.godebug = none := by kernel_rfl
theorem laidOut : laidOutB Try.prog = true := by kernel_rfl
set_option maxRecDepth 100000 in
theorem lifted (os : Os) (started : os.Started) (H : Type) (enc : TypeId × Value → H) :
    ReturnsInHanded {} Try.checked os 5 .any (Rows.orderOneSpec.pre6 enc Try.prog Try.f5 Rows.orderOneRow.domain false) (Rows.orderOneSpec.post enc Try.prog Try.f5 false true false false) := by
  refine returnsInHanded_of_change_sized (C := Try.checked) own started (by kernel_rfl) Try.func5
    (ChangeSpec.witness6 (enc := enc) (C := Try.checked) false ⟨#[], #[.agg #[.string ⟨#[]⟩, .int .i64 0, .slice none 0 0], .agg #[.string ⟨#[]⟩, .int .i64 0, .slice none 0 0], .slice none 0 0], []⟩ 8 (by kernel_rfl) (by kernel_rfl) (by kernel_rfl) (by kernel_rfl)) ?_
  intro W base args ds gs before hval0 hW hcnd hsz0 _
  have hval : ∀ (j : Nat) t v, Try.f5.params[j]? = some t → args[j]? = some v → Value.okWide Try.prog W .any base t v := hval0
  have hsz : (DataW.weightsEach Try.prog (Try.f5.params.toList ++ Rows.orderOneSpec.plain.varTypes Try.prog) (ds ++ gs)).all (· ≤ reachBytes) = true := hsz0
  have hW' := hW
  obtain ⟨p, q, hA0, hV, rfl, hfz, hnd⟩ := hW
  have hA : DataW.TrodAll enc Try.prog W 0 (fun _ => true) true Try.f5.params.toList args.toList ds p := hA0
  rw [Try.params5] at hA hval hsz
  obtain ⟨v0, vs0, d0, ds0, p0, q0, hargs, rfl, rfl, h0, r0⟩ := trodAll_cons hA
  obtain ⟨v1, vs1, d1, ds1, p1, q1, rfl, rfl, rfl, h1, r1⟩ := trodAll_cons r0
  obtain ⟨v2, vs2, d2, ds2, p2, q2, rfl, rfl, rfl, h2, r2⟩ := trodAll_cons r1
  obtain ⟨rfl, rfl, rfl⟩ := trodAll_nil r2
  obtain rfl : args = #[v0, v1, v2] := by cases args; simp_all
  obtain ⟨rfl, rfl⟩ := trodVars_none hV
  have k0 := h0
  have lt0 : ∀ x ∈ p0, x.block < W.heap.size := by obtain ⟨m, hm⟩ := k0; exact DataW.trod_lt m _ _ _ hm
  have ok0 := hval 0 24 v0 rfl rfl
  have k1 := h1
  have lt1 : ∀ x ∈ p1, x.block < W.heap.size := by obtain ⟨m, hm⟩ := k1; exact DataW.trod_lt m _ _ _ hm
  have ok1 := hval 1 24 v1 rfl rfl
  have k2 := h2
  have lt2 : ∀ x ∈ p2, x.block < W.heap.size := by obtain ⟨m, hm⟩ := k2; exact DataW.trod_lt m _ _ _ hm
  have ok2 := hval 2 25 v2 rfl rfl
  clear hA0 hval0 hsz0
  obtain ⟨x, rfl, -⟩ := open_fact ok0 h0 (Oct.arg_weights hsz (j := 0) rfl rfl)
  obtain ⟨y, rfl, -⟩ := open_fact ok1 h1 (Oct.arg_weights hsz (j := 1) rfl rfl)
  obtain ⟨a2, c2, b2, o2, L, rfl, hL, hKn, hl⟩ := open_facts ok2 h2 (Oct.arg_weights hsz (j := 2) rfl rfl)
  refine (walk W x y a2 c2 b2 o2 L hL hKn hl).mono fun e W' ⟨he, bel⟩ => ?_
  subst he
  exact ⟨_, rfl, _, _, _, [], _, [], hW', trodAll_mk1 (shut_bool Try.underlying4 _), (trodAll_cons_mk (Below.trod laidOut (by kernel_rfl) (of_decide_eq_true (by kernel_rfl)) k0 bel lt0) (trodAll_cons_mk (Below.trod laidOut (by kernel_rfl) (of_decide_eq_true (by kernel_rfl)) k1 bel lt1) (trodAll_cons_mk (Below.trod laidOut (by kernel_rfl) (of_decide_eq_true (by kernel_rfl)) k2 bel lt2) trodAll_mk0))), rfl, bel.frame _, fun h => by cases h⟩

/-- the statement -/
theorem proved : Rows.OrderOneSaid :=
  OpenClaim.holds_of_wide 5 Try.f5 rfl rfl rfl rfl rfl rfl rfl ⟨rfl, rfl, rfl, rfl, rfl⟩ rfl rfl rfl rfl rfl (by kernel_rfl) Try.func5 (by kernel_rfl)
    (of_decide_eq_true (by kernel_rfl)) (by unfold Func.isWrapper; first | (rw [if_pos (by decide +kernel)]; kernel_rfl) | (rw [if_neg (by decide +kernel)]; exact ⟨rfl, rfl⟩))
    (fun os started H enc _ => lifted os started H enc)
end Go.Proofs.Ytbjpogeemajhoaa.orderOne
