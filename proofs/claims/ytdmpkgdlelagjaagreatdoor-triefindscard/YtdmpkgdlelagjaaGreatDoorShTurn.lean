/-
  Trees turned and balanced: whatever the weights are, the tree that comes back holds the left side, the entry, the right side. Conditions: a tree is not too great for its count.
-/
import Derived.Test.YtdmpkgdlelagjaaGreatDoorRows
import Derived.Test.YtdmpkgdlelagjaaGreatDoorShTree
namespace Go.Proofs.YtdmpkgdlelagjaaGreatDoor.Ti
open Go.RowKit Sh
attribute [local go_sem] fold_none

theorem two_nat (n : Nat) (h : n < 900000) : IntKind.i64.wrap (2 * ((n + 1 : Nat) : Int)) = ((2 * (n + 1) : Nat) : Int) := wrap_nat (2 * (n + 1)) (by omega)
theorem three_nat (n : Nat) (h : n < 1000000) : IntKind.i64.wrap (3 * ((n + 1 : Nat) : Int)) = ((3 * (n + 1) : Nat) : Int) := wrap_nat (3 * (n + 1)) (by omega)




end Go.Proofs.YtdmpkgdlelagjaaGreatDoor.Ti
namespace Go.Proofs.YtdmpkgdlelagjaaGreatDoor.Ts
open Go.RowKit Sh
attribute [local go_sem] fold_none

theorem Gives.flat {w w0 : World} {T : Tr ByteArray} {e : Ending} {w' : World} {L : List ByteArray} (h : Gives w T e w') (hb : Below w0.heap.size w0 w) (hL : T.flat = L) : GivesL w0 L e w' := by
  obtain ⟨p, rfl, ht, bb⟩ := h
  exact ⟨p, T, rfl, ht, hL, b_then hb bb⟩
theorem two_nat (n : Nat) (h : n < 900000) : IntKind.i64.wrap (2 * ((n + 1 : Nat) : Int)) = ((2 * (n + 1) : Nat) : Int) := wrap_nat (2 * (n + 1)) (by omega)
theorem three_nat (n : Nat) (h : n < 1000000) : IntKind.i64.wrap (3 * ((n + 1 : Nat) : Int)) = ((3 * (n + 1) : Nat) : Int) := wrap_nat (3 * (n + 1)) (by omega)




set_option maxHeartbeats 2000000 in
set_option maxRecDepth 100000 in
theorem turnedLeft_calls (w : World) (b n0 : Nat) (x y : ByteArray) (pl pr pL pR : Option Addr) (F SL SR : Tr ByteArray) (hN : Node w b x pl pr n0) (hF : IsTree w pL F) (hS : IsTree w pR (.node SL y SR)) (hb : F.num + (SL.num + SR.num) < 900000) :
    Calls Tryz.prog 135 #[.pointer (some ⟨b, 0, none⟩), .pointer pL, .pointer pR] w (GivesL w (F.flat ++ x :: (SL.flat ++ y :: SR.flat))) := by
  obtain ⟨bs, pa, pb, rfl, hNs, hA, hB⟩ := hS
  have k1 := Lib.hid fun w' (h : Below w.heap.size w w') => weight_calls w' pa SL (hA.next h) (by omega)
  have k2 := Lib.hid fun w' (h : Below w.heap.size w w') => weight_calls w' pb SR (hB.next h) (by omega)
  have q1 := hNs.left
  have q2 := hNs.right
  have j1 := two_nat SR.num (by omega)
  by_cases hlt : SL.num + 1 < 2 * (SR.num + 1)
  · have d1 : ((SL.num + 1 : Nat) : Int) < ((2 * (SR.num + 1) : Nat) : Int) := by omega
    have ha := Lib.hid fun w' (h : Below w.heap.size w w') => over_calls w' b n0 x pl pr pL pa F SL (hN.kept (nodes_below h)) (hF.next h) (hA.next h) (by omega)
    have hc := Lib.hid fun w' p' (h : Below w.heap.size w w') (ht : IsTree w' p' (.node F x SL)) => over_calls w' bs _ y pa pb p' pb (.node F x SL) SR (hNs.kept (nodes_below h)) ht (hB.next h) (by rw [num_node]; omega)
    have hf : Hid ((Tr.node (Tr.node F x SL) y SR).flat = F.flat ++ x :: (SL.flat ++ y :: SR.flat)) := Lib.hid (by simp [Tr.flat])
    clear hN hF hNs hA hB
    generalize hm : SL.num + 1 = m at *
    generalize hk : 2 * (SR.num + 1) = k at *
    generalize hk3 : SR.num + 1 = k3 at *
    replace hm := Lib.hid hm
    replace hk := Lib.hid hk
    replace hk3 := Lib.hid hk3
    go_enter Tryz.func135, Tryz.ntmps135
    go_wp2_with fail
    go_quiet (fail)
    have bd := b_drewN w nq
    generalize w.drewN nq = w1 at *
    go_wp2_with fail
    refine (k1.out w1 bd).mono ?_
    rintro e w' ⟨rfl, rfl⟩
    go_wp2_with fail
    refine (k2.out _ bd).mono ?_
    rintro e w' ⟨rfl, rfl⟩
    go_wp2_with fail
    refine (ha.out _ bd).mono ?_
    rintro e w2 ⟨p2, rfl, t2, b2⟩
    have b02 := b_then bd b2
    go_wp2_with fail
    refine (hc.out w2 p2 b02 t2).mono ?_
    rintro e w3 h3
    have h4 := Lib.hid (h3.flat b02 hf.out)
    obtain ⟨p3, rfl, -, -⟩ := h3
    go_wp2
    go_ret
    exact h4.out
  · cases SL with
    | nil => rw [num_nil] at hlt; omega
    | node I1 z I2 =>
      obtain ⟨bi, p1, p2, rfl, hNi, h1, h2⟩ := hA
      have d1 : decide ((((Tr.node I1 z I2).num + 1 : Nat) : Int) < ((2 * (SR.num + 1) : Nat) : Int)) = false := decide_eq_false (by omega)
      have d2 : ((2 * (SR.num + 1) : Nat) : Int) ≤ (((Tr.node I1 z I2).num + 1 : Nat) : Int) := by omega
      have hz : (Tr.node I1 z I2).num = I1.num + 1 + I2.num := num_node I1 I2 z
      have hO := Lib.hid fun w' (b' n' : Nat) (x' : ByteArray) (pl' pr' pL' pR' : Option Addr) (L' R' : Tr ByteArray) (g1 : Node w' b' x' pl' pr' n') (g2 : IsTree w' pL' L') (g3 : IsTree w' pR' R') (g4 : L'.num + R'.num < 1000000) => over_calls w' b' n' x' pl' pr' pL' pR' L' R' g1 g2 g3 g4
      have g1 : Hid (F.num + I1.num < 1000000) := Lib.hid (by omega)
      have g2 : Hid (I2.num + SR.num < 1000000) := Lib.hid (by omega)
      have g3 : Hid ((Tr.node F x I1).num + (Tr.node I2 y SR).num < 1000000) := Lib.hid (by rw [num_node, num_node]; omega)
      have hi := Lib.hid fun w' (h : Below w.heap.size w w') => (hNi.kept (nodes_below h)).cells
      have hf : Hid ((Tr.node (Tr.node F x I1) z (Tr.node I2 y SR)).flat = F.flat ++ x :: ((Tr.node I1 z I2).flat ++ y :: SR.flat)) := Lib.hid (by simp [Tr.flat])
      have n1 := Lib.hid fun w' (h : Below w.heap.size w w') => (hN.kept (nodes_below h))
      have n2 := Lib.hid fun w' (h : Below w.heap.size w w') => (hNs.kept (nodes_below h))
      have n3 := Lib.hid fun w' (h : Below w.heap.size w w') => (hNi.kept (nodes_below h))
      have a1 := Lib.hid fun w' (h : Below w.heap.size w w') => hF.next h
      have a2 := Lib.hid fun w' (h : Below w.heap.size w w') => h1.next h
      have a3 := Lib.hid fun w' (h : Below w.heap.size w w') => h2.next h
      have a4 := Lib.hid fun w' (h : Below w.heap.size w w') => hB.next h
      clear hN hF hNs hB hNi h1 h2 hz
      generalize hm : (Tr.node I1 z I2).num + 1 = m at *
      generalize hz : (Tr.node I1 z I2).num = m0 at *
      generalize hk : 2 * (SR.num + 1) = k at *
      generalize hk3 : SR.num + 1 = k3 at *
      replace hm := Lib.hid hm
      replace hk := Lib.hid hk
      replace hk3 := Lib.hid hk3
      replace hz := Lib.hid hz
      go_enter Tryz.func135, Tryz.ntmps135
      go_wp2_with fail
      go_quiet (fail)
      have bd := b_drewN w nq
      generalize w.drewN nq = w1 at *
      go_wp2_with fail
      refine (k1.out w1 bd).mono ?_
      rintro e w' ⟨rfl, rfl⟩
      go_wp2_with fail
      refine (k2.out _ bd).mono ?_
      rintro e w' ⟨rfl, rfl⟩
      clear k1 k2
      go_wp2_with fail
      have bc := b_then bd (b_drew _)
      go_region_held3 (fun w' => w'.cell? ⟨bi, 0, none⟩ = some (.string z) ∧ (partAt ⟨bi, 0, none⟩ 1 16).run Tryz.prog w' = .ok ⟨bi, 1, none⟩ w' ∧ w'.cell? ⟨bi, 1, none⟩ = some (.pointer p1) ∧ w'.cell? ⟨bi, 2, none⟩ = some (.pointer p2) ∧ w'.cell? ⟨bi, 3, none⟩ = some (.int .i64 (m0 : Int)))
        (exact hi.out _ bc)
        ((go_at_call 106; refine (hO.out _ _ _ _ _ _ _ _ _ _ (by first | exact n1.out _ bc | exact n2.out _ bc | exact n3.out _ bc) (by first | exact a1.out _ bc | exact a3.out _ bc | exact t1 | exact t2) (by first | exact a2.out _ bc | exact a4.out _ bc | exact t1 | exact t2) (by first | exact g1.out | exact g2.out | exact g3.out)).mono ?_;
          (first
            | (have _ := t2; rintro e w9 h9; have h8 := Lib.hid (h9.flat bc hf.out); obtain ⟨p9, rfl, -, b9⟩ := h9; replace bc := b_then bc b9)
            | (have _ := t1; rintro e w9 ⟨q2', rfl, t2, b9⟩; replace t1 := IsTree.next t1 b9; replace bc := b_then bc b9; clear b9)
            | (rintro e w9 ⟨q1', rfl, t1, b9⟩; replace bc := b_then bc b9; clear b9))))
      all_goals
        go_wp2
        go_ret
        exact h8.out

set_option maxHeartbeats 2000000 in
set_option maxRecDepth 100000 in
theorem turnedRight_calls (w : World) (b n0 : Nat) (x y : ByteArray) (pl pr pL pR : Option Addr) (F SL SR : Tr ByteArray) (hN : Node w b x pl pr n0) (hF : IsTree w pR F) (hS : IsTree w pL (.node SL y SR)) (hb : F.num + (SL.num + SR.num) < 900000) :
    Calls Tryz.prog 136 #[.pointer (some ⟨b, 0, none⟩), .pointer pL, .pointer pR] w (GivesL w ((SL.flat ++ y :: SR.flat) ++ x :: F.flat)) := by
  obtain ⟨bs, pa, pb, rfl, hNs, hA, hB⟩ := hS
  have k1 := Lib.hid fun w' (h : Below w.heap.size w w') => weight_calls w' pb SR (hB.next h) (by omega)
  have k2 := Lib.hid fun w' (h : Below w.heap.size w w') => weight_calls w' pa SL (hA.next h) (by omega)
  have q1 := hNs.left
  have q2 := hNs.right
  have j1 := two_nat SL.num (by omega)
  by_cases hlt : SR.num + 1 < 2 * (SL.num + 1)
  · have d1 : ((SR.num + 1 : Nat) : Int) < ((2 * (SL.num + 1) : Nat) : Int) := by omega
    have ha := Lib.hid fun w' (h : Below w.heap.size w w') => over_calls w' b n0 x pl pr pb pR SR F (hN.kept (nodes_below h)) (hB.next h) (hF.next h) (by omega)
    have hc := Lib.hid fun w' p' (h : Below w.heap.size w w') (ht : IsTree w' p' (.node SR x F)) => over_calls w' bs _ y pa pb pa p' SL (.node SR x F) (hNs.kept (nodes_below h)) (hA.next h) ht (by rw [num_node]; omega)
    have hf : Hid ((Tr.node SL y (Tr.node SR x F)).flat = (SL.flat ++ y :: SR.flat) ++ x :: F.flat) := Lib.hid (by simp [Tr.flat])
    clear hN hF hNs hA hB
    generalize hm : SR.num + 1 = m at *
    generalize hk : 2 * (SL.num + 1) = k at *
    generalize hk3 : SL.num + 1 = k3 at *
    replace hm := Lib.hid hm
    replace hk := Lib.hid hk
    replace hk3 := Lib.hid hk3
    go_enter Tryz.func136, Tryz.ntmps136
    go_wp2_with fail
    go_quiet (fail)
    have bd := b_drewN w nq
    generalize w.drewN nq = w1 at *
    go_wp2_with fail
    refine (k1.out w1 bd).mono ?_
    rintro e w' ⟨rfl, rfl⟩
    go_wp2_with fail
    refine (k2.out _ bd).mono ?_
    rintro e w' ⟨rfl, rfl⟩
    go_wp2_with fail
    refine (ha.out _ bd).mono ?_
    rintro e w2 ⟨p2, rfl, t2, b2⟩
    have b02 := b_then bd b2
    go_wp2_with fail
    refine (hc.out w2 p2 b02 t2).mono ?_
    rintro e w3 h3
    have h4 := Lib.hid (h3.flat b02 hf.out)
    obtain ⟨p3, rfl, -, -⟩ := h3
    go_wp2
    go_ret
    exact h4.out
  · cases SR with
    | nil => rw [num_nil] at hlt; omega
    | node I1 z I2 =>
      obtain ⟨bi, p1, p2, rfl, hNi, h1, h2⟩ := hB
      have d1 : decide ((((Tr.node I1 z I2).num + 1 : Nat) : Int) < ((2 * (SL.num + 1) : Nat) : Int)) = false := decide_eq_false (by omega)
      have d2 : ((2 * (SL.num + 1) : Nat) : Int) ≤ (((Tr.node I1 z I2).num + 1 : Nat) : Int) := by omega
      have hz : (Tr.node I1 z I2).num = I1.num + 1 + I2.num := num_node I1 I2 z
      have hO := Lib.hid fun w' (b' n' : Nat) (x' : ByteArray) (pl' pr' pL' pR' : Option Addr) (L' R' : Tr ByteArray) (g1 : Node w' b' x' pl' pr' n') (g2 : IsTree w' pL' L') (g3 : IsTree w' pR' R') (g4 : L'.num + R'.num < 1000000) => over_calls w' b' n' x' pl' pr' pL' pR' L' R' g1 g2 g3 g4
      have g1 : Hid (SL.num + I1.num < 1000000) := Lib.hid (by omega)
      have g2 : Hid (I2.num + F.num < 1000000) := Lib.hid (by omega)
      have g3 : Hid ((Tr.node SL y I1).num + (Tr.node I2 x F).num < 1000000) := Lib.hid (by rw [num_node, num_node]; omega)
      have hi := Lib.hid fun w' (h : Below w.heap.size w w') => (hNi.kept (nodes_below h)).cells
      have hf : Hid ((Tr.node (Tr.node SL y I1) z (Tr.node I2 x F)).flat = (SL.flat ++ y :: (Tr.node I1 z I2).flat) ++ x :: F.flat) := Lib.hid (by simp [Tr.flat])
      have n1 := Lib.hid fun w' (h : Below w.heap.size w w') => (hNs.kept (nodes_below h))
      have n2 := Lib.hid fun w' (h : Below w.heap.size w w') => (hN.kept (nodes_below h))
      have n3 := Lib.hid fun w' (h : Below w.heap.size w w') => (hNi.kept (nodes_below h))
      have a1 := Lib.hid fun w' (h : Below w.heap.size w w') => hA.next h
      have a2 := Lib.hid fun w' (h : Below w.heap.size w w') => h1.next h
      have a3 := Lib.hid fun w' (h : Below w.heap.size w w') => h2.next h
      have a4 := Lib.hid fun w' (h : Below w.heap.size w w') => hF.next h
      clear hN hF hNs hA hNi h1 h2 hz
      generalize hm : (Tr.node I1 z I2).num + 1 = m at *
      generalize hz : (Tr.node I1 z I2).num = m0 at *
      generalize hk : 2 * (SL.num + 1) = k at *
      generalize hk3 : SL.num + 1 = k3 at *
      replace hm := Lib.hid hm
      replace hk := Lib.hid hk
      replace hk3 := Lib.hid hk3
      replace hz := Lib.hid hz
      go_enter Tryz.func136, Tryz.ntmps136
      go_wp2_with fail
      go_quiet (fail)
      have bd := b_drewN w nq
      generalize w.drewN nq = w1 at *
      go_wp2_with fail
      refine (k1.out w1 bd).mono ?_
      rintro e w' ⟨rfl, rfl⟩
      go_wp2_with fail
      refine (k2.out _ bd).mono ?_
      rintro e w' ⟨rfl, rfl⟩
      clear k1 k2
      go_wp2_with fail
      have bc := b_then bd (b_drew _)
      go_region_held3 (fun w' => w'.cell? ⟨bi, 0, none⟩ = some (.string z) ∧ (partAt ⟨bi, 0, none⟩ 1 16).run Tryz.prog w' = .ok ⟨bi, 1, none⟩ w' ∧ w'.cell? ⟨bi, 1, none⟩ = some (.pointer p1) ∧ w'.cell? ⟨bi, 2, none⟩ = some (.pointer p2) ∧ w'.cell? ⟨bi, 3, none⟩ = some (.int .i64 (m0 : Int)))
        (exact hi.out _ bc)
        ((go_at_call 106; refine (hO.out _ _ _ _ _ _ _ _ _ _ (by first | exact n1.out _ bc | exact n2.out _ bc | exact n3.out _ bc) (by first | exact a1.out _ bc | exact a3.out _ bc | exact t1 | exact t2) (by first | exact a2.out _ bc | exact a4.out _ bc | exact t1 | exact t2) (by first | exact g1.out | exact g2.out | exact g3.out)).mono ?_;
          (first
            | (have _ := t2; rintro e w9 h9; have h8 := Lib.hid (h9.flat bc hf.out); obtain ⟨p9, rfl, -, b9⟩ := h9; replace bc := b_then bc b9)
            | (have _ := t1; rintro e w9 ⟨q2', rfl, t2, b9⟩; replace t1 := IsTree.next t1 b9; replace bc := b_then bc b9; clear b9)
            | (rintro e w9 ⟨q1', rfl, t1, b9⟩; replace bc := b_then bc b9; clear b9))))
      all_goals
        go_wp2
        go_ret
        exact h8.out

end Go.Proofs.YtdmpkgdlelagjaaGreatDoor.Ts
namespace Go.Proofs.YtdmpkgdlelagjaaGreatDoor.Tm
open Go.RowKit Sh
attribute [local go_sem] fold_none

theorem two_nat (n : Nat) (h : n < 900000) : IntKind.i64.wrap (2 * ((n + 1 : Nat) : Int)) = ((2 * (n + 1) : Nat) : Int) := wrap_nat (2 * (n + 1)) (by omega)
theorem three_nat (n : Nat) (h : n < 1000000) : IntKind.i64.wrap (3 * ((n + 1 : Nat) : Int)) = ((3 * (n + 1) : Nat) : Int) := wrap_nat (3 * (n + 1)) (by omega)




end Go.Proofs.YtdmpkgdlelagjaaGreatDoor.Tm
