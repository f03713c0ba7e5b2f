/-
  Maps of texts to facts: the trees of the shelf as ShCore walks them, at a value of three cells. Conditions: trees are not too great.
-/
import Derived.Test.YtbjpogeemajhoaaGreatRows
import Derived.Test.YtbjpogeemajhoaaGreatShPlain
import Derived.WalkKit
import Derived.WalkSpells
import Derived.WalkLawsBesides
import Derived.ProofKit
import Derived.OpenShut
import Derived.Deep.QuietTactic
import Derived.BigQuiet
import Derived.BigRegion
import Derived.Deep.RegionHeld3
import Derived.Lib.Hide
import Derived.IntWalk
import Derived.RangeFuncNested
import Derived.Deep.LoopGhost
import Derived.Deep.RegionLaw
import Derived.Test.YtbjpogeemajhoaaGreatShCore
import Derived.Test.YtbjpogeemajhoaaGreatOrCmp
namespace Go.Proofs.YtbjpogeemajhoaaGreat.Or
/-- no fact -/
def noFx : Fx := ⟨⟨⟨#[]⟩, 0, []⟩, none, 0⟩
instance : Sh.Ent (ByteArray × Fx) ByteArray := { default := (ByteArray.empty, noFx), key := fun a => a.1 }
end Go.Proofs.YtbjpogeemajhoaaGreat.Or
open Go Go.RowKit
namespace Go.Proofs.YtbjpogeemajhoaaGreat.Tf
open Go.RowKit Sh
open Key (lt)
open Ent (key)
attribute [local go_sem] fold_none

/-- a node of a tree: its block -/
def Node (W : World) (b : Nat) (e : (ByteArray × Or.Fx)) (pl pr : Option Addr) (n : Nat) : Prop :=
  W.heap[b]? = some (.cells #[.string e.1, .string e.2.f.id, .int .i64 e.2.f.high, .slice e.2.pa e.2.f.pars.length e.2.pc, .pointer pl, .pointer pr, .int .i64 (n : Int)] 73 (0, 0))
/-- memory holds a tree at an address -/
def IsTree (W : World) : Option Addr → Tr (ByteArray × Or.Fx) → Prop
  | p, .nil => p = none
  | p, .node l e r => ∃ (b : Nat) (pl pr : Option Addr), p = some ⟨b, 0, none⟩ ∧ Node W b e pl pr (Tr.node l e r).num ∧ IsTree W pl l ∧ IsTree W pr r
/-- nodes are as they were -/
def Nodes (W W' : World) : Prop := ∀ (b : Nat) (c : Array Value) (z : Nat × Nat), W.heap[b]? = some (.cells c 73 z) → W'.heap[b]? = some (.cells c 73 z)
theorem nodes_below {W W' : World} (h : Below W.heap.size W W') : Nodes W W' := fun b _ _ hb => (h.block b (Array.getElem?_eq_some_iff.1 hb).1).trans hb
theorem nodes_refl (W : World) : Nodes W W := fun _ _ _ h => h
theorem Nodes.trans {A B C : World} (h : Nodes A B) (g : Nodes B C) : Nodes A C := fun b c z hb => g b c z (h b c z hb)
theorem Node.kept {W W' : World} (h : Nodes W W') {b : Nat} {e : (ByteArray × Or.Fx)} {pl pr : Option Addr} {n : Nat} (g : Node W b e pl pr n) : Node W' b e pl pr n := h _ _ _ g
theorem IsTree.kept {W W' : World} (h : Nodes W W') : ∀ {p : Option Addr} {T : Tr (ByteArray × Or.Fx)}, IsTree W p T → IsTree W' p T
  | _, .nil, g => g
  | _, .node _ _ _, ⟨b, pl, pr, hp, hn, hl, hr⟩ => ⟨b, pl, pr, hp, hn.kept h, IsTree.kept h hl, IsTree.kept h hr⟩
theorem IsTree.next {W W' : World} {p : Option Addr} {T : Tr (ByteArray × Or.Fx)} (g : IsTree W p T) (h : Below W.heap.size W W') : IsTree W' p T := g.kept (nodes_below h)
theorem Node.cells {w' : World} {b : Nat} {e : (ByteArray × Or.Fx)} {pl pr : Option Addr} {n : Nat} (g : Node w' b e pl pr n) : w'.cell? ⟨b, 0, none⟩ = some (.string e.1) ∧ w'.cell? ⟨b, 1, none⟩ = some (.string e.2.f.id) ∧ w'.cell? ⟨b, 2, none⟩ = some (.int .i64 e.2.f.high) ∧ w'.cell? ⟨b, 3, none⟩ = some (.slice e.2.pa e.2.f.pars.length e.2.pc) ∧ w'.cell? ⟨b, 4, none⟩ = some (.pointer pl) ∧ w'.cell? ⟨b, 5, none⟩ = some (.pointer pr) ∧ w'.cell? ⟨b, 6, none⟩ = some (.int .i64 (n : Int)) := by
  simp [World.cell?, show w'.heap[b]? = _ from g]
theorem Node.left {W : World} {b : Nat} {e : (ByteArray × Or.Fx)} {pl pr : Option Addr} {n : Nat} (g : Node W b e pl pr n) : W.cell? ⟨b, 4, none⟩ = some (.pointer pl) := by
  simp [World.cell?, show W.heap[b]? = _ from g]
theorem Node.right {W : World} {b : Nat} {e : (ByteArray × Or.Fx)} {pl pr : Option Addr} {n : Nat} (g : Node W b e pl pr n) : W.cell? ⟨b, 5, none⟩ = some (.pointer pr) := by
  simp [World.cell?, show W.heap[b]? = _ from g]
theorem Node.size {W : World} {b : Nat} {e : (ByteArray × Or.Fx)} {pl pr : Option Addr} {n : Nat} (g : Node W b e pl pr n) : W.cell? ⟨b, 6, none⟩ = some (.int .i64 (n : Int)) := by
  simp [World.cell?, show W.heap[b]? = _ from g]
theorem Node.key {W : World} {b : Nat} {e : (ByteArray × Or.Fx)} {pl pr : Option Addr} {n : Nat} (g : Node W b e pl pr n) : W.cell? ⟨b, 0, none⟩ = some (.string e.1) := by
  simp [World.cell?, show W.heap[b]? = _ from g]
theorem Node.new (W : World) (e : (ByteArray × Or.Fx)) (pl pr : Option Addr) (n : Nat) : Node (W.alloc (.cells #[.string e.1, .string e.2.f.id, .int .i64 e.2.f.high, .slice e.2.pa e.2.f.pars.length e.2.pc, .pointer pl, .pointer pr, .int .i64 (n : Int)] 73)) W.heap.size e pl pr n := World.alloc_heap_new W _
theorem IsTree.mk {W : World} {b : Nat} {e : (ByteArray × Or.Fx)} {pl pr : Option Addr} {n : Nat} {l r : Tr (ByteArray × Or.Fx)} (g : Node W b e pl pr n) (hl : IsTree W pl l) (hr : IsTree W pr r) (hn : n = l.num + 1 + r.num) : IsTree W (some ⟨b, 0, none⟩) (.node l e r) :=
  ⟨b, pl, pr, rfl, by rw [num_node, ← hn]; exact g, hl, hr⟩

/-- a tree handed back -/
def Gives (w : World) (T : Tr (ByteArray × Or.Fx)) (e : Ending) (w' : World) : Prop := ∃ p, e = .returned (.pointer p) ∧ IsTree w' p T ∧ Below w.heap.size w w'
theorem Gives.mk {w w' : World} {T : Tr (ByteArray × Or.Fx)} {p : Option Addr} (h : IsTree w' p T) (hb : Below w.heap.size w w') : Gives w T (.returned (.pointer p)) w' := ⟨p, rfl, h, hb⟩
/-- a tree that holds a list handed back -/
def GivesL (w : World) (L : List (ByteArray × Or.Fx)) (e : Ending) (w' : World) : Prop := ∃ p T, e = .returned (.pointer p) ∧ IsTree w' p T ∧ T.flat = L ∧ Below w.heap.size w w'
theorem GivesL.mk {w w' : World} {L : List (ByteArray × Or.Fx)} {T : Tr (ByteArray × Or.Fx)} {p : Option Addr} (h : IsTree w' p T) (hL : T.flat = L) (hb : Below w.heap.size w w') : GivesL w L (.returned (.pointer p)) w' := ⟨p, T, rfl, h, hL, hb⟩

theorem count_calls (w : World) (p : Option Addr) (T : Tr (ByteArray × Or.Fx)) (h : IsTree w p T) :
    Calls Tryz.prog 55 #[.pointer p] w fun e w' => e = .returned (.int .i64 (T.num : Int)) ∧ w' = w := by
  cases T with
  | nil =>
    obtain rfl : p = none := h
    go_enter Tryz.func55, Tryz.ntmps55
    go_wp2
    go_ret
    exact ⟨rfl, rfl⟩
  | node l x r =>
    obtain ⟨b, pl, pr, rfl, hn, _, _⟩ := h
    have hz := hn.size
    clear hn
    go_enter Tryz.func55, Tryz.ntmps55
    go_wp2
    go_ret
    exact ⟨rfl, rfl⟩

theorem weight_calls (w : World) (p : Option Addr) (T : Tr (ByteArray × Or.Fx)) (h : IsTree w p T) (hb : T.num < 1000000) :
    Calls Tryz.prog 75 #[.pointer p] w fun e w' => e = .returned (.int .i64 ((T.num + 1 : Nat) : Int)) ∧ w' = w := by
  have hc := count_calls w p T h
  clear h
  generalize T.num = n at *
  go_enter Tryz.func75, Tryz.ntmps75
  go_wp2_with (go_at_call 55; refine hc.mono ?_; rintro e w' ⟨rfl, rfl⟩)
  go_ret
  exact ⟨by go_num, rfl⟩

set_option maxHeartbeats 2000000 in
set_option maxRecDepth 100000 in
theorem over_calls (w : World) (b n0 : Nat) (x : (ByteArray × Or.Fx)) (pl pr pL pR : Option Addr) (L R : Tr (ByteArray × Or.Fx)) (hN : Node w b x pl pr n0) (hl : IsTree w pL L) (hr : IsTree w pR R) (hb : L.num + R.num < 1000000) :
    Calls Tryz.prog 78 #[.pointer (some ⟨b, 0, none⟩), .pointer pL, .pointer pR] w (Gives w (.node L x R)) := by
  have c1 := Lib.hid fun w' (h : Below w.heap.size w w') => count_calls w' pL L (hl.next h)
  have c2 := Lib.hid fun w' (h : Below w.heap.size w w') => count_calls w' pR R (hr.next h)
  have hS := Lib.hid fun w' (h : Below w.heap.size w w') => (hN.kept (nodes_below h)).cells
  have hend : Hid (∀ w' (n : Int), Below w.heap.size w w' → n = ((L.num + 1 + R.num : Nat) : Int) → Gives w (.node L x R) (.returned (.pointer (some ⟨w'.heap.size, 0, none⟩))) (w'.alloc (.cells #[.string x.1, .string x.2.f.id, .int .i64 x.2.f.high, .slice x.2.pa x.2.f.pars.length x.2.pc, .pointer pL, .pointer pR, .int .i64 n] 73))) := Lib.hid fun w' n h hn => by
    have h2 := b_then h (b_alloc w' (.cells #[.string x.1, .string x.2.f.id, .int .i64 x.2.f.high, .slice x.2.pa x.2.f.pars.length x.2.pc, .pointer pL, .pointer pR, .int .i64 n] 73))
    subst hn
    exact Gives.mk (IsTree.mk (Node.new w' x pL pR _) (hl.next h2) (hr.next h2) rfl) h2
  clear hN hl hr
  generalize L.num = m at *
  generalize R.num = k at *
  have bd := b_drew w
  have j1 : Hid (IntKind.i64.wrap ((m : Int) + 1) = ((m + 1 : Nat) : Int)) := Lib.hid (wrap_nat (m + 1) (by omega))
  have j2 : Hid (IntKind.i64.wrap (((m + 1 : Nat) : Int) + (k : Int)) = ((m + 1 + k : Nat) : Int)) := Lib.hid (wrap_nat (m + 1 + k) (by omega))
  go_enter Tryz.func78, Tryz.ntmps78
  go_wp2_with fail
  go_region_held3 (fun w' => w'.cell? ⟨b, 0, none⟩ = some (.string x.1) ∧ w'.cell? ⟨b, 1, none⟩ = some (.string x.2.f.id) ∧ w'.cell? ⟨b, 2, none⟩ = some (.int .i64 x.2.f.high) ∧ w'.cell? ⟨b, 3, none⟩ = some (.slice x.2.pa x.2.f.pars.length x.2.pc) ∧ w'.cell? ⟨b, 4, none⟩ = some (.pointer pl) ∧ w'.cell? ⟨b, 5, none⟩ = some (.pointer pr) ∧ w'.cell? ⟨b, 6, none⟩ = some (.int .i64 (n0 : Int)))
    (first | exact hS.out _ bd | exact hS.out _ (b_then bd (b_alloc _ _)))
    (first
      | (go_at_call 55; refine (c1.out _ bd).mono ?_; clear c1; rintro e w' ⟨rfl, rfl⟩)
      | (go_at_call 55; refine (c2.out _ bd).mono ?_; clear c2; rintro e w' ⟨rfl, rfl⟩))
  all_goals
    go_wp2
    go_ret
    exact hend.out _ _ bd (by rw [j1.out]; exact j2.out)

end Go.Proofs.YtbjpogeemajhoaaGreat.Tf
namespace Go.Proofs.YtbjpogeemajhoaaGreat.Tf
open Go.RowKit Sh
attribute [local go_sem] fold_none

theorem Gives.flat {w w0 : World} {T : Tr (ByteArray × Or.Fx)} {e : Ending} {w' : World} {L : List (ByteArray × Or.Fx)} (h : Gives w T e w') (hb : Below w0.heap.size w0 w) (hL : T.flat = L) : GivesL w0 L e w' := by
  obtain ⟨p, rfl, ht, bb⟩ := h
  exact ⟨p, T, rfl, ht, hL, b_then hb bb⟩
theorem two_nat (n : Nat) (h : n < 900000) : IntKind.i64.wrap (2 * ((n + 1 : Nat) : Int)) = ((2 * (n + 1) : Nat) : Int) := wrap_nat (2 * (n + 1)) (by omega)
theorem three_nat (n : Nat) (h : n < 1000000) : IntKind.i64.wrap (3 * ((n + 1 : Nat) : Int)) = ((3 * (n + 1) : Nat) : Int) := wrap_nat (3 * (n + 1)) (by omega)




set_option maxHeartbeats 2000000 in
set_option maxRecDepth 100000 in
theorem turnedLeft_calls (w : World) (b n0 : Nat) (x y : (ByteArray × Or.Fx)) (pl pr pL pR : Option Addr) (F SL SR : Tr (ByteArray × Or.Fx)) (hN : Node w b x pl pr n0) (hF : IsTree w pL F) (hS : IsTree w pR (.node SL y SR)) (hb : F.num + (SL.num + SR.num) < 900000) :
    Calls Tryz.prog 76 #[.pointer (some ⟨b, 0, none⟩), .pointer pL, .pointer pR] w (GivesL w (F.flat ++ x :: (SL.flat ++ y :: SR.flat))) := by
  obtain ⟨bs, pa, pb, rfl, hNs, hA, hB⟩ := hS
  have k1 := Lib.hid fun w' (h : Below w.heap.size w w') => weight_calls w' pa SL (hA.next h) (by omega)
  have k2 := Lib.hid fun w' (h : Below w.heap.size w w') => weight_calls w' pb SR (hB.next h) (by omega)
  have q1 := hNs.left
  have q2 := hNs.right
  have j1 := two_nat SR.num (by omega)
  by_cases hlt : SL.num + 1 < 2 * (SR.num + 1)
  · have d1 : ((SL.num + 1 : Nat) : Int) < ((2 * (SR.num + 1) : Nat) : Int) := by omega
    have ha := Lib.hid fun w' (h : Below w.heap.size w w') => over_calls w' b n0 x pl pr pL pa F SL (hN.kept (nodes_below h)) (hF.next h) (hA.next h) (by omega)
    have hc := Lib.hid fun w' p' (h : Below w.heap.size w w') (ht : IsTree w' p' (.node F x SL)) => over_calls w' bs _ y pa pb p' pb (.node F x SL) SR (hNs.kept (nodes_below h)) ht (hB.next h) (by rw [num_node]; omega)
    have hf : Hid ((Tr.node (Tr.node F x SL) y SR).flat = F.flat ++ x :: (SL.flat ++ y :: SR.flat)) := Lib.hid (by simp [Tr.flat])
    clear hN hF hNs hA hB
    generalize hm : SL.num + 1 = m at *
    generalize hk : 2 * (SR.num + 1) = k at *
    generalize hk3 : SR.num + 1 = k3 at *
    replace hm := Lib.hid hm
    replace hk := Lib.hid hk
    replace hk3 := Lib.hid hk3
    go_enter Tryz.func76, Tryz.ntmps76
    go_wp2_with fail
    go_quiet (fail)
    have bd := b_drewN w nq
    generalize w.drewN nq = w1 at *
    go_wp2_with fail
    refine (k1.out w1 bd).mono ?_
    rintro e w' ⟨rfl, rfl⟩
    go_wp2_with fail
    refine (k2.out _ bd).mono ?_
    rintro e w' ⟨rfl, rfl⟩
    go_wp2_with fail
    refine (ha.out _ bd).mono ?_
    rintro e w2 ⟨p2, rfl, t2, b2⟩
    have b02 := b_then bd b2
    go_wp2_with fail
    refine (hc.out w2 p2 b02 t2).mono ?_
    rintro e w3 h3
    have h4 := Lib.hid (h3.flat b02 hf.out)
    obtain ⟨p3, rfl, -, -⟩ := h3
    go_wp2
    go_ret
    exact h4.out
  · cases SL with
    | nil => rw [num_nil] at hlt; omega
    | node I1 z I2 =>
      obtain ⟨bi, p1, p2, rfl, hNi, h1, h2⟩ := hA
      have d1 : decide ((((Tr.node I1 z I2).num + 1 : Nat) : Int) < ((2 * (SR.num + 1) : Nat) : Int)) = false := decide_eq_false (by omega)
      have d2 : ((2 * (SR.num + 1) : Nat) : Int) ≤ (((Tr.node I1 z I2).num + 1 : Nat) : Int) := by omega
      have hz : (Tr.node I1 z I2).num = I1.num + 1 + I2.num := num_node I1 I2 z
      have hO := Lib.hid fun w' (b' n' : Nat) (x' : (ByteArray × Or.Fx)) (pl' pr' pL' pR' : Option Addr) (L' R' : Tr (ByteArray × Or.Fx)) (g1 : Node w' b' x' pl' pr' n') (g2 : IsTree w' pL' L') (g3 : IsTree w' pR' R') (g4 : L'.num + R'.num < 1000000) => over_calls w' b' n' x' pl' pr' pL' pR' L' R' g1 g2 g3 g4
      have g1 : Hid (F.num + I1.num < 1000000) := Lib.hid (by omega)
      have g2 : Hid (I2.num + SR.num < 1000000) := Lib.hid (by omega)
      have g3 : Hid ((Tr.node F x I1).num + (Tr.node I2 y SR).num < 1000000) := Lib.hid (by rw [num_node, num_node]; omega)
      have hi := Lib.hid fun w' (h : Below w.heap.size w w') => (hNi.kept (nodes_below h)).cells
      have hf : Hid ((Tr.node (Tr.node F x I1) z (Tr.node I2 y SR)).flat = F.flat ++ x :: ((Tr.node I1 z I2).flat ++ y :: SR.flat)) := Lib.hid (by simp [Tr.flat])
      have n1 := Lib.hid fun w' (h : Below w.heap.size w w') => (hN.kept (nodes_below h))
      have n2 := Lib.hid fun w' (h : Below w.heap.size w w') => (hNs.kept (nodes_below h))
      have n3 := Lib.hid fun w' (h : Below w.heap.size w w') => (hNi.kept (nodes_below h))
      have a1 := Lib.hid fun w' (h : Below w.heap.size w w') => hF.next h
      have a2 := Lib.hid fun w' (h : Below w.heap.size w w') => h1.next h
      have a3 := Lib.hid fun w' (h : Below w.heap.size w w') => h2.next h
      have a4 := Lib.hid fun w' (h : Below w.heap.size w w') => hB.next h
      clear hN hF hNs hB hNi h1 h2 hz
      generalize hm : (Tr.node I1 z I2).num + 1 = m at *
      generalize hz : (Tr.node I1 z I2).num = m0 at *
      generalize hk : 2 * (SR.num + 1) = k at *
      generalize hk3 : SR.num + 1 = k3 at *
      replace hm := Lib.hid hm
      replace hk := Lib.hid hk
      replace hk3 := Lib.hid hk3
      replace hz := Lib.hid hz
      go_enter Tryz.func76, Tryz.ntmps76
      go_wp2_with fail
      go_quiet (fail)
      have bd := b_drewN w nq
      generalize w.drewN nq = w1 at *
      go_wp2_with fail
      refine (k1.out w1 bd).mono ?_
      rintro e w' ⟨rfl, rfl⟩
      go_wp2_with fail
      refine (k2.out _ bd).mono ?_
      rintro e w' ⟨rfl, rfl⟩
      clear k1 k2
      go_wp2_with fail
      have bc := b_then bd (b_drew _)
      go_region_held3 (fun w' => w'.cell? ⟨bi, 0, none⟩ = some (.string z.1) ∧ w'.cell? ⟨bi, 1, none⟩ = some (.string z.2.f.id) ∧ w'.cell? ⟨bi, 2, none⟩ = some (.int .i64 z.2.f.high) ∧ w'.cell? ⟨bi, 3, none⟩ = some (.slice z.2.pa z.2.f.pars.length z.2.pc) ∧ w'.cell? ⟨bi, 4, none⟩ = some (.pointer p1) ∧ w'.cell? ⟨bi, 5, none⟩ = some (.pointer p2) ∧ w'.cell? ⟨bi, 6, none⟩ = some (.int .i64 (m0 : Int)))
        (exact hi.out _ bc)
        ((go_at_call 78; refine (hO.out _ _ _ _ _ _ _ _ _ _ (by first | exact n1.out _ bc | exact n2.out _ bc | exact n3.out _ bc) (by first | exact a1.out _ bc | exact a3.out _ bc | exact t1 | exact t2) (by first | exact a2.out _ bc | exact a4.out _ bc | exact t1 | exact t2) (by first | exact g1.out | exact g2.out | exact g3.out)).mono ?_;
          (first
            | (have _ := t2; rintro e w9 h9; have h8 := Lib.hid (h9.flat bc hf.out); obtain ⟨p9, rfl, -, b9⟩ := h9; replace bc := b_then bc b9)
            | (have _ := t1; rintro e w9 ⟨q2', rfl, t2, b9⟩; replace t1 := IsTree.next t1 b9; replace bc := b_then bc b9; clear b9)
            | (rintro e w9 ⟨q1', rfl, t1, b9⟩; replace bc := b_then bc b9; clear b9))))
      all_goals
        go_wp2
        go_ret
        exact h8.out

set_option maxHeartbeats 2000000 in
set_option maxRecDepth 100000 in
theorem turnedRight_calls (w : World) (b n0 : Nat) (x y : (ByteArray × Or.Fx)) (pl pr pL pR : Option Addr) (F SL SR : Tr (ByteArray × Or.Fx)) (hN : Node w b x pl pr n0) (hF : IsTree w pR F) (hS : IsTree w pL (.node SL y SR)) (hb : F.num + (SL.num + SR.num) < 900000) :
    Calls Tryz.prog 77 #[.pointer (some ⟨b, 0, none⟩), .pointer pL, .pointer pR] w (GivesL w ((SL.flat ++ y :: SR.flat) ++ x :: F.flat)) := by
  obtain ⟨bs, pa, pb, rfl, hNs, hA, hB⟩ := hS
  have k1 := Lib.hid fun w' (h : Below w.heap.size w w') => weight_calls w' pb SR (hB.next h) (by omega)
  have k2 := Lib.hid fun w' (h : Below w.heap.size w w') => weight_calls w' pa SL (hA.next h) (by omega)
  have q1 := hNs.left
  have q2 := hNs.right
  have j1 := two_nat SL.num (by omega)
  by_cases hlt : SR.num + 1 < 2 * (SL.num + 1)
  · have d1 : ((SR.num + 1 : Nat) : Int) < ((2 * (SL.num + 1) : Nat) : Int) := by omega
    have ha := Lib.hid fun w' (h : Below w.heap.size w w') => over_calls w' b n0 x pl pr pb pR SR F (hN.kept (nodes_below h)) (hB.next h) (hF.next h) (by omega)
    have hc := Lib.hid fun w' p' (h : Below w.heap.size w w') (ht : IsTree w' p' (.node SR x F)) => over_calls w' bs _ y pa pb pa p' SL (.node SR x F) (hNs.kept (nodes_below h)) (hA.next h) ht (by rw [num_node]; omega)
    have hf : Hid ((Tr.node SL y (Tr.node SR x F)).flat = (SL.flat ++ y :: SR.flat) ++ x :: F.flat) := Lib.hid (by simp [Tr.flat])
    clear hN hF hNs hA hB
    generalize hm : SR.num + 1 = m at *
    generalize hk : 2 * (SL.num + 1) = k at *
    generalize hk3 : SL.num + 1 = k3 at *
    replace hm := Lib.hid hm
    replace hk := Lib.hid hk
    replace hk3 := Lib.hid hk3
    go_enter Tryz.func77, Tryz.ntmps77
    go_wp2_with fail
    go_quiet (fail)
    have bd := b_drewN w nq
    generalize w.drewN nq = w1 at *
    go_wp2_with fail
    refine (k1.out w1 bd).mono ?_
    rintro e w' ⟨rfl, rfl⟩
    go_wp2_with fail
    refine (k2.out _ bd).mono ?_
    rintro e w' ⟨rfl, rfl⟩
    go_wp2_with fail
    refine (ha.out _ bd).mono ?_
    rintro e w2 ⟨p2, rfl, t2, b2⟩
    have b02 := b_then bd b2
    go_wp2_with fail
    refine (hc.out w2 p2 b02 t2).mono ?_
    rintro e w3 h3
    have h4 := Lib.hid (h3.flat b02 hf.out)
    obtain ⟨p3, rfl, -, -⟩ := h3
    go_wp2
    go_ret
    exact h4.out
  · cases SR with
    | nil => rw [num_nil] at hlt; omega
    | node I1 z I2 =>
      obtain ⟨bi, p1, p2, rfl, hNi, h1, h2⟩ := hB
      have d1 : decide ((((Tr.node I1 z I2).num + 1 : Nat) : Int) < ((2 * (SL.num + 1) : Nat) : Int)) = false := decide_eq_false (by omega)
      have d2 : ((2 * (SL.num + 1) : Nat) : Int) ≤ (((Tr.node I1 z I2).num + 1 : Nat) : Int) := by omega
      have hz : (Tr.node I1 z I2).num = I1.num + 1 + I2.num := num_node I1 I2 z
      have hO := Lib.hid fun w' (b' n' : Nat) (x' : (ByteArray × Or.Fx)) (pl' pr' pL' pR' : Option Addr) (L' R' : Tr (ByteArray × Or.Fx)) (g1 : Node w' b' x' pl' pr' n') (g2 : IsTree w' pL' L') (g3 : IsTree w' pR' R') (g4 : L'.num + R'.num < 1000000) => over_calls w' b' n' x' pl' pr' pL' pR' L' R' g1 g2 g3 g4
      have g1 : Hid (SL.num + I1.num < 1000000) := Lib.hid (by omega)
      have g2 : Hid (I2.num + F.num < 1000000) := Lib.hid (by omega)
      have g3 : Hid ((Tr.node SL y I1).num + (Tr.node I2 x F).num < 1000000) := Lib.hid (by rw [num_node, num_node]; omega)
      have hi := Lib.hid fun w' (h : Below w.heap.size w w') => (hNi.kept (nodes_below h)).cells
      have hf : Hid ((Tr.node (Tr.node SL y I1) z (Tr.node I2 x F)).flat = (SL.flat ++ y :: (Tr.node I1 z I2).flat) ++ x :: F.flat) := Lib.hid (by simp [Tr.flat])
      have n1 := Lib.hid fun w' (h : Below w.heap.size w w') => (hNs.kept (nodes_below h))
      have n2 := Lib.hid fun w' (h : Below w.heap.size w w') => (hN.kept (nodes_below h))
      have n3 := Lib.hid fun w' (h : Below w.heap.size w w') => (hNi.kept (nodes_below h))
      have a1 := Lib.hid fun w' (h : Below w.heap.size w w') => hA.next h
      have a2 := Lib.hid fun w' (h : Below w.heap.size w w') => h1.next h
      have a3 := Lib.hid fun w' (h : Below w.heap.size w w') => h2.next h
      have a4 := Lib.hid fun w' (h : Below w.heap.size w w') => hF.next h
      clear hN hF hNs hA hNi h1 h2 hz
      generalize hm : (Tr.node I1 z I2).num + 1 = m at *
      generalize hz : (Tr.node I1 z I2).num = m0 at *
      generalize hk : 2 * (SL.num + 1) = k at *
      generalize hk3 : SL.num + 1 = k3 at *
      replace hm := Lib.hid hm
      replace hk := Lib.hid hk
      replace hk3 := Lib.hid hk3
      replace hz := Lib.hid hz
      go_enter Tryz.func77, Tryz.ntmps77
      go_wp2_with fail
      go_quiet (fail)
      have bd := b_drewN w nq
      generalize w.drewN nq = w1 at *
      go_wp2_with fail
      refine (k1.out w1 bd).mono ?_
      rintro e w' ⟨rfl, rfl⟩
      go_wp2_with fail
      refine (k2.out _ bd).mono ?_
      rintro e w' ⟨rfl, rfl⟩
      clear k1 k2
      go_wp2_with fail
      have bc := b_then bd (b_drew _)
      go_region_held3 (fun w' => w'.cell? ⟨bi, 0, none⟩ = some (.string z.1) ∧ w'.cell? ⟨bi, 1, none⟩ = some (.string z.2.f.id) ∧ w'.cell? ⟨bi, 2, none⟩ = some (.int .i64 z.2.f.high) ∧ w'.cell? ⟨bi, 3, none⟩ = some (.slice z.2.pa z.2.f.pars.length z.2.pc) ∧ w'.cell? ⟨bi, 4, none⟩ = some (.pointer p1) ∧ w'.cell? ⟨bi, 5, none⟩ = some (.pointer p2) ∧ w'.cell? ⟨bi, 6, none⟩ = some (.int .i64 (m0 : Int)))
        (exact hi.out _ bc)
        ((go_at_call 78; refine (hO.out _ _ _ _ _ _ _ _ _ _ (by first | exact n1.out _ bc | exact n2.out _ bc | exact n3.out _ bc) (by first | exact a1.out _ bc | exact a3.out _ bc | exact t1 | exact t2) (by first | exact a2.out _ bc | exact a4.out _ bc | exact t1 | exact t2) (by first | exact g1.out | exact g2.out | exact g3.out)).mono ?_;
          (first
            | (have _ := t2; rintro e w9 h9; have h8 := Lib.hid (h9.flat bc hf.out); obtain ⟨p9, rfl, -, b9⟩ := h9; replace bc := b_then bc b9)
            | (have _ := t1; rintro e w9 ⟨q2', rfl, t2, b9⟩; replace t1 := IsTree.next t1 b9; replace bc := b_then bc b9; clear b9)
            | (rintro e w9 ⟨q1', rfl, t1, b9⟩; replace bc := b_then bc b9; clear b9))))
      all_goals
        go_wp2
        go_ret
        exact h8.out

end Go.Proofs.YtbjpogeemajhoaaGreat.Tf
namespace Go.Proofs.YtbjpogeemajhoaaGreat.Tf
open Go.RowKit Sh
open Key (lt)
open Ent (key)
attribute [local go_sem] fold_none

set_option maxHeartbeats 2000000 in
set_option maxRecDepth 100000 in
theorem balanced_calls (w : World) (b n0 : Nat) (x : (ByteArray × Or.Fx)) (pl pr pL pR : Option Addr) (L R : Tr (ByteArray × Or.Fx)) (hN : Node w b x pl pr n0) (hl : IsTree w pL L) (hr : IsTree w pR R) (hb : L.num + R.num < 800000) :
    Calls Tryz.prog 56 #[.pointer (some ⟨b, 0, none⟩), .pointer pL, .pointer pR] w (GivesL w (L.flat ++ x :: R.flat)) := by
  have k1 := Lib.hid (weight_calls w pL L hl (by omega))
  have k2 := Lib.hid (weight_calls w pR R hr (by omega))
  have j1 := three_nat L.num (by omega)
  have j2 := three_nat R.num (by omega)
  by_cases h1 : 3 * (L.num + 1) < R.num + 1
  · have d1 : ((3 * (L.num + 1) : Nat) : Int) < ((R.num + 1 : Nat) : Int) := by omega
    cases R with
    | nil => rw [num_nil] at h1; omega
    | node RL y RR =>
      have hz := num_node RL RR y
      have hT := Lib.hid (turnedLeft_calls w b n0 x y pl pr pL pR L RL RR hN hl hr (by omega))
      clear hN hl hr hz
      generalize hf : L.flat ++ x :: (Tr.node RL y RR).flat = Z at *
      have hT2 : Hid (Calls Tryz.prog 76 #[.pointer (some ⟨b, 0, none⟩), .pointer pL, .pointer pR] w (GivesL w Z)) := Lib.hid (hf ▸ hT.out)
      clear hT hf
      generalize 3 * (L.num + 1) = m3 at *
      generalize L.num + 1 = m at *
      generalize 3 * ((Tr.node RL y RR).num + 1) = k3 at *
      generalize (Tr.node RL y RR).num + 1 = k at *
      go_enter Tryz.func56, Tryz.ntmps56
      go_wp2_with fail
      refine k2.out.mono ?_
      rintro e w' ⟨rfl, rfl⟩
      go_wp2_with fail
      refine k1.out.mono ?_
      rintro e w' ⟨rfl, rfl⟩
      go_wp2_with fail
      refine hT2.out.mono ?_
      rintro e w3 h3
      have h4 := Lib.hid h3
      obtain ⟨p3, _, rfl, -⟩ := h3
      go_wp2
      go_ret
      exact h4.out
  · have d1 : decide (((3 * (L.num + 1) : Nat) : Int) < ((R.num + 1 : Nat) : Int)) = false := decide_eq_false (by omega)
    have d2 : ((R.num + 1 : Nat) : Int) ≤ ((3 * (L.num + 1) : Nat) : Int) := by omega
    by_cases h2 : 3 * (R.num + 1) < L.num + 1
    · have d3 : ((3 * (R.num + 1) : Nat) : Int) < ((L.num + 1 : Nat) : Int) := by omega
      cases L with
      | nil => rw [num_nil] at h2; omega
      | node RL y RR =>
        have hz := num_node RL RR y
        have hT := Lib.hid (turnedRight_calls w b n0 x y pl pr pL pR R RL RR hN hr hl (by omega))
        clear hN hl hr hz
        generalize hf : (Tr.node RL y RR).flat ++ x :: R.flat = Z at *
        have hT2 : Hid (Calls Tryz.prog 77 #[.pointer (some ⟨b, 0, none⟩), .pointer pL, .pointer pR] w (GivesL w Z)) := Lib.hid (hf ▸ hT.out)
        clear hT hf
        generalize 3 * (R.num + 1) = m3 at *
        generalize R.num + 1 = m at *
        generalize 3 * ((Tr.node RL y RR).num + 1) = k3 at *
        generalize (Tr.node RL y RR).num + 1 = k at *
        go_enter Tryz.func56, Tryz.ntmps56
        go_wp2_with fail
        refine k2.out.mono ?_
        rintro e w' ⟨rfl, rfl⟩
        go_wp2_with fail
        refine k1.out.mono ?_
        rintro e w' ⟨rfl, rfl⟩
        go_wp2_with fail
        refine k1.out.mono ?_
        rintro e w' ⟨rfl, rfl⟩
        go_wp2_with fail
        refine k2.out.mono ?_
        rintro e w' ⟨rfl, rfl⟩
        go_wp2_with fail
        refine hT2.out.mono ?_
        rintro e w3 h3
        have h4 := Lib.hid h3
        obtain ⟨p3, _, rfl, -⟩ := h3
        go_wp2
        go_ret
        exact h4.out
    · have d3 : decide (((3 * (R.num + 1) : Nat) : Int) < ((L.num + 1 : Nat) : Int)) = false := decide_eq_false (by omega)
      have d4 : ((L.num + 1 : Nat) : Int) ≤ ((3 * (R.num + 1) : Nat) : Int) := by omega
      have hT := Lib.hid (over_calls w b n0 x pl pr pL pR L R hN hl hr (by omega))
      clear hN hl hr
      generalize hf : L.flat ++ x :: R.flat = Z at *
      replace hf := Lib.hid hf
      generalize 3 * (R.num + 1) = m3 at *
      generalize R.num + 1 = m at *
      generalize 3 * (L.num + 1) = k3 at *
      generalize L.num + 1 = k at *
      go_enter Tryz.func56, Tryz.ntmps56
      go_wp2_with fail
      refine k2.out.mono ?_
      rintro e w' ⟨rfl, rfl⟩
      go_wp2_with fail
      refine k1.out.mono ?_
      rintro e w' ⟨rfl, rfl⟩
      go_wp2_with fail
      refine k1.out.mono ?_
      rintro e w' ⟨rfl, rfl⟩
      go_wp2_with fail
      refine k2.out.mono ?_
      rintro e w' ⟨rfl, rfl⟩
      go_wp2_with fail
      refine hT.out.mono ?_
      rintro e w3 h3
      have h4 := Lib.hid (h3.flat (Below.refl _ _) hf.out)
      obtain ⟨p3, rfl, -⟩ := h3
      go_wp2
      go_ret
      exact h4.out

/-- what was looked for is at a node, or nowhere -/
def Found (w : World) (o : Option (ByteArray × Or.Fx)) (e : Ending) : Prop :=
  (o = none ∧ e = .returned (.pointer none)) ∨ ∃ x b pl pr n, o = some x ∧ e = .returned (.pointer (some ⟨b, 0, none⟩)) ∧ Node w b x pl pr n
theorem Found.none {w : World} {o : Option (ByteArray × Or.Fx)} (h : o = Option.none) : Found w o (.returned (.pointer Option.none)) := Or.inl ⟨h, rfl⟩
theorem Found.some {w : World} {o : Option (ByteArray × Or.Fx)} {x : (ByteArray × Or.Fx)} {b n : Nat} {pl pr : Option Addr} (h : o = Option.some x) (hN : Node w b x pl pr n) : Found w o (.returned (.pointer (Option.some ⟨b, 0, Option.none⟩))) := Or.inr ⟨x, b, pl, pr, n, h, rfl, hN⟩

set_option maxHeartbeats 2000000 in
set_option maxRecDepth 100000 in
theorem find_calls (w : World) (p : Option Addr) (T : Tr (ByteArray × Or.Fx)) (k : ByteArray) (h : IsTree w p T) (hR : Rises T.flat) :
    Calls Tryz.prog 28 #[.pointer p, .string k] w fun e w' => Found w (fnd k T.flat) e ∧ w' = w := by
  generalize hz : fnd k T.flat = Z
  go_enter Tryz.func28, Tryz.ntmps28
  go_wp2
  go_loopg [0] T.num (fun gg s0 wr => ∃ (q : Option Addr) (T' : Tr (ByteArray × Or.Fx)), s0 = .pointer q ∧ wr = w ∧ IsTree w q T' ∧ Hid (Rises T'.flat) ∧ Hid (fnd k T'.flat = Z) ∧ T'.num ≤ gg)
  case atStart => exact ⟨p, T, rfl, rfl, h, hR, hz, Nat.le_refl _⟩
  case round =>
    obtain ⟨q, T', rfl, rfl, hT, hR', hz', hgg⟩ := hrel
    cases T' with
    | nil =>
      obtain rfl : q = none := hT
      go_wp2
      go_ret
      exact ⟨Found.none hz'.out.symm, rfl⟩
    | node l x r =>
      obtain ⟨b, pl, pr, rfl, hN, hl, hr⟩ := hT
      have hn := num_node l r x
      have c0 := hN.key
      have c1 := hN.left
      have c2 := hN.right
      rcases Key.tri k (key x) with g | g | g
      · have hC := Lib.hid (Cs.Compare_calls k (key x) (-1) wr (Or.inl ⟨g, rfl⟩))
        have hs := fnd_left (k := k) (show Rises (l.flat ++ x :: r.flat) from hR'.out) g
        have hz2 : Hid (fnd k l.flat = Z) := Lib.hid (hs.1.symm.trans hz'.out)
        have hR2 : Hid (Rises l.flat) := Lib.hid (rises_mid (show Rises (l.flat ++ x :: r.flat) from hR'.out)).1
        replace hl := Lib.hid hl
        clear hs hz' hR' hr hN g h hz hR
        go_wp2_with (go_at_call 31; refine hC.out.mono ?_; rintro e w' ⟨rfl, rfl⟩)
        go_roundg l.num
        case measure => omega
        case rel => exact ⟨pl, l, rfl, rfl, hl.out, hR2, hz2, Nat.le_refl _⟩
      · have hC := Lib.hid (Cs.Compare_calls k (key x) 0 wr (Or.inr (Or.inl ⟨g, rfl⟩)))
        have hs := fnd_here (k := k) (show Rises (l.flat ++ x :: r.flat) from hR'.out) g.symm
        have hz2 : Hid (Z = some x) := Lib.hid (hz'.out.symm.trans hs.1)
        replace hN := Lib.hid hN
        clear hs hz' hR' hr hl g h hz hR
        go_wp2_with (go_at_call 31; refine hC.out.mono ?_; rintro e w' ⟨rfl, rfl⟩)
        go_ret
        exact ⟨Found.some hz2.out hN.out, rfl⟩
      · have hC := Lib.hid (Cs.Compare_calls k (key x) 1 wr (Or.inr (Or.inr ⟨g, rfl⟩)))
        have hs := fnd_right (k := k) (show Rises (l.flat ++ x :: r.flat) from hR'.out) g
        have hz2 : Hid (fnd k r.flat = Z) := Lib.hid (hs.1.symm.trans hz'.out)
        have hR2 : Hid (Rises r.flat) := Lib.hid (rises_mid (show Rises (l.flat ++ x :: r.flat) from hR'.out)).2.1
        replace hr := Lib.hid hr
        clear hs hz' hR' hl hN g h hz hR
        go_wp2_with (go_at_call 31; refine hC.out.mono ?_; rintro e w' ⟨rfl, rfl⟩)
        go_roundg r.num
        case measure => omega
        case rel => exact ⟨pr, r, rfl, rfl, hr.out, hR2, hz2, Nat.le_refl _⟩
end Go.Proofs.YtbjpogeemajhoaaGreat.Tf
namespace Go.Proofs.YtbjpogeemajhoaaGreat.Tf
open Go.RowKit Sh
open Key (lt)
open Ent (key)
attribute [local go_sem] fold_none

theorem GivesL.from {w w0 w' : World} {L M : List (ByteArray × Or.Fx)} {e : Ending} (h : GivesL w L e w') (hb : Below w0.heap.size w0 w) (hL : L = M) : GivesL w0 M e w' := by
  obtain ⟨p, T, rfl, ht, hf, bb⟩ := h
  exact ⟨p, T, rfl, ht, hf.trans hL, b_then hb bb⟩

set_option maxHeartbeats 4000000 in
set_option maxRecDepth 100000 in
theorem with_calls (e : (ByteArray × Or.Fx)) (T : Tr (ByteArray × Or.Fx)) : ∀ (w : World) (p : Option Addr), IsTree w p T → Rises T.flat → T.num < 700000 →
    Calls Tryz.prog 26 #[.pointer p, .string e.1, .agg #[.string e.2.f.id, .int .i64 e.2.f.high, .slice e.2.pa e.2.f.pars.length e.2.pc]] w (GivesL w (ins e T.flat)) := by
  induction T with
  | nil =>
    intro w p h _ _
    obtain rfl : p = none := h
    have b0 := b_alloc w (.cells #[.string e.2.f.id, .int .i64 e.2.f.high, .slice e.2.pa e.2.f.pars.length e.2.pc] 28)
    have hend : Hid (∀ w' n, Below w.heap.size w w' → n = w'.heap.size → GivesL w (ins e (Tr.nil : Tr (ByteArray × Or.Fx)).flat) (.returned (.pointer (some ⟨n, 0, none⟩))) (w'.alloc (.cells #[.string e.1, .string e.2.f.id, .int .i64 e.2.f.high, .slice e.2.pa e.2.f.pars.length e.2.pc, .pointer none, .pointer none, .int .i64 1] 73))) := Lib.hid fun w' n h hn => by
      subst hn
      exact GivesL.mk (T := .node .nil e .nil) (IsTree.mk (Node.new w' e none none 1) rfl rfl rfl) (by simp [Tr.flat, ins]) (b_then h (b_alloc _ _))
    go_enter Tryz.func26, Tryz.ntmps26
    go_wp2
    go_ret
    exact hend.out _ _ b0 (by simp)
  | node l x r ihl ihr =>
    intro w p h hR hb
    have hn := num_node l r x
    obtain ⟨b, pl, pr, rfl, hN, hl, hr⟩ := h
    have hR0 : Rises (l.flat ++ x :: r.flat) := hR
    obtain ⟨rl, rr, r3, r4⟩ := rises_mid hR0
    have b0 := b_alloc w (.cells #[.string e.2.f.id, .int .i64 e.2.f.high, .slice e.2.pa e.2.f.pars.length e.2.pc] 28)
    have hV : Hid (∀ w', Below (w.alloc (.cells #[.string e.2.f.id, .int .i64 e.2.f.high, .slice e.2.pa e.2.f.pars.length e.2.pc] 28)).heap.size (w.alloc (.cells #[.string e.2.f.id, .int .i64 e.2.f.high, .slice e.2.pa e.2.f.pars.length e.2.pc] 28)) w' → (w'.cell? ⟨w.heap.size, 0, none⟩ = some (.string e.2.f.id) ∧ w'.cell? ⟨w.heap.size, 1, none⟩ = some (.int .i64 e.2.f.high) ∧ w'.cell? ⟨w.heap.size, 2, none⟩ = some (.slice e.2.pa e.2.f.pars.length e.2.pc))) := Lib.hid fun w' h => ((Or.FxBlk.new w e.2).next h).cell
    have hS : Hid (∀ w', Below (w.alloc (.cells #[.string e.2.f.id, .int .i64 e.2.f.high, .slice e.2.pa e.2.f.pars.length e.2.pc] 28)).heap.size (w.alloc (.cells #[.string e.2.f.id, .int .i64 e.2.f.high, .slice e.2.pa e.2.f.pars.length e.2.pc] 28)) w' → _ ∧ (w'.cell? ⟨w.heap.size, 0, none⟩ = some (.string e.2.f.id) ∧ w'.cell? ⟨w.heap.size, 1, none⟩ = some (.int .i64 e.2.f.high) ∧ w'.cell? ⟨w.heap.size, 2, none⟩ = some (.slice e.2.pa e.2.f.pars.length e.2.pc))) := Lib.hid fun w' h => ⟨(hN.kept (nodes_below (b_then b0 h))).cells, hV.out w' h⟩
    have hS0 := hS.out _ (Below.refl _ _)
    have c0 := (hN.kept (nodes_below b0)).key
    rcases Key.tri (key e) (key x) with g | g | g
    · have hC := Lib.hid fun w' => Cs.Compare_calls (key e) (key x) (-1) w' (Or.inl ⟨g, rfl⟩)
      have hI := Lib.hid fun w' (h : Below w.heap.size w w') => ihl w' pl (hl.next h) rl (by omega)
      have hB := Lib.hid fun w' p' T' (h : Below w.heap.size w w') (ht : IsTree w' p' T') (hf : T'.flat = ins e l.flat) => balanced_calls w' b _ x pl pr p' pr T' r (hN.kept (nodes_below h)) ht (hr.next h) (by
        have h1 := ins_len_le e l.flat
        rw [← hf] at h1
        have h2 : T'.num = T'.flat.length := rfl
        have h3 : l.num = l.flat.length := rfl
        omega)
      have hf : Hid (∀ M, M = ins e l.flat → M ++ x :: r.flat = ins e (Tr.node l x r).flat) := Lib.hid fun M h => by rw [h]; exact (ins_left e x r.flat g l.flat).symm
      clear ihl ihr hl hr hN hR hR0 rl rr r3 r4 g hn hb
      generalize (Tr.node l x r).num = nn at *
      go_enter Tryz.func26, Tryz.ntmps26
      go_wp2_with (go_at_call 31; refine (hC.out _).mono ?_; rintro e w' ⟨rfl, rfl⟩)
      have bc := b_then b0 (b_drew _)
      have bv := b_drew (w.alloc (.cells #[.string e.2.f.id, .int .i64 e.2.f.high, .slice e.2.pa e.2.f.pars.length e.2.pc] 28))
      go_region_held3 (fun w' => (w'.cell? ⟨b, 0, none⟩ = some (.string x.1) ∧ w'.cell? ⟨b, 1, none⟩ = some (.string x.2.f.id) ∧ w'.cell? ⟨b, 2, none⟩ = some (.int .i64 x.2.f.high) ∧ w'.cell? ⟨b, 3, none⟩ = some (.slice x.2.pa x.2.f.pars.length x.2.pc) ∧ w'.cell? ⟨b, 4, none⟩ = some (.pointer pl) ∧ w'.cell? ⟨b, 5, none⟩ = some (.pointer pr) ∧ w'.cell? ⟨b, 6, none⟩ = some (.int .i64 (nn : Int))) ∧ (w'.cell? ⟨w.heap.size, 0, none⟩ = some (.string e.2.f.id) ∧ w'.cell? ⟨w.heap.size, 1, none⟩ = some (.int .i64 e.2.f.high) ∧ w'.cell? ⟨w.heap.size, 2, none⟩ = some (.slice e.2.pa e.2.f.pars.length e.2.pc)))
        (exact hS.out _ bv)
        (first
          | (go_at_call 26; refine (hI.out _ bc).mono ?_; rintro e9 w9 ⟨p9, T9, rfl, t9, f9, b9⟩; replace f9 := Lib.hid f9; replace bc := b_then bc b9; replace bv := b_then bv b9; clear b9)
          | (go_at_call 56; refine (hB.out _ _ _ bc t9 f9.out).mono ?_; rintro e8 w8 h8; have h7 := Lib.hid (h8.from bc (hf.out _ f9.out)); obtain ⟨p8, T8, rfl, -, -, b8⟩ := h8; replace bc := b_then bc b8; replace bv := b_then bv b8; clear b8))
      all_goals
        go_wp2
        go_ret
        exact h7.out
    · have hC := Lib.hid fun w' => Cs.Compare_calls (key e) (key x) 0 w' (Or.inr (Or.inl ⟨g, rfl⟩))
      have hf : Hid (ins e (Tr.node l x r).flat = (Tr.node l e r).flat) := Lib.hid (ins_here e x r.flat g l.flat r3)
      have hnn : (Tr.node l x r).num = l.num + 1 + r.num := hn
      have hx : x.1 = e.1 := g.symm
      have hend : Hid (∀ w' n c, Below w.heap.size w w' → n = w'.heap.size → c = #[.string e.1, .string e.2.f.id, .int .i64 e.2.f.high, .slice e.2.pa e.2.f.pars.length e.2.pc, .pointer pl, .pointer pr, .int .i64 ((Tr.node l x r).num : Int)] → GivesL w (ins e (Tr.node l x r).flat) (.returned (.pointer (some ⟨n, 0, none⟩))) (w'.alloc (.cells c 73))) := Lib.hid fun w' n c h hn hc => by
        subst hn hc
        have h2 := b_then h (b_alloc w' (.cells #[.string e.1, .string e.2.f.id, .int .i64 e.2.f.high, .slice e.2.pa e.2.f.pars.length e.2.pc, .pointer pl, .pointer pr, .int .i64 ((Tr.node l x r).num : Int)] 73))
        exact GivesL.mk (T := .node l e r) (IsTree.mk (Node.new w' e pl pr _) (hl.next h2) (hr.next h2) hnn) hf.out.symm h2
      replace hx := Lib.hid hx
      clear ihl ihr hl hr hN hR hR0 rl rr r3 r4 g hn hb hnn hf
      generalize (Tr.node l x r).num = nn at *
      go_enter Tryz.func26, Tryz.ntmps26
      go_wp2_with (go_at_call 31; refine (hC.out _).mono ?_; rintro e w' ⟨rfl, rfl⟩)
      have bc := b_then b0 (b_drew _)
      have bv := b_drew (w.alloc (.cells #[.string e.2.f.id, .int .i64 e.2.f.high, .slice e.2.pa e.2.f.pars.length e.2.pc] 28))
      go_region_held3 (fun w' => (w'.cell? ⟨b, 0, none⟩ = some (.string x.1) ∧ w'.cell? ⟨b, 1, none⟩ = some (.string x.2.f.id) ∧ w'.cell? ⟨b, 2, none⟩ = some (.int .i64 x.2.f.high) ∧ w'.cell? ⟨b, 3, none⟩ = some (.slice x.2.pa x.2.f.pars.length x.2.pc) ∧ w'.cell? ⟨b, 4, none⟩ = some (.pointer pl) ∧ w'.cell? ⟨b, 5, none⟩ = some (.pointer pr) ∧ w'.cell? ⟨b, 6, none⟩ = some (.int .i64 (nn : Int))) ∧ (w'.cell? ⟨w.heap.size, 0, none⟩ = some (.string e.2.f.id) ∧ w'.cell? ⟨w.heap.size, 1, none⟩ = some (.int .i64 e.2.f.high) ∧ w'.cell? ⟨w.heap.size, 2, none⟩ = some (.slice e.2.pa e.2.f.pars.length e.2.pc)))
        (first | exact hS.out _ bv | exact hS.out _ (b_then bv (b_alloc _ _)))
        (fail)
      all_goals
        go_wp2
        go_ret
        exact hend.out _ _ _ bc (by simp) (by rw [hx.out])
    · have hC := Lib.hid fun w' => Cs.Compare_calls (key e) (key x) 1 w' (Or.inr (Or.inr ⟨g, rfl⟩))
      have hI := Lib.hid fun w' (h : Below w.heap.size w w') => ihr w' pr (hr.next h) rr (by omega)
      have hB := Lib.hid fun w' p' T' (h : Below w.heap.size w w') (ht : IsTree w' p' T') (hf : T'.flat = ins e r.flat) => balanced_calls w' b _ x pl pr pl p' l T' (hN.kept (nodes_below h)) (hl.next h) ht (by
        have h1 := ins_len_le e r.flat
        rw [← hf] at h1
        have h2 : T'.num = T'.flat.length := rfl
        have h3 : r.num = r.flat.length := rfl
        omega)
      have hf : Hid (∀ M, M = ins e r.flat → l.flat ++ x :: M = ins e (Tr.node l x r).flat) := Lib.hid fun M h => by rw [h]; exact (ins_right e x r.flat g l.flat r3).symm
      clear ihl ihr hl hr hN hR hR0 rl rr r3 r4 g hn hb
      generalize (Tr.node l x r).num = nn at *
      go_enter Tryz.func26, Tryz.ntmps26
      go_wp2_with (go_at_call 31; refine (hC.out _).mono ?_; rintro e w' ⟨rfl, rfl⟩)
      have bc := b_then b0 (b_drew _)
      have bv := b_drew (w.alloc (.cells #[.string e.2.f.id, .int .i64 e.2.f.high, .slice e.2.pa e.2.f.pars.length e.2.pc] 28))
      go_region_held3 (fun w' => (w'.cell? ⟨b, 0, none⟩ = some (.string x.1) ∧ w'.cell? ⟨b, 1, none⟩ = some (.string x.2.f.id) ∧ w'.cell? ⟨b, 2, none⟩ = some (.int .i64 x.2.f.high) ∧ w'.cell? ⟨b, 3, none⟩ = some (.slice x.2.pa x.2.f.pars.length x.2.pc) ∧ w'.cell? ⟨b, 4, none⟩ = some (.pointer pl) ∧ w'.cell? ⟨b, 5, none⟩ = some (.pointer pr) ∧ w'.cell? ⟨b, 6, none⟩ = some (.int .i64 (nn : Int))) ∧ (w'.cell? ⟨w.heap.size, 0, none⟩ = some (.string e.2.f.id) ∧ w'.cell? ⟨w.heap.size, 1, none⟩ = some (.int .i64 e.2.f.high) ∧ w'.cell? ⟨w.heap.size, 2, none⟩ = some (.slice e.2.pa e.2.f.pars.length e.2.pc)))
        (exact hS.out _ bv)
        (first
          | (go_at_call 26; refine (hI.out _ bc).mono ?_; rintro e9 w9 ⟨p9, T9, rfl, t9, f9, b9⟩; replace f9 := Lib.hid f9; replace bc := b_then bc b9; replace bv := b_then bv b9; clear b9)
          | (go_at_call 56; refine (hB.out _ _ _ bc t9 f9.out).mono ?_; rintro e8 w8 h8; have h7 := Lib.hid (h8.from bc (hf.out _ f9.out)); obtain ⟨p8, T8, rfl, -, -, b8⟩ := h8; replace bc := b_then bc b8; replace bv := b_then bv b8; clear b8))
      all_goals
        go_wp2
        go_ret
        exact h7.out
end Go.Proofs.YtbjpogeemajhoaaGreat.Tf
namespace Go.Proofs.YtbjpogeemajhoaaGreat.Tf
open Go.RowKit Sh
open Key (lt)
open Ent (key)
attribute [local go_sem] fold_none

/-- a map's (or a set's) address, and what it holds; a nil one holds nothing -/
def At (W : World) (t : TypeId) (a : Option Addr) (L : List (ByteArray × Or.Fx)) : Prop :=
  (a = none ∧ L = []) ∨ ∃ (b : Nat) (p : Option Addr) (T : Tr (ByteArray × Or.Fx)), a = some ⟨b, 0, none⟩ ∧ Boxed W b t (.pointer p) ∧ IsTree W p T ∧ T.flat = L
theorem At.next {W W' : World} {t : TypeId} {a : Option Addr} {L : List (ByteArray × Or.Fx)} (h : At W t a L) (hb : Below W.heap.size W W') : At W' t a L := by
  rcases h with h | ⟨b, p, T, rfl, h1, h2, h3⟩
  · exact Or.inl h
  · exact Or.inr ⟨b, p, T, rfl, (hb.block b h1.lt).trans h1, h2.next hb, h3⟩

set_option maxHeartbeats 2000000 in
theorem tree_calls (w : World) (t : TypeId) (a : Option Addr) (L : List (ByteArray × Or.Fx)) (h : At w t a L) :
    Calls Tryz.prog 27 #[.pointer a] w fun e w' => (∃ p T, e = .returned (.pointer p) ∧ IsTree w p T ∧ T.flat = L) ∧ w' = w := by
  rcases h with ⟨rfl, rfl⟩ | ⟨b, p, T, rfl, h1, h2, h3⟩
  · go_enter Tryz.func27, Tryz.ntmps27
    go_wp2
    go_ret
    exact ⟨⟨none, .nil, rfl, rfl, rfl⟩, rfl⟩
  · have c := h1.cell
    replace h2 := Lib.hid h2
    replace h3 := Lib.hid h3
    clear h1
    go_enter Tryz.func27, Tryz.ntmps27
    go_wp2
    go_ret
    exact ⟨⟨p, T, rfl, h2.out, h3.out⟩, rfl⟩

theorem Len_calls (w : World) (t : TypeId) (a : Option Addr) (L : List (ByteArray × Or.Fx)) (h : At w t a L) :
    Calls Tryz.prog 25 #[.pointer a] w fun e w' => e = .returned (.int .i64 (L.length : Int)) ∧ w' = w := by
  have hT := Lib.hid (tree_calls w t a L h)
  clear h
  generalize hn : L.length = n
  go_enter Tryz.func25, Tryz.ntmps25
  go_wp2_with fail
  refine hT.out.mono ?_
  rintro e w1 ⟨⟨p, T, rfl, h2, h3⟩, rfl⟩
  have hc := Lib.hid (count_calls w1 p T h2)
  have hk : Hid (T.num = n) := Lib.hid (by rw [← hn, ← h3]; rfl)
  clear h2 h3 hn
  go_wp2_with fail
  refine hc.out.mono ?_
  rintro e w2 ⟨rfl, rfl⟩
  go_wp2
  go_ret
  exact ⟨by rw [hk.out]; rfl, rfl⟩

/-- the block of a map alone has changed, and it holds another list -/
def Turns (w : World) (t : TypeId) (b : Nat) (L : List (ByteArray × Or.Fx)) (w' : World) : Prop := At w' t (some ⟨b, 0, none⟩) L ∧ w.grownBy w' (some b)
theorem turns_mk {w w1 : World} {t : TypeId} {b : Nat} {p p' : Option Addr} {T : Tr (ByteArray × Or.Fx)} {L : List (ByteArray × Or.Fx)} (hne : t ≠ 73) (hB : Boxed w b t (.pointer p)) (hb : Below w.heap.size w w1) (hT : IsTree w1 p' T) (hL : T.flat = L) :
    Turns w t b L (w1.setCell ⟨b, 0, none⟩ (.pointer p')) := by
  have h1 : Boxed w1 b t (.pointer p) := (hb.block b hB.lt).trans hB
  have hk : Nodes w1 (w1.setCell ⟨b, 0, none⟩ (.pointer p')) := fun k c z hk => by
    refine (Below.heap_setCell _ _ _ k fun e => ?_).trans hk
    subst e
    have := hk.symm.trans h1
    simp at this
    exact hne this.2.1.symm
  refine ⟨Or.inr ⟨b, p', T, rfl, h1.set _, hT.kept hk, hL⟩, ⟨hb.os, hb.tape, hb.output, ?_, fun k hk hne => ?_⟩⟩
  · have := (grownBy_setCell' w1 b (.pointer p')).size; have := hb.size; omega
  · exact (Below.heap_setCell _ _ _ k (fun e => hne (by rw [e]))).trans (hb.block k hk)
theorem Turns.drew {w : World} {t : TypeId} {b : Nat} {L : List (ByteArray × Or.Fx)} {w' : World} (h : Turns w t b L w') : Turns w t b L w'.drew := ⟨h.1.next (b_drew _), ⟨h.2.os, h.2.tape, h.2.output, h.2.size, h.2.block⟩⟩

end Go.Proofs.YtbjpogeemajhoaaGreat.Tf
