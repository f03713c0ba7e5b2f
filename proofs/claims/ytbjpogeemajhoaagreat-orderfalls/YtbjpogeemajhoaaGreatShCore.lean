/-
  A shelf's trees: blocks, turning, weighing, entries put in and taken out; maps. Conditions: trees are not too great for their counts.
-/
import Derived.Test.YtbjpogeemajhoaaGreatRows
import Derived.Test.YtbjpogeemajhoaaGreatShPlain
import Derived.WalkKit
import Derived.WalkSpells
import Derived.WalkLawsBesides
import Derived.ProofKit
import Derived.OpenShut
import Derived.Deep.QuietTactic
import Derived.BigQuiet
import Derived.BigRegion
import Derived.Deep.RegionHeld3
import Derived.Lib.Hide
import Derived.IntWalk
import Derived.RangeFuncNested
import Derived.Deep.LoopGhost
import Derived.Deep.RegionLaw
namespace Go.Proofs.YtbjpogeemajhoaaGreat.Sh
open Go.RowKit
theorem b_drew (w : World) : Below w.heap.size w w.drew := ⟨rfl, rfl, rfl, Nat.le_refl _, fun _ _ => rfl⟩
theorem b_drewN (w : World) (n : Nat) : Below w.heap.size w (w.drewN n) := ⟨rfl, rfl, rfl, Nat.le_refl _, fun _ _ => rfl⟩
theorem b_alloc (w : World) (o : Obj) : Below w.heap.size w (w.alloc o) := (Below.refl _ w).alloc (Nat.le_refl _) o
theorem b_next {B : Nat} {a b c : World} (h : Below B a b) (g : Below b.heap.size b c) (hB : B ≤ a.heap.size) : Below B a c := h.trans (g.mono (Nat.le_trans hB h.size))
theorem wrap_nat (n : Nat) (h : n ≤ 1000000000000) : IntKind.i64.wrap (n : Int) = n := by simp [IntKind.wrap, IntKind.bits, IntKind.signed]; omega
theorem wrap_in {c : Int} (h0 : -9223372036854775808 ≤ c) (h1 : c < 9223372036854775808) : IntKind.i64.wrap c = c := by simp [IntKind.wrap, IntKind.bits, IntKind.signed]; omega
/-- a field of no cells is built by nothing -/
theorem fold_none {β : Type} (f : β → Value × Nat → β) (c : β) : Array.foldl f c (Array.zipIdx (#[] : Array Value)) 0 0 = c := rfl
theorem b_then {a b c : World} (h : Below a.heap.size a b) (g : Below b.heap.size b c) : Below a.heap.size a c := b_next h g (Nat.le_refl _)
end Go.Proofs.YtbjpogeemajhoaaGreat.Sh
namespace Go.Proofs.YtbjpogeemajhoaaGreat.Ti
open Go.RowKit Sh
open Key (lt)
open Ent (key)
attribute [local go_sem] fold_none

end Go.Proofs.YtbjpogeemajhoaaGreat.Ti
namespace Go.Proofs.YtbjpogeemajhoaaGreat.Ts
open Go.RowKit Sh
open Key (lt)
open Ent (key)
attribute [local go_sem] fold_none

/-- a node of a tree: its block -/
def Node (W : World) (b : Nat) (e : ByteArray) (pl pr : Option Addr) (n : Nat) : Prop :=
  W.heap[b]? = some (.cells #[.string e, .pointer pl, .pointer pr, .int .i64 (n : Int)] 118 (0, 0))
/-- memory holds a tree at an address -/
def IsTree (W : World) : Option Addr → Tr ByteArray → Prop
  | p, .nil => p = none
  | p, .node l e r => ∃ (b : Nat) (pl pr : Option Addr), p = some ⟨b, 0, none⟩ ∧ Node W b e pl pr (Tr.node l e r).num ∧ IsTree W pl l ∧ IsTree W pr r
/-- nodes are as they were -/
def Nodes (W W' : World) : Prop := ∀ (b : Nat) (c : Array Value) (z : Nat × Nat), W.heap[b]? = some (.cells c 118 z) → W'.heap[b]? = some (.cells c 118 z)
theorem nodes_below {W W' : World} (h : Below W.heap.size W W') : Nodes W W' := fun b _ _ hb => (h.block b (Array.getElem?_eq_some_iff.1 hb).1).trans hb
theorem nodes_refl (W : World) : Nodes W W := fun _ _ _ h => h
theorem Nodes.trans {A B C : World} (h : Nodes A B) (g : Nodes B C) : Nodes A C := fun b c z hb => g b c z (h b c z hb)
theorem Node.kept {W W' : World} (h : Nodes W W') {b : Nat} {e : ByteArray} {pl pr : Option Addr} {n : Nat} (g : Node W b e pl pr n) : Node W' b e pl pr n := h _ _ _ g
theorem IsTree.kept {W W' : World} (h : Nodes W W') : ∀ {p : Option Addr} {T : Tr ByteArray}, IsTree W p T → IsTree W' p T
  | _, .nil, g => g
  | _, .node _ _ _, ⟨b, pl, pr, hp, hn, hl, hr⟩ => ⟨b, pl, pr, hp, hn.kept h, IsTree.kept h hl, IsTree.kept h hr⟩
theorem IsTree.next {W W' : World} {p : Option Addr} {T : Tr ByteArray} (g : IsTree W p T) (h : Below W.heap.size W W') : IsTree W' p T := g.kept (nodes_below h)
theorem part_run {W : World} {b : Nat} {e : ByteArray} {pl pr : Option Addr} {n : Nat} (g : Node W b e pl pr n) : (partAt ⟨b, 0, none⟩ 1 16).run Tryz.prog W = .ok ⟨b, 1, none⟩ W := by
  have hb : W.heap[b]? = some (.cells #[.string e, .pointer pl, .pointer pr, .int .i64 (n : Int)] 118 (0, 0)) := g
  have h1 : Tryz.prog.cellsOf 118 = 4 := by kernel_rfl
  have h2 : byteOfCell Tryz.prog Tryz.prog.depth 118 0 = some 0 := by kernel_rfl
  have h3 : byteOfCell Tryz.prog Tryz.prog.depth 118 1 = some 16 := by kernel_rfl
  have hs : W.shape? b = some (118, 4) := by simp [World.shape?, hb]
  have hv : (viewAt b).run Tryz.prog W = .ok none W := by simp [viewAt, hs, go_sem]
  simp [partAt, byteOf, noView, hs, hv, go_sem, h1, h2, h3]
theorem Node.cells {w' : World} {b : Nat} {e : ByteArray} {pl pr : Option Addr} {n : Nat} (g : Node w' b e pl pr n) : w'.cell? ⟨b, 0, none⟩ = some (.string e) ∧ (partAt ⟨b, 0, none⟩ 1 16).run Tryz.prog w' = .ok ⟨b, 1, none⟩ w' ∧ w'.cell? ⟨b, 1, none⟩ = some (.pointer pl) ∧ w'.cell? ⟨b, 2, none⟩ = some (.pointer pr) ∧ w'.cell? ⟨b, 3, none⟩ = some (.int .i64 (n : Int)) := by
  refine ⟨?_, part_run g, ?_⟩ <;> simp [World.cell?, show w'.heap[b]? = _ from g]
theorem Node.left {W : World} {b : Nat} {e : ByteArray} {pl pr : Option Addr} {n : Nat} (g : Node W b e pl pr n) : W.cell? ⟨b, 1, none⟩ = some (.pointer pl) := by
  simp [World.cell?, show W.heap[b]? = _ from g]
theorem Node.right {W : World} {b : Nat} {e : ByteArray} {pl pr : Option Addr} {n : Nat} (g : Node W b e pl pr n) : W.cell? ⟨b, 2, none⟩ = some (.pointer pr) := by
  simp [World.cell?, show W.heap[b]? = _ from g]
theorem Node.size {W : World} {b : Nat} {e : ByteArray} {pl pr : Option Addr} {n : Nat} (g : Node W b e pl pr n) : W.cell? ⟨b, 3, none⟩ = some (.int .i64 (n : Int)) := by
  simp [World.cell?, show W.heap[b]? = _ from g]
theorem Node.key {W : World} {b : Nat} {e : ByteArray} {pl pr : Option Addr} {n : Nat} (g : Node W b e pl pr n) : W.cell? ⟨b, 0, none⟩ = some (.string e) := by
  simp [World.cell?, show W.heap[b]? = _ from g]
theorem Node.new (W : World) (e : ByteArray) (pl pr : Option Addr) (n : Nat) : Node (W.alloc (.cells #[.string e, .pointer pl, .pointer pr, .int .i64 (n : Int)] 118)) W.heap.size e pl pr n := World.alloc_heap_new W _
theorem IsTree.mk {W : World} {b : Nat} {e : ByteArray} {pl pr : Option Addr} {n : Nat} {l r : Tr ByteArray} (g : Node W b e pl pr n) (hl : IsTree W pl l) (hr : IsTree W pr r) (hn : n = l.num + 1 + r.num) : IsTree W (some ⟨b, 0, none⟩) (.node l e r) :=
  ⟨b, pl, pr, rfl, by rw [num_node, ← hn]; exact g, hl, hr⟩

/-- a tree handed back -/
def Gives (w : World) (T : Tr ByteArray) (e : Ending) (w' : World) : Prop := ∃ p, e = .returned (.pointer p) ∧ IsTree w' p T ∧ Below w.heap.size w w'
theorem Gives.mk {w w' : World} {T : Tr ByteArray} {p : Option Addr} (h : IsTree w' p T) (hb : Below w.heap.size w w') : Gives w T (.returned (.pointer p)) w' := ⟨p, rfl, h, hb⟩
/-- a tree that holds a list handed back -/
def GivesL (w : World) (L : List ByteArray) (e : Ending) (w' : World) : Prop := ∃ p T, e = .returned (.pointer p) ∧ IsTree w' p T ∧ T.flat = L ∧ Below w.heap.size w w'
theorem GivesL.mk {w w' : World} {L : List ByteArray} {T : Tr ByteArray} {p : Option Addr} (h : IsTree w' p T) (hL : T.flat = L) (hb : Below w.heap.size w w') : GivesL w L (.returned (.pointer p)) w' := ⟨p, T, rfl, h, hL, hb⟩

theorem count_calls (w : World) (p : Option Addr) (T : Tr ByteArray) (h : IsTree w p T) :
    Calls Tryz.prog 84 #[.pointer p] w fun e w' => e = .returned (.int .i64 (T.num : Int)) ∧ w' = w := by
  cases T with
  | nil =>
    obtain rfl : p = none := h
    go_enter Tryz.func84, Tryz.ntmps84
    go_wp2
    go_ret
    exact ⟨rfl, rfl⟩
  | node l x r =>
    obtain ⟨b, pl, pr, rfl, hn, _, _⟩ := h
    have hz := hn.size
    clear hn
    go_enter Tryz.func84, Tryz.ntmps84
    go_wp2
    go_ret
    exact ⟨rfl, rfl⟩

theorem weight_calls (w : World) (p : Option Addr) (T : Tr ByteArray) (h : IsTree w p T) (hb : T.num < 1000000) :
    Calls Tryz.prog 102 #[.pointer p] w fun e w' => e = .returned (.int .i64 ((T.num + 1 : Nat) : Int)) ∧ w' = w := by
  have hc := count_calls w p T h
  clear h
  generalize T.num = n at *
  go_enter Tryz.func102, Tryz.ntmps102
  go_wp2_with (go_at_call 84; refine hc.mono ?_; rintro e w' ⟨rfl, rfl⟩)
  go_ret
  exact ⟨by go_num, rfl⟩

set_option maxHeartbeats 2000000 in
set_option maxRecDepth 100000 in
theorem over_calls (w : World) (b n0 : Nat) (x : ByteArray) (pl pr pL pR : Option Addr) (L R : Tr ByteArray) (hN : Node w b x pl pr n0) (hl : IsTree w pL L) (hr : IsTree w pR R) (hb : L.num + R.num < 1000000) :
    Calls Tryz.prog 79 #[.pointer (some ⟨b, 0, none⟩), .pointer pL, .pointer pR] w (Gives w (.node L x R)) := by
  have c1 := Lib.hid fun w' (h : Below w.heap.size w w') => count_calls w' pL L (hl.next h)
  have c2 := Lib.hid fun w' (h : Below w.heap.size w w') => count_calls w' pR R (hr.next h)
  have hS := Lib.hid fun w' (h : Below w.heap.size w w') => (hN.kept (nodes_below h)).cells
  have hend : Hid (∀ w' (n : Int), Below w.heap.size w w' → n = ((L.num + 1 + R.num : Nat) : Int) → Gives w (.node L x R) (.returned (.pointer (some ⟨w'.heap.size, 0, none⟩))) (w'.alloc (.cells #[.string x, .pointer pL, .pointer pR, .int .i64 n] 118))) := Lib.hid fun w' n h hn => by
    have h2 := b_then h (b_alloc w' (.cells #[.string x, .pointer pL, .pointer pR, .int .i64 n] 118))
    subst hn
    exact Gives.mk (IsTree.mk (Node.new w' x pL pR _) (hl.next h2) (hr.next h2) rfl) h2
  clear hN hl hr
  generalize L.num = m at *
  generalize R.num = k at *
  have bd := b_drew w
  have j1 : Hid (IntKind.i64.wrap ((m : Int) + 1) = ((m + 1 : Nat) : Int)) := Lib.hid (wrap_nat (m + 1) (by omega))
  have j2 : Hid (IntKind.i64.wrap (((m + 1 : Nat) : Int) + (k : Int)) = ((m + 1 + k : Nat) : Int)) := Lib.hid (wrap_nat (m + 1 + k) (by omega))
  go_enter Tryz.func79, Tryz.ntmps79
  go_wp2_with fail
  go_region_held3 (fun w' => w'.cell? ⟨b, 0, none⟩ = some (.string x) ∧ (partAt ⟨b, 0, none⟩ 1 16).run Tryz.prog w' = .ok ⟨b, 1, none⟩ w' ∧ w'.cell? ⟨b, 1, none⟩ = some (.pointer pl) ∧ w'.cell? ⟨b, 2, none⟩ = some (.pointer pr) ∧ w'.cell? ⟨b, 3, none⟩ = some (.int .i64 (n0 : Int)))
    (first | exact hS.out _ bd | exact hS.out _ (b_then bd (b_alloc _ _)))
    (first
      | (go_at_call 84; refine (c1.out _ bd).mono ?_; clear c1; rintro e w' ⟨rfl, rfl⟩)
      | (go_at_call 84; refine (c2.out _ bd).mono ?_; clear c2; rintro e w' ⟨rfl, rfl⟩))
  all_goals
    go_wp2
    go_ret
    exact hend.out _ _ bd (by rw [j1.out]; exact j2.out)

end Go.Proofs.YtbjpogeemajhoaaGreat.Ts
namespace Go.Proofs.YtbjpogeemajhoaaGreat.Tm
open Go.RowKit Sh
open Key (lt)
open Ent (key)
attribute [local go_sem] fold_none

/-- a node of a tree: its block -/
def Node (W : World) (b : Nat) (e : (ByteArray × Int)) (pl pr : Option Addr) (n : Nat) : Prop :=
  W.heap[b]? = some (.cells #[.string e.1, .int .i64 e.2, .pointer pl, .pointer pr, .int .i64 (n : Int)] 80 (0, 0))
/-- memory holds a tree at an address -/
def IsTree (W : World) : Option Addr → Tr (ByteArray × Int) → Prop
  | p, .nil => p = none
  | p, .node l e r => ∃ (b : Nat) (pl pr : Option Addr), p = some ⟨b, 0, none⟩ ∧ Node W b e pl pr (Tr.node l e r).num ∧ IsTree W pl l ∧ IsTree W pr r
/-- nodes are as they were -/
def Nodes (W W' : World) : Prop := ∀ (b : Nat) (c : Array Value) (z : Nat × Nat), W.heap[b]? = some (.cells c 80 z) → W'.heap[b]? = some (.cells c 80 z)
theorem nodes_below {W W' : World} (h : Below W.heap.size W W') : Nodes W W' := fun b _ _ hb => (h.block b (Array.getElem?_eq_some_iff.1 hb).1).trans hb
theorem nodes_refl (W : World) : Nodes W W := fun _ _ _ h => h
theorem Nodes.trans {A B C : World} (h : Nodes A B) (g : Nodes B C) : Nodes A C := fun b c z hb => g b c z (h b c z hb)
theorem Node.kept {W W' : World} (h : Nodes W W') {b : Nat} {e : (ByteArray × Int)} {pl pr : Option Addr} {n : Nat} (g : Node W b e pl pr n) : Node W' b e pl pr n := h _ _ _ g
theorem IsTree.kept {W W' : World} (h : Nodes W W') : ∀ {p : Option Addr} {T : Tr (ByteArray × Int)}, IsTree W p T → IsTree W' p T
  | _, .nil, g => g
  | _, .node _ _ _, ⟨b, pl, pr, hp, hn, hl, hr⟩ => ⟨b, pl, pr, hp, hn.kept h, IsTree.kept h hl, IsTree.kept h hr⟩
theorem IsTree.next {W W' : World} {p : Option Addr} {T : Tr (ByteArray × Int)} (g : IsTree W p T) (h : Below W.heap.size W W') : IsTree W' p T := g.kept (nodes_below h)
theorem Node.cells {w' : World} {b : Nat} {e : (ByteArray × Int)} {pl pr : Option Addr} {n : Nat} (g : Node w' b e pl pr n) : w'.cell? ⟨b, 0, none⟩ = some (.string e.1) ∧ w'.cell? ⟨b, 1, none⟩ = some (.int .i64 e.2) ∧ w'.cell? ⟨b, 2, none⟩ = some (.pointer pl) ∧ w'.cell? ⟨b, 3, none⟩ = some (.pointer pr) ∧ w'.cell? ⟨b, 4, none⟩ = some (.int .i64 (n : Int)) := by
  simp [World.cell?, show w'.heap[b]? = _ from g]
theorem Node.left {W : World} {b : Nat} {e : (ByteArray × Int)} {pl pr : Option Addr} {n : Nat} (g : Node W b e pl pr n) : W.cell? ⟨b, 2, none⟩ = some (.pointer pl) := by
  simp [World.cell?, show W.heap[b]? = _ from g]
theorem Node.right {W : World} {b : Nat} {e : (ByteArray × Int)} {pl pr : Option Addr} {n : Nat} (g : Node W b e pl pr n) : W.cell? ⟨b, 3, none⟩ = some (.pointer pr) := by
  simp [World.cell?, show W.heap[b]? = _ from g]
theorem Node.size {W : World} {b : Nat} {e : (ByteArray × Int)} {pl pr : Option Addr} {n : Nat} (g : Node W b e pl pr n) : W.cell? ⟨b, 4, none⟩ = some (.int .i64 (n : Int)) := by
  simp [World.cell?, show W.heap[b]? = _ from g]
theorem Node.key {W : World} {b : Nat} {e : (ByteArray × Int)} {pl pr : Option Addr} {n : Nat} (g : Node W b e pl pr n) : W.cell? ⟨b, 0, none⟩ = some (.string e.1) := by
  simp [World.cell?, show W.heap[b]? = _ from g]
theorem Node.new (W : World) (e : (ByteArray × Int)) (pl pr : Option Addr) (n : Nat) : Node (W.alloc (.cells #[.string e.1, .int .i64 e.2, .pointer pl, .pointer pr, .int .i64 (n : Int)] 80)) W.heap.size e pl pr n := World.alloc_heap_new W _
theorem IsTree.mk {W : World} {b : Nat} {e : (ByteArray × Int)} {pl pr : Option Addr} {n : Nat} {l r : Tr (ByteArray × Int)} (g : Node W b e pl pr n) (hl : IsTree W pl l) (hr : IsTree W pr r) (hn : n = l.num + 1 + r.num) : IsTree W (some ⟨b, 0, none⟩) (.node l e r) :=
  ⟨b, pl, pr, rfl, by rw [num_node, ← hn]; exact g, hl, hr⟩

/-- a tree handed back -/
def Gives (w : World) (T : Tr (ByteArray × Int)) (e : Ending) (w' : World) : Prop := ∃ p, e = .returned (.pointer p) ∧ IsTree w' p T ∧ Below w.heap.size w w'
theorem Gives.mk {w w' : World} {T : Tr (ByteArray × Int)} {p : Option Addr} (h : IsTree w' p T) (hb : Below w.heap.size w w') : Gives w T (.returned (.pointer p)) w' := ⟨p, rfl, h, hb⟩
/-- a tree that holds a list handed back -/
def GivesL (w : World) (L : List (ByteArray × Int)) (e : Ending) (w' : World) : Prop := ∃ p T, e = .returned (.pointer p) ∧ IsTree w' p T ∧ T.flat = L ∧ Below w.heap.size w w'
theorem GivesL.mk {w w' : World} {L : List (ByteArray × Int)} {T : Tr (ByteArray × Int)} {p : Option Addr} (h : IsTree w' p T) (hL : T.flat = L) (hb : Below w.heap.size w w') : GivesL w L (.returned (.pointer p)) w' := ⟨p, T, rfl, h, hL, hb⟩

theorem count_calls (w : World) (p : Option Addr) (T : Tr (ByteArray × Int)) (h : IsTree w p T) :
    Calls Tryz.prog 53 #[.pointer p] w fun e w' => e = .returned (.int .i64 (T.num : Int)) ∧ w' = w := by
  cases T with
  | nil =>
    obtain rfl : p = none := h
    go_enter Tryz.func53, Tryz.ntmps53
    go_wp2
    go_ret
    exact ⟨rfl, rfl⟩
  | node l x r =>
    obtain ⟨b, pl, pr, rfl, hn, _, _⟩ := h
    have hz := hn.size
    clear hn
    go_enter Tryz.func53, Tryz.ntmps53
    go_wp2
    go_ret
    exact ⟨rfl, rfl⟩

theorem weight_calls (w : World) (p : Option Addr) (T : Tr (ByteArray × Int)) (h : IsTree w p T) (hb : T.num < 1000000) :
    Calls Tryz.prog 71 #[.pointer p] w fun e w' => e = .returned (.int .i64 ((T.num + 1 : Nat) : Int)) ∧ w' = w := by
  have hc := count_calls w p T h
  clear h
  generalize T.num = n at *
  go_enter Tryz.func71, Tryz.ntmps71
  go_wp2_with (go_at_call 53; refine hc.mono ?_; rintro e w' ⟨rfl, rfl⟩)
  go_ret
  exact ⟨by go_num, rfl⟩

set_option maxHeartbeats 2000000 in
set_option maxRecDepth 100000 in
theorem over_calls (w : World) (b n0 : Nat) (x : (ByteArray × Int)) (pl pr pL pR : Option Addr) (L R : Tr (ByteArray × Int)) (hN : Node w b x pl pr n0) (hl : IsTree w pL L) (hr : IsTree w pR R) (hb : L.num + R.num < 1000000) :
    Calls Tryz.prog 74 #[.pointer (some ⟨b, 0, none⟩), .pointer pL, .pointer pR] w (Gives w (.node L x R)) := by
  have c1 := Lib.hid fun w' (h : Below w.heap.size w w') => count_calls w' pL L (hl.next h)
  have c2 := Lib.hid fun w' (h : Below w.heap.size w w') => count_calls w' pR R (hr.next h)
  have hS := Lib.hid fun w' (h : Below w.heap.size w w') => (hN.kept (nodes_below h)).cells
  have hend : Hid (∀ w' (n : Int), Below w.heap.size w w' → n = ((L.num + 1 + R.num : Nat) : Int) → Gives w (.node L x R) (.returned (.pointer (some ⟨w'.heap.size, 0, none⟩))) (w'.alloc (.cells #[.string x.1, .int .i64 x.2, .pointer pL, .pointer pR, .int .i64 n] 80))) := Lib.hid fun w' n h hn => by
    have h2 := b_then h (b_alloc w' (.cells #[.string x.1, .int .i64 x.2, .pointer pL, .pointer pR, .int .i64 n] 80))
    subst hn
    exact Gives.mk (IsTree.mk (Node.new w' x pL pR _) (hl.next h2) (hr.next h2) rfl) h2
  clear hN hl hr
  generalize L.num = m at *
  generalize R.num = k at *
  have bd := b_drew w
  have j1 : Hid (IntKind.i64.wrap ((m : Int) + 1) = ((m + 1 : Nat) : Int)) := Lib.hid (wrap_nat (m + 1) (by omega))
  have j2 : Hid (IntKind.i64.wrap (((m + 1 : Nat) : Int) + (k : Int)) = ((m + 1 + k : Nat) : Int)) := Lib.hid (wrap_nat (m + 1 + k) (by omega))
  go_enter Tryz.func74, Tryz.ntmps74
  go_wp2_with fail
  go_region_held3 (fun w' => w'.cell? ⟨b, 0, none⟩ = some (.string x.1) ∧ w'.cell? ⟨b, 1, none⟩ = some (.int .i64 x.2) ∧ w'.cell? ⟨b, 2, none⟩ = some (.pointer pl) ∧ w'.cell? ⟨b, 3, none⟩ = some (.pointer pr) ∧ w'.cell? ⟨b, 4, none⟩ = some (.int .i64 (n0 : Int)))
    (first | exact hS.out _ bd | exact hS.out _ (b_then bd (b_alloc _ _)))
    (first
      | (go_at_call 53; refine (c1.out _ bd).mono ?_; clear c1; rintro e w' ⟨rfl, rfl⟩)
      | (go_at_call 53; refine (c2.out _ bd).mono ?_; clear c2; rintro e w' ⟨rfl, rfl⟩))
  all_goals
    go_wp2
    go_ret
    exact hend.out _ _ bd (by rw [j1.out]; exact j2.out)

end Go.Proofs.YtbjpogeemajhoaaGreat.Tm
namespace Go.Proofs.YtbjpogeemajhoaaGreat.Ti
open Go.RowKit Sh
attribute [local go_sem] fold_none

theorem two_nat (n : Nat) (h : n < 900000) : IntKind.i64.wrap (2 * ((n + 1 : Nat) : Int)) = ((2 * (n + 1) : Nat) : Int) := wrap_nat (2 * (n + 1)) (by omega)
theorem three_nat (n : Nat) (h : n < 1000000) : IntKind.i64.wrap (3 * ((n + 1 : Nat) : Int)) = ((3 * (n + 1) : Nat) : Int) := wrap_nat (3 * (n + 1)) (by omega)




end Go.Proofs.YtbjpogeemajhoaaGreat.Ti
namespace Go.Proofs.YtbjpogeemajhoaaGreat.Ts
open Go.RowKit Sh
attribute [local go_sem] fold_none

theorem Gives.flat {w w0 : World} {T : Tr ByteArray} {e : Ending} {w' : World} {L : List ByteArray} (h : Gives w T e w') (hb : Below w0.heap.size w0 w) (hL : T.flat = L) : GivesL w0 L e w' := by
  obtain ⟨p, rfl, ht, bb⟩ := h
  exact ⟨p, T, rfl, ht, hL, b_then hb bb⟩
theorem two_nat (n : Nat) (h : n < 900000) : IntKind.i64.wrap (2 * ((n + 1 : Nat) : Int)) = ((2 * (n + 1) : Nat) : Int) := wrap_nat (2 * (n + 1)) (by omega)
theorem three_nat (n : Nat) (h : n < 1000000) : IntKind.i64.wrap (3 * ((n + 1 : Nat) : Int)) = ((3 * (n + 1) : Nat) : Int) := wrap_nat (3 * (n + 1)) (by omega)




set_option maxHeartbeats 2000000 in
set_option maxRecDepth 100000 in
theorem turnedLeft_calls (w : World) (b n0 : Nat) (x y : ByteArray) (pl pr pL pR : Option Addr) (F SL SR : Tr ByteArray) (hN : Node w b x pl pr n0) (hF : IsTree w pL F) (hS : IsTree w pR (.node SL y SR)) (hb : F.num + (SL.num + SR.num) < 900000) :
    Calls Tryz.prog 103 #[.pointer (some ⟨b, 0, none⟩), .pointer pL, .pointer pR] w (GivesL w (F.flat ++ x :: (SL.flat ++ y :: SR.flat))) := by
  obtain ⟨bs, pa, pb, rfl, hNs, hA, hB⟩ := hS
  have k1 := Lib.hid fun w' (h : Below w.heap.size w w') => weight_calls w' pa SL (hA.next h) (by omega)
  have k2 := Lib.hid fun w' (h : Below w.heap.size w w') => weight_calls w' pb SR (hB.next h) (by omega)
  have q1 := hNs.left
  have q2 := hNs.right
  have j1 := two_nat SR.num (by omega)
  by_cases hlt : SL.num + 1 < 2 * (SR.num + 1)
  · have d1 : ((SL.num + 1 : Nat) : Int) < ((2 * (SR.num + 1) : Nat) : Int) := by omega
    have ha := Lib.hid fun w' (h : Below w.heap.size w w') => over_calls w' b n0 x pl pr pL pa F SL (hN.kept (nodes_below h)) (hF.next h) (hA.next h) (by omega)
    have hc := Lib.hid fun w' p' (h : Below w.heap.size w w') (ht : IsTree w' p' (.node F x SL)) => over_calls w' bs _ y pa pb p' pb (.node F x SL) SR (hNs.kept (nodes_below h)) ht (hB.next h) (by rw [num_node]; omega)
    have hf : Hid ((Tr.node (Tr.node F x SL) y SR).flat = F.flat ++ x :: (SL.flat ++ y :: SR.flat)) := Lib.hid (by simp [Tr.flat])
    clear hN hF hNs hA hB
    generalize hm : SL.num + 1 = m at *
    generalize hk : 2 * (SR.num + 1) = k at *
    generalize hk3 : SR.num + 1 = k3 at *
    replace hm := Lib.hid hm
    replace hk := Lib.hid hk
    replace hk3 := Lib.hid hk3
    go_enter Tryz.func103, Tryz.ntmps103
    go_wp2_with fail
    go_quiet (fail)
    have bd := b_drewN w nq
    generalize w.drewN nq = w1 at *
    go_wp2_with fail
    refine (k1.out w1 bd).mono ?_
    rintro e w' ⟨rfl, rfl⟩
    go_wp2_with fail
    refine (k2.out _ bd).mono ?_
    rintro e w' ⟨rfl, rfl⟩
    go_wp2_with fail
    refine (ha.out _ bd).mono ?_
    rintro e w2 ⟨p2, rfl, t2, b2⟩
    have b02 := b_then bd b2
    go_wp2_with fail
    refine (hc.out w2 p2 b02 t2).mono ?_
    rintro e w3 h3
    have h4 := Lib.hid (h3.flat b02 hf.out)
    obtain ⟨p3, rfl, -, -⟩ := h3
    go_wp2
    go_ret
    exact h4.out
  · cases SL with
    | nil => rw [num_nil] at hlt; omega
    | node I1 z I2 =>
      obtain ⟨bi, p1, p2, rfl, hNi, h1, h2⟩ := hA
      have d1 : decide ((((Tr.node I1 z I2).num + 1 : Nat) : Int) < ((2 * (SR.num + 1) : Nat) : Int)) = false := decide_eq_false (by omega)
      have d2 : ((2 * (SR.num + 1) : Nat) : Int) ≤ (((Tr.node I1 z I2).num + 1 : Nat) : Int) := by omega
      have hz : (Tr.node I1 z I2).num = I1.num + 1 + I2.num := num_node I1 I2 z
      have hO := Lib.hid fun w' (b' n' : Nat) (x' : ByteArray) (pl' pr' pL' pR' : Option Addr) (L' R' : Tr ByteArray) (g1 : Node w' b' x' pl' pr' n') (g2 : IsTree w' pL' L') (g3 : IsTree w' pR' R') (g4 : L'.num + R'.num < 1000000) => over_calls w' b' n' x' pl' pr' pL' pR' L' R' g1 g2 g3 g4
      have g1 : Hid (F.num + I1.num < 1000000) := Lib.hid (by omega)
      have g2 : Hid (I2.num + SR.num < 1000000) := Lib.hid (by omega)
      have g3 : Hid ((Tr.node F x I1).num + (Tr.node I2 y SR).num < 1000000) := Lib.hid (by rw [num_node, num_node]; omega)
      have hi := Lib.hid fun w' (h : Below w.heap.size w w') => (hNi.kept (nodes_below h)).cells
      have hf : Hid ((Tr.node (Tr.node F x I1) z (Tr.node I2 y SR)).flat = F.flat ++ x :: ((Tr.node I1 z I2).flat ++ y :: SR.flat)) := Lib.hid (by simp [Tr.flat])
      have n1 := Lib.hid fun w' (h : Below w.heap.size w w') => (hN.kept (nodes_below h))
      have n2 := Lib.hid fun w' (h : Below w.heap.size w w') => (hNs.kept (nodes_below h))
      have n3 := Lib.hid fun w' (h : Below w.heap.size w w') => (hNi.kept (nodes_below h))
      have a1 := Lib.hid fun w' (h : Below w.heap.size w w') => hF.next h
      have a2 := Lib.hid fun w' (h : Below w.heap.size w w') => h1.next h
      have a3 := Lib.hid fun w' (h : Below w.heap.size w w') => h2.next h
      have a4 := Lib.hid fun w' (h : Below w.heap.size w w') => hB.next h
      clear hN hF hNs hB hNi h1 h2 hz
      generalize hm : (Tr.node I1 z I2).num + 1 = m at *
      generalize hz : (Tr.node I1 z I2).num = m0 at *
      generalize hk : 2 * (SR.num + 1) = k at *
      generalize hk3 : SR.num + 1 = k3 at *
      replace hm := Lib.hid hm
      replace hk := Lib.hid hk
      replace hk3 := Lib.hid hk3
      replace hz := Lib.hid hz
      go_enter Tryz.func103, Tryz.ntmps103
      go_wp2_with fail
      go_quiet (fail)
      have bd := b_drewN w nq
      generalize w.drewN nq = w1 at *
      go_wp2_with fail
      refine (k1.out w1 bd).mono ?_
      rintro e w' ⟨rfl, rfl⟩
      go_wp2_with fail
      refine (k2.out _ bd).mono ?_
      rintro e w' ⟨rfl, rfl⟩
      clear k1 k2
      go_wp2_with fail
      have bc := b_then bd (b_drew _)
      go_region_held3 (fun w' => w'.cell? ⟨bi, 0, none⟩ = some (.string z) ∧ (partAt ⟨bi, 0, none⟩ 1 16).run Tryz.prog w' = .ok ⟨bi, 1, none⟩ w' ∧ w'.cell? ⟨bi, 1, none⟩ = some (.pointer p1) ∧ w'.cell? ⟨bi, 2, none⟩ = some (.pointer p2) ∧ w'.cell? ⟨bi, 3, none⟩ = some (.int .i64 (m0 : Int)))
        (exact hi.out _ bc)
        ((go_at_call 79; refine (hO.out _ _ _ _ _ _ _ _ _ _ (by first | exact n1.out _ bc | exact n2.out _ bc | exact n3.out _ bc) (by first | exact a1.out _ bc | exact a3.out _ bc | exact t1 | exact t2) (by first | exact a2.out _ bc | exact a4.out _ bc | exact t1 | exact t2) (by first | exact g1.out | exact g2.out | exact g3.out)).mono ?_;
          (first
            | (have _ := t2; rintro e w9 h9; have h8 := Lib.hid (h9.flat bc hf.out); obtain ⟨p9, rfl, -, b9⟩ := h9; replace bc := b_then bc b9)
            | (have _ := t1; rintro e w9 ⟨q2', rfl, t2, b9⟩; replace t1 := IsTree.next t1 b9; replace bc := b_then bc b9; clear b9)
            | (rintro e w9 ⟨q1', rfl, t1, b9⟩; replace bc := b_then bc b9; clear b9))))
      all_goals
        go_wp2
        go_ret
        exact h8.out

set_option maxHeartbeats 2000000 in
set_option maxRecDepth 100000 in
theorem turnedRight_calls (w : World) (b n0 : Nat) (x y : ByteArray) (pl pr pL pR : Option Addr) (F SL SR : Tr ByteArray) (hN : Node w b x pl pr n0) (hF : IsTree w pR F) (hS : IsTree w pL (.node SL y SR)) (hb : F.num + (SL.num + SR.num) < 900000) :
    Calls Tryz.prog 104 #[.pointer (some ⟨b, 0, none⟩), .pointer pL, .pointer pR] w (GivesL w ((SL.flat ++ y :: SR.flat) ++ x :: F.flat)) := by
  obtain ⟨bs, pa, pb, rfl, hNs, hA, hB⟩ := hS
  have k1 := Lib.hid fun w' (h : Below w.heap.size w w') => weight_calls w' pb SR (hB.next h) (by omega)
  have k2 := Lib.hid fun w' (h : Below w.heap.size w w') => weight_calls w' pa SL (hA.next h) (by omega)
  have q1 := hNs.left
  have q2 := hNs.right
  have j1 := two_nat SL.num (by omega)
  by_cases hlt : SR.num + 1 < 2 * (SL.num + 1)
  · have d1 : ((SR.num + 1 : Nat) : Int) < ((2 * (SL.num + 1) : Nat) : Int) := by omega
    have ha := Lib.hid fun w' (h : Below w.heap.size w w') => over_calls w' b n0 x pl pr pb pR SR F (hN.kept (nodes_below h)) (hB.next h) (hF.next h) (by omega)
    have hc := Lib.hid fun w' p' (h : Below w.heap.size w w') (ht : IsTree w' p' (.node SR x F)) => over_calls w' bs _ y pa pb pa p' SL (.node SR x F) (hNs.kept (nodes_below h)) (hA.next h) ht (by rw [num_node]; omega)
    have hf : Hid ((Tr.node SL y (Tr.node SR x F)).flat = (SL.flat ++ y :: SR.flat) ++ x :: F.flat) := Lib.hid (by simp [Tr.flat])
    clear hN hF hNs hA hB
    generalize hm : SR.num + 1 = m at *
    generalize hk : 2 * (SL.num + 1) = k at *
    generalize hk3 : SL.num + 1 = k3 at *
    replace hm := Lib.hid hm
    replace hk := Lib.hid hk
    replace hk3 := Lib.hid hk3
    go_enter Tryz.func104, Tryz.ntmps104
    go_wp2_with fail
    go_quiet (fail)
    have bd := b_drewN w nq
    generalize w.drewN nq = w1 at *
    go_wp2_with fail
    refine (k1.out w1 bd).mono ?_
    rintro e w' ⟨rfl, rfl⟩
    go_wp2_with fail
    refine (k2.out _ bd).mono ?_
    rintro e w' ⟨rfl, rfl⟩
    go_wp2_with fail
    refine (ha.out _ bd).mono ?_
    rintro e w2 ⟨p2, rfl, t2, b2⟩
    have b02 := b_then bd b2
    go_wp2_with fail
    refine (hc.out w2 p2 b02 t2).mono ?_
    rintro e w3 h3
    have h4 := Lib.hid (h3.flat b02 hf.out)
    obtain ⟨p3, rfl, -, -⟩ := h3
    go_wp2
    go_ret
    exact h4.out
  · cases SR with
    | nil => rw [num_nil] at hlt; omega
    | node I1 z I2 =>
      obtain ⟨bi, p1, p2, rfl, hNi, h1, h2⟩ := hB
      have d1 : decide ((((Tr.node I1 z I2).num + 1 : Nat) : Int) < ((2 * (SL.num + 1) : Nat) : Int)) = false := decide_eq_false (by omega)
      have d2 : ((2 * (SL.num + 1) : Nat) : Int) ≤ (((Tr.node I1 z I2).num + 1 : Nat) : Int) := by omega
      have hz : (Tr.node I1 z I2).num = I1.num + 1 + I2.num := num_node I1 I2 z
      have hO := Lib.hid fun w' (b' n' : Nat) (x' : ByteArray) (pl' pr' pL' pR' : Option Addr) (L' R' : Tr ByteArray) (g1 : Node w' b' x' pl' pr' n') (g2 : IsTree w' pL' L') (g3 : IsTree w' pR' R') (g4 : L'.num + R'.num < 1000000) => over_calls w' b' n' x' pl' pr' pL' pR' L' R' g1 g2 g3 g4
      have g1 : Hid (SL.num + I1.num < 1000000) := Lib.hid (by omega)
      have g2 : Hid (I2.num + F.num < 1000000) := Lib.hid (by omega)
      have g3 : Hid ((Tr.node SL y I1).num + (Tr.node I2 x F).num < 1000000) := Lib.hid (by rw [num_node, num_node]; omega)
      have hi := Lib.hid fun w' (h : Below w.heap.size w w') => (hNi.kept (nodes_below h)).cells
      have hf : Hid ((Tr.node (Tr.node SL y I1) z (Tr.node I2 x F)).flat = (SL.flat ++ y :: (Tr.node I1 z I2).flat) ++ x :: F.flat) := Lib.hid (by simp [Tr.flat])
      have n1 := Lib.hid fun w' (h : Below w.heap.size w w') => (hNs.kept (nodes_below h))
      have n2 := Lib.hid fun w' (h : Below w.heap.size w w') => (hN.kept (nodes_below h))
      have n3 := Lib.hid fun w' (h : Below w.heap.size w w') => (hNi.kept (nodes_below h))
      have a1 := Lib.hid fun w' (h : Below w.heap.size w w') => hA.next h
      have a2 := Lib.hid fun w' (h : Below w.heap.size w w') => h1.next h
      have a3 := Lib.hid fun w' (h : Below w.heap.size w w') => h2.next h
      have a4 := Lib.hid fun w' (h : Below w.heap.size w w') => hF.next h
      clear hN hF hNs hA hNi h1 h2 hz
      generalize hm : (Tr.node I1 z I2).num + 1 = m at *
      generalize hz : (Tr.node I1 z I2).num = m0 at *
      generalize hk : 2 * (SL.num + 1) = k at *
      generalize hk3 : SL.num + 1 = k3 at *
      replace hm := Lib.hid hm
      replace hk := Lib.hid hk
      replace hk3 := Lib.hid hk3
      replace hz := Lib.hid hz
      go_enter Tryz.func104, Tryz.ntmps104
      go_wp2_with fail
      go_quiet (fail)
      have bd := b_drewN w nq
      generalize w.drewN nq = w1 at *
      go_wp2_with fail
      refine (k1.out w1 bd).mono ?_
      rintro e w' ⟨rfl, rfl⟩
      go_wp2_with fail
      refine (k2.out _ bd).mono ?_
      rintro e w' ⟨rfl, rfl⟩
      clear k1 k2
      go_wp2_with fail
      have bc := b_then bd (b_drew _)
      go_region_held3 (fun w' => w'.cell? ⟨bi, 0, none⟩ = some (.string z) ∧ (partAt ⟨bi, 0, none⟩ 1 16).run Tryz.prog w' = .ok ⟨bi, 1, none⟩ w' ∧ w'.cell? ⟨bi, 1, none⟩ = some (.pointer p1) ∧ w'.cell? ⟨bi, 2, none⟩ = some (.pointer p2) ∧ w'.cell? ⟨bi, 3, none⟩ = some (.int .i64 (m0 : Int)))
        (exact hi.out _ bc)
        ((go_at_call 79; refine (hO.out _ _ _ _ _ _ _ _ _ _ (by first | exact n1.out _ bc | exact n2.out _ bc | exact n3.out _ bc) (by first | exact a1.out _ bc | exact a3.out _ bc | exact t1 | exact t2) (by first | exact a2.out _ bc | exact a4.out _ bc | exact t1 | exact t2) (by first | exact g1.out | exact g2.out | exact g3.out)).mono ?_;
          (first
            | (have _ := t2; rintro e w9 h9; have h8 := Lib.hid (h9.flat bc hf.out); obtain ⟨p9, rfl, -, b9⟩ := h9; replace bc := b_then bc b9)
            | (have _ := t1; rintro e w9 ⟨q2', rfl, t2, b9⟩; replace t1 := IsTree.next t1 b9; replace bc := b_then bc b9; clear b9)
            | (rintro e w9 ⟨q1', rfl, t1, b9⟩; replace bc := b_then bc b9; clear b9))))
      all_goals
        go_wp2
        go_ret
        exact h8.out

end Go.Proofs.YtbjpogeemajhoaaGreat.Ts
namespace Go.Proofs.YtbjpogeemajhoaaGreat.Tm
open Go.RowKit Sh
attribute [local go_sem] fold_none

theorem Gives.flat {w w0 : World} {T : Tr (ByteArray × Int)} {e : Ending} {w' : World} {L : List (ByteArray × Int)} (h : Gives w T e w') (hb : Below w0.heap.size w0 w) (hL : T.flat = L) : GivesL w0 L e w' := by
  obtain ⟨p, rfl, ht, bb⟩ := h
  exact ⟨p, T, rfl, ht, hL, b_then hb bb⟩
theorem two_nat (n : Nat) (h : n < 900000) : IntKind.i64.wrap (2 * ((n + 1 : Nat) : Int)) = ((2 * (n + 1) : Nat) : Int) := wrap_nat (2 * (n + 1)) (by omega)
theorem three_nat (n : Nat) (h : n < 1000000) : IntKind.i64.wrap (3 * ((n + 1 : Nat) : Int)) = ((3 * (n + 1) : Nat) : Int) := wrap_nat (3 * (n + 1)) (by omega)




set_option maxHeartbeats 2000000 in
set_option maxRecDepth 100000 in
theorem turnedLeft_calls (w : World) (b n0 : Nat) (x y : (ByteArray × Int)) (pl pr pL pR : Option Addr) (F SL SR : Tr (ByteArray × Int)) (hN : Node w b x pl pr n0) (hF : IsTree w pL F) (hS : IsTree w pR (.node SL y SR)) (hb : F.num + (SL.num + SR.num) < 900000) :
    Calls Tryz.prog 72 #[.pointer (some ⟨b, 0, none⟩), .pointer pL, .pointer pR] w (GivesL w (F.flat ++ x :: (SL.flat ++ y :: SR.flat))) := by
  obtain ⟨bs, pa, pb, rfl, hNs, hA, hB⟩ := hS
  have k1 := Lib.hid fun w' (h : Below w.heap.size w w') => weight_calls w' pa SL (hA.next h) (by omega)
  have k2 := Lib.hid fun w' (h : Below w.heap.size w w') => weight_calls w' pb SR (hB.next h) (by omega)
  have q1 := hNs.left
  have q2 := hNs.right
  have j1 := two_nat SR.num (by omega)
  by_cases hlt : SL.num + 1 < 2 * (SR.num + 1)
  · have d1 : ((SL.num + 1 : Nat) : Int) < ((2 * (SR.num + 1) : Nat) : Int) := by omega
    have ha := Lib.hid fun w' (h : Below w.heap.size w w') => over_calls w' b n0 x pl pr pL pa F SL (hN.kept (nodes_below h)) (hF.next h) (hA.next h) (by omega)
    have hc := Lib.hid fun w' p' (h : Below w.heap.size w w') (ht : IsTree w' p' (.node F x SL)) => over_calls w' bs _ y pa pb p' pb (.node F x SL) SR (hNs.kept (nodes_below h)) ht (hB.next h) (by rw [num_node]; omega)
    have hf : Hid ((Tr.node (Tr.node F x SL) y SR).flat = F.flat ++ x :: (SL.flat ++ y :: SR.flat)) := Lib.hid (by simp [Tr.flat])
    clear hN hF hNs hA hB
    generalize hm : SL.num + 1 = m at *
    generalize hk : 2 * (SR.num + 1) = k at *
    generalize hk3 : SR.num + 1 = k3 at *
    replace hm := Lib.hid hm
    replace hk := Lib.hid hk
    replace hk3 := Lib.hid hk3
    go_enter Tryz.func72, Tryz.ntmps72
    go_wp2_with fail
    go_quiet (fail)
    have bd := b_drewN w nq
    generalize w.drewN nq = w1 at *
    go_wp2_with fail
    refine (k1.out w1 bd).mono ?_
    rintro e w' ⟨rfl, rfl⟩
    go_wp2_with fail
    refine (k2.out _ bd).mono ?_
    rintro e w' ⟨rfl, rfl⟩
    go_wp2_with fail
    refine (ha.out _ bd).mono ?_
    rintro e w2 ⟨p2, rfl, t2, b2⟩
    have b02 := b_then bd b2
    go_wp2_with fail
    refine (hc.out w2 p2 b02 t2).mono ?_
    rintro e w3 h3
    have h4 := Lib.hid (h3.flat b02 hf.out)
    obtain ⟨p3, rfl, -, -⟩ := h3
    go_wp2
    go_ret
    exact h4.out
  · cases SL with
    | nil => rw [num_nil] at hlt; omega
    | node I1 z I2 =>
      obtain ⟨bi, p1, p2, rfl, hNi, h1, h2⟩ := hA
      have d1 : decide ((((Tr.node I1 z I2).num + 1 : Nat) : Int) < ((2 * (SR.num + 1) : Nat) : Int)) = false := decide_eq_false (by omega)
      have d2 : ((2 * (SR.num + 1) : Nat) : Int) ≤ (((Tr.node I1 z I2).num + 1 : Nat) : Int) := by omega
      have hz : (Tr.node I1 z I2).num = I1.num + 1 + I2.num := num_node I1 I2 z
      have hO := Lib.hid fun w' (b' n' : Nat) (x' : (ByteArray × Int)) (pl' pr' pL' pR' : Option Addr) (L' R' : Tr (ByteArray × Int)) (g1 : Node w' b' x' pl' pr' n') (g2 : IsTree w' pL' L') (g3 : IsTree w' pR' R') (g4 : L'.num + R'.num < 1000000) => over_calls w' b' n' x' pl' pr' pL' pR' L' R' g1 g2 g3 g4
      have g1 : Hid (F.num + I1.num < 1000000) := Lib.hid (by omega)
      have g2 : Hid (I2.num + SR.num < 1000000) := Lib.hid (by omega)
      have g3 : Hid ((Tr.node F x I1).num + (Tr.node I2 y SR).num < 1000000) := Lib.hid (by rw [num_node, num_node]; omega)
      have hi := Lib.hid fun w' (h : Below w.heap.size w w') => (hNi.kept (nodes_below h)).cells
      have hf : Hid ((Tr.node (Tr.node F x I1) z (Tr.node I2 y SR)).flat = F.flat ++ x :: ((Tr.node I1 z I2).flat ++ y :: SR.flat)) := Lib.hid (by simp [Tr.flat])
      have n1 := Lib.hid fun w' (h : Below w.heap.size w w') => (hN.kept (nodes_below h))
      have n2 := Lib.hid fun w' (h : Below w.heap.size w w') => (hNs.kept (nodes_below h))
      have n3 := Lib.hid fun w' (h : Below w.heap.size w w') => (hNi.kept (nodes_below h))
      have a1 := Lib.hid fun w' (h : Below w.heap.size w w') => hF.next h
      have a2 := Lib.hid fun w' (h : Below w.heap.size w w') => h1.next h
      have a3 := Lib.hid fun w' (h : Below w.heap.size w w') => h2.next h
      have a4 := Lib.hid fun w' (h : Below w.heap.size w w') => hB.next h
      clear hN hF hNs hB hNi h1 h2 hz
      generalize hm : (Tr.node I1 z I2).num + 1 = m at *
      generalize hz : (Tr.node I1 z I2).num = m0 at *
      generalize hk : 2 * (SR.num + 1) = k at *
      generalize hk3 : SR.num + 1 = k3 at *
      replace hm := Lib.hid hm
      replace hk := Lib.hid hk
      replace hk3 := Lib.hid hk3
      replace hz := Lib.hid hz
      go_enter Tryz.func72, Tryz.ntmps72
      go_wp2_with fail
      go_quiet (fail)
      have bd := b_drewN w nq
      generalize w.drewN nq = w1 at *
      go_wp2_with fail
      refine (k1.out w1 bd).mono ?_
      rintro e w' ⟨rfl, rfl⟩
      go_wp2_with fail
      refine (k2.out _ bd).mono ?_
      rintro e w' ⟨rfl, rfl⟩
      clear k1 k2
      go_wp2_with fail
      have bc := b_then bd (b_drew _)
      go_region_held3 (fun w' => w'.cell? ⟨bi, 0, none⟩ = some (.string z.1) ∧ w'.cell? ⟨bi, 1, none⟩ = some (.int .i64 z.2) ∧ w'.cell? ⟨bi, 2, none⟩ = some (.pointer p1) ∧ w'.cell? ⟨bi, 3, none⟩ = some (.pointer p2) ∧ w'.cell? ⟨bi, 4, none⟩ = some (.int .i64 (m0 : Int)))
        (exact hi.out _ bc)
        ((go_at_call 74; refine (hO.out _ _ _ _ _ _ _ _ _ _ (by first | exact n1.out _ bc | exact n2.out _ bc | exact n3.out _ bc) (by first | exact a1.out _ bc | exact a3.out _ bc | exact t1 | exact t2) (by first | exact a2.out _ bc | exact a4.out _ bc | exact t1 | exact t2) (by first | exact g1.out | exact g2.out | exact g3.out)).mono ?_;
          (first
            | (have _ := t2; rintro e w9 h9; have h8 := Lib.hid (h9.flat bc hf.out); obtain ⟨p9, rfl, -, b9⟩ := h9; replace bc := b_then bc b9)
            | (have _ := t1; rintro e w9 ⟨q2', rfl, t2, b9⟩; replace t1 := IsTree.next t1 b9; replace bc := b_then bc b9; clear b9)
            | (rintro e w9 ⟨q1', rfl, t1, b9⟩; replace bc := b_then bc b9; clear b9))))
      all_goals
        go_wp2
        go_ret
        exact h8.out

set_option maxHeartbeats 2000000 in
set_option maxRecDepth 100000 in
theorem turnedRight_calls (w : World) (b n0 : Nat) (x y : (ByteArray × Int)) (pl pr pL pR : Option Addr) (F SL SR : Tr (ByteArray × Int)) (hN : Node w b x pl pr n0) (hF : IsTree w pR F) (hS : IsTree w pL (.node SL y SR)) (hb : F.num + (SL.num + SR.num) < 900000) :
    Calls Tryz.prog 73 #[.pointer (some ⟨b, 0, none⟩), .pointer pL, .pointer pR] w (GivesL w ((SL.flat ++ y :: SR.flat) ++ x :: F.flat)) := by
  obtain ⟨bs, pa, pb, rfl, hNs, hA, hB⟩ := hS
  have k1 := Lib.hid fun w' (h : Below w.heap.size w w') => weight_calls w' pb SR (hB.next h) (by omega)
  have k2 := Lib.hid fun w' (h : Below w.heap.size w w') => weight_calls w' pa SL (hA.next h) (by omega)
  have q1 := hNs.left
  have q2 := hNs.right
  have j1 := two_nat SL.num (by omega)
  by_cases hlt : SR.num + 1 < 2 * (SL.num + 1)
  · have d1 : ((SR.num + 1 : Nat) : Int) < ((2 * (SL.num + 1) : Nat) : Int) := by omega
    have ha := Lib.hid fun w' (h : Below w.heap.size w w') => over_calls w' b n0 x pl pr pb pR SR F (hN.kept (nodes_below h)) (hB.next h) (hF.next h) (by omega)
    have hc := Lib.hid fun w' p' (h : Below w.heap.size w w') (ht : IsTree w' p' (.node SR x F)) => over_calls w' bs _ y pa pb pa p' SL (.node SR x F) (hNs.kept (nodes_below h)) (hA.next h) ht (by rw [num_node]; omega)
    have hf : Hid ((Tr.node SL y (Tr.node SR x F)).flat = (SL.flat ++ y :: SR.flat) ++ x :: F.flat) := Lib.hid (by simp [Tr.flat])
    clear hN hF hNs hA hB
    generalize hm : SR.num + 1 = m at *
    generalize hk : 2 * (SL.num + 1) = k at *
    generalize hk3 : SL.num + 1 = k3 at *
    replace hm := Lib.hid hm
    replace hk := Lib.hid hk
    replace hk3 := Lib.hid hk3
    go_enter Tryz.func73, Tryz.ntmps73
    go_wp2_with fail
    go_quiet (fail)
    have bd := b_drewN w nq
    generalize w.drewN nq = w1 at *
    go_wp2_with fail
    refine (k1.out w1 bd).mono ?_
    rintro e w' ⟨rfl, rfl⟩
    go_wp2_with fail
    refine (k2.out _ bd).mono ?_
    rintro e w' ⟨rfl, rfl⟩
    go_wp2_with fail
    refine (ha.out _ bd).mono ?_
    rintro e w2 ⟨p2, rfl, t2, b2⟩
    have b02 := b_then bd b2
    go_wp2_with fail
    refine (hc.out w2 p2 b02 t2).mono ?_
    rintro e w3 h3
    have h4 := Lib.hid (h3.flat b02 hf.out)
    obtain ⟨p3, rfl, -, -⟩ := h3
    go_wp2
    go_ret
    exact h4.out
  · cases SR with
    | nil => rw [num_nil] at hlt; omega
    | node I1 z I2 =>
      obtain ⟨bi, p1, p2, rfl, hNi, h1, h2⟩ := hB
      have d1 : decide ((((Tr.node I1 z I2).num + 1 : Nat) : Int) < ((2 * (SL.num + 1) : Nat) : Int)) = false := decide_eq_false (by omega)
      have d2 : ((2 * (SL.num + 1) : Nat) : Int) ≤ (((Tr.node I1 z I2).num + 1 : Nat) : Int) := by omega
      have hz : (Tr.node I1 z I2).num = I1.num + 1 + I2.num := num_node I1 I2 z
      have hO := Lib.hid fun w' (b' n' : Nat) (x' : (ByteArray × Int)) (pl' pr' pL' pR' : Option Addr) (L' R' : Tr (ByteArray × Int)) (g1 : Node w' b' x' pl' pr' n') (g2 : IsTree w' pL' L') (g3 : IsTree w' pR' R') (g4 : L'.num + R'.num < 1000000) => over_calls w' b' n' x' pl' pr' pL' pR' L' R' g1 g2 g3 g4
      have g1 : Hid (SL.num + I1.num < 1000000) := Lib.hid (by omega)
      have g2 : Hid (I2.num + F.num < 1000000) := Lib.hid (by omega)
      have g3 : Hid ((Tr.node SL y I1).num + (Tr.node I2 x F).num < 1000000) := Lib.hid (by rw [num_node, num_node]; omega)
      have hi := Lib.hid fun w' (h : Below w.heap.size w w') => (hNi.kept (nodes_below h)).cells
      have hf : Hid ((Tr.node (Tr.node SL y I1) z (Tr.node I2 x F)).flat = (SL.flat ++ y :: (Tr.node I1 z I2).flat) ++ x :: F.flat) := Lib.hid (by simp [Tr.flat])
      have n1 := Lib.hid fun w' (h : Below w.heap.size w w') => (hNs.kept (nodes_below h))
      have n2 := Lib.hid fun w' (h : Below w.heap.size w w') => (hN.kept (nodes_below h))
      have n3 := Lib.hid fun w' (h : Below w.heap.size w w') => (hNi.kept (nodes_below h))
      have a1 := Lib.hid fun w' (h : Below w.heap.size w w') => hA.next h
      have a2 := Lib.hid fun w' (h : Below w.heap.size w w') => h1.next h
      have a3 := Lib.hid fun w' (h : Below w.heap.size w w') => h2.next h
      have a4 := Lib.hid fun w' (h : Below w.heap.size w w') => hF.next h
      clear hN hF hNs hA hNi h1 h2 hz
      generalize hm : (Tr.node I1 z I2).num + 1 = m at *
      generalize hz : (Tr.node I1 z I2).num = m0 at *
      generalize hk : 2 * (SL.num + 1) = k at *
      generalize hk3 : SL.num + 1 = k3 at *
      replace hm := Lib.hid hm
      replace hk := Lib.hid hk
      replace hk3 := Lib.hid hk3
      replace hz := Lib.hid hz
      go_enter Tryz.func73, Tryz.ntmps73
      go_wp2_with fail
      go_quiet (fail)
      have bd := b_drewN w nq
      generalize w.drewN nq = w1 at *
      go_wp2_with fail
      refine (k1.out w1 bd).mono ?_
      rintro e w' ⟨rfl, rfl⟩
      go_wp2_with fail
      refine (k2.out _ bd).mono ?_
      rintro e w' ⟨rfl, rfl⟩
      clear k1 k2
      go_wp2_with fail
      have bc := b_then bd (b_drew _)
      go_region_held3 (fun w' => w'.cell? ⟨bi, 0, none⟩ = some (.string z.1) ∧ w'.cell? ⟨bi, 1, none⟩ = some (.int .i64 z.2) ∧ w'.cell? ⟨bi, 2, none⟩ = some (.pointer p1) ∧ w'.cell? ⟨bi, 3, none⟩ = some (.pointer p2) ∧ w'.cell? ⟨bi, 4, none⟩ = some (.int .i64 (m0 : Int)))
        (exact hi.out _ bc)
        ((go_at_call 74; refine (hO.out _ _ _ _ _ _ _ _ _ _ (by first | exact n1.out _ bc | exact n2.out _ bc | exact n3.out _ bc) (by first | exact a1.out _ bc | exact a3.out _ bc | exact t1 | exact t2) (by first | exact a2.out _ bc | exact a4.out _ bc | exact t1 | exact t2) (by first | exact g1.out | exact g2.out | exact g3.out)).mono ?_;
          (first
            | (have _ := t2; rintro e w9 h9; have h8 := Lib.hid (h9.flat bc hf.out); obtain ⟨p9, rfl, -, b9⟩ := h9; replace bc := b_then bc b9)
            | (have _ := t1; rintro e w9 ⟨q2', rfl, t2, b9⟩; replace t1 := IsTree.next t1 b9; replace bc := b_then bc b9; clear b9)
            | (rintro e w9 ⟨q1', rfl, t1, b9⟩; replace bc := b_then bc b9; clear b9))))
      all_goals
        go_wp2
        go_ret
        exact h8.out

end Go.Proofs.YtbjpogeemajhoaaGreat.Tm
namespace Go.Proofs.YtbjpogeemajhoaaGreat.Ci
open Go.RowKit Sh
open Key (lt)
theorem isNaN_calls (n : Int) (w : World) :
    Calls Tryz.prog 57 #[.int .i64 n] w fun e w' => e = .returned (.bool false) ∧ w' = w := by
  go_enter Tryz.func57, Tryz.ntmps57
  go_wp2
  go_ret
  exact ⟨rfl, rfl⟩
theorem Compare_calls (a b c : Int) (w : World) (h : (lt a b = true ∧ c = -1) ∨ (a = b ∧ c = 0) ∨ (lt b a = true ∧ c = 1)) :
    Calls Tryz.prog 30 #[.int .i64 a, .int .i64 b] w fun e w' => e = .returned (.int .i64 c) ∧ w' = w := by
  have hn := Lib.hid fun n => isNaN_calls n w
  rcases h with ⟨h1, rfl⟩ | ⟨rfl, rfl⟩ | ⟨h1, rfl⟩
  · have h2 : a < b := of_decide_eq_true h1
    clear h1
    go_enter Tryz.func30, Tryz.ntmps30
    go_wp2_with (go_at_call 57; refine (hn.out _).mono ?_; rintro e w' ⟨rfl, rfl⟩)
    go_ret
    exact ⟨rfl, rfl⟩
  · have h2 : ¬ a < a := by omega
    go_enter Tryz.func30, Tryz.ntmps30
    go_wp2_with (go_at_call 57; refine (hn.out _).mono ?_; rintro e w' ⟨rfl, rfl⟩)
    go_ret
    exact ⟨rfl, rfl⟩
  · have h2 : b < a := of_decide_eq_true h1
    have h3 : decide (a < b) = false := decide_eq_false (by omega)
    have h4 : b ≤ a := by omega
    clear h1
    go_enter Tryz.func30, Tryz.ntmps30
    go_wp2_with (go_at_call 57; refine (hn.out _).mono ?_; rintro e w' ⟨rfl, rfl⟩)
    go_ret
    exact ⟨rfl, rfl⟩
end Go.Proofs.YtbjpogeemajhoaaGreat.Ci
namespace Go.Proofs.YtbjpogeemajhoaaGreat.Cs
open Go.RowKit Sh
open Key (lt)
theorem isNaN_calls (n : ByteArray) (w : World) :
    Calls Tryz.prog 58 #[.string n] w fun e w' => e = .returned (.bool false) ∧ w' = w := by
  go_enter Tryz.func58, Tryz.ntmps58
  go_wp2
  go_ret
  exact ⟨rfl, rfl⟩
theorem beq_ne {a b : ByteArray} (h : a ≠ b) : (a.toList == b.toList) = false := by
  cases g : a.toList == b.toList with
  | false => rfl
  | true => exact absurd (bytes_ext (eq_of_beq g)) h
theorem Compare_calls (a b : ByteArray) (c : Int) (w : World) (h : (lt a b = true ∧ c = -1) ∨ (a = b ∧ c = 0) ∨ (lt b a = true ∧ c = 1)) :
    Calls Tryz.prog 31 #[.string a, .string b] w fun e w' => e = .returned (.int .i64 c) ∧ w' = w := by
  have hn := Lib.hid fun n => isNaN_calls n w
  rcases h with ⟨h1, rfl⟩ | ⟨rfl, rfl⟩ | ⟨h1, rfl⟩
  · have h2 : Op.bytesLess a.toList b.toList = true := h1
    clear h1
    go_enter Tryz.func31, Tryz.ntmps31
    go_wp2_with (go_at_call 58; refine (hn.out _).mono ?_; rintro e w' ⟨rfl, rfl⟩)
    go_ret
    exact ⟨rfl, rfl⟩
  · have h2 : Op.bytesLess a.toList a.toList = false := Key.irr a
    have h3 : (a.toList == a.toList) = true := by simp
    go_enter Tryz.func31, Tryz.ntmps31
    go_wp2_with (go_at_call 58; refine (hn.out _).mono ?_; rintro e w' ⟨rfl, rfl⟩)
    go_ret
    exact ⟨rfl, rfl⟩
  · have h2 : Op.bytesLess b.toList a.toList = true := h1
    have h3 : Op.bytesLess a.toList b.toList = false := lt_asym (a := b) (b := a) h1
    have h4 : (a.toList == b.toList) = false := beq_ne (lt_ne (a := b) (b := a) h1).symm
    clear h1
    go_enter Tryz.func31, Tryz.ntmps31
    go_wp2_with (go_at_call 58; refine (hn.out _).mono ?_; rintro e w' ⟨rfl, rfl⟩)
    go_ret
    exact ⟨rfl, rfl⟩
end Go.Proofs.YtbjpogeemajhoaaGreat.Cs
namespace Go.Proofs.YtbjpogeemajhoaaGreat.Sh
/-- what stands at a place -/
def nth {E : Type} (i : Int) (l : List E) : Option E := if 0 ≤ i then l[i.toNat]? else none
theorem nth_nil {E : Type} (i : Int) : nth i ([] : List E) = none := by simp [nth]
theorem nth_left {E : Type} {i : Int} {l r : List E} {e : E} (h : i < l.length) : nth i (l ++ e :: r) = nth i l := by
  unfold nth
  by_cases h0 : 0 ≤ i
  · rw [if_pos h0, if_pos h0, List.getElem?_append_left (by omega)]
  · rw [if_neg h0, if_neg h0]
theorem nth_right {E : Type} {i : Int} {l r : List E} {e : E} (h : (l.length : Int) < i) : nth i (l ++ e :: r) = nth (i - (l.length + 1 : Nat)) r := by
  unfold nth
  rw [if_pos (by omega), if_pos (by omega), List.getElem?_append_right (by omega)]
  have : i.toNat - l.length = (i - (l.length + 1 : Nat)).toNat + 1 := by omega
  rw [this, List.getElem?_cons_succ]
theorem nth_here {E : Type} {i : Int} {l r : List E} {e : E} (h : i = l.length) : nth i (l ++ e :: r) = some e := by
  unfold nth
  rw [if_pos (by omega), List.getElem?_append_right (by omega)]
  have : i.toNat - l.length = 0 := by omega
  rw [this]; rfl
end Go.Proofs.YtbjpogeemajhoaaGreat.Sh
namespace Go.Proofs.YtbjpogeemajhoaaGreat.Ti
open Go.RowKit Sh
open Key (lt)
open Ent (key)
attribute [local go_sem] fold_none

end Go.Proofs.YtbjpogeemajhoaaGreat.Ti
namespace Go.Proofs.YtbjpogeemajhoaaGreat.Ts
open Go.RowKit Sh
open Key (lt)
open Ent (key)
attribute [local go_sem] fold_none

set_option maxHeartbeats 2000000 in
set_option maxRecDepth 100000 in
theorem balanced_calls (w : World) (b n0 : Nat) (x : ByteArray) (pl pr pL pR : Option Addr) (L R : Tr ByteArray) (hN : Node w b x pl pr n0) (hl : IsTree w pL L) (hr : IsTree w pR R) (hb : L.num + R.num < 800000) :
    Calls Tryz.prog 85 #[.pointer (some ⟨b, 0, none⟩), .pointer pL, .pointer pR] w (GivesL w (L.flat ++ x :: R.flat)) := by
  have k1 := Lib.hid (weight_calls w pL L hl (by omega))
  have k2 := Lib.hid (weight_calls w pR R hr (by omega))
  have j1 := three_nat L.num (by omega)
  have j2 := three_nat R.num (by omega)
  by_cases h1 : 3 * (L.num + 1) < R.num + 1
  · have d1 : ((3 * (L.num + 1) : Nat) : Int) < ((R.num + 1 : Nat) : Int) := by omega
    cases R with
    | nil => rw [num_nil] at h1; omega
    | node RL y RR =>
      have hz := num_node RL RR y
      have hT := Lib.hid (turnedLeft_calls w b n0 x y pl pr pL pR L RL RR hN hl hr (by omega))
      clear hN hl hr hz
      generalize hf : L.flat ++ x :: (Tr.node RL y RR).flat = Z at *
      have hT2 : Hid (Calls Tryz.prog 103 #[.pointer (some ⟨b, 0, none⟩), .pointer pL, .pointer pR] w (GivesL w Z)) := Lib.hid (hf ▸ hT.out)
      clear hT hf
      generalize 3 * (L.num + 1) = m3 at *
      generalize L.num + 1 = m at *
      generalize 3 * ((Tr.node RL y RR).num + 1) = k3 at *
      generalize (Tr.node RL y RR).num + 1 = k at *
      go_enter Tryz.func85, Tryz.ntmps85
      go_wp2_with fail
      refine k2.out.mono ?_
      rintro e w' ⟨rfl, rfl⟩
      go_wp2_with fail
      refine k1.out.mono ?_
      rintro e w' ⟨rfl, rfl⟩
      go_wp2_with fail
      refine hT2.out.mono ?_
      rintro e w3 h3
      have h4 := Lib.hid h3
      obtain ⟨p3, _, rfl, -⟩ := h3
      go_wp2
      go_ret
      exact h4.out
  · have d1 : decide (((3 * (L.num + 1) : Nat) : Int) < ((R.num + 1 : Nat) : Int)) = false := decide_eq_false (by omega)
    have d2 : ((R.num + 1 : Nat) : Int) ≤ ((3 * (L.num + 1) : Nat) : Int) := by omega
    by_cases h2 : 3 * (R.num + 1) < L.num + 1
    · have d3 : ((3 * (R.num + 1) : Nat) : Int) < ((L.num + 1 : Nat) : Int) := by omega
      cases L with
      | nil => rw [num_nil] at h2; omega
      | node RL y RR =>
        have hz := num_node RL RR y
        have hT := Lib.hid (turnedRight_calls w b n0 x y pl pr pL pR R RL RR hN hr hl (by omega))
        clear hN hl hr hz
        generalize hf : (Tr.node RL y RR).flat ++ x :: R.flat = Z at *
        have hT2 : Hid (Calls Tryz.prog 104 #[.pointer (some ⟨b, 0, none⟩), .pointer pL, .pointer pR] w (GivesL w Z)) := Lib.hid (hf ▸ hT.out)
        clear hT hf
        generalize 3 * (R.num + 1) = m3 at *
        generalize R.num + 1 = m at *
        generalize 3 * ((Tr.node RL y RR).num + 1) = k3 at *
        generalize (Tr.node RL y RR).num + 1 = k at *
        go_enter Tryz.func85, Tryz.ntmps85
        go_wp2_with fail
        refine k2.out.mono ?_
        rintro e w' ⟨rfl, rfl⟩
        go_wp2_with fail
        refine k1.out.mono ?_
        rintro e w' ⟨rfl, rfl⟩
        go_wp2_with fail
        refine k1.out.mono ?_
        rintro e w' ⟨rfl, rfl⟩
        go_wp2_with fail
        refine k2.out.mono ?_
        rintro e w' ⟨rfl, rfl⟩
        go_wp2_with fail
        refine hT2.out.mono ?_
        rintro e w3 h3
        have h4 := Lib.hid h3
        obtain ⟨p3, _, rfl, -⟩ := h3
        go_wp2
        go_ret
        exact h4.out
    · have d3 : decide (((3 * (R.num + 1) : Nat) : Int) < ((L.num + 1 : Nat) : Int)) = false := decide_eq_false (by omega)
      have d4 : ((L.num + 1 : Nat) : Int) ≤ ((3 * (R.num + 1) : Nat) : Int) := by omega
      have hT := Lib.hid (over_calls w b n0 x pl pr pL pR L R hN hl hr (by omega))
      clear hN hl hr
      generalize hf : L.flat ++ x :: R.flat = Z at *
      replace hf := Lib.hid hf
      generalize 3 * (R.num + 1) = m3 at *
      generalize R.num + 1 = m at *
      generalize 3 * (L.num + 1) = k3 at *
      generalize L.num + 1 = k at *
      go_enter Tryz.func85, Tryz.ntmps85
      go_wp2_with fail
      refine k2.out.mono ?_
      rintro e w' ⟨rfl, rfl⟩
      go_wp2_with fail
      refine k1.out.mono ?_
      rintro e w' ⟨rfl, rfl⟩
      go_wp2_with fail
      refine k1.out.mono ?_
      rintro e w' ⟨rfl, rfl⟩
      go_wp2_with fail
      refine k2.out.mono ?_
      rintro e w' ⟨rfl, rfl⟩
      go_wp2_with fail
      refine hT.out.mono ?_
      rintro e w3 h3
      have h4 := Lib.hid (h3.flat (Below.refl _ _) hf.out)
      obtain ⟨p3, rfl, -⟩ := h3
      go_wp2
      go_ret
      exact h4.out

/-- what was looked for is at a node, or nowhere -/
def Found (w : World) (o : Option ByteArray) (e : Ending) : Prop :=
  (o = none ∧ e = .returned (.pointer none)) ∨ ∃ x b pl pr n, o = some x ∧ e = .returned (.pointer (some ⟨b, 0, none⟩)) ∧ Node w b x pl pr n
theorem Found.none {w : World} {o : Option ByteArray} (h : o = Option.none) : Found w o (.returned (.pointer Option.none)) := Or.inl ⟨h, rfl⟩
theorem Found.some {w : World} {o : Option ByteArray} {x : ByteArray} {b n : Nat} {pl pr : Option Addr} (h : o = Option.some x) (hN : Node w b x pl pr n) : Found w o (.returned (.pointer (Option.some ⟨b, 0, Option.none⟩))) := Or.inr ⟨x, b, pl, pr, n, h, rfl, hN⟩

end Go.Proofs.YtbjpogeemajhoaaGreat.Ts
namespace Go.Proofs.YtbjpogeemajhoaaGreat.Tm
open Go.RowKit Sh
open Key (lt)
open Ent (key)
attribute [local go_sem] fold_none

set_option maxHeartbeats 2000000 in
set_option maxRecDepth 100000 in
theorem balanced_calls (w : World) (b n0 : Nat) (x : (ByteArray × Int)) (pl pr pL pR : Option Addr) (L R : Tr (ByteArray × Int)) (hN : Node w b x pl pr n0) (hl : IsTree w pL L) (hr : IsTree w pR R) (hb : L.num + R.num < 800000) :
    Calls Tryz.prog 54 #[.pointer (some ⟨b, 0, none⟩), .pointer pL, .pointer pR] w (GivesL w (L.flat ++ x :: R.flat)) := by
  have k1 := Lib.hid (weight_calls w pL L hl (by omega))
  have k2 := Lib.hid (weight_calls w pR R hr (by omega))
  have j1 := three_nat L.num (by omega)
  have j2 := three_nat R.num (by omega)
  by_cases h1 : 3 * (L.num + 1) < R.num + 1
  · have d1 : ((3 * (L.num + 1) : Nat) : Int) < ((R.num + 1 : Nat) : Int) := by omega
    cases R with
    | nil => rw [num_nil] at h1; omega
    | node RL y RR =>
      have hz := num_node RL RR y
      have hT := Lib.hid (turnedLeft_calls w b n0 x y pl pr pL pR L RL RR hN hl hr (by omega))
      clear hN hl hr hz
      generalize hf : L.flat ++ x :: (Tr.node RL y RR).flat = Z at *
      have hT2 : Hid (Calls Tryz.prog 72 #[.pointer (some ⟨b, 0, none⟩), .pointer pL, .pointer pR] w (GivesL w Z)) := Lib.hid (hf ▸ hT.out)
      clear hT hf
      generalize 3 * (L.num + 1) = m3 at *
      generalize L.num + 1 = m at *
      generalize 3 * ((Tr.node RL y RR).num + 1) = k3 at *
      generalize (Tr.node RL y RR).num + 1 = k at *
      go_enter Tryz.func54, Tryz.ntmps54
      go_wp2_with fail
      refine k2.out.mono ?_
      rintro e w' ⟨rfl, rfl⟩
      go_wp2_with fail
      refine k1.out.mono ?_
      rintro e w' ⟨rfl, rfl⟩
      go_wp2_with fail
      refine hT2.out.mono ?_
      rintro e w3 h3
      have h4 := Lib.hid h3
      obtain ⟨p3, _, rfl, -⟩ := h3
      go_wp2
      go_ret
      exact h4.out
  · have d1 : decide (((3 * (L.num + 1) : Nat) : Int) < ((R.num + 1 : Nat) : Int)) = false := decide_eq_false (by omega)
    have d2 : ((R.num + 1 : Nat) : Int) ≤ ((3 * (L.num + 1) : Nat) : Int) := by omega
    by_cases h2 : 3 * (R.num + 1) < L.num + 1
    · have d3 : ((3 * (R.num + 1) : Nat) : Int) < ((L.num + 1 : Nat) : Int) := by omega
      cases L with
      | nil => rw [num_nil] at h2; omega
      | node RL y RR =>
        have hz := num_node RL RR y
        have hT := Lib.hid (turnedRight_calls w b n0 x y pl pr pL pR R RL RR hN hr hl (by omega))
        clear hN hl hr hz
        generalize hf : (Tr.node RL y RR).flat ++ x :: R.flat = Z at *
        have hT2 : Hid (Calls Tryz.prog 73 #[.pointer (some ⟨b, 0, none⟩), .pointer pL, .pointer pR] w (GivesL w Z)) := Lib.hid (hf ▸ hT.out)
        clear hT hf
        generalize 3 * (R.num + 1) = m3 at *
        generalize R.num + 1 = m at *
        generalize 3 * ((Tr.node RL y RR).num + 1) = k3 at *
        generalize (Tr.node RL y RR).num + 1 = k at *
        go_enter Tryz.func54, Tryz.ntmps54
        go_wp2_with fail
        refine k2.out.mono ?_
        rintro e w' ⟨rfl, rfl⟩
        go_wp2_with fail
        refine k1.out.mono ?_
        rintro e w' ⟨rfl, rfl⟩
        go_wp2_with fail
        refine k1.out.mono ?_
        rintro e w' ⟨rfl, rfl⟩
        go_wp2_with fail
        refine k2.out.mono ?_
        rintro e w' ⟨rfl, rfl⟩
        go_wp2_with fail
        refine hT2.out.mono ?_
        rintro e w3 h3
        have h4 := Lib.hid h3
        obtain ⟨p3, _, rfl, -⟩ := h3
        go_wp2
        go_ret
        exact h4.out
    · have d3 : decide (((3 * (R.num + 1) : Nat) : Int) < ((L.num + 1 : Nat) : Int)) = false := decide_eq_false (by omega)
      have d4 : ((L.num + 1 : Nat) : Int) ≤ ((3 * (R.num + 1) : Nat) : Int) := by omega
      have hT := Lib.hid (over_calls w b n0 x pl pr pL pR L R hN hl hr (by omega))
      clear hN hl hr
      generalize hf : L.flat ++ x :: R.flat = Z at *
      replace hf := Lib.hid hf
      generalize 3 * (R.num + 1) = m3 at *
      generalize R.num + 1 = m at *
      generalize 3 * (L.num + 1) = k3 at *
      generalize L.num + 1 = k at *
      go_enter Tryz.func54, Tryz.ntmps54
      go_wp2_with fail
      refine k2.out.mono ?_
      rintro e w' ⟨rfl, rfl⟩
      go_wp2_with fail
      refine k1.out.mono ?_
      rintro e w' ⟨rfl, rfl⟩
      go_wp2_with fail
      refine k1.out.mono ?_
      rintro e w' ⟨rfl, rfl⟩
      go_wp2_with fail
      refine k2.out.mono ?_
      rintro e w' ⟨rfl, rfl⟩
      go_wp2_with fail
      refine hT.out.mono ?_
      rintro e w3 h3
      have h4 := Lib.hid (h3.flat (Below.refl _ _) hf.out)
      obtain ⟨p3, rfl, -⟩ := h3
      go_wp2
      go_ret
      exact h4.out

/-- what was looked for is at a node, or nowhere -/
def Found (w : World) (o : Option (ByteArray × Int)) (e : Ending) : Prop :=
  (o = none ∧ e = .returned (.pointer none)) ∨ ∃ x b pl pr n, o = some x ∧ e = .returned (.pointer (some ⟨b, 0, none⟩)) ∧ Node w b x pl pr n
theorem Found.none {w : World} {o : Option (ByteArray × Int)} (h : o = Option.none) : Found w o (.returned (.pointer Option.none)) := Or.inl ⟨h, rfl⟩
theorem Found.some {w : World} {o : Option (ByteArray × Int)} {x : (ByteArray × Int)} {b n : Nat} {pl pr : Option Addr} (h : o = Option.some x) (hN : Node w b x pl pr n) : Found w o (.returned (.pointer (Option.some ⟨b, 0, Option.none⟩))) := Or.inr ⟨x, b, pl, pr, n, h, rfl, hN⟩

set_option maxHeartbeats 2000000 in
set_option maxRecDepth 100000 in
theorem find_calls (w : World) (p : Option Addr) (T : Tr (ByteArray × Int)) (k : ByteArray) (h : IsTree w p T) (hR : Rises T.flat) :
    Calls Tryz.prog 33 #[.pointer p, .string k] w fun e w' => Found w (fnd k T.flat) e ∧ w' = w := by
  generalize hz : fnd k T.flat = Z
  go_enter Tryz.func33, Tryz.ntmps33
  go_wp2
  go_loopg [0] T.num (fun gg s0 wr => ∃ (q : Option Addr) (T' : Tr (ByteArray × Int)), s0 = .pointer q ∧ wr = w ∧ IsTree w q T' ∧ Hid (Rises T'.flat) ∧ Hid (fnd k T'.flat = Z) ∧ T'.num ≤ gg)
  case atStart => exact ⟨p, T, rfl, rfl, h, hR, hz, Nat.le_refl _⟩
  case round =>
    obtain ⟨q, T', rfl, rfl, hT, hR', hz', hgg⟩ := hrel
    cases T' with
    | nil =>
      obtain rfl : q = none := hT
      go_wp2
      go_ret
      exact ⟨Found.none hz'.out.symm, rfl⟩
    | node l x r =>
      obtain ⟨b, pl, pr, rfl, hN, hl, hr⟩ := hT
      have hn := num_node l r x
      have c0 := hN.key
      have c1 := hN.left
      have c2 := hN.right
      rcases Key.tri k (key x) with g | g | g
      · have hC := Lib.hid (Cs.Compare_calls k (key x) (-1) wr (Or.inl ⟨g, rfl⟩))
        have hs := fnd_left (k := k) (show Rises (l.flat ++ x :: r.flat) from hR'.out) g
        have hz2 : Hid (fnd k l.flat = Z) := Lib.hid (hs.1.symm.trans hz'.out)
        have hR2 : Hid (Rises l.flat) := Lib.hid (rises_mid (show Rises (l.flat ++ x :: r.flat) from hR'.out)).1
        replace hl := Lib.hid hl
        clear hs hz' hR' hr hN g h hz hR
        go_wp2_with (go_at_call 31; refine hC.out.mono ?_; rintro e w' ⟨rfl, rfl⟩)
        go_roundg l.num
        case measure => omega
        case rel => exact ⟨pl, l, rfl, rfl, hl.out, hR2, hz2, Nat.le_refl _⟩
      · have hC := Lib.hid (Cs.Compare_calls k (key x) 0 wr (Or.inr (Or.inl ⟨g, rfl⟩)))
        have hs := fnd_here (k := k) (show Rises (l.flat ++ x :: r.flat) from hR'.out) g.symm
        have hz2 : Hid (Z = some x) := Lib.hid (hz'.out.symm.trans hs.1)
        replace hN := Lib.hid hN
        clear hs hz' hR' hr hl g h hz hR
        go_wp2_with (go_at_call 31; refine hC.out.mono ?_; rintro e w' ⟨rfl, rfl⟩)
        go_ret
        exact ⟨Found.some hz2.out hN.out, rfl⟩
      · have hC := Lib.hid (Cs.Compare_calls k (key x) 1 wr (Or.inr (Or.inr ⟨g, rfl⟩)))
        have hs := fnd_right (k := k) (show Rises (l.flat ++ x :: r.flat) from hR'.out) g
        have hz2 : Hid (fnd k r.flat = Z) := Lib.hid (hs.1.symm.trans hz'.out)
        have hR2 : Hid (Rises r.flat) := Lib.hid (rises_mid (show Rises (l.flat ++ x :: r.flat) from hR'.out)).2.1
        replace hr := Lib.hid hr
        clear hs hz' hR' hl hN g h hz hR
        go_wp2_with (go_at_call 31; refine hC.out.mono ?_; rintro e w' ⟨rfl, rfl⟩)
        go_roundg r.num
        case measure => omega
        case rel => exact ⟨pr, r, rfl, rfl, hr.out, hR2, hz2, Nat.le_refl _⟩

end Go.Proofs.YtbjpogeemajhoaaGreat.Tm
namespace Go.Proofs.YtbjpogeemajhoaaGreat.Ti
open Go.RowKit Sh
open Key (lt)
open Ent (key)
attribute [local go_sem] fold_none

end Go.Proofs.YtbjpogeemajhoaaGreat.Ti
namespace Go.Proofs.YtbjpogeemajhoaaGreat.Ts
open Go.RowKit Sh
open Key (lt)
open Ent (key)
attribute [local go_sem] fold_none

theorem GivesL.from {w w0 w' : World} {L M : List ByteArray} {e : Ending} (h : GivesL w L e w') (hb : Below w0.heap.size w0 w) (hL : L = M) : GivesL w0 M e w' := by
  obtain ⟨p, T, rfl, ht, hf, bb⟩ := h
  exact ⟨p, T, rfl, ht, hf.trans hL, b_then hb bb⟩

set_option maxHeartbeats 4000000 in
set_option maxRecDepth 100000 in
theorem with_calls (e : ByteArray) (T : Tr ByteArray) : ∀ (w : World) (p : Option Addr), IsTree w p T → Rises T.flat → T.num < 700000 →
    Calls Tryz.prog 64 #[.pointer p, .string e, .agg #[]] w (GivesL w (ins e T.flat)) := by
  induction T with
  | nil =>
    intro w p h _ _
    obtain rfl : p = none := h
    have b0 := b_alloc w (.cells #[] 91)
    have hend : Hid (∀ w' n, Below w.heap.size w w' → n = w'.heap.size → GivesL w (ins e (Tr.nil : Tr ByteArray).flat) (.returned (.pointer (some ⟨n, 0, none⟩))) (w'.alloc (.cells #[.string e, .pointer none, .pointer none, .int .i64 1] 118))) := Lib.hid fun w' n h hn => by
      subst hn
      exact GivesL.mk (T := .node .nil e .nil) (IsTree.mk (Node.new w' e none none 1) rfl rfl rfl) (by simp [Tr.flat, ins]) (b_then h (b_alloc _ _))
    go_enter Tryz.func64, Tryz.ntmps64
    go_wp2
    go_ret
    exact hend.out _ _ b0 (by simp)
  | node l x r ihl ihr =>
    intro w p h hR hb
    have hn := num_node l r x
    obtain ⟨b, pl, pr, rfl, hN, hl, hr⟩ := h
    have hR0 : Rises (l.flat ++ x :: r.flat) := hR
    obtain ⟨rl, rr, r3, r4⟩ := rises_mid hR0
    have b0 := b_alloc w (.cells #[] 91)
    have hS := Lib.hid fun w' (h : Below w.heap.size w w') => (hN.kept (nodes_below h)).cells
    have c0 := (hN.kept (nodes_below b0)).key
    rcases Key.tri (key e) (key x) with g | g | g
    · have hC := Lib.hid fun w' => Cs.Compare_calls (key e) (key x) (-1) w' (Or.inl ⟨g, rfl⟩)
      have hI := Lib.hid fun w' (h : Below w.heap.size w w') => ihl w' pl (hl.next h) rl (by omega)
      have hB := Lib.hid fun w' p' T' (h : Below w.heap.size w w') (ht : IsTree w' p' T') (hf : T'.flat = ins e l.flat) => balanced_calls w' b _ x pl pr p' pr T' r (hN.kept (nodes_below h)) ht (hr.next h) (by
        have h1 := ins_len_le e l.flat
        rw [← hf] at h1
        have h2 : T'.num = T'.flat.length := rfl
        have h3 : l.num = l.flat.length := rfl
        omega)
      have hf : Hid (∀ M, M = ins e l.flat → M ++ x :: r.flat = ins e (Tr.node l x r).flat) := Lib.hid fun M h => by rw [h]; exact (ins_left e x r.flat g l.flat).symm
      clear ihl ihr hl hr hN hR hR0 rl rr r3 r4 g hn hb
      generalize (Tr.node l x r).num = nn at *
      go_enter Tryz.func64, Tryz.ntmps64
      go_wp2_with (go_at_call 31; refine (hC.out _).mono ?_; rintro e w' ⟨rfl, rfl⟩)
      have bc := b_then b0 (b_drew _)
      go_region_held3 (fun w' => w'.cell? ⟨b, 0, none⟩ = some (.string x) ∧ (partAt ⟨b, 0, none⟩ 1 16).run Tryz.prog w' = .ok ⟨b, 1, none⟩ w' ∧ w'.cell? ⟨b, 1, none⟩ = some (.pointer pl) ∧ w'.cell? ⟨b, 2, none⟩ = some (.pointer pr) ∧ w'.cell? ⟨b, 3, none⟩ = some (.int .i64 (nn : Int)))
        (exact hS.out _ bc)
        (first
          | (go_at_call 64; refine (hI.out _ bc).mono ?_; rintro e9 w9 ⟨p9, T9, rfl, t9, f9, b9⟩; replace f9 := Lib.hid f9; replace bc := b_then bc b9; clear b9)
          | (go_at_call 85; refine (hB.out _ _ _ bc t9 f9.out).mono ?_; rintro e8 w8 h8; have h7 := Lib.hid (h8.from bc (hf.out _ f9.out)); obtain ⟨p8, T8, rfl, -, -, b8⟩ := h8; replace bc := b_then bc b8; clear b8))
      all_goals
        go_wp2
        go_ret
        exact h7.out
    · have hC := Lib.hid fun w' => Cs.Compare_calls (key e) (key x) 0 w' (Or.inr (Or.inl ⟨g, rfl⟩))
      have hf : Hid (ins e (Tr.node l x r).flat = (Tr.node l e r).flat) := Lib.hid (ins_here e x r.flat g l.flat r3)
      have hnn : (Tr.node l x r).num = l.num + 1 + r.num := hn
      have hx : x = e := g.symm
      have hend : Hid (∀ w' n c, Below w.heap.size w w' → n = w'.heap.size → c = #[.string e, .pointer pl, .pointer pr, .int .i64 ((Tr.node l x r).num : Int)] → GivesL w (ins e (Tr.node l x r).flat) (.returned (.pointer (some ⟨n, 0, none⟩))) (w'.alloc (.cells c 118))) := Lib.hid fun w' n c h hn hc => by
        subst hn hc
        have h2 := b_then h (b_alloc w' (.cells #[.string e, .pointer pl, .pointer pr, .int .i64 ((Tr.node l x r).num : Int)] 118))
        exact GivesL.mk (T := .node l e r) (IsTree.mk (Node.new w' e pl pr _) (hl.next h2) (hr.next h2) hnn) hf.out.symm h2
      replace hx := Lib.hid hx
      clear ihl ihr hl hr hN hR hR0 rl rr r3 r4 g hn hb hnn hf
      generalize (Tr.node l x r).num = nn at *
      go_enter Tryz.func64, Tryz.ntmps64
      go_wp2_with (go_at_call 31; refine (hC.out _).mono ?_; rintro e w' ⟨rfl, rfl⟩)
      have bc := b_then b0 (b_drew _)
      go_region_held3 (fun w' => w'.cell? ⟨b, 0, none⟩ = some (.string x) ∧ (partAt ⟨b, 0, none⟩ 1 16).run Tryz.prog w' = .ok ⟨b, 1, none⟩ w' ∧ w'.cell? ⟨b, 1, none⟩ = some (.pointer pl) ∧ w'.cell? ⟨b, 2, none⟩ = some (.pointer pr) ∧ w'.cell? ⟨b, 3, none⟩ = some (.int .i64 (nn : Int)))
        (first | exact hS.out _ bc | exact hS.out _ (b_then bc (b_alloc _ _)))
        (fail)
      all_goals
        go_wp2
        go_ret
        exact hend.out _ _ _ bc (by simp) (by rw [hx.out])
    · have hC := Lib.hid fun w' => Cs.Compare_calls (key e) (key x) 1 w' (Or.inr (Or.inr ⟨g, rfl⟩))
      have hI := Lib.hid fun w' (h : Below w.heap.size w w') => ihr w' pr (hr.next h) rr (by omega)
      have hB := Lib.hid fun w' p' T' (h : Below w.heap.size w w') (ht : IsTree w' p' T') (hf : T'.flat = ins e r.flat) => balanced_calls w' b _ x pl pr pl p' l T' (hN.kept (nodes_below h)) (hl.next h) ht (by
        have h1 := ins_len_le e r.flat
        rw [← hf] at h1
        have h2 : T'.num = T'.flat.length := rfl
        have h3 : r.num = r.flat.length := rfl
        omega)
      have hf : Hid (∀ M, M = ins e r.flat → l.flat ++ x :: M = ins e (Tr.node l x r).flat) := Lib.hid fun M h => by rw [h]; exact (ins_right e x r.flat g l.flat r3).symm
      clear ihl ihr hl hr hN hR hR0 rl rr r3 r4 g hn hb
      generalize (Tr.node l x r).num = nn at *
      go_enter Tryz.func64, Tryz.ntmps64
      go_wp2_with (go_at_call 31; refine (hC.out _).mono ?_; rintro e w' ⟨rfl, rfl⟩)
      have bc := b_then b0 (b_drew _)
      go_region_held3 (fun w' => w'.cell? ⟨b, 0, none⟩ = some (.string x) ∧ (partAt ⟨b, 0, none⟩ 1 16).run Tryz.prog w' = .ok ⟨b, 1, none⟩ w' ∧ w'.cell? ⟨b, 1, none⟩ = some (.pointer pl) ∧ w'.cell? ⟨b, 2, none⟩ = some (.pointer pr) ∧ w'.cell? ⟨b, 3, none⟩ = some (.int .i64 (nn : Int)))
        (exact hS.out _ bc)
        (first
          | (go_at_call 64; refine (hI.out _ bc).mono ?_; rintro e9 w9 ⟨p9, T9, rfl, t9, f9, b9⟩; replace f9 := Lib.hid f9; replace bc := b_then bc b9; clear b9)
          | (go_at_call 85; refine (hB.out _ _ _ bc t9 f9.out).mono ?_; rintro e8 w8 h8; have h7 := Lib.hid (h8.from bc (hf.out _ f9.out)); obtain ⟨p8, T8, rfl, -, -, b8⟩ := h8; replace bc := b_then bc b8; clear b8))
      all_goals
        go_wp2
        go_ret
        exact h7.out
end Go.Proofs.YtbjpogeemajhoaaGreat.Ts
namespace Go.Proofs.YtbjpogeemajhoaaGreat.Tm
open Go.RowKit Sh
open Key (lt)
open Ent (key)
attribute [local go_sem] fold_none

theorem GivesL.from {w w0 w' : World} {L M : List (ByteArray × Int)} {e : Ending} (h : GivesL w L e w') (hb : Below w0.heap.size w0 w) (hL : L = M) : GivesL w0 M e w' := by
  obtain ⟨p, T, rfl, ht, hf, bb⟩ := h
  exact ⟨p, T, rfl, ht, hf.trans hL, b_then hb bb⟩

set_option maxHeartbeats 4000000 in
set_option maxRecDepth 100000 in
theorem with_calls (e : (ByteArray × Int)) (T : Tr (ByteArray × Int)) : ∀ (w : World) (p : Option Addr), IsTree w p T → Rises T.flat → T.num < 700000 →
    Calls Tryz.prog 24 #[.pointer p, .string e.1, .int .i64 e.2] w (GivesL w (ins e T.flat)) := by
  induction T with
  | nil =>
    intro w p h _ _
    obtain rfl : p = none := h
    have b0 := Below.refl w.heap.size w
    have hend : Hid (∀ w' n, Below w.heap.size w w' → n = w'.heap.size → GivesL w (ins e (Tr.nil : Tr (ByteArray × Int)).flat) (.returned (.pointer (some ⟨n, 0, none⟩))) (w'.alloc (.cells #[.string e.1, .int .i64 e.2, .pointer none, .pointer none, .int .i64 1] 80))) := Lib.hid fun w' n h hn => by
      subst hn
      exact GivesL.mk (T := .node .nil e .nil) (IsTree.mk (Node.new w' e none none 1) rfl rfl rfl) (by simp [Tr.flat, ins]) (b_then h (b_alloc _ _))
    go_enter Tryz.func24, Tryz.ntmps24
    go_wp2
    go_ret
    exact hend.out _ _ b0 (by simp)
  | node l x r ihl ihr =>
    intro w p h hR hb
    have hn := num_node l r x
    obtain ⟨b, pl, pr, rfl, hN, hl, hr⟩ := h
    have hR0 : Rises (l.flat ++ x :: r.flat) := hR
    obtain ⟨rl, rr, r3, r4⟩ := rises_mid hR0
    have b0 := Below.refl w.heap.size w
    have hS := Lib.hid fun w' (h : Below w.heap.size w w') => (hN.kept (nodes_below h)).cells
    have c0 := (hN.kept (nodes_below b0)).key
    rcases Key.tri (key e) (key x) with g | g | g
    · have hC := Lib.hid fun w' => Cs.Compare_calls (key e) (key x) (-1) w' (Or.inl ⟨g, rfl⟩)
      have hI := Lib.hid fun w' (h : Below w.heap.size w w') => ihl w' pl (hl.next h) rl (by omega)
      have hB := Lib.hid fun w' p' T' (h : Below w.heap.size w w') (ht : IsTree w' p' T') (hf : T'.flat = ins e l.flat) => balanced_calls w' b _ x pl pr p' pr T' r (hN.kept (nodes_below h)) ht (hr.next h) (by
        have h1 := ins_len_le e l.flat
        rw [← hf] at h1
        have h2 : T'.num = T'.flat.length := rfl
        have h3 : l.num = l.flat.length := rfl
        omega)
      have hf : Hid (∀ M, M = ins e l.flat → M ++ x :: r.flat = ins e (Tr.node l x r).flat) := Lib.hid fun M h => by rw [h]; exact (ins_left e x r.flat g l.flat).symm
      clear ihl ihr hl hr hN hR hR0 rl rr r3 r4 g hn hb
      generalize (Tr.node l x r).num = nn at *
      go_enter Tryz.func24, Tryz.ntmps24
      go_wp2_with (go_at_call 31; refine (hC.out _).mono ?_; rintro e w' ⟨rfl, rfl⟩)
      have bc := b_then b0 (b_drew _)
      go_region_held3 (fun w' => w'.cell? ⟨b, 0, none⟩ = some (.string x.1) ∧ w'.cell? ⟨b, 1, none⟩ = some (.int .i64 x.2) ∧ w'.cell? ⟨b, 2, none⟩ = some (.pointer pl) ∧ w'.cell? ⟨b, 3, none⟩ = some (.pointer pr) ∧ w'.cell? ⟨b, 4, none⟩ = some (.int .i64 (nn : Int)))
        (exact hS.out _ bc)
        (first
          | (go_at_call 24; refine (hI.out _ bc).mono ?_; rintro e9 w9 ⟨p9, T9, rfl, t9, f9, b9⟩; replace f9 := Lib.hid f9; replace bc := b_then bc b9; clear b9)
          | (go_at_call 54; refine (hB.out _ _ _ bc t9 f9.out).mono ?_; rintro e8 w8 h8; have h7 := Lib.hid (h8.from bc (hf.out _ f9.out)); obtain ⟨p8, T8, rfl, -, -, b8⟩ := h8; replace bc := b_then bc b8; clear b8))
      all_goals
        go_wp2
        go_ret
        exact h7.out
    · have hC := Lib.hid fun w' => Cs.Compare_calls (key e) (key x) 0 w' (Or.inr (Or.inl ⟨g, rfl⟩))
      have hf : Hid (ins e (Tr.node l x r).flat = (Tr.node l e r).flat) := Lib.hid (ins_here e x r.flat g l.flat r3)
      have hnn : (Tr.node l x r).num = l.num + 1 + r.num := hn
      have hx : x.1 = e.1 := g.symm
      have hend : Hid (∀ w' n c, Below w.heap.size w w' → n = w'.heap.size → c = #[.string e.1, .int .i64 e.2, .pointer pl, .pointer pr, .int .i64 ((Tr.node l x r).num : Int)] → GivesL w (ins e (Tr.node l x r).flat) (.returned (.pointer (some ⟨n, 0, none⟩))) (w'.alloc (.cells c 80))) := Lib.hid fun w' n c h hn hc => by
        subst hn hc
        have h2 := b_then h (b_alloc w' (.cells #[.string e.1, .int .i64 e.2, .pointer pl, .pointer pr, .int .i64 ((Tr.node l x r).num : Int)] 80))
        exact GivesL.mk (T := .node l e r) (IsTree.mk (Node.new w' e pl pr _) (hl.next h2) (hr.next h2) hnn) hf.out.symm h2
      replace hx := Lib.hid hx
      clear ihl ihr hl hr hN hR hR0 rl rr r3 r4 g hn hb hnn hf
      generalize (Tr.node l x r).num = nn at *
      go_enter Tryz.func24, Tryz.ntmps24
      go_wp2_with (go_at_call 31; refine (hC.out _).mono ?_; rintro e w' ⟨rfl, rfl⟩)
      have bc := b_then b0 (b_drew _)
      go_region_held3 (fun w' => w'.cell? ⟨b, 0, none⟩ = some (.string x.1) ∧ w'.cell? ⟨b, 1, none⟩ = some (.int .i64 x.2) ∧ w'.cell? ⟨b, 2, none⟩ = some (.pointer pl) ∧ w'.cell? ⟨b, 3, none⟩ = some (.pointer pr) ∧ w'.cell? ⟨b, 4, none⟩ = some (.int .i64 (nn : Int)))
        (first | exact hS.out _ bc | exact hS.out _ (b_then bc (b_alloc _ _)))
        (fail)
      all_goals
        go_wp2
        go_ret
        exact hend.out _ _ _ bc (by simp) (by rw [hx.out])
    · have hC := Lib.hid fun w' => Cs.Compare_calls (key e) (key x) 1 w' (Or.inr (Or.inr ⟨g, rfl⟩))
      have hI := Lib.hid fun w' (h : Below w.heap.size w w') => ihr w' pr (hr.next h) rr (by omega)
      have hB := Lib.hid fun w' p' T' (h : Below w.heap.size w w') (ht : IsTree w' p' T') (hf : T'.flat = ins e r.flat) => balanced_calls w' b _ x pl pr pl p' l T' (hN.kept (nodes_below h)) (hl.next h) ht (by
        have h1 := ins_len_le e r.flat
        rw [← hf] at h1
        have h2 : T'.num = T'.flat.length := rfl
        have h3 : r.num = r.flat.length := rfl
        omega)
      have hf : Hid (∀ M, M = ins e r.flat → l.flat ++ x :: M = ins e (Tr.node l x r).flat) := Lib.hid fun M h => by rw [h]; exact (ins_right e x r.flat g l.flat r3).symm
      clear ihl ihr hl hr hN hR hR0 rl rr r3 r4 g hn hb
      generalize (Tr.node l x r).num = nn at *
      go_enter Tryz.func24, Tryz.ntmps24
      go_wp2_with (go_at_call 31; refine (hC.out _).mono ?_; rintro e w' ⟨rfl, rfl⟩)
      have bc := b_then b0 (b_drew _)
      go_region_held3 (fun w' => w'.cell? ⟨b, 0, none⟩ = some (.string x.1) ∧ w'.cell? ⟨b, 1, none⟩ = some (.int .i64 x.2) ∧ w'.cell? ⟨b, 2, none⟩ = some (.pointer pl) ∧ w'.cell? ⟨b, 3, none⟩ = some (.pointer pr) ∧ w'.cell? ⟨b, 4, none⟩ = some (.int .i64 (nn : Int)))
        (exact hS.out _ bc)
        (first
          | (go_at_call 24; refine (hI.out _ bc).mono ?_; rintro e9 w9 ⟨p9, T9, rfl, t9, f9, b9⟩; replace f9 := Lib.hid f9; replace bc := b_then bc b9; clear b9)
          | (go_at_call 54; refine (hB.out _ _ _ bc t9 f9.out).mono ?_; rintro e8 w8 h8; have h7 := Lib.hid (h8.from bc (hf.out _ f9.out)); obtain ⟨p8, T8, rfl, -, -, b8⟩ := h8; replace bc := b_then bc b8; clear b8))
      all_goals
        go_wp2
        go_ret
        exact h7.out
end Go.Proofs.YtbjpogeemajhoaaGreat.Tm
namespace Go.Proofs.YtbjpogeemajhoaaGreat.Ti
open Go.RowKit Sh
open Key (lt)
open Ent (key)
attribute [local go_sem] fold_none

end Go.Proofs.YtbjpogeemajhoaaGreat.Ti
namespace Go.Proofs.YtbjpogeemajhoaaGreat.Ts
open Go.RowKit Sh
open Key (lt)
open Ent (key)
attribute [local go_sem] fold_none

theorem GivesL.of {w w0 w' : World} {L M : List ByteArray} {e : Ending} (h : GivesL w L e w') (hb : Below w0.heap.size w0 w) (hL : L = M) : GivesL w0 M e w' := by
  obtain ⟨p, T, rfl, ht, hf, bb⟩ := h
  exact ⟨p, T, rfl, ht, hf.trans hL, b_then hb bb⟩

end Go.Proofs.YtbjpogeemajhoaaGreat.Ts
namespace Go.Proofs.YtbjpogeemajhoaaGreat.Tm
open Go.RowKit Sh
open Key (lt)
open Ent (key)
attribute [local go_sem] fold_none

theorem GivesL.of {w w0 w' : World} {L M : List (ByteArray × Int)} {e : Ending} (h : GivesL w L e w') (hb : Below w0.heap.size w0 w) (hL : L = M) : GivesL w0 M e w' := by
  obtain ⟨p, T, rfl, ht, hf, bb⟩ := h
  exact ⟨p, T, rfl, ht, hf.trans hL, b_then hb bb⟩

end Go.Proofs.YtbjpogeemajhoaaGreat.Tm
namespace Go.Proofs.YtbjpogeemajhoaaGreat.Sh
open Go.RowKit
theorem results_empty {P : Program} {fn : Func} {a d : Nat} {t : TypeId} {tmps : Array Value} {w : World} {ad : Addr} (h : fn.results = #[.cell a t, .tmp d]) (hx : tmps.getD a undef = .pointer (some ad)) (he : (loadVar t ad).run P w = .ok (.agg #[]) w) :
    (results fn tmps).run P w = .ok (.tuple #[.agg #[], tmps.getD d undef]) w := by
  simp only [results, h]
  simp [asAddr, -Array.getD_eq_getD_getElem?, hx, he]
theorem load_none (w : World) (ad : Addr) : (loadVar 91 ad).run Tryz.prog w = .ok (.agg #[]) w := by
  simp [loadVar, go_sem]
end Go.Proofs.YtbjpogeemajhoaaGreat.Sh
namespace Go.Proofs.YtbjpogeemajhoaaGreat.Ti
open Go.RowKit Sh
open Key (lt)
open Ent (key)
attribute [local go_sem] fold_none

end Go.Proofs.YtbjpogeemajhoaaGreat.Ti
namespace Go.Proofs.YtbjpogeemajhoaaGreat.Ts
open Go.RowKit Sh
open Key (lt)
open Ent (key)
attribute [local go_sem] fold_none

/-- a map's (or a set's) address, and what it holds; a nil one holds nothing -/
def At (W : World) (t : TypeId) (a : Option Addr) (L : List ByteArray) : Prop :=
  (a = none ∧ L = []) ∨ ∃ (b : Nat) (p : Option Addr) (T : Tr ByteArray), a = some ⟨b, 0, none⟩ ∧ Boxed W b t (.pointer p) ∧ IsTree W p T ∧ T.flat = L
theorem At.next {W W' : World} {t : TypeId} {a : Option Addr} {L : List ByteArray} (h : At W t a L) (hb : Below W.heap.size W W') : At W' t a L := by
  rcases h with h | ⟨b, p, T, rfl, h1, h2, h3⟩
  · exact Or.inl h
  · exact Or.inr ⟨b, p, T, rfl, (hb.block b h1.lt).trans h1, h2.next hb, h3⟩

set_option maxHeartbeats 2000000 in
theorem tree_calls (w : World) (t : TypeId) (a : Option Addr) (L : List ByteArray) (h : At w t a L) :
    Calls Tryz.prog 83 #[.pointer a] w fun e w' => (∃ p T, e = .returned (.pointer p) ∧ IsTree w p T ∧ T.flat = L) ∧ w' = w := by
  rcases h with ⟨rfl, rfl⟩ | ⟨b, p, T, rfl, h1, h2, h3⟩
  · go_enter Tryz.func83, Tryz.ntmps83
    go_wp2
    go_ret
    exact ⟨⟨none, .nil, rfl, rfl, rfl⟩, rfl⟩
  · have c := h1.cell
    replace h2 := Lib.hid h2
    replace h3 := Lib.hid h3
    clear h1
    go_enter Tryz.func83, Tryz.ntmps83
    go_wp2
    go_ret
    exact ⟨⟨p, T, rfl, h2.out, h3.out⟩, rfl⟩

theorem Len_calls (w : World) (t : TypeId) (a : Option Addr) (L : List ByteArray) (h : At w t a L) :
    Calls Tryz.prog 63 #[.pointer a] w fun e w' => e = .returned (.int .i64 (L.length : Int)) ∧ w' = w := by
  have hT := Lib.hid (tree_calls w t a L h)
  clear h
  generalize hn : L.length = n
  go_enter Tryz.func63, Tryz.ntmps63
  go_wp2_with fail
  refine hT.out.mono ?_
  rintro e w1 ⟨⟨p, T, rfl, h2, h3⟩, rfl⟩
  have hc := Lib.hid (count_calls w1 p T h2)
  have hk : Hid (T.num = n) := Lib.hid (by rw [← hn, ← h3]; rfl)
  clear h2 h3 hn
  go_wp2_with fail
  refine hc.out.mono ?_
  rintro e w2 ⟨rfl, rfl⟩
  go_wp2
  go_ret
  exact ⟨by rw [hk.out]; rfl, rfl⟩

/-- the block of a map alone has changed, and it holds another list -/
def Turns (w : World) (t : TypeId) (b : Nat) (L : List ByteArray) (w' : World) : Prop := At w' t (some ⟨b, 0, none⟩) L ∧ w.grownBy w' (some b)
theorem turns_mk {w w1 : World} {t : TypeId} {b : Nat} {p p' : Option Addr} {T : Tr ByteArray} {L : List ByteArray} (hne : t ≠ 118) (hB : Boxed w b t (.pointer p)) (hb : Below w.heap.size w w1) (hT : IsTree w1 p' T) (hL : T.flat = L) :
    Turns w t b L (w1.setCell ⟨b, 0, none⟩ (.pointer p')) := by
  have h1 : Boxed w1 b t (.pointer p) := (hb.block b hB.lt).trans hB
  have hk : Nodes w1 (w1.setCell ⟨b, 0, none⟩ (.pointer p')) := fun k c z hk => by
    refine (Below.heap_setCell _ _ _ k fun e => ?_).trans hk
    subst e
    have := hk.symm.trans h1
    simp at this
    exact hne this.2.1.symm
  refine ⟨Or.inr ⟨b, p', T, rfl, h1.set _, hT.kept hk, hL⟩, ⟨hb.os, hb.tape, hb.output, ?_, fun k hk hne => ?_⟩⟩
  · have := (grownBy_setCell' w1 b (.pointer p')).size; have := hb.size; omega
  · exact (Below.heap_setCell _ _ _ k (fun e => hne (by rw [e]))).trans (hb.block k hk)
theorem Turns.drew {w : World} {t : TypeId} {b : Nat} {L : List ByteArray} {w' : World} (h : Turns w t b L w') : Turns w t b L w'.drew := ⟨h.1.next (b_drew _), ⟨h.2.os, h.2.tape, h.2.output, h.2.size, h.2.block⟩⟩

set_option maxHeartbeats 4000000 in
set_option maxRecDepth 100000 in
theorem Put_calls (w : World) (t : TypeId) (b : Nat) (L : List ByteArray) (e : ByteArray) (hne : t ≠ 118) (h : At w t (some ⟨b, 0, none⟩) L) (hR : Rises L) (hb : L.length < 600000) :
    Calls Tryz.prog 42 #[.pointer (some ⟨b, 0, none⟩), .string e, .agg #[]] w fun r w' => r = .returned (.bool (!has (key e) L)) ∧ Turns w t b (ins e L) w' := by
  have b0 := b_alloc w (.cells #[] 91)
  have hK := Lib.hid fun w' (hb : Below w.heap.size w w') => Len_calls w' t _ L (h.next hb)
  have hM := Lib.hid fun w' (hT : Turns w t b (ins e L) w') => Len_calls w' t _ _ hT.1
  rcases h with ⟨h, _⟩ | ⟨b', p, T, h1, h2, h3, h4⟩
  · cases h
  obtain rfl : b = b' := by simpa using h1
  have hW := Lib.hid fun w' (hb' : Below w.heap.size w w') => with_calls e T w' p (h3.next hb') (h4 ▸ hR) (by show T.flat.length < _; rw [h4]; omega)
  have hX := Lib.hid fun w' (hb' : Below w.heap.size w w') => (show Boxed w' b t (.pointer p) from (hb'.block b h2.lt).trans h2)
  have hE : Hid (∀ w1 p' T', Below w.heap.size w w1 → IsTree w1 p' T' → T'.flat = ins e T.flat → Turns w t b (ins e L) (w1.setCell ⟨b, 0, none⟩ (.pointer p'))) := Lib.hid fun w1 p' T' hb' hT' hf => turns_mk hne h2 hb' hT' (by rw [hf, h4])
  have hl := length_ins e hR
  have hz : Hid (decide (L.length < (ins e L).length) = !has (key e) L) := Lib.hid (by rw [hl]; cases has (key e) L <;> simp)
  clear h1 h2 h3 h4 hl hR hb hne
  generalize (!has (key e) L) = z at *
  generalize L.length = n at *
  generalize (ins e L).length = m at *
  have c0 := (hX.out _ b0).cell
  have f0 := (hX.out _ b0).frozen
  have c1 := (hX.out _ (b_then b0 (b_drew _))).cell
  go_enter Tryz.func42, Tryz.ntmps42
  go_wp2_with (go_at_call 63; refine (hK.out _ b0).mono ?_; clear hK; rintro r w' ⟨rfl, rfl⟩)
  go_region_law ((go_simp; go_at_call 64; refine (hW.out _ (b_then b0 (b_drew _))).mono ?_; rintro r w2 ⟨p2, T2, rfl, t2, g2, b2⟩; have h9 := Lib.hid (hE.out _ _ _ (b_then (b_then b0 (b_drew _)) b2) t2 g2); have c2 := (hX.out _ (b_then (b_then b0 (b_drew _)) b2)).cell; have f2 := (hX.out _ (b_then (b_then b0 (b_drew _)) b2)).frozen; clear t2 g2 b2))
  all_goals
    go_wp2_with (go_at_call 63; refine (hM.out _ h9.out).mono ?_; rintro r w' ⟨rfl, rfl⟩)
    go_ret
    exact ⟨by rw [← hz.out]; rfl, h9.out⟩

end Go.Proofs.YtbjpogeemajhoaaGreat.Ts
namespace Go.Proofs.YtbjpogeemajhoaaGreat.Tm
open Go.RowKit Sh
open Key (lt)
open Ent (key)
attribute [local go_sem] fold_none

/-- a map's (or a set's) address, and what it holds; a nil one holds nothing -/
def At (W : World) (t : TypeId) (a : Option Addr) (L : List (ByteArray × Int)) : Prop :=
  (a = none ∧ L = []) ∨ ∃ (b : Nat) (p : Option Addr) (T : Tr (ByteArray × Int)), a = some ⟨b, 0, none⟩ ∧ Boxed W b t (.pointer p) ∧ IsTree W p T ∧ T.flat = L
theorem At.next {W W' : World} {t : TypeId} {a : Option Addr} {L : List (ByteArray × Int)} (h : At W t a L) (hb : Below W.heap.size W W') : At W' t a L := by
  rcases h with h | ⟨b, p, T, rfl, h1, h2, h3⟩
  · exact Or.inl h
  · exact Or.inr ⟨b, p, T, rfl, (hb.block b h1.lt).trans h1, h2.next hb, h3⟩

set_option maxHeartbeats 2000000 in
theorem tree_calls (w : World) (t : TypeId) (a : Option Addr) (L : List (ByteArray × Int)) (h : At w t a L) :
    Calls Tryz.prog 32 #[.pointer a] w fun e w' => (∃ p T, e = .returned (.pointer p) ∧ IsTree w p T ∧ T.flat = L) ∧ w' = w := by
  rcases h with ⟨rfl, rfl⟩ | ⟨b, p, T, rfl, h1, h2, h3⟩
  · go_enter Tryz.func32, Tryz.ntmps32
    go_wp2
    go_ret
    exact ⟨⟨none, .nil, rfl, rfl, rfl⟩, rfl⟩
  · have c := h1.cell
    replace h2 := Lib.hid h2
    replace h3 := Lib.hid h3
    clear h1
    go_enter Tryz.func32, Tryz.ntmps32
    go_wp2
    go_ret
    exact ⟨⟨p, T, rfl, h2.out, h3.out⟩, rfl⟩

theorem Len_calls (w : World) (t : TypeId) (a : Option Addr) (L : List (ByteArray × Int)) (h : At w t a L) :
    Calls Tryz.prog 23 #[.pointer a] w fun e w' => e = .returned (.int .i64 (L.length : Int)) ∧ w' = w := by
  have hT := Lib.hid (tree_calls w t a L h)
  clear h
  generalize hn : L.length = n
  go_enter Tryz.func23, Tryz.ntmps23
  go_wp2_with fail
  refine hT.out.mono ?_
  rintro e w1 ⟨⟨p, T, rfl, h2, h3⟩, rfl⟩
  have hc := Lib.hid (count_calls w1 p T h2)
  have hk : Hid (T.num = n) := Lib.hid (by rw [← hn, ← h3]; rfl)
  clear h2 h3 hn
  go_wp2_with fail
  refine hc.out.mono ?_
  rintro e w2 ⟨rfl, rfl⟩
  go_wp2
  go_ret
  exact ⟨by rw [hk.out]; rfl, rfl⟩

set_option maxHeartbeats 2000000 in
theorem Get_calls (w : World) (t : TypeId) (a : Option Addr) (L : List (ByteArray × Int)) (k : ByteArray) (h : At w t a L) (hR : Rises L) (v : Int) (z : Bool) (hv : (fnd k L = none ∧ v = 0 ∧ z = false) ∨ (∃ x, fnd k L = some x ∧ v = x.2 ∧ z = true)) :
    Calls Tryz.prog 13 #[.pointer a, .string k] w fun e w' => e = .returned (.tuple #[.int .i64 v, .bool z]) ∧ w' = w := by
  have hT := Lib.hid (tree_calls _ t a L h)
  have hF := Lib.hid fun p T (h2 : IsTree w p T) (h3 : T.flat = L) => find_calls w p T k h2 (h3 ▸ hR)
  replace hv := Lib.hid hv
  clear h hR
  go_enter Tryz.func13, Tryz.ntmps13
  go_wp2_with fail
  refine hT.out.mono ?_
  rintro e w1 ⟨⟨p, T, rfl, h2, h3⟩, rfl⟩
  have hF2 := Lib.hid (hF.out p T h2 h3)
  replace h3 := Lib.hid h3
  clear hF h2 hT
  go_wp2_with fail
  refine hF2.out.mono ?_
  rintro e w2 ⟨hf, rfl⟩
  rw [h3.out] at hf
  rcases hf with ⟨h4, rfl⟩ | ⟨x, b, pl, pr, n, h4, rfl, hN⟩
  · rcases hv.out with ⟨_, rfl, rfl⟩ | ⟨y, hy, _⟩
    · clear h4 h3 hv
      go_wp2
      go_ret2
      exact ⟨rfl, rfl⟩
    · rw [hy] at h4; cases h4
  · rcases hv.out with ⟨hy, _⟩ | ⟨y, hy, rfl, rfl⟩
    · rw [hy] at h4; cases h4
    · obtain rfl : y = x := Option.some.inj (hy.symm.trans h4)
      obtain ⟨_, c1, _⟩ := hN.cells
      clear h4 h3 hv hy
      go_wp2
      go_ret2
      exact ⟨rfl, rfl⟩

/-- the block of a map alone has changed, and it holds another list -/
def Turns (w : World) (t : TypeId) (b : Nat) (L : List (ByteArray × Int)) (w' : World) : Prop := At w' t (some ⟨b, 0, none⟩) L ∧ w.grownBy w' (some b)
theorem turns_mk {w w1 : World} {t : TypeId} {b : Nat} {p p' : Option Addr} {T : Tr (ByteArray × Int)} {L : List (ByteArray × Int)} (hne : t ≠ 80) (hB : Boxed w b t (.pointer p)) (hb : Below w.heap.size w w1) (hT : IsTree w1 p' T) (hL : T.flat = L) :
    Turns w t b L (w1.setCell ⟨b, 0, none⟩ (.pointer p')) := by
  have h1 : Boxed w1 b t (.pointer p) := (hb.block b hB.lt).trans hB
  have hk : Nodes w1 (w1.setCell ⟨b, 0, none⟩ (.pointer p')) := fun k c z hk => by
    refine (Below.heap_setCell _ _ _ k fun e => ?_).trans hk
    subst e
    have := hk.symm.trans h1
    simp at this
    exact hne this.2.1.symm
  refine ⟨Or.inr ⟨b, p', T, rfl, h1.set _, hT.kept hk, hL⟩, ⟨hb.os, hb.tape, hb.output, ?_, fun k hk hne => ?_⟩⟩
  · have := (grownBy_setCell' w1 b (.pointer p')).size; have := hb.size; omega
  · exact (Below.heap_setCell _ _ _ k (fun e => hne (by rw [e]))).trans (hb.block k hk)
theorem Turns.drew {w : World} {t : TypeId} {b : Nat} {L : List (ByteArray × Int)} {w' : World} (h : Turns w t b L w') : Turns w t b L w'.drew := ⟨h.1.next (b_drew _), ⟨h.2.os, h.2.tape, h.2.output, h.2.size, h.2.block⟩⟩

set_option maxHeartbeats 4000000 in
set_option maxRecDepth 100000 in
theorem Put_calls (w : World) (t : TypeId) (b : Nat) (L : List (ByteArray × Int)) (e : (ByteArray × Int)) (hne : t ≠ 80) (h : At w t (some ⟨b, 0, none⟩) L) (hR : Rises L) (hb : L.length < 600000) :
    Calls Tryz.prog 8 #[.pointer (some ⟨b, 0, none⟩), .string e.1, .int .i64 e.2] w fun r w' => r = .returned (.bool (!has (key e) L)) ∧ Turns w t b (ins e L) w' := by
  have b0 := Below.refl w.heap.size w
  have hK := Lib.hid fun w' (hb : Below w.heap.size w w') => Len_calls w' t _ L (h.next hb)
  have hM := Lib.hid fun w' (hT : Turns w t b (ins e L) w') => Len_calls w' t _ _ hT.1
  rcases h with ⟨h, _⟩ | ⟨b', p, T, h1, h2, h3, h4⟩
  · cases h
  obtain rfl : b = b' := by simpa using h1
  have hW := Lib.hid fun w' (hb' : Below w.heap.size w w') => with_calls e T w' p (h3.next hb') (h4 ▸ hR) (by show T.flat.length < _; rw [h4]; omega)
  have hX := Lib.hid fun w' (hb' : Below w.heap.size w w') => (show Boxed w' b t (.pointer p) from (hb'.block b h2.lt).trans h2)
  have hE : Hid (∀ w1 p' T', Below w.heap.size w w1 → IsTree w1 p' T' → T'.flat = ins e T.flat → Turns w t b (ins e L) (w1.setCell ⟨b, 0, none⟩ (.pointer p'))) := Lib.hid fun w1 p' T' hb' hT' hf => turns_mk hne h2 hb' hT' (by rw [hf, h4])
  have hl := length_ins e hR
  have hz : Hid (decide (L.length < (ins e L).length) = !has (key e) L) := Lib.hid (by rw [hl]; cases has (key e) L <;> simp)
  clear h1 h2 h3 h4 hl hR hb hne
  generalize (!has (key e) L) = z at *
  generalize L.length = n at *
  generalize (ins e L).length = m at *
  have c0 := (hX.out _ b0).cell
  have f0 := (hX.out _ b0).frozen
  have c1 := (hX.out _ (b_then b0 (b_drew _))).cell
  go_enter Tryz.func8, Tryz.ntmps8
  go_wp2_with (first
    | (go_at_call 24; refine (hW.out _ b0).mono ?_; rintro r w2 ⟨p2, T2, rfl, t2, g2, b2⟩; have h9 := Lib.hid (hE.out _ _ _ (b_then b0 b2) t2 g2); have c2 := (hX.out _ (b_then b0 b2)).cell; have f2 := (hX.out _ (b_then b0 b2)).frozen; clear t2 g2 b2)
    | (go_at_call 23; refine (hK.out _ b0).mono ?_; clear hK; rintro r w' ⟨rfl, rfl⟩)
    | (go_at_call 23; refine (hM.out _ h9.out).mono ?_; rintro r w' ⟨rfl, rfl⟩))
  all_goals
    go_ret
    exact ⟨by rw [← hz.out]; rfl, h9.out⟩

end Go.Proofs.YtbjpogeemajhoaaGreat.Tm
