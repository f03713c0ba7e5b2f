/-
  What the functions of a shelf's tree do, called with any tree in any memory: its count, trees put together and turned, over the plain trees of ShPlain; a tree's nodes never change. Conditions: a tree is not too great for its count.
-/
import Derived.Test.YtdmpkgdlelagjaaGreatDoorRows
import Derived.Test.YtdmpkgdlelagjaaGreatDoorShPlain
import Derived.WalkKit
import Derived.WalkSpells
import Derived.WalkLawsBesides
import Derived.ProofKit
import Derived.OpenShut
import Derived.Deep.QuietTactic
import Derived.BigQuiet
import Derived.BigRegion
import Derived.Deep.RegionHeld3
import Derived.Lib.Hide
import Derived.IntWalk
import Derived.RangeFuncNested
namespace Go.Proofs.YtdmpkgdlelagjaaGreatDoor.Sh
open Go.RowKit
theorem b_drew (w : World) : Below w.heap.size w w.drew := ⟨rfl, rfl, rfl, Nat.le_refl _, fun _ _ => rfl⟩
theorem b_drewN (w : World) (n : Nat) : Below w.heap.size w (w.drewN n) := ⟨rfl, rfl, rfl, Nat.le_refl _, fun _ _ => rfl⟩
theorem b_alloc (w : World) (o : Obj) : Below w.heap.size w (w.alloc o) := (Below.refl _ w).alloc (Nat.le_refl _) o
theorem b_next {B : Nat} {a b c : World} (h : Below B a b) (g : Below b.heap.size b c) (hB : B ≤ a.heap.size) : Below B a c := h.trans (g.mono (Nat.le_trans hB h.size))
theorem wrap_nat (n : Nat) (h : n ≤ 1000000000000) : IntKind.i64.wrap (n : Int) = n := by simp [IntKind.wrap, IntKind.bits, IntKind.signed]; omega
theorem wrap_in {c : Int} (h0 : -9223372036854775808 ≤ c) (h1 : c < 9223372036854775808) : IntKind.i64.wrap c = c := by simp [IntKind.wrap, IntKind.bits, IntKind.signed]; omega
/-- a field of no cells is built by nothing -/
theorem fold_none {β : Type} (f : β → Value × Nat → β) (c : β) : Array.foldl f c (Array.zipIdx (#[] : Array Value)) 0 0 = c := rfl
theorem b_then {a b c : World} (h : Below a.heap.size a b) (g : Below b.heap.size b c) : Below a.heap.size a c := b_next h g (Nat.le_refl _)
end Go.Proofs.YtdmpkgdlelagjaaGreatDoor.Sh
namespace Go.Proofs.YtdmpkgdlelagjaaGreatDoor.Ti
open Go.RowKit Sh
open Key (lt)
open Ent (key)
attribute [local go_sem] fold_none

end Go.Proofs.YtdmpkgdlelagjaaGreatDoor.Ti
namespace Go.Proofs.YtdmpkgdlelagjaaGreatDoor.Ts
open Go.RowKit Sh
open Key (lt)
open Ent (key)
attribute [local go_sem] fold_none

/-- a node of a tree: its block -/
def Node (W : World) (b : Nat) (e : ByteArray) (pl pr : Option Addr) (n : Nat) : Prop :=
  W.heap[b]? = some (.cells #[.string e, .pointer pl, .pointer pr, .int .i64 (n : Int)] 137 (0, 0))
/-- memory holds a tree at an address -/
def IsTree (W : World) : Option Addr → Tr ByteArray → Prop
  | p, .nil => p = none
  | p, .node l e r => ∃ (b : Nat) (pl pr : Option Addr), p = some ⟨b, 0, none⟩ ∧ Node W b e pl pr (Tr.node l e r).num ∧ IsTree W pl l ∧ IsTree W pr r
/-- nodes are as they were -/
def Nodes (W W' : World) : Prop := ∀ (b : Nat) (c : Array Value) (z : Nat × Nat), W.heap[b]? = some (.cells c 137 z) → W'.heap[b]? = some (.cells c 137 z)
theorem nodes_below {W W' : World} (h : Below W.heap.size W W') : Nodes W W' := fun b _ _ hb => (h.block b (Array.getElem?_eq_some_iff.1 hb).1).trans hb
theorem nodes_refl (W : World) : Nodes W W := fun _ _ _ h => h
theorem Nodes.trans {A B C : World} (h : Nodes A B) (g : Nodes B C) : Nodes A C := fun b c z hb => g b c z (h b c z hb)
theorem Node.kept {W W' : World} (h : Nodes W W') {b : Nat} {e : ByteArray} {pl pr : Option Addr} {n : Nat} (g : Node W b e pl pr n) : Node W' b e pl pr n := h _ _ _ g
theorem IsTree.kept {W W' : World} (h : Nodes W W') : ∀ {p : Option Addr} {T : Tr ByteArray}, IsTree W p T → IsTree W' p T
  | _, .nil, g => g
  | _, .node _ _ _, ⟨b, pl, pr, hp, hn, hl, hr⟩ => ⟨b, pl, pr, hp, hn.kept h, IsTree.kept h hl, IsTree.kept h hr⟩
theorem IsTree.next {W W' : World} {p : Option Addr} {T : Tr ByteArray} (g : IsTree W p T) (h : Below W.heap.size W W') : IsTree W' p T := g.kept (nodes_below h)
theorem part_run {W : World} {b : Nat} {e : ByteArray} {pl pr : Option Addr} {n : Nat} (g : Node W b e pl pr n) : (partAt ⟨b, 0, none⟩ 1 16).run Tryz.prog W = .ok ⟨b, 1, none⟩ W := by
  have hb : W.heap[b]? = some (.cells #[.string e, .pointer pl, .pointer pr, .int .i64 (n : Int)] 137 (0, 0)) := g
  have h1 : Tryz.prog.cellsOf 137 = 4 := by kernel_rfl
  have h2 : byteOfCell Tryz.prog Tryz.prog.depth 137 0 = some 0 := by kernel_rfl
  have h3 : byteOfCell Tryz.prog Tryz.prog.depth 137 1 = some 16 := by kernel_rfl
  have hs : W.shape? b = some (137, 4) := by simp [World.shape?, hb]
  have hv : (viewAt b).run Tryz.prog W = .ok none W := by simp [viewAt, hs, go_sem]
  simp [partAt, byteOf, noView, hs, hv, go_sem, h1, h2, h3]
theorem Node.cells {w' : World} {b : Nat} {e : ByteArray} {pl pr : Option Addr} {n : Nat} (g : Node w' b e pl pr n) : w'.cell? ⟨b, 0, none⟩ = some (.string e) ∧ (partAt ⟨b, 0, none⟩ 1 16).run Tryz.prog w' = .ok ⟨b, 1, none⟩ w' ∧ w'.cell? ⟨b, 1, none⟩ = some (.pointer pl) ∧ w'.cell? ⟨b, 2, none⟩ = some (.pointer pr) ∧ w'.cell? ⟨b, 3, none⟩ = some (.int .i64 (n : Int)) := by
  refine ⟨?_, part_run g, ?_⟩ <;> simp [World.cell?, show w'.heap[b]? = _ from g]
theorem Node.left {W : World} {b : Nat} {e : ByteArray} {pl pr : Option Addr} {n : Nat} (g : Node W b e pl pr n) : W.cell? ⟨b, 1, none⟩ = some (.pointer pl) := by
  simp [World.cell?, show W.heap[b]? = _ from g]
theorem Node.right {W : World} {b : Nat} {e : ByteArray} {pl pr : Option Addr} {n : Nat} (g : Node W b e pl pr n) : W.cell? ⟨b, 2, none⟩ = some (.pointer pr) := by
  simp [World.cell?, show W.heap[b]? = _ from g]
theorem Node.size {W : World} {b : Nat} {e : ByteArray} {pl pr : Option Addr} {n : Nat} (g : Node W b e pl pr n) : W.cell? ⟨b, 3, none⟩ = some (.int .i64 (n : Int)) := by
  simp [World.cell?, show W.heap[b]? = _ from g]
theorem Node.key {W : World} {b : Nat} {e : ByteArray} {pl pr : Option Addr} {n : Nat} (g : Node W b e pl pr n) : W.cell? ⟨b, 0, none⟩ = some (.string e) := by
  simp [World.cell?, show W.heap[b]? = _ from g]
theorem Node.new (W : World) (e : ByteArray) (pl pr : Option Addr) (n : Nat) : Node (W.alloc (.cells #[.string e, .pointer pl, .pointer pr, .int .i64 (n : Int)] 137)) W.heap.size e pl pr n := World.alloc_heap_new W _
theorem IsTree.mk {W : World} {b : Nat} {e : ByteArray} {pl pr : Option Addr} {n : Nat} {l r : Tr ByteArray} (g : Node W b e pl pr n) (hl : IsTree W pl l) (hr : IsTree W pr r) (hn : n = l.num + 1 + r.num) : IsTree W (some ⟨b, 0, none⟩) (.node l e r) :=
  ⟨b, pl, pr, rfl, by rw [num_node, ← hn]; exact g, hl, hr⟩

/-- a tree handed back -/
def Gives (w : World) (T : Tr ByteArray) (e : Ending) (w' : World) : Prop := ∃ p, e = .returned (.pointer p) ∧ IsTree w' p T ∧ Below w.heap.size w w'
theorem Gives.mk {w w' : World} {T : Tr ByteArray} {p : Option Addr} (h : IsTree w' p T) (hb : Below w.heap.size w w') : Gives w T (.returned (.pointer p)) w' := ⟨p, rfl, h, hb⟩
/-- a tree that holds a list handed back -/
def GivesL (w : World) (L : List ByteArray) (e : Ending) (w' : World) : Prop := ∃ p T, e = .returned (.pointer p) ∧ IsTree w' p T ∧ T.flat = L ∧ Below w.heap.size w w'
theorem GivesL.mk {w w' : World} {L : List ByteArray} {T : Tr ByteArray} {p : Option Addr} (h : IsTree w' p T) (hL : T.flat = L) (hb : Below w.heap.size w w') : GivesL w L (.returned (.pointer p)) w' := ⟨p, T, rfl, h, hL, hb⟩

theorem count_calls (w : World) (p : Option Addr) (T : Tr ByteArray) (h : IsTree w p T) :
    Calls Tryz.prog 94 #[.pointer p] w fun e w' => e = .returned (.int .i64 (T.num : Int)) ∧ w' = w := by
  cases T with
  | nil =>
    obtain rfl : p = none := h
    go_enter Tryz.func94, Tryz.ntmps94
    go_wp2
    go_ret
    exact ⟨rfl, rfl⟩
  | node l x r =>
    obtain ⟨b, pl, pr, rfl, hn, _, _⟩ := h
    have hz := hn.size
    clear hn
    go_enter Tryz.func94, Tryz.ntmps94
    go_wp2
    go_ret
    exact ⟨rfl, rfl⟩

theorem weight_calls (w : World) (p : Option Addr) (T : Tr ByteArray) (h : IsTree w p T) (hb : T.num < 1000000) :
    Calls Tryz.prog 134 #[.pointer p] w fun e w' => e = .returned (.int .i64 ((T.num + 1 : Nat) : Int)) ∧ w' = w := by
  have hc := count_calls w p T h
  clear h
  generalize T.num = n at *
  go_enter Tryz.func134, Tryz.ntmps134
  go_wp2_with (go_at_call 94; refine hc.mono ?_; rintro e w' ⟨rfl, rfl⟩)
  go_ret
  exact ⟨by go_num, rfl⟩

set_option maxHeartbeats 2000000 in
set_option maxRecDepth 100000 in
theorem over_calls (w : World) (b n0 : Nat) (x : ByteArray) (pl pr pL pR : Option Addr) (L R : Tr ByteArray) (hN : Node w b x pl pr n0) (hl : IsTree w pL L) (hr : IsTree w pR R) (hb : L.num + R.num < 1000000) :
    Calls Tryz.prog 106 #[.pointer (some ⟨b, 0, none⟩), .pointer pL, .pointer pR] w (Gives w (.node L x R)) := by
  have c1 := Lib.hid fun w' (h : Below w.heap.size w w') => count_calls w' pL L (hl.next h)
  have c2 := Lib.hid fun w' (h : Below w.heap.size w w') => count_calls w' pR R (hr.next h)
  have hS := Lib.hid fun w' (h : Below w.heap.size w w') => (hN.kept (nodes_below h)).cells
  have hend : Hid (∀ w' (n : Int), Below w.heap.size w w' → n = ((L.num + 1 + R.num : Nat) : Int) → Gives w (.node L x R) (.returned (.pointer (some ⟨w'.heap.size, 0, none⟩))) (w'.alloc (.cells #[.string x, .pointer pL, .pointer pR, .int .i64 n] 137))) := Lib.hid fun w' n h hn => by
    have h2 := b_then h (b_alloc w' (.cells #[.string x, .pointer pL, .pointer pR, .int .i64 n] 137))
    subst hn
    exact Gives.mk (IsTree.mk (Node.new w' x pL pR _) (hl.next h2) (hr.next h2) rfl) h2
  clear hN hl hr
  generalize L.num = m at *
  generalize R.num = k at *
  have bd := b_drew w
  have j1 : Hid (IntKind.i64.wrap ((m : Int) + 1) = ((m + 1 : Nat) : Int)) := Lib.hid (wrap_nat (m + 1) (by omega))
  have j2 : Hid (IntKind.i64.wrap (((m + 1 : Nat) : Int) + (k : Int)) = ((m + 1 + k : Nat) : Int)) := Lib.hid (wrap_nat (m + 1 + k) (by omega))
  go_enter Tryz.func106, Tryz.ntmps106
  go_wp2_with fail
  go_region_held3 (fun w' => w'.cell? ⟨b, 0, none⟩ = some (.string x) ∧ (partAt ⟨b, 0, none⟩ 1 16).run Tryz.prog w' = .ok ⟨b, 1, none⟩ w' ∧ w'.cell? ⟨b, 1, none⟩ = some (.pointer pl) ∧ w'.cell? ⟨b, 2, none⟩ = some (.pointer pr) ∧ w'.cell? ⟨b, 3, none⟩ = some (.int .i64 (n0 : Int)))
    (first | exact hS.out _ bd | exact hS.out _ (b_then bd (b_alloc _ _)))
    (first
      | (go_at_call 94; refine (c1.out _ bd).mono ?_; clear c1; rintro e w' ⟨rfl, rfl⟩)
      | (go_at_call 94; refine (c2.out _ bd).mono ?_; clear c2; rintro e w' ⟨rfl, rfl⟩))
  all_goals
    go_wp2
    go_ret
    exact hend.out _ _ bd (by rw [j1.out]; exact j2.out)

end Go.Proofs.YtdmpkgdlelagjaaGreatDoor.Ts
namespace Go.Proofs.YtdmpkgdlelagjaaGreatDoor.Tm
open Go.RowKit Sh
open Key (lt)
open Ent (key)
attribute [local go_sem] fold_none

end Go.Proofs.YtdmpkgdlelagjaaGreatDoor.Tm
