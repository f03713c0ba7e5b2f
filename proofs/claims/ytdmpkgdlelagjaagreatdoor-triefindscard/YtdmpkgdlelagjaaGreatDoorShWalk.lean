/-
  Going over a shelf's tree: its entries come in order, each once, till one is refused. Conditions: what takes them leaves the nodes as they are.
-/
import Derived.Test.YtdmpkgdlelagjaaGreatDoorRows
import Derived.Test.YtdmpkgdlelagjaaGreatDoorShMap
import Derived.RangeFuncNested
import Derived.RangeFuncBound
import Derived.RangeFuncCalls
import Derived.RangeFuncLeaves
import Derived.Shelf.Abstract
import Derived.Shelf.RegionOpen
import Derived.WalkKit
import Derived.OwnWalkIn
import Derived.TacticsInMore
import Derived.LoopNIn
import Derived.LoopIn
import Derived.BigRegionIn
namespace Go.Proofs.YtdmpkgdlelagjaaGreatDoor.Sh
open Go.RowKit
theorem room_any {F : Fence} (hd : F.depth = none) (k : Nat) : F.room k := fun d h => by rw [hd] at h; cases h
theorem YieldAt.any {m : Nat} (m' : Nat) {P : Program} {l : Nat} {args : Array Value} {W : World} {R : Ending → World → Prop} (h : YieldAt Fence.wide m P l args W R) : YieldAt Fence.wide m' P l args W R := by
  obtain ⟨fn, tmps, assign, body, hy, hR⟩ := h
  exact ⟨fn, tmps, assign, body, hy, hR.1, fun c cs _ => hR.2 c cs (room_any rfl _)⟩
theorem deep (n : Nat) : Fence.wide.depth.isSome = true → 1 ≤ n := fun h => by cases h
theorem grown_drew (w : World) : w.grownBy w.drew none := ⟨rfl, rfl, rfl, Nat.le_refl _, fun _ _ _ => rfl⟩
end Go.Proofs.YtdmpkgdlelagjaaGreatDoor.Sh
namespace Go.Proofs.YtdmpkgdlelagjaaGreatDoor.Ti
open Go.RowKit Go.Shelf Sh
attribute [local go_sem] Oper.semAt_some fold_none

/-- a node's cells as a walk reads them -/
def Sees (w' : World) (b : Nat) (e : Int) (pl pr : Option Addr) (n : Nat) : Prop := w'.cell? ⟨b, 0, none⟩ = some (.int .i64 e) ∧ (partAt ⟨b, 0, none⟩ 1 8).run Tryz.prog w' = .ok ⟨b, 1, none⟩ w' ∧ w'.cell? ⟨b, 1, none⟩ = some (.pointer pl) ∧ w'.cell? ⟨b, 2, none⟩ = some (.pointer pr) ∧ w'.cell? ⟨b, 3, none⟩ = some (.int .i64 (n : Int))
end Go.Proofs.YtdmpkgdlelagjaaGreatDoor.Ti
namespace Go.Proofs.YtdmpkgdlelagjaaGreatDoor.Ts
open Go.RowKit Go.Shelf Sh
attribute [local go_sem] Oper.semAt_some fold_none

/-- a node's cells as a walk reads them -/
def Sees (w' : World) (b : Nat) (e : ByteArray) (pl pr : Option Addr) (n : Nat) : Prop := w'.cell? ⟨b, 0, none⟩ = some (.string e) ∧ (partAt ⟨b, 0, none⟩ 1 16).run Tryz.prog w' = .ok ⟨b, 1, none⟩ w' ∧ w'.cell? ⟨b, 1, none⟩ = some (.pointer pl) ∧ w'.cell? ⟨b, 2, none⟩ = some (.pointer pr) ∧ w'.cell? ⟨b, 3, none⟩ = some (.int .i64 (n : Int))
theorem nodes_drew {W W' : World} (h : Nodes W W') : Nodes W W'.drew := h

set_option maxRecDepth 100000 in
set_option maxHeartbeats 4000000 in
theorem walkY_in (l N : Nat) (J Jx : List ByteArray → World → Prop) (hJ : ∀ s A B, J s A → A.grownBy B none → J s B)
    (hY : ∀ m pre x W, J pre W → pre.length < N → YieldAt Fence.wide m Tryz.prog l #[.string x, .agg #[]] W fun e W' => (e = .returned (.bool true) ∧ J (pre ++ [x]) W' ∧ Nodes W W') ∨ (e = .returned (.bool false) ∧ Jx (pre ++ [x]) W')) (T : Tr ByteArray) :
    ∀ (n : Nat) (p : Option Addr) (pre : List ByteArray) (W : World), IsTree W p T → J pre W → pre.length + T.flat.length ≤ N →
      CallsIn Fence.wide n Tryz.prog 91 #[.pointer p, .func (.yield l) #[] #[]] W fun e W' =>
        (e = .returned (.bool true) ∧ J (pre ++ T.flat) W' ∧ Nodes W W') ∨ (e = .returned (.bool false) ∧ ∃ q, q <+: T.flat ∧ Jx (pre ++ q) W') := by
  induction T with
  | nil =>
    intro n p pre W ht hj _
    obtain rfl : p = none := ht
    have hj2 := hJ _ _ _ hj (grown_drew W)
    refine callsIn_of_wp Tryz.func91 rfl trivial ?_ rfl
    simp only [Tryz.ntmps91, List.size_toArray, List.length_cons, List.length_nil, Nat.reduceAdd, Nat.reduceSub, Array.replicate_succ, Array.replicate_zero, List.push_toArray, List.append_toArray, List.nil_append, List.cons_append]
    gi_wp2
    refine wpIn_region_any (by kernel_rfl) ?_
    refine wpAnyIn_take (i := 0) (oi := { dst := some 5, op := _, type := _, pos := _, after := _, guard := none }) rfl rfl (by kernel_rfl) (by kernel_rfl) (by kernel_rfl) (fun _ _ _ h => h) ⟨Or.inl ⟨by rfl, fun _ => by go_simp <;> with_reducible rfl⟩, fun _ => by rfl⟩ ?_
    (try simp only [Act.put, List.setIfInBounds_toArray, List.set_cons_zero, List.set_cons_succ])
    refine wpAnyIn_take (i := 1) (oi := { dst := some 6, op := _, type := _, pos := _, after := _, guard := none }) rfl rfl (by kernel_rfl) (by kernel_rfl) (by kernel_rfl) (fun _ _ _ h => h) ⟨Or.inl ⟨by rfl, fun _ => by go_simp <;> with_reducible rfl⟩, fun _ => by rfl⟩ ?_
    (try simp only [Act.put, List.setIfInBounds_toArray, List.set_cons_zero, List.set_cons_succ])
    refine wpAnyIn_take (i := 2) (oi := { dst := some 7, op := _, type := _, pos := _, after := _, guard := none }) rfl rfl (by kernel_rfl) (by kernel_rfl) (by kernel_rfl) (fun _ _ _ h => h) ⟨Or.inl ⟨by rfl, fun _ => by go_simp <;> with_reducible rfl⟩, fun _ => by rfl⟩ ?_
    (try simp only [Act.put, List.setIfInBounds_toArray, List.set_cons_zero, List.set_cons_succ])
    refine wpAnyIn_take (i := 3) (oi := { dst := some 8, op := _, type := _, pos := _, after := _, guard := some (2, false) }) (v := undef) rfl rfl (by kernel_rfl) (by kernel_rfl) (by kernel_rfl) (fun _ _ _ h => h) ⟨Or.inr ⟨by rfl, rfl⟩, fun _ => by rfl⟩ ?_
    (try simp only [Act.put, List.setIfInBounds_toArray, List.set_cons_zero, List.set_cons_succ])
    refine wpAnyIn_take (i := 4) (oi := { dst := some 9, op := _, type := _, pos := _, after := _, guard := some (2, false) }) (v := undef) rfl rfl (by kernel_rfl) (by kernel_rfl) (by kernel_rfl) (fun _ _ _ h => h) ⟨Or.inr ⟨by rfl, rfl⟩, fun _ => by rfl⟩ ?_
    (try simp only [Act.put, List.setIfInBounds_toArray, List.set_cons_zero, List.set_cons_succ])
    refine wpAnyIn_take (i := 5) (oi := { dst := some 10, op := _, type := _, pos := _, after := _, guard := some (2, false) }) (v := undef) rfl rfl (by kernel_rfl) (by kernel_rfl) (by kernel_rfl) (fun _ _ _ h => h) ⟨Or.inr ⟨by rfl, rfl⟩, fun _ => by rfl⟩ ?_
    (try simp only [Act.put, List.setIfInBounds_toArray, List.set_cons_zero, List.set_cons_succ])
    refine wpAnyIn_take (i := 6) (oi := { dst := some 11, op := _, type := _, pos := _, after := _, guard := some (2, false) }) (v := undef) rfl rfl (by kernel_rfl) (by kernel_rfl) (by kernel_rfl) (fun _ _ _ h => h) ⟨Or.inr ⟨by rfl, rfl⟩, fun _ => by rfl⟩ ?_
    (try simp only [Act.put, List.setIfInBounds_toArray, List.set_cons_zero, List.set_cons_succ])
    refine wpAnyIn_take (i := 7) (oi := { dst := some 12, op := _, type := _, pos := _, after := _, guard := some (2, false) }) (v := undef) rfl rfl (by kernel_rfl) (by kernel_rfl) (by kernel_rfl) (fun _ _ _ h => h) ⟨Or.inr ⟨by rfl, rfl⟩, fun _ => by rfl⟩ ?_
    (try simp only [Act.put, List.setIfInBounds_toArray, List.set_cons_zero, List.set_cons_succ])
    refine wpAnyIn_ready (rs := [8]) (by kernel_rfl) (by simp) (AllReadyIn.cons (o := { dst := some 13, op := _, type := _, pos := _, after := _, guard := some (2, false) }) rfl (fun K hK => ?_) AllReadyIn.nil)
    go_simp
    refine ⟨?_, ?_⟩
    · first | trivial | (intros; trivial)
    refine hK _ _ ?_
    clear hK K
    (try simp only [Act.put, List.setIfInBounds_toArray, List.set_cons_zero, List.set_cons_succ])
    refine wpAnyIn_take (i := 9) (oi := { dst := some 14, op := _, type := _, pos := _, after := _, guard := some (2, false) }) (v := undef) rfl rfl (by kernel_rfl) (by kernel_rfl) (by kernel_rfl) (fun _ _ _ h => h) ⟨Or.inr ⟨by rfl, rfl⟩, fun _ => by rfl⟩ ?_
    (try simp only [Act.put, List.setIfInBounds_toArray, List.set_cons_zero, List.set_cons_succ])
    refine wpAnyIn_take (i := 10) (oi := { dst := some 15, op := _, type := _, pos := _, after := _, guard := some (9, true) }) (v := undef) rfl rfl (by kernel_rfl) (by kernel_rfl) (by kernel_rfl) (fun _ _ _ h => h) ⟨Or.inr ⟨by rfl, rfl⟩, fun _ => by rfl⟩ ?_
    (try simp only [Act.put, List.setIfInBounds_toArray, List.set_cons_zero, List.set_cons_succ])
    refine wpAnyIn_take (i := 11) (oi := { dst := some 16, op := _, type := _, pos := _, after := _, guard := some (9, true) }) (v := undef) rfl rfl (by kernel_rfl) (by kernel_rfl) (by kernel_rfl) (fun _ _ _ h => h) ⟨Or.inr ⟨by rfl, rfl⟩, fun _ => by rfl⟩ ?_
    (try simp only [Act.put, List.setIfInBounds_toArray, List.set_cons_zero, List.set_cons_succ])
    refine wpAnyIn_take (i := 12) (oi := { dst := some 17, op := _, type := _, pos := _, after := _, guard := some (9, true) }) (v := undef) rfl rfl (by kernel_rfl) (by kernel_rfl) (by kernel_rfl) (fun _ _ _ h => h) ⟨Or.inr ⟨by rfl, rfl⟩, fun _ => by rfl⟩ ?_
    (try simp only [Act.put, List.setIfInBounds_toArray, List.set_cons_zero, List.set_cons_succ])
    refine wpAnyIn_take (i := 13) (oi := { dst := some 18, op := _, type := _, pos := _, after := _, guard := some (9, true) }) (v := undef) rfl rfl (by kernel_rfl) (by kernel_rfl) (by kernel_rfl) (fun _ _ _ h => h) ⟨Or.inr ⟨by rfl, rfl⟩, fun _ => by rfl⟩ ?_
    (try simp only [Act.put, List.setIfInBounds_toArray, List.set_cons_zero, List.set_cons_succ])
    refine wpAnyIn_take (i := 14) (oi := { dst := some 19, op := _, type := _, pos := _, after := _, guard := some (9, true) }) (v := undef) rfl rfl (by kernel_rfl) (by kernel_rfl) (by kernel_rfl) (fun _ _ _ h => h) ⟨Or.inr ⟨by rfl, rfl⟩, fun _ => by rfl⟩ ?_
    (try simp only [Act.put, List.setIfInBounds_toArray, List.set_cons_zero, List.set_cons_succ])
    refine wpAnyIn_take (i := 15) (oi := { dst := some 20, op := _, type := _, pos := _, after := _, guard := some (9, true) }) (v := undef) rfl rfl (by kernel_rfl) (by kernel_rfl) (by kernel_rfl) (fun _ _ _ h => h) ⟨Or.inr ⟨by rfl, rfl⟩, fun _ => by rfl⟩ ?_
    (try simp only [Act.put, List.setIfInBounds_toArray, List.set_cons_zero, List.set_cons_succ])
    refine wpAnyIn_take (i := 16) (oi := { dst := some 21, op := _, type := _, pos := _, after := _, guard := some (9, true) }) (v := undef) rfl rfl (by kernel_rfl) (by kernel_rfl) (by kernel_rfl) (fun _ _ _ h => h) ⟨Or.inr ⟨by rfl, rfl⟩, fun _ => by rfl⟩ ?_
    (try simp only [Act.put, List.setIfInBounds_toArray, List.set_cons_zero, List.set_cons_succ])
    refine wpAnyIn_take (i := 17) (oi := { dst := some 22, op := _, type := _, pos := _, after := _, guard := some (9, true) }) (v := undef) rfl rfl (by kernel_rfl) (by kernel_rfl) (by kernel_rfl) (fun _ _ _ h => h) ⟨Or.inr ⟨by rfl, rfl⟩, fun _ => by rfl⟩ ?_
    (try simp only [Act.put, List.setIfInBounds_toArray, List.set_cons_zero, List.set_cons_succ])
    refine wpAnyIn_take (i := 18) (oi := { dst := some 23, op := _, type := _, pos := _, after := _, guard := some (9, true) }) (v := undef) rfl rfl (by kernel_rfl) (by kernel_rfl) (by kernel_rfl) (fun _ _ _ h => h) ⟨Or.inr ⟨by rfl, rfl⟩, fun _ => by rfl⟩ ?_
    (try simp only [Act.put, List.setIfInBounds_toArray, List.set_cons_zero, List.set_cons_succ])
    refine wpAnyIn_ready (rs := [19]) (by kernel_rfl) (by simp) (AllReadyIn.cons (o := { dst := some 24, op := _, type := _, pos := _, after := _, guard := some (9, true) }) rfl (fun K hK => ?_) AllReadyIn.nil)
    go_simp
    refine ⟨?_, ?_⟩
    · first | trivial | (intros; trivial)
    refine hK _ _ ?_
    clear hK K
    (try simp only [Act.put, List.setIfInBounds_toArray, List.set_cons_zero, List.set_cons_succ])
    refine wpAnyIn_take (i := 20) (oi := { dst := some 25, op := _, type := _, pos := _, after := _, guard := some (2, false) }) (v := undef) rfl rfl (by kernel_rfl) (by kernel_rfl) (by kernel_rfl) (fun _ _ _ h => h) ⟨Or.inr ⟨by rfl, rfl⟩, fun _ => by rfl⟩ ?_
    (try simp only [Act.put, List.setIfInBounds_toArray, List.set_cons_zero, List.set_cons_succ])
    refine wpAnyIn_take (i := 21) (oi := { dst := some 26, op := _, type := _, pos := _, after := _, guard := some (2, false) }) (v := undef) rfl rfl (by kernel_rfl) (by kernel_rfl) (by kernel_rfl) (fun _ _ _ h => h) ⟨Or.inr ⟨by rfl, rfl⟩, fun _ => by rfl⟩ ?_
    (try simp only [Act.put, List.setIfInBounds_toArray, List.set_cons_zero, List.set_cons_succ])
    refine wpAnyIn_take (i := 22) (oi := { dst := some 27, op := _, type := _, pos := _, after := _, guard := some (21, true) }) (v := undef) rfl rfl (by kernel_rfl) (by kernel_rfl) (by kernel_rfl) (fun _ _ _ h => h) ⟨Or.inr ⟨by rfl, rfl⟩, fun _ => by rfl⟩ ?_
    (try simp only [Act.put, List.setIfInBounds_toArray, List.set_cons_zero, List.set_cons_succ])
    refine wpAnyIn_take (i := 23) (oi := { dst := some 28, op := _, type := _, pos := _, after := _, guard := some (21, true) }) (v := undef) rfl rfl (by kernel_rfl) (by kernel_rfl) (by kernel_rfl) (fun _ _ _ h => h) ⟨Or.inr ⟨by rfl, rfl⟩, fun _ => by rfl⟩ ?_
    (try simp only [Act.put, List.setIfInBounds_toArray, List.set_cons_zero, List.set_cons_succ])
    refine wpAnyIn_take (i := 24) (oi := { dst := some 29, op := _, type := _, pos := _, after := _, guard := some (21, true) }) (v := undef) rfl rfl (by kernel_rfl) (by kernel_rfl) (by kernel_rfl) (fun _ _ _ h => h) ⟨Or.inr ⟨by rfl, rfl⟩, fun _ => by rfl⟩ ?_
    (try simp only [Act.put, List.setIfInBounds_toArray, List.set_cons_zero, List.set_cons_succ])
    refine wpAnyIn_take (i := 25) (oi := { dst := some 30, op := _, type := _, pos := _, after := _, guard := some (21, true) }) (v := undef) rfl rfl (by kernel_rfl) (by kernel_rfl) (by kernel_rfl) (fun _ _ _ h => h) ⟨Or.inr ⟨by rfl, rfl⟩, fun _ => by rfl⟩ ?_
    (try simp only [Act.put, List.setIfInBounds_toArray, List.set_cons_zero, List.set_cons_succ])
    refine wpAnyIn_take (i := 26) (oi := { dst := some 31, op := _, type := _, pos := _, after := _, guard := some (21, true) }) (v := undef) rfl rfl (by kernel_rfl) (by kernel_rfl) (by kernel_rfl) (fun _ _ _ h => h) ⟨Or.inr ⟨by rfl, rfl⟩, fun _ => by rfl⟩ ?_
    (try simp only [Act.put, List.setIfInBounds_toArray, List.set_cons_zero, List.set_cons_succ])
    refine wpAnyIn_ready (rs := [27]) (by kernel_rfl) (by simp) (AllReadyIn.cons (o := { dst := some 32, op := _, type := _, pos := _, after := _, guard := some (21, true) }) rfl (fun K hK => ?_) AllReadyIn.nil)
    go_simp
    refine ⟨?_, ?_⟩
    · first | trivial | (intros; trivial)
    refine hK _ _ ?_
    clear hK K
    (try simp only [Act.put, List.setIfInBounds_toArray, List.set_cons_zero, List.set_cons_succ])
    refine wpAnyIn_take (i := 28) (oi := { dst := some 33, op := _, type := _, pos := _, after := _, guard := some (2, false) }) (v := undef) rfl rfl (by kernel_rfl) (by kernel_rfl) (by kernel_rfl) (fun _ _ _ h => h) ⟨Or.inr ⟨by rfl, rfl⟩, fun _ => by rfl⟩ ?_
    (try simp only [Act.put, List.setIfInBounds_toArray, List.set_cons_zero, List.set_cons_succ])
    refine wpAnyIn_take (i := 29) (oi := { dst := some 34, op := _, type := _, pos := _, after := _, guard := none }) rfl rfl (by kernel_rfl) (by kernel_rfl) (by kernel_rfl) (fun _ _ _ h => h) ⟨Or.inl ⟨by rfl, fun _ => by go_simp <;> with_reducible rfl⟩, fun _ => by rfl⟩ ?_
    (try simp only [Act.put, List.setIfInBounds_toArray, List.set_cons_zero, List.set_cons_succ])
    refine wpAnyIn_take (i := 30) (oi := { dst := some 4, op := _, type := _, pos := _, after := _, guard := none }) rfl rfl (by kernel_rfl) (by kernel_rfl) (by kernel_rfl) (fun _ _ _ h => h) ⟨Or.inl ⟨by rfl, fun _ => by go_simp <;> with_reducible rfl⟩, fun _ => by rfl⟩ ?_
    (try simp only [Act.put, List.setIfInBounds_toArray, List.set_cons_zero, List.set_cons_succ])
    refine wpAnyIn_done (by kernel_rfl) ?_ _
    (gi_wp2; go_ret; exact .inl ⟨rfl, by simpa [Tr.flat] using hj2, nodes_below (b_drew W)⟩)
  | node tl x tr ihl ihr =>
    intro n p pre W ht hj hN
    obtain ⟨b, pl, pr, rfl, hNd, hl, hr⟩ := ht
    have hd := b_drew W
    have hS0 : Sees W.drew b x pl pr (Tr.node tl x tr).num := (hNd.kept (nodes_below hd)).cells
    have hflat : (Tr.node tl x tr).flat = tl.flat ++ x :: tr.flat := rfl
    simp only [hflat, List.length_append, List.length_cons] at hN
    have hy2 : ∀ W1, J (pre ++ tl.flat) W1 → Nodes W.drew W1 → YieldAt Fence.wide (n - 1) Tryz.prog l #[.string x, .agg #[]] W1 fun e W2 =>
        (e = .returned (.bool true) ∧ J (pre ++ tl.flat ++ [x]) W2 ∧ Nodes W W2 ∧ W2.cell? ⟨b, 2, none⟩ = some (.pointer pr) ∧ IsTree W2 pr tr) ∨ (e = .returned (.bool false) ∧ Jx (pre ++ tl.flat ++ [x]) W2) := fun W1 h1 n1 =>
      YieldAt.mono (hY (n - 1) _ x W1 h1 (by simp; omega)) fun e W2 h => h.elim
        (fun ⟨he, hj2, n2⟩ => have n3 : Nodes W W2 := (nodes_below hd).trans (n1.trans n2); .inl ⟨he, hj2, n3, (hNd.kept n3).right, hr.kept n3⟩) .inr
    have ih1 := (ihl (n - 1) pl pre W.drew (hl.next hd) (hJ _ _ _ hj (grown_drew W)) (by omega)).mono (R' := fun e W1 =>
        (e = .returned (.bool true) ∧ Sees W1 b x pl pr (Tr.node tl x tr).num ∧ YieldAt Fence.wide (n - 1) Tryz.prog l #[.string x, .agg #[]] W1 fun e W2 =>
          (e = .returned (.bool true) ∧ J (pre ++ tl.flat ++ [x]) W2 ∧ Nodes W W2 ∧ W2.cell? ⟨b, 2, none⟩ = some (.pointer pr) ∧ IsTree W2 pr tr) ∨ (e = .returned (.bool false) ∧ Jx (pre ++ tl.flat ++ [x]) W2)) ∨
        (e = .returned (.bool false) ∧ ∃ q, q <+: tl.flat ∧ Jx (pre ++ q) W1))
      (fun e W1 h => h.elim (fun ⟨he, hj1, n1⟩ => .inl ⟨he, (hNd.kept ((nodes_below hd).trans n1)).cells, hy2 W1 hj1 n1⟩) .inr)
    have ih2 := Lib.hid fun W2 (h2 : IsTree W2 pr tr) (hj2 : J (pre ++ tl.flat ++ [x]) W2) => ihr (n - 1) pr _ W2 h2 hj2 (by simp; omega)
    obtain ⟨s0, s1, s2, s3, s4⟩ := hS0
    replace hflat := Lib.hid hflat
    clear hy2 ihl ihr hNd hl hr hN hj hd
    generalize (Tr.node tl x tr).num = nn at *
    generalize (Tr.node tl x tr).flat = ff at *
    refine callsIn_of_wp Tryz.func91 rfl trivial ?_ rfl
    simp only [Tryz.ntmps91, List.size_toArray, List.length_cons, List.length_nil, Nat.reduceAdd, Nat.reduceSub, Array.replicate_succ, Array.replicate_zero, List.push_toArray, List.append_toArray, List.nil_append, List.cons_append]
    gi_wp2
    refine wpIn_region_any (by kernel_rfl) ?_
    refine wpAnyIn_take (i := 0) (oi := { dst := some 5, op := _, type := _, pos := _, after := _, guard := none }) rfl rfl (by kernel_rfl) (by kernel_rfl) (by kernel_rfl) (fun _ _ _ h => h) ⟨Or.inl ⟨by rfl, fun _ => by go_simp <;> with_reducible rfl⟩, fun _ => by rfl⟩ ?_
    (try simp only [Act.put, List.setIfInBounds_toArray, List.set_cons_zero, List.set_cons_succ])
    refine wpAnyIn_take (i := 1) (oi := { dst := some 6, op := _, type := _, pos := _, after := _, guard := none }) rfl rfl (by kernel_rfl) (by kernel_rfl) (by kernel_rfl) (fun _ _ _ h => h) ⟨Or.inl ⟨by rfl, fun _ => by go_simp <;> with_reducible rfl⟩, fun _ => by rfl⟩ ?_
    (try simp only [Act.put, List.setIfInBounds_toArray, List.set_cons_zero, List.set_cons_succ])
    refine wpAnyIn_take (i := 2) (oi := { dst := some 7, op := _, type := _, pos := _, after := _, guard := none }) rfl rfl (by kernel_rfl) (by kernel_rfl) (by kernel_rfl) (fun _ _ _ h => h) ⟨Or.inl ⟨by rfl, fun _ => by go_simp <;> with_reducible rfl⟩, fun _ => by rfl⟩ ?_
    (try simp only [Act.put, List.setIfInBounds_toArray, List.set_cons_zero, List.set_cons_succ])
    refine wpAnyIn_take (i := 3) (oi := { dst := some 8, op := _, type := _, pos := _, after := _, guard := some (2, false) }) rfl rfl (by kernel_rfl) (by kernel_rfl) (by kernel_rfl) (fun _ _ _ h => h) ⟨Or.inl ⟨by rfl, fun _ => by go_simp <;> with_reducible rfl⟩, fun _ => by rfl⟩ ?_
    (try simp only [Act.put, List.setIfInBounds_toArray, List.set_cons_zero, List.set_cons_succ])
    refine wpAnyIn_take (i := 4) (oi := { dst := some 9, op := _, type := _, pos := _, after := _, guard := some (2, false) }) rfl rfl (by kernel_rfl) (by kernel_rfl) (by kernel_rfl) (fun _ _ _ h => h) ⟨Or.inl ⟨by rfl, fun _ => by go_simp <;> with_reducible rfl⟩, fun _ => by rfl⟩ ?_
    (try simp only [Act.put, List.setIfInBounds_toArray, List.set_cons_zero, List.set_cons_succ])
    refine wpAnyIn_take (i := 5) (oi := { dst := some 10, op := _, type := _, pos := _, after := _, guard := some (2, false) }) rfl rfl (by kernel_rfl) (by kernel_rfl) (by kernel_rfl) (fun _ _ _ h => h) ⟨Or.inl ⟨by rfl, fun _ => by go_simp <;> with_reducible rfl⟩, fun _ => by rfl⟩ ?_
    (try simp only [Act.put, List.setIfInBounds_toArray, List.set_cons_zero, List.set_cons_succ])
    refine wpAnyIn_take (i := 7) (oi := { dst := some 12, op := _, type := _, pos := _, after := _, guard := some (2, false) }) rfl rfl (by kernel_rfl) (by kernel_rfl) (by kernel_rfl) (fun _ _ _ h => h) ⟨Or.inl ⟨by rfl, fun _ => by go_simp <;> with_reducible rfl⟩, fun _ => by rfl⟩ ?_
    (try simp only [Act.put, List.setIfInBounds_toArray, List.set_cons_zero, List.set_cons_succ])
    refine wpAnyIn_ready (rs := [6]) (by kernel_rfl) (by simp) (AllReadyIn.cons (o := { dst := some 11, op := _, type := _, pos := _, after := _, guard := some (2, false) }) rfl (fun K hK => ?_) AllReadyIn.nil)
    go_simp
    refine hK _ _ ?_
    clear hK K
    (try simp only [Act.put, List.setIfInBounds_toArray, List.set_cons_zero, List.set_cons_succ])
    refine wpAnyIn_ready (rs := [8]) (by kernel_rfl) (by simp) (AllReadyIn.cons (o := { dst := some 13, op := _, type := _, pos := _, after := _, guard := some (2, false) }) rfl (fun K hK => ?_) AllReadyIn.nil)
    go_simp
    (refine ⟨trivial, deep _, ?_⟩; refine ih1.mono ?_; clear ih1; rintro e W1 (⟨rfl, ⟨k0, k1, k2, k3, k4⟩, fn, tmps, assign, body, hy, hR⟩ | ⟨rfl, q, hq, hx1⟩))
    · refine hK _ _ ?_
      clear hK K
      (try simp only [Act.put, List.setIfInBounds_toArray, List.set_cons_zero, List.set_cons_succ])
      refine wpAnyIn_take (i := 9) (oi := { dst := some 14, op := _, type := _, pos := _, after := _, guard := some (2, false) }) rfl rfl (by kernel_rfl) (by kernel_rfl) (by kernel_rfl) (fun _ _ _ h => h) ⟨Or.inl ⟨by rfl, fun _ => by go_simp <;> with_reducible rfl⟩, fun _ => by rfl⟩ ?_
      (try simp only [Act.put, List.setIfInBounds_toArray, List.set_cons_zero, List.set_cons_succ])
      refine wpAnyIn_take (i := 10) (oi := { dst := some 15, op := _, type := _, pos := _, after := _, guard := some (9, true) }) rfl rfl (by kernel_rfl) (by kernel_rfl) (by kernel_rfl) (fun _ _ _ h => h) ⟨Or.inl ⟨by rfl, fun _ => by go_simp <;> with_reducible rfl⟩, fun _ => by rfl⟩ ?_
      (try simp only [Act.put, List.setIfInBounds_toArray, List.set_cons_zero, List.set_cons_succ])
      refine wpAnyIn_take (i := 11) (oi := { dst := some 16, op := _, type := _, pos := _, after := _, guard := some (9, true) }) rfl rfl (by kernel_rfl) (by kernel_rfl) (by kernel_rfl) (fun _ _ _ h => h) ⟨Or.inl ⟨by rfl, fun _ => by go_simp <;> with_reducible rfl⟩, fun _ => by rfl⟩ ?_
      (try simp only [Act.put, List.setIfInBounds_toArray, List.set_cons_zero, List.set_cons_succ])
      refine wpAnyIn_take (i := 12) (oi := { dst := some 17, op := _, type := _, pos := _, after := _, guard := some (9, true) }) rfl rfl (by kernel_rfl) (by kernel_rfl) (by kernel_rfl) (fun _ _ _ h => h) ⟨Or.inl ⟨by rfl, fun _ => by go_simp <;> with_reducible rfl⟩, fun _ => by rfl⟩ ?_
      (try simp only [Act.put, List.setIfInBounds_toArray, List.set_cons_zero, List.set_cons_succ])
      refine wpAnyIn_take (i := 13) (oi := { dst := some 18, op := _, type := _, pos := _, after := _, guard := some (9, true) }) rfl rfl (by kernel_rfl) (by kernel_rfl) (by kernel_rfl) (fun _ _ _ h => h) ⟨Or.inl ⟨by rfl, fun _ => by go_simp <;> with_reducible rfl⟩, fun _ => by rfl⟩ ?_
      (try simp only [Act.put, List.setIfInBounds_toArray, List.set_cons_zero, List.set_cons_succ])
      refine wpAnyIn_take (i := 15) (oi := { dst := some 20, op := _, type := _, pos := _, after := _, guard := some (9, true) }) rfl rfl (by kernel_rfl) (by kernel_rfl) (by kernel_rfl) (fun _ _ _ h => h) ⟨Or.inl ⟨by rfl, fun _ => by go_simp <;> with_reducible rfl⟩, fun _ => by rfl⟩ ?_
      (try simp only [Act.put, List.setIfInBounds_toArray, List.set_cons_zero, List.set_cons_succ])
      refine wpAnyIn_take (i := 16) (oi := { dst := some 21, op := _, type := _, pos := _, after := _, guard := some (9, true) }) rfl rfl (by kernel_rfl) (by kernel_rfl) (by kernel_rfl) (fun _ _ _ h => h) ⟨Or.inl ⟨by rfl, fun _ => by go_simp <;> with_reducible rfl⟩, fun _ => by rfl⟩ ?_
      (try simp only [Act.put, List.setIfInBounds_toArray, List.set_cons_zero, List.set_cons_succ])
      refine wpAnyIn_ready (rs := [14, 17]) (by kernel_rfl) (by simp) (AllReadyIn.cons (o := { dst := some 19, op := _, type := _, pos := _, after := _, guard := some (9, true) }) rfl (fun K hK => ?_) (AllReadyIn.cons (o := { dst := some 22, op := _, type := _, pos := _, after := _, guard := some (9, true) }) rfl (fun K hK => ?_) AllReadyIn.nil))
      ·
        go_simp
        refine hK _ _ ?_
        clear hK K
        (try simp only [Act.put, List.setIfInBounds_toArray, List.set_cons_zero, List.set_cons_succ])
        refine wpAnyIn_ready (rs := [17]) (by kernel_rfl) (by simp) (AllReadyIn.cons (o := { dst := some 22, op := _, type := _, pos := _, after := _, guard := some (9, true) }) rfl (fun K hK => ?_) AllReadyIn.nil)
        go_simp
        refine hK _ _ ?_
        clear hK K
        (try simp only [Act.put, List.setIfInBounds_toArray, List.set_cons_zero, List.set_cons_succ])
        refine wpAnyIn_ready (rs := [18]) (by kernel_rfl) (by simp) (AllReadyIn.cons (o := { dst := some 23, op := _, type := _, pos := _, after := _, guard := some (9, true) }) rfl (fun K hK => ?_) AllReadyIn.nil)
        go_simp
        refine hK _ _ ?_
        clear hK K
        (try simp only [Act.put, List.setIfInBounds_toArray, List.set_cons_zero, List.set_cons_succ])
        refine wpAnyIn_ready (rs := [19]) (by kernel_rfl) (by simp) (AllReadyIn.cons (o := { dst := some 24, op := _, type := _, pos := _, after := _, guard := some (9, true) }) rfl (fun K hK => ?_) AllReadyIn.nil)
        go_simp
        (first | refine ⟨deep _, ?_⟩ | refine ⟨by intros; trivial, deep _, ?_⟩); (refine hR.mono ?_; clear hR; rintro e W2 (⟨rfl, hJ2, n2, c2, hr2⟩ | ⟨rfl, hx2⟩))
        · refine hK _ _ ?_
          clear hK K
          (try simp only [Act.put, List.setIfInBounds_toArray, List.set_cons_zero, List.set_cons_succ])
          refine wpAnyIn_take (i := 20) (oi := { dst := some 25, op := _, type := _, pos := _, after := _, guard := some (2, false) }) rfl rfl (by kernel_rfl) (by kernel_rfl) (by kernel_rfl) (fun _ _ _ h => h) ⟨Or.inl ⟨by rfl, fun _ => by go_simp <;> with_reducible rfl⟩, fun _ => by rfl⟩ ?_
          (try simp only [Act.put, List.setIfInBounds_toArray, List.set_cons_zero, List.set_cons_succ])
          refine wpAnyIn_take (i := 21) (oi := { dst := some 26, op := _, type := _, pos := _, after := _, guard := some (2, false) }) rfl rfl (by kernel_rfl) (by kernel_rfl) (by kernel_rfl) (fun _ _ _ h => h) ⟨Or.inl ⟨by rfl, fun _ => by go_simp <;> with_reducible rfl⟩, fun _ => by rfl⟩ ?_
          (try simp only [Act.put, List.setIfInBounds_toArray, List.set_cons_zero, List.set_cons_succ])
          refine wpAnyIn_take (i := 22) (oi := { dst := some 27, op := _, type := _, pos := _, after := _, guard := some (21, true) }) rfl rfl (by kernel_rfl) (by kernel_rfl) (by kernel_rfl) (fun _ _ _ h => h) ⟨Or.inl ⟨by rfl, fun _ => by go_simp <;> with_reducible rfl⟩, fun _ => by rfl⟩ ?_
          (try simp only [Act.put, List.setIfInBounds_toArray, List.set_cons_zero, List.set_cons_succ])
          refine wpAnyIn_take (i := 23) (oi := { dst := some 28, op := _, type := _, pos := _, after := _, guard := some (21, true) }) rfl rfl (by kernel_rfl) (by kernel_rfl) (by kernel_rfl) (fun _ _ _ h => h) ⟨Or.inl ⟨by rfl, fun _ => by go_simp <;> with_reducible rfl⟩, fun _ => by rfl⟩ ?_
          (try simp only [Act.put, List.setIfInBounds_toArray, List.set_cons_zero, List.set_cons_succ])
          refine wpAnyIn_take (i := 24) (oi := { dst := some 29, op := _, type := _, pos := _, after := _, guard := some (21, true) }) rfl rfl (by kernel_rfl) (by kernel_rfl) (by kernel_rfl) (fun _ _ _ h => h) ⟨Or.inl ⟨by rfl, fun _ => by go_simp <;> with_reducible rfl⟩, fun _ => by rfl⟩ ?_
          (try simp only [Act.put, List.setIfInBounds_toArray, List.set_cons_zero, List.set_cons_succ])
          refine wpAnyIn_take (i := 26) (oi := { dst := some 31, op := _, type := _, pos := _, after := _, guard := some (21, true) }) rfl rfl (by kernel_rfl) (by kernel_rfl) (by kernel_rfl) (fun _ _ _ h => h) ⟨Or.inl ⟨by rfl, fun _ => by go_simp <;> with_reducible rfl⟩, fun _ => by rfl⟩ ?_
          (try simp only [Act.put, List.setIfInBounds_toArray, List.set_cons_zero, List.set_cons_succ])
          refine wpAnyIn_ready (rs := [25]) (by kernel_rfl) (by simp) (AllReadyIn.cons (o := { dst := some 30, op := _, type := _, pos := _, after := _, guard := some (21, true) }) rfl (fun K hK => ?_) AllReadyIn.nil)
          go_simp
          refine hK _ _ ?_
          clear hK K
          (try simp only [Act.put, List.setIfInBounds_toArray, List.set_cons_zero, List.set_cons_succ])
          refine wpAnyIn_ready (rs := [27]) (by kernel_rfl) (by simp) (AllReadyIn.cons (o := { dst := some 32, op := _, type := _, pos := _, after := _, guard := some (21, true) }) rfl (fun K hK => ?_) AllReadyIn.nil)
          go_simp
          (refine ⟨trivial, deep _, ?_⟩; refine (ih2.out _ hr2 hJ2).mono ?_; rintro e W3 (⟨rfl, hJ3, n3⟩ | ⟨rfl, q, hq, hx3⟩))
          · refine hK _ _ ?_
            clear hK K
            (try simp only [Act.put, List.setIfInBounds_toArray, List.set_cons_zero, List.set_cons_succ])
            refine wpAnyIn_take (i := 28) (oi := { dst := some 33, op := _, type := _, pos := _, after := _, guard := some (2, false) }) rfl rfl (by kernel_rfl) (by kernel_rfl) (by kernel_rfl) (fun _ _ _ h => h) ⟨Or.inl ⟨by rfl, fun _ => by go_simp <;> with_reducible rfl⟩, fun _ => by rfl⟩ ?_
            (try simp only [Act.put, List.setIfInBounds_toArray, List.set_cons_zero, List.set_cons_succ])
            refine wpAnyIn_take (i := 29) (oi := { dst := some 34, op := _, type := _, pos := _, after := _, guard := none }) rfl rfl (by kernel_rfl) (by kernel_rfl) (by kernel_rfl) (fun _ _ _ h => h) ⟨Or.inl ⟨by rfl, fun _ => by go_simp <;> with_reducible rfl⟩, fun _ => by rfl⟩ ?_
            (try simp only [Act.put, List.setIfInBounds_toArray, List.set_cons_zero, List.set_cons_succ])
            refine wpAnyIn_take (i := 30) (oi := { dst := some 4, op := _, type := _, pos := _, after := _, guard := none }) rfl rfl (by kernel_rfl) (by kernel_rfl) (by kernel_rfl) (fun _ _ _ h => h) ⟨Or.inl ⟨by rfl, fun _ => by go_simp <;> with_reducible rfl⟩, fun _ => by rfl⟩ ?_
            (try simp only [Act.put, List.setIfInBounds_toArray, List.set_cons_zero, List.set_cons_succ])
            refine wpAnyIn_done (by kernel_rfl) ?_ _
            (gi_wp2; go_ret; exact .inl ⟨rfl, by rw [hflat.out]; simpa [List.append_assoc] using hJ3, n2.trans n3⟩)
          · refine hK _ _ ?_
            clear hK K
            (try simp only [Act.put, List.setIfInBounds_toArray, List.set_cons_zero, List.set_cons_succ])
            refine wpAnyIn_take (i := 28) (oi := { dst := some 33, op := _, type := _, pos := _, after := _, guard := some (2, false) }) rfl rfl (by kernel_rfl) (by kernel_rfl) (by kernel_rfl) (fun _ _ _ h => h) ⟨Or.inl ⟨by rfl, fun _ => by go_simp <;> with_reducible rfl⟩, fun _ => by rfl⟩ ?_
            (try simp only [Act.put, List.setIfInBounds_toArray, List.set_cons_zero, List.set_cons_succ])
            refine wpAnyIn_take (i := 29) (oi := { dst := some 34, op := _, type := _, pos := _, after := _, guard := none }) rfl rfl (by kernel_rfl) (by kernel_rfl) (by kernel_rfl) (fun _ _ _ h => h) ⟨Or.inl ⟨by rfl, fun _ => by go_simp <;> with_reducible rfl⟩, fun _ => by rfl⟩ ?_
            (try simp only [Act.put, List.setIfInBounds_toArray, List.set_cons_zero, List.set_cons_succ])
            refine wpAnyIn_take (i := 30) (oi := { dst := some 4, op := _, type := _, pos := _, after := _, guard := none }) rfl rfl (by kernel_rfl) (by kernel_rfl) (by kernel_rfl) (fun _ _ _ h => h) ⟨Or.inl ⟨by rfl, fun _ => by go_simp <;> with_reducible rfl⟩, fun _ => by rfl⟩ ?_
            (try simp only [Act.put, List.setIfInBounds_toArray, List.set_cons_zero, List.set_cons_succ])
            refine wpAnyIn_done (by kernel_rfl) ?_ _
            (gi_wp2; go_ret; obtain ⟨r, hr'⟩ := hq; exact .inr ⟨rfl, tl.flat ++ x :: q, by rw [hflat.out]; exact ⟨r, by simp [← hr']⟩, by simpa [List.append_assoc] using hx3⟩)
        · refine hK _ _ ?_
          clear hK K
          (try simp only [Act.put, List.setIfInBounds_toArray, List.set_cons_zero, List.set_cons_succ])
          refine wpAnyIn_take (i := 20) (oi := { dst := some 25, op := _, type := _, pos := _, after := _, guard := some (2, false) }) rfl rfl (by kernel_rfl) (by kernel_rfl) (by kernel_rfl) (fun _ _ _ h => h) ⟨Or.inl ⟨by rfl, fun _ => by go_simp <;> with_reducible rfl⟩, fun _ => by rfl⟩ ?_
          (try simp only [Act.put, List.setIfInBounds_toArray, List.set_cons_zero, List.set_cons_succ])
          refine wpAnyIn_take (i := 21) (oi := { dst := some 26, op := _, type := _, pos := _, after := _, guard := some (2, false) }) rfl rfl (by kernel_rfl) (by kernel_rfl) (by kernel_rfl) (fun _ _ _ h => h) ⟨Or.inl ⟨by rfl, fun _ => by go_simp <;> with_reducible rfl⟩, fun _ => by rfl⟩ ?_
          (try simp only [Act.put, List.setIfInBounds_toArray, List.set_cons_zero, List.set_cons_succ])
          refine wpAnyIn_take (i := 22) (oi := { dst := some 27, op := _, type := _, pos := _, after := _, guard := some (21, true) }) (v := undef) rfl rfl (by kernel_rfl) (by kernel_rfl) (by kernel_rfl) (fun _ _ _ h => h) ⟨Or.inr ⟨by rfl, rfl⟩, fun _ => by rfl⟩ ?_
          (try simp only [Act.put, List.setIfInBounds_toArray, List.set_cons_zero, List.set_cons_succ])
          refine wpAnyIn_take (i := 23) (oi := { dst := some 28, op := _, type := _, pos := _, after := _, guard := some (21, true) }) (v := undef) rfl rfl (by kernel_rfl) (by kernel_rfl) (by kernel_rfl) (fun _ _ _ h => h) ⟨Or.inr ⟨by rfl, rfl⟩, fun _ => by rfl⟩ ?_
          (try simp only [Act.put, List.setIfInBounds_toArray, List.set_cons_zero, List.set_cons_succ])
          refine wpAnyIn_take (i := 24) (oi := { dst := some 29, op := _, type := _, pos := _, after := _, guard := some (21, true) }) (v := undef) rfl rfl (by kernel_rfl) (by kernel_rfl) (by kernel_rfl) (fun _ _ _ h => h) ⟨Or.inr ⟨by rfl, rfl⟩, fun _ => by rfl⟩ ?_
          (try simp only [Act.put, List.setIfInBounds_toArray, List.set_cons_zero, List.set_cons_succ])
          refine wpAnyIn_take (i := 25) (oi := { dst := some 30, op := _, type := _, pos := _, after := _, guard := some (21, true) }) (v := undef) rfl rfl (by kernel_rfl) (by kernel_rfl) (by kernel_rfl) (fun _ _ _ h => h) ⟨Or.inr ⟨by rfl, rfl⟩, fun _ => by rfl⟩ ?_
          (try simp only [Act.put, List.setIfInBounds_toArray, List.set_cons_zero, List.set_cons_succ])
          refine wpAnyIn_take (i := 26) (oi := { dst := some 31, op := _, type := _, pos := _, after := _, guard := some (21, true) }) (v := undef) rfl rfl (by kernel_rfl) (by kernel_rfl) (by kernel_rfl) (fun _ _ _ h => h) ⟨Or.inr ⟨by rfl, rfl⟩, fun _ => by rfl⟩ ?_
          (try simp only [Act.put, List.setIfInBounds_toArray, List.set_cons_zero, List.set_cons_succ])
          refine wpAnyIn_ready (rs := [27]) (by kernel_rfl) (by simp) (AllReadyIn.cons (o := { dst := some 32, op := _, type := _, pos := _, after := _, guard := some (21, true) }) rfl (fun K hK => ?_) AllReadyIn.nil)
          go_simp
          refine ⟨?_, ?_⟩
          · first | trivial | (intros; trivial)
          refine hK _ _ ?_
          clear hK K
          (try simp only [Act.put, List.setIfInBounds_toArray, List.set_cons_zero, List.set_cons_succ])
          refine wpAnyIn_take (i := 28) (oi := { dst := some 33, op := _, type := _, pos := _, after := _, guard := some (2, false) }) rfl rfl (by kernel_rfl) (by kernel_rfl) (by kernel_rfl) (fun _ _ _ h => h) ⟨Or.inl ⟨by rfl, fun _ => by go_simp <;> with_reducible rfl⟩, fun _ => by rfl⟩ ?_
          (try simp only [Act.put, List.setIfInBounds_toArray, List.set_cons_zero, List.set_cons_succ])
          refine wpAnyIn_take (i := 29) (oi := { dst := some 34, op := _, type := _, pos := _, after := _, guard := none }) rfl rfl (by kernel_rfl) (by kernel_rfl) (by kernel_rfl) (fun _ _ _ h => h) ⟨Or.inl ⟨by rfl, fun _ => by go_simp <;> with_reducible rfl⟩, fun _ => by rfl⟩ ?_
          (try simp only [Act.put, List.setIfInBounds_toArray, List.set_cons_zero, List.set_cons_succ])
          refine wpAnyIn_take (i := 30) (oi := { dst := some 4, op := _, type := _, pos := _, after := _, guard := none }) rfl rfl (by kernel_rfl) (by kernel_rfl) (by kernel_rfl) (fun _ _ _ h => h) ⟨Or.inl ⟨by rfl, fun _ => by go_simp <;> with_reducible rfl⟩, fun _ => by rfl⟩ ?_
          (try simp only [Act.put, List.setIfInBounds_toArray, List.set_cons_zero, List.set_cons_succ])
          refine wpAnyIn_done (by kernel_rfl) ?_ _
          (gi_wp2; go_ret; exact .inr ⟨rfl, tl.flat ++ [x], by rw [hflat.out]; exact ⟨tr.flat, by simp⟩, by simpa [List.append_assoc] using hx2⟩)
      ·
        go_simp
        refine hK _ _ ?_
        clear hK K
        (try simp only [Act.put, List.setIfInBounds_toArray, List.set_cons_zero, List.set_cons_succ])
        refine wpAnyIn_ready (rs := [14, 18]) (by kernel_rfl) (by simp) (AllReadyIn.cons (o := { dst := some 19, op := _, type := _, pos := _, after := _, guard := some (9, true) }) rfl (fun K hK => ?_) (AllReadyIn.cons (o := { dst := some 23, op := _, type := _, pos := _, after := _, guard := some (9, true) }) rfl (fun K hK => ?_) AllReadyIn.nil))
        ·
          go_simp
          refine hK _ _ ?_
          clear hK K
          (try simp only [Act.put, List.setIfInBounds_toArray, List.set_cons_zero, List.set_cons_succ])
          refine wpAnyIn_ready (rs := [18]) (by kernel_rfl) (by simp) (AllReadyIn.cons (o := { dst := some 23, op := _, type := _, pos := _, after := _, guard := some (9, true) }) rfl (fun K hK => ?_) AllReadyIn.nil)
          go_simp
          refine hK _ _ ?_
          clear hK K
          (try simp only [Act.put, List.setIfInBounds_toArray, List.set_cons_zero, List.set_cons_succ])
          refine wpAnyIn_ready (rs := [19]) (by kernel_rfl) (by simp) (AllReadyIn.cons (o := { dst := some 24, op := _, type := _, pos := _, after := _, guard := some (9, true) }) rfl (fun K hK => ?_) AllReadyIn.nil)
          go_simp
          (first | refine ⟨deep _, ?_⟩ | refine ⟨by intros; trivial, deep _, ?_⟩); (refine hR.mono ?_; clear hR; rintro e W2 (⟨rfl, hJ2, n2, c2, hr2⟩ | ⟨rfl, hx2⟩))
          · refine hK _ _ ?_
            clear hK K
            (try simp only [Act.put, List.setIfInBounds_toArray, List.set_cons_zero, List.set_cons_succ])
            refine wpAnyIn_take (i := 20) (oi := { dst := some 25, op := _, type := _, pos := _, after := _, guard := some (2, false) }) rfl rfl (by kernel_rfl) (by kernel_rfl) (by kernel_rfl) (fun _ _ _ h => h) ⟨Or.inl ⟨by rfl, fun _ => by go_simp <;> with_reducible rfl⟩, fun _ => by rfl⟩ ?_
            (try simp only [Act.put, List.setIfInBounds_toArray, List.set_cons_zero, List.set_cons_succ])
            refine wpAnyIn_take (i := 21) (oi := { dst := some 26, op := _, type := _, pos := _, after := _, guard := some (2, false) }) rfl rfl (by kernel_rfl) (by kernel_rfl) (by kernel_rfl) (fun _ _ _ h => h) ⟨Or.inl ⟨by rfl, fun _ => by go_simp <;> with_reducible rfl⟩, fun _ => by rfl⟩ ?_
            (try simp only [Act.put, List.setIfInBounds_toArray, List.set_cons_zero, List.set_cons_succ])
            refine wpAnyIn_take (i := 22) (oi := { dst := some 27, op := _, type := _, pos := _, after := _, guard := some (21, true) }) rfl rfl (by kernel_rfl) (by kernel_rfl) (by kernel_rfl) (fun _ _ _ h => h) ⟨Or.inl ⟨by rfl, fun _ => by go_simp <;> with_reducible rfl⟩, fun _ => by rfl⟩ ?_
            (try simp only [Act.put, List.setIfInBounds_toArray, List.set_cons_zero, List.set_cons_succ])
            refine wpAnyIn_take (i := 23) (oi := { dst := some 28, op := _, type := _, pos := _, after := _, guard := some (21, true) }) rfl rfl (by kernel_rfl) (by kernel_rfl) (by kernel_rfl) (fun _ _ _ h => h) ⟨Or.inl ⟨by rfl, fun _ => by go_simp <;> with_reducible rfl⟩, fun _ => by rfl⟩ ?_
            (try simp only [Act.put, List.setIfInBounds_toArray, List.set_cons_zero, List.set_cons_succ])
            refine wpAnyIn_take (i := 24) (oi := { dst := some 29, op := _, type := _, pos := _, after := _, guard := some (21, true) }) rfl rfl (by kernel_rfl) (by kernel_rfl) (by kernel_rfl) (fun _ _ _ h => h) ⟨Or.inl ⟨by rfl, fun _ => by go_simp <;> with_reducible rfl⟩, fun _ => by rfl⟩ ?_
            (try simp only [Act.put, List.setIfInBounds_toArray, List.set_cons_zero, List.set_cons_succ])
            refine wpAnyIn_take (i := 26) (oi := { dst := some 31, op := _, type := _, pos := _, after := _, guard := some (21, true) }) rfl rfl (by kernel_rfl) (by kernel_rfl) (by kernel_rfl) (fun _ _ _ h => h) ⟨Or.inl ⟨by rfl, fun _ => by go_simp <;> with_reducible rfl⟩, fun _ => by rfl⟩ ?_
            (try simp only [Act.put, List.setIfInBounds_toArray, List.set_cons_zero, List.set_cons_succ])
            refine wpAnyIn_ready (rs := [25]) (by kernel_rfl) (by simp) (AllReadyIn.cons (o := { dst := some 30, op := _, type := _, pos := _, after := _, guard := some (21, true) }) rfl (fun K hK => ?_) AllReadyIn.nil)
            go_simp
            refine hK _ _ ?_
            clear hK K
            (try simp only [Act.put, List.setIfInBounds_toArray, List.set_cons_zero, List.set_cons_succ])
            refine wpAnyIn_ready (rs := [27]) (by kernel_rfl) (by simp) (AllReadyIn.cons (o := { dst := some 32, op := _, type := _, pos := _, after := _, guard := some (21, true) }) rfl (fun K hK => ?_) AllReadyIn.nil)
            go_simp
            (refine ⟨trivial, deep _, ?_⟩; refine (ih2.out _ hr2 hJ2).mono ?_; rintro e W3 (⟨rfl, hJ3, n3⟩ | ⟨rfl, q, hq, hx3⟩))
            · refine hK _ _ ?_
              clear hK K
              (try simp only [Act.put, List.setIfInBounds_toArray, List.set_cons_zero, List.set_cons_succ])
              refine wpAnyIn_take (i := 28) (oi := { dst := some 33, op := _, type := _, pos := _, after := _, guard := some (2, false) }) rfl rfl (by kernel_rfl) (by kernel_rfl) (by kernel_rfl) (fun _ _ _ h => h) ⟨Or.inl ⟨by rfl, fun _ => by go_simp <;> with_reducible rfl⟩, fun _ => by rfl⟩ ?_
              (try simp only [Act.put, List.setIfInBounds_toArray, List.set_cons_zero, List.set_cons_succ])
              refine wpAnyIn_take (i := 29) (oi := { dst := some 34, op := _, type := _, pos := _, after := _, guard := none }) rfl rfl (by kernel_rfl) (by kernel_rfl) (by kernel_rfl) (fun _ _ _ h => h) ⟨Or.inl ⟨by rfl, fun _ => by go_simp <;> with_reducible rfl⟩, fun _ => by rfl⟩ ?_
              (try simp only [Act.put, List.setIfInBounds_toArray, List.set_cons_zero, List.set_cons_succ])
              refine wpAnyIn_take (i := 30) (oi := { dst := some 4, op := _, type := _, pos := _, after := _, guard := none }) rfl rfl (by kernel_rfl) (by kernel_rfl) (by kernel_rfl) (fun _ _ _ h => h) ⟨Or.inl ⟨by rfl, fun _ => by go_simp <;> with_reducible rfl⟩, fun _ => by rfl⟩ ?_
              (try simp only [Act.put, List.setIfInBounds_toArray, List.set_cons_zero, List.set_cons_succ])
              refine wpAnyIn_done (by kernel_rfl) ?_ _
              (gi_wp2; go_ret; exact .inl ⟨rfl, by rw [hflat.out]; simpa [List.append_assoc] using hJ3, n2.trans n3⟩)
            · refine hK _ _ ?_
              clear hK K
              (try simp only [Act.put, List.setIfInBounds_toArray, List.set_cons_zero, List.set_cons_succ])
              refine wpAnyIn_take (i := 28) (oi := { dst := some 33, op := _, type := _, pos := _, after := _, guard := some (2, false) }) rfl rfl (by kernel_rfl) (by kernel_rfl) (by kernel_rfl) (fun _ _ _ h => h) ⟨Or.inl ⟨by rfl, fun _ => by go_simp <;> with_reducible rfl⟩, fun _ => by rfl⟩ ?_
              (try simp only [Act.put, List.setIfInBounds_toArray, List.set_cons_zero, List.set_cons_succ])
              refine wpAnyIn_take (i := 29) (oi := { dst := some 34, op := _, type := _, pos := _, after := _, guard := none }) rfl rfl (by kernel_rfl) (by kernel_rfl) (by kernel_rfl) (fun _ _ _ h => h) ⟨Or.inl ⟨by rfl, fun _ => by go_simp <;> with_reducible rfl⟩, fun _ => by rfl⟩ ?_
              (try simp only [Act.put, List.setIfInBounds_toArray, List.set_cons_zero, List.set_cons_succ])
              refine wpAnyIn_take (i := 30) (oi := { dst := some 4, op := _, type := _, pos := _, after := _, guard := none }) rfl rfl (by kernel_rfl) (by kernel_rfl) (by kernel_rfl) (fun _ _ _ h => h) ⟨Or.inl ⟨by rfl, fun _ => by go_simp <;> with_reducible rfl⟩, fun _ => by rfl⟩ ?_
              (try simp only [Act.put, List.setIfInBounds_toArray, List.set_cons_zero, List.set_cons_succ])
              refine wpAnyIn_done (by kernel_rfl) ?_ _
              (gi_wp2; go_ret; obtain ⟨r, hr'⟩ := hq; exact .inr ⟨rfl, tl.flat ++ x :: q, by rw [hflat.out]; exact ⟨r, by simp [← hr']⟩, by simpa [List.append_assoc] using hx3⟩)
          · refine hK _ _ ?_
            clear hK K
            (try simp only [Act.put, List.setIfInBounds_toArray, List.set_cons_zero, List.set_cons_succ])
            refine wpAnyIn_take (i := 20) (oi := { dst := some 25, op := _, type := _, pos := _, after := _, guard := some (2, false) }) rfl rfl (by kernel_rfl) (by kernel_rfl) (by kernel_rfl) (fun _ _ _ h => h) ⟨Or.inl ⟨by rfl, fun _ => by go_simp <;> with_reducible rfl⟩, fun _ => by rfl⟩ ?_
            (try simp only [Act.put, List.setIfInBounds_toArray, List.set_cons_zero, List.set_cons_succ])
            refine wpAnyIn_take (i := 21) (oi := { dst := some 26, op := _, type := _, pos := _, after := _, guard := some (2, false) }) rfl rfl (by kernel_rfl) (by kernel_rfl) (by kernel_rfl) (fun _ _ _ h => h) ⟨Or.inl ⟨by rfl, fun _ => by go_simp <;> with_reducible rfl⟩, fun _ => by rfl⟩ ?_
            (try simp only [Act.put, List.setIfInBounds_toArray, List.set_cons_zero, List.set_cons_succ])
            refine wpAnyIn_take (i := 22) (oi := { dst := some 27, op := _, type := _, pos := _, after := _, guard := some (21, true) }) (v := undef) rfl rfl (by kernel_rfl) (by kernel_rfl) (by kernel_rfl) (fun _ _ _ h => h) ⟨Or.inr ⟨by rfl, rfl⟩, fun _ => by rfl⟩ ?_
            (try simp only [Act.put, List.setIfInBounds_toArray, List.set_cons_zero, List.set_cons_succ])
            refine wpAnyIn_take (i := 23) (oi := { dst := some 28, op := _, type := _, pos := _, after := _, guard := some (21, true) }) (v := undef) rfl rfl (by kernel_rfl) (by kernel_rfl) (by kernel_rfl) (fun _ _ _ h => h) ⟨Or.inr ⟨by rfl, rfl⟩, fun _ => by rfl⟩ ?_
            (try simp only [Act.put, List.setIfInBounds_toArray, List.set_cons_zero, List.set_cons_succ])
            refine wpAnyIn_take (i := 24) (oi := { dst := some 29, op := _, type := _, pos := _, after := _, guard := some (21, true) }) (v := undef) rfl rfl (by kernel_rfl) (by kernel_rfl) (by kernel_rfl) (fun _ _ _ h => h) ⟨Or.inr ⟨by rfl, rfl⟩, fun _ => by rfl⟩ ?_
            (try simp only [Act.put, List.setIfInBounds_toArray, List.set_cons_zero, List.set_cons_succ])
            refine wpAnyIn_take (i := 25) (oi := { dst := some 30, op := _, type := _, pos := _, after := _, guard := some (21, true) }) (v := undef) rfl rfl (by kernel_rfl) (by kernel_rfl) (by kernel_rfl) (fun _ _ _ h => h) ⟨Or.inr ⟨by rfl, rfl⟩, fun _ => by rfl⟩ ?_
            (try simp only [Act.put, List.setIfInBounds_toArray, List.set_cons_zero, List.set_cons_succ])
            refine wpAnyIn_take (i := 26) (oi := { dst := some 31, op := _, type := _, pos := _, after := _, guard := some (21, true) }) (v := undef) rfl rfl (by kernel_rfl) (by kernel_rfl) (by kernel_rfl) (fun _ _ _ h => h) ⟨Or.inr ⟨by rfl, rfl⟩, fun _ => by rfl⟩ ?_
            (try simp only [Act.put, List.setIfInBounds_toArray, List.set_cons_zero, List.set_cons_succ])
            refine wpAnyIn_ready (rs := [27]) (by kernel_rfl) (by simp) (AllReadyIn.cons (o := { dst := some 32, op := _, type := _, pos := _, after := _, guard := some (21, true) }) rfl (fun K hK => ?_) AllReadyIn.nil)
            go_simp
            refine ⟨?_, ?_⟩
            · first | trivial | (intros; trivial)
            refine hK _ _ ?_
            clear hK K
            (try simp only [Act.put, List.setIfInBounds_toArray, List.set_cons_zero, List.set_cons_succ])
            refine wpAnyIn_take (i := 28) (oi := { dst := some 33, op := _, type := _, pos := _, after := _, guard := some (2, false) }) rfl rfl (by kernel_rfl) (by kernel_rfl) (by kernel_rfl) (fun _ _ _ h => h) ⟨Or.inl ⟨by rfl, fun _ => by go_simp <;> with_reducible rfl⟩, fun _ => by rfl⟩ ?_
            (try simp only [Act.put, List.setIfInBounds_toArray, List.set_cons_zero, List.set_cons_succ])
            refine wpAnyIn_take (i := 29) (oi := { dst := some 34, op := _, type := _, pos := _, after := _, guard := none }) rfl rfl (by kernel_rfl) (by kernel_rfl) (by kernel_rfl) (fun _ _ _ h => h) ⟨Or.inl ⟨by rfl, fun _ => by go_simp <;> with_reducible rfl⟩, fun _ => by rfl⟩ ?_
            (try simp only [Act.put, List.setIfInBounds_toArray, List.set_cons_zero, List.set_cons_succ])
            refine wpAnyIn_take (i := 30) (oi := { dst := some 4, op := _, type := _, pos := _, after := _, guard := none }) rfl rfl (by kernel_rfl) (by kernel_rfl) (by kernel_rfl) (fun _ _ _ h => h) ⟨Or.inl ⟨by rfl, fun _ => by go_simp <;> with_reducible rfl⟩, fun _ => by rfl⟩ ?_
            (try simp only [Act.put, List.setIfInBounds_toArray, List.set_cons_zero, List.set_cons_succ])
            refine wpAnyIn_done (by kernel_rfl) ?_ _
            (gi_wp2; go_ret; exact .inr ⟨rfl, tl.flat ++ [x], by rw [hflat.out]; exact ⟨tr.flat, by simp⟩, by simpa [List.append_assoc] using hx2⟩)
        ·
          go_simp
          refine hK _ _ ?_
          clear hK K
          (try simp only [Act.put, List.setIfInBounds_toArray, List.set_cons_zero, List.set_cons_succ])
          refine wpAnyIn_ready (rs := [14]) (by kernel_rfl) (by simp) (AllReadyIn.cons (o := { dst := some 19, op := _, type := _, pos := _, after := _, guard := some (9, true) }) rfl (fun K hK => ?_) AllReadyIn.nil)
          go_simp
          refine hK _ _ ?_
          clear hK K
          (try simp only [Act.put, List.setIfInBounds_toArray, List.set_cons_zero, List.set_cons_succ])
          refine wpAnyIn_ready (rs := [19]) (by kernel_rfl) (by simp) (AllReadyIn.cons (o := { dst := some 24, op := _, type := _, pos := _, after := _, guard := some (9, true) }) rfl (fun K hK => ?_) AllReadyIn.nil)
          go_simp
          (first | refine ⟨deep _, ?_⟩ | refine ⟨by intros; trivial, deep _, ?_⟩); (refine hR.mono ?_; clear hR; rintro e W2 (⟨rfl, hJ2, n2, c2, hr2⟩ | ⟨rfl, hx2⟩))
          · refine hK _ _ ?_
            clear hK K
            (try simp only [Act.put, List.setIfInBounds_toArray, List.set_cons_zero, List.set_cons_succ])
            refine wpAnyIn_take (i := 20) (oi := { dst := some 25, op := _, type := _, pos := _, after := _, guard := some (2, false) }) rfl rfl (by kernel_rfl) (by kernel_rfl) (by kernel_rfl) (fun _ _ _ h => h) ⟨Or.inl ⟨by rfl, fun _ => by go_simp <;> with_reducible rfl⟩, fun _ => by rfl⟩ ?_
            (try simp only [Act.put, List.setIfInBounds_toArray, List.set_cons_zero, List.set_cons_succ])
            refine wpAnyIn_take (i := 21) (oi := { dst := some 26, op := _, type := _, pos := _, after := _, guard := some (2, false) }) rfl rfl (by kernel_rfl) (by kernel_rfl) (by kernel_rfl) (fun _ _ _ h => h) ⟨Or.inl ⟨by rfl, fun _ => by go_simp <;> with_reducible rfl⟩, fun _ => by rfl⟩ ?_
            (try simp only [Act.put, List.setIfInBounds_toArray, List.set_cons_zero, List.set_cons_succ])
            refine wpAnyIn_take (i := 22) (oi := { dst := some 27, op := _, type := _, pos := _, after := _, guard := some (21, true) }) rfl rfl (by kernel_rfl) (by kernel_rfl) (by kernel_rfl) (fun _ _ _ h => h) ⟨Or.inl ⟨by rfl, fun _ => by go_simp <;> with_reducible rfl⟩, fun _ => by rfl⟩ ?_
            (try simp only [Act.put, List.setIfInBounds_toArray, List.set_cons_zero, List.set_cons_succ])
            refine wpAnyIn_take (i := 23) (oi := { dst := some 28, op := _, type := _, pos := _, after := _, guard := some (21, true) }) rfl rfl (by kernel_rfl) (by kernel_rfl) (by kernel_rfl) (fun _ _ _ h => h) ⟨Or.inl ⟨by rfl, fun _ => by go_simp <;> with_reducible rfl⟩, fun _ => by rfl⟩ ?_
            (try simp only [Act.put, List.setIfInBounds_toArray, List.set_cons_zero, List.set_cons_succ])
            refine wpAnyIn_take (i := 24) (oi := { dst := some 29, op := _, type := _, pos := _, after := _, guard := some (21, true) }) rfl rfl (by kernel_rfl) (by kernel_rfl) (by kernel_rfl) (fun _ _ _ h => h) ⟨Or.inl ⟨by rfl, fun _ => by go_simp <;> with_reducible rfl⟩, fun _ => by rfl⟩ ?_
            (try simp only [Act.put, List.setIfInBounds_toArray, List.set_cons_zero, List.set_cons_succ])
            refine wpAnyIn_take (i := 26) (oi := { dst := some 31, op := _, type := _, pos := _, after := _, guard := some (21, true) }) rfl rfl (by kernel_rfl) (by kernel_rfl) (by kernel_rfl) (fun _ _ _ h => h) ⟨Or.inl ⟨by rfl, fun _ => by go_simp <;> with_reducible rfl⟩, fun _ => by rfl⟩ ?_
            (try simp only [Act.put, List.setIfInBounds_toArray, List.set_cons_zero, List.set_cons_succ])
            refine wpAnyIn_ready (rs := [25]) (by kernel_rfl) (by simp) (AllReadyIn.cons (o := { dst := some 30, op := _, type := _, pos := _, after := _, guard := some (21, true) }) rfl (fun K hK => ?_) AllReadyIn.nil)
            go_simp
            refine hK _ _ ?_
            clear hK K
            (try simp only [Act.put, List.setIfInBounds_toArray, List.set_cons_zero, List.set_cons_succ])
            refine wpAnyIn_ready (rs := [27]) (by kernel_rfl) (by simp) (AllReadyIn.cons (o := { dst := some 32, op := _, type := _, pos := _, after := _, guard := some (21, true) }) rfl (fun K hK => ?_) AllReadyIn.nil)
            go_simp
            (refine ⟨trivial, deep _, ?_⟩; refine (ih2.out _ hr2 hJ2).mono ?_; rintro e W3 (⟨rfl, hJ3, n3⟩ | ⟨rfl, q, hq, hx3⟩))
            · refine hK _ _ ?_
              clear hK K
              (try simp only [Act.put, List.setIfInBounds_toArray, List.set_cons_zero, List.set_cons_succ])
              refine wpAnyIn_take (i := 28) (oi := { dst := some 33, op := _, type := _, pos := _, after := _, guard := some (2, false) }) rfl rfl (by kernel_rfl) (by kernel_rfl) (by kernel_rfl) (fun _ _ _ h => h) ⟨Or.inl ⟨by rfl, fun _ => by go_simp <;> with_reducible rfl⟩, fun _ => by rfl⟩ ?_
              (try simp only [Act.put, List.setIfInBounds_toArray, List.set_cons_zero, List.set_cons_succ])
              refine wpAnyIn_take (i := 29) (oi := { dst := some 34, op := _, type := _, pos := _, after := _, guard := none }) rfl rfl (by kernel_rfl) (by kernel_rfl) (by kernel_rfl) (fun _ _ _ h => h) ⟨Or.inl ⟨by rfl, fun _ => by go_simp <;> with_reducible rfl⟩, fun _ => by rfl⟩ ?_
              (try simp only [Act.put, List.setIfInBounds_toArray, List.set_cons_zero, List.set_cons_succ])
              refine wpAnyIn_take (i := 30) (oi := { dst := some 4, op := _, type := _, pos := _, after := _, guard := none }) rfl rfl (by kernel_rfl) (by kernel_rfl) (by kernel_rfl) (fun _ _ _ h => h) ⟨Or.inl ⟨by rfl, fun _ => by go_simp <;> with_reducible rfl⟩, fun _ => by rfl⟩ ?_
              (try simp only [Act.put, List.setIfInBounds_toArray, List.set_cons_zero, List.set_cons_succ])
              refine wpAnyIn_done (by kernel_rfl) ?_ _
              (gi_wp2; go_ret; exact .inl ⟨rfl, by rw [hflat.out]; simpa [List.append_assoc] using hJ3, n2.trans n3⟩)
            · refine hK _ _ ?_
              clear hK K
              (try simp only [Act.put, List.setIfInBounds_toArray, List.set_cons_zero, List.set_cons_succ])
              refine wpAnyIn_take (i := 28) (oi := { dst := some 33, op := _, type := _, pos := _, after := _, guard := some (2, false) }) rfl rfl (by kernel_rfl) (by kernel_rfl) (by kernel_rfl) (fun _ _ _ h => h) ⟨Or.inl ⟨by rfl, fun _ => by go_simp <;> with_reducible rfl⟩, fun _ => by rfl⟩ ?_
              (try simp only [Act.put, List.setIfInBounds_toArray, List.set_cons_zero, List.set_cons_succ])
              refine wpAnyIn_take (i := 29) (oi := { dst := some 34, op := _, type := _, pos := _, after := _, guard := none }) rfl rfl (by kernel_rfl) (by kernel_rfl) (by kernel_rfl) (fun _ _ _ h => h) ⟨Or.inl ⟨by rfl, fun _ => by go_simp <;> with_reducible rfl⟩, fun _ => by rfl⟩ ?_
              (try simp only [Act.put, List.setIfInBounds_toArray, List.set_cons_zero, List.set_cons_succ])
              refine wpAnyIn_take (i := 30) (oi := { dst := some 4, op := _, type := _, pos := _, after := _, guard := none }) rfl rfl (by kernel_rfl) (by kernel_rfl) (by kernel_rfl) (fun _ _ _ h => h) ⟨Or.inl ⟨by rfl, fun _ => by go_simp <;> with_reducible rfl⟩, fun _ => by rfl⟩ ?_
              (try simp only [Act.put, List.setIfInBounds_toArray, List.set_cons_zero, List.set_cons_succ])
              refine wpAnyIn_done (by kernel_rfl) ?_ _
              (gi_wp2; go_ret; obtain ⟨r, hr'⟩ := hq; exact .inr ⟨rfl, tl.flat ++ x :: q, by rw [hflat.out]; exact ⟨r, by simp [← hr']⟩, by simpa [List.append_assoc] using hx3⟩)
          · refine hK _ _ ?_
            clear hK K
            (try simp only [Act.put, List.setIfInBounds_toArray, List.set_cons_zero, List.set_cons_succ])
            refine wpAnyIn_take (i := 20) (oi := { dst := some 25, op := _, type := _, pos := _, after := _, guard := some (2, false) }) rfl rfl (by kernel_rfl) (by kernel_rfl) (by kernel_rfl) (fun _ _ _ h => h) ⟨Or.inl ⟨by rfl, fun _ => by go_simp <;> with_reducible rfl⟩, fun _ => by rfl⟩ ?_
            (try simp only [Act.put, List.setIfInBounds_toArray, List.set_cons_zero, List.set_cons_succ])
            refine wpAnyIn_take (i := 21) (oi := { dst := some 26, op := _, type := _, pos := _, after := _, guard := some (2, false) }) rfl rfl (by kernel_rfl) (by kernel_rfl) (by kernel_rfl) (fun _ _ _ h => h) ⟨Or.inl ⟨by rfl, fun _ => by go_simp <;> with_reducible rfl⟩, fun _ => by rfl⟩ ?_
            (try simp only [Act.put, List.setIfInBounds_toArray, List.set_cons_zero, List.set_cons_succ])
            refine wpAnyIn_take (i := 22) (oi := { dst := some 27, op := _, type := _, pos := _, after := _, guard := some (21, true) }) (v := undef) rfl rfl (by kernel_rfl) (by kernel_rfl) (by kernel_rfl) (fun _ _ _ h => h) ⟨Or.inr ⟨by rfl, rfl⟩, fun _ => by rfl⟩ ?_
            (try simp only [Act.put, List.setIfInBounds_toArray, List.set_cons_zero, List.set_cons_succ])
            refine wpAnyIn_take (i := 23) (oi := { dst := some 28, op := _, type := _, pos := _, after := _, guard := some (21, true) }) (v := undef) rfl rfl (by kernel_rfl) (by kernel_rfl) (by kernel_rfl) (fun _ _ _ h => h) ⟨Or.inr ⟨by rfl, rfl⟩, fun _ => by rfl⟩ ?_
            (try simp only [Act.put, List.setIfInBounds_toArray, List.set_cons_zero, List.set_cons_succ])
            refine wpAnyIn_take (i := 24) (oi := { dst := some 29, op := _, type := _, pos := _, after := _, guard := some (21, true) }) (v := undef) rfl rfl (by kernel_rfl) (by kernel_rfl) (by kernel_rfl) (fun _ _ _ h => h) ⟨Or.inr ⟨by rfl, rfl⟩, fun _ => by rfl⟩ ?_
            (try simp only [Act.put, List.setIfInBounds_toArray, List.set_cons_zero, List.set_cons_succ])
            refine wpAnyIn_take (i := 25) (oi := { dst := some 30, op := _, type := _, pos := _, after := _, guard := some (21, true) }) (v := undef) rfl rfl (by kernel_rfl) (by kernel_rfl) (by kernel_rfl) (fun _ _ _ h => h) ⟨Or.inr ⟨by rfl, rfl⟩, fun _ => by rfl⟩ ?_
            (try simp only [Act.put, List.setIfInBounds_toArray, List.set_cons_zero, List.set_cons_succ])
            refine wpAnyIn_take (i := 26) (oi := { dst := some 31, op := _, type := _, pos := _, after := _, guard := some (21, true) }) (v := undef) rfl rfl (by kernel_rfl) (by kernel_rfl) (by kernel_rfl) (fun _ _ _ h => h) ⟨Or.inr ⟨by rfl, rfl⟩, fun _ => by rfl⟩ ?_
            (try simp only [Act.put, List.setIfInBounds_toArray, List.set_cons_zero, List.set_cons_succ])
            refine wpAnyIn_ready (rs := [27]) (by kernel_rfl) (by simp) (AllReadyIn.cons (o := { dst := some 32, op := _, type := _, pos := _, after := _, guard := some (21, true) }) rfl (fun K hK => ?_) AllReadyIn.nil)
            go_simp
            refine ⟨?_, ?_⟩
            · first | trivial | (intros; trivial)
            refine hK _ _ ?_
            clear hK K
            (try simp only [Act.put, List.setIfInBounds_toArray, List.set_cons_zero, List.set_cons_succ])
            refine wpAnyIn_take (i := 28) (oi := { dst := some 33, op := _, type := _, pos := _, after := _, guard := some (2, false) }) rfl rfl (by kernel_rfl) (by kernel_rfl) (by kernel_rfl) (fun _ _ _ h => h) ⟨Or.inl ⟨by rfl, fun _ => by go_simp <;> with_reducible rfl⟩, fun _ => by rfl⟩ ?_
            (try simp only [Act.put, List.setIfInBounds_toArray, List.set_cons_zero, List.set_cons_succ])
            refine wpAnyIn_take (i := 29) (oi := { dst := some 34, op := _, type := _, pos := _, after := _, guard := none }) rfl rfl (by kernel_rfl) (by kernel_rfl) (by kernel_rfl) (fun _ _ _ h => h) ⟨Or.inl ⟨by rfl, fun _ => by go_simp <;> with_reducible rfl⟩, fun _ => by rfl⟩ ?_
            (try simp only [Act.put, List.setIfInBounds_toArray, List.set_cons_zero, List.set_cons_succ])
            refine wpAnyIn_take (i := 30) (oi := { dst := some 4, op := _, type := _, pos := _, after := _, guard := none }) rfl rfl (by kernel_rfl) (by kernel_rfl) (by kernel_rfl) (fun _ _ _ h => h) ⟨Or.inl ⟨by rfl, fun _ => by go_simp <;> with_reducible rfl⟩, fun _ => by rfl⟩ ?_
            (try simp only [Act.put, List.setIfInBounds_toArray, List.set_cons_zero, List.set_cons_succ])
            refine wpAnyIn_done (by kernel_rfl) ?_ _
            (gi_wp2; go_ret; exact .inr ⟨rfl, tl.flat ++ [x], by rw [hflat.out]; exact ⟨tr.flat, by simp⟩, by simpa [List.append_assoc] using hx2⟩)
    · refine hK _ _ ?_
      clear hK K
      (try simp only [Act.put, List.setIfInBounds_toArray, List.set_cons_zero, List.set_cons_succ])
      refine wpAnyIn_take (i := 9) (oi := { dst := some 14, op := _, type := _, pos := _, after := _, guard := some (2, false) }) rfl rfl (by kernel_rfl) (by kernel_rfl) (by kernel_rfl) (fun _ _ _ h => h) ⟨Or.inl ⟨by rfl, fun _ => by go_simp <;> with_reducible rfl⟩, fun _ => by rfl⟩ ?_
      (try simp only [Act.put, List.setIfInBounds_toArray, List.set_cons_zero, List.set_cons_succ])
      refine wpAnyIn_take (i := 10) (oi := { dst := some 15, op := _, type := _, pos := _, after := _, guard := some (9, true) }) (v := undef) rfl rfl (by kernel_rfl) (by kernel_rfl) (by kernel_rfl) (fun _ _ _ h => h) ⟨Or.inr ⟨by rfl, rfl⟩, fun _ => by rfl⟩ ?_
      (try simp only [Act.put, List.setIfInBounds_toArray, List.set_cons_zero, List.set_cons_succ])
      refine wpAnyIn_take (i := 11) (oi := { dst := some 16, op := _, type := _, pos := _, after := _, guard := some (9, true) }) (v := undef) rfl rfl (by kernel_rfl) (by kernel_rfl) (by kernel_rfl) (fun _ _ _ h => h) ⟨Or.inr ⟨by rfl, rfl⟩, fun _ => by rfl⟩ ?_
      (try simp only [Act.put, List.setIfInBounds_toArray, List.set_cons_zero, List.set_cons_succ])
      refine wpAnyIn_take (i := 12) (oi := { dst := some 17, op := _, type := _, pos := _, after := _, guard := some (9, true) }) (v := undef) rfl rfl (by kernel_rfl) (by kernel_rfl) (by kernel_rfl) (fun _ _ _ h => h) ⟨Or.inr ⟨by rfl, rfl⟩, fun _ => by rfl⟩ ?_
      (try simp only [Act.put, List.setIfInBounds_toArray, List.set_cons_zero, List.set_cons_succ])
      refine wpAnyIn_take (i := 13) (oi := { dst := some 18, op := _, type := _, pos := _, after := _, guard := some (9, true) }) (v := undef) rfl rfl (by kernel_rfl) (by kernel_rfl) (by kernel_rfl) (fun _ _ _ h => h) ⟨Or.inr ⟨by rfl, rfl⟩, fun _ => by rfl⟩ ?_
      (try simp only [Act.put, List.setIfInBounds_toArray, List.set_cons_zero, List.set_cons_succ])
      refine wpAnyIn_take (i := 14) (oi := { dst := some 19, op := _, type := _, pos := _, after := _, guard := some (9, true) }) (v := undef) rfl rfl (by kernel_rfl) (by kernel_rfl) (by kernel_rfl) (fun _ _ _ h => h) ⟨Or.inr ⟨by rfl, rfl⟩, fun _ => by rfl⟩ ?_
      (try simp only [Act.put, List.setIfInBounds_toArray, List.set_cons_zero, List.set_cons_succ])
      refine wpAnyIn_take (i := 15) (oi := { dst := some 20, op := _, type := _, pos := _, after := _, guard := some (9, true) }) (v := undef) rfl rfl (by kernel_rfl) (by kernel_rfl) (by kernel_rfl) (fun _ _ _ h => h) ⟨Or.inr ⟨by rfl, rfl⟩, fun _ => by rfl⟩ ?_
      (try simp only [Act.put, List.setIfInBounds_toArray, List.set_cons_zero, List.set_cons_succ])
      refine wpAnyIn_take (i := 16) (oi := { dst := some 21, op := _, type := _, pos := _, after := _, guard := some (9, true) }) (v := undef) rfl rfl (by kernel_rfl) (by kernel_rfl) (by kernel_rfl) (fun _ _ _ h => h) ⟨Or.inr ⟨by rfl, rfl⟩, fun _ => by rfl⟩ ?_
      (try simp only [Act.put, List.setIfInBounds_toArray, List.set_cons_zero, List.set_cons_succ])
      refine wpAnyIn_take (i := 17) (oi := { dst := some 22, op := _, type := _, pos := _, after := _, guard := some (9, true) }) (v := undef) rfl rfl (by kernel_rfl) (by kernel_rfl) (by kernel_rfl) (fun _ _ _ h => h) ⟨Or.inr ⟨by rfl, rfl⟩, fun _ => by rfl⟩ ?_
      (try simp only [Act.put, List.setIfInBounds_toArray, List.set_cons_zero, List.set_cons_succ])
      refine wpAnyIn_take (i := 18) (oi := { dst := some 23, op := _, type := _, pos := _, after := _, guard := some (9, true) }) (v := undef) rfl rfl (by kernel_rfl) (by kernel_rfl) (by kernel_rfl) (fun _ _ _ h => h) ⟨Or.inr ⟨by rfl, rfl⟩, fun _ => by rfl⟩ ?_
      (try simp only [Act.put, List.setIfInBounds_toArray, List.set_cons_zero, List.set_cons_succ])
      refine wpAnyIn_ready (rs := [19]) (by kernel_rfl) (by simp) (AllReadyIn.cons (o := { dst := some 24, op := _, type := _, pos := _, after := _, guard := some (9, true) }) rfl (fun K hK => ?_) AllReadyIn.nil)
      go_simp
      refine ⟨?_, ?_⟩
      · first | trivial | (intros; trivial)
      refine hK _ _ ?_
      clear hK K
      (try simp only [Act.put, List.setIfInBounds_toArray, List.set_cons_zero, List.set_cons_succ])
      refine wpAnyIn_take (i := 20) (oi := { dst := some 25, op := _, type := _, pos := _, after := _, guard := some (2, false) }) rfl rfl (by kernel_rfl) (by kernel_rfl) (by kernel_rfl) (fun _ _ _ h => h) ⟨Or.inl ⟨by rfl, fun _ => by go_simp <;> with_reducible rfl⟩, fun _ => by rfl⟩ ?_
      (try simp only [Act.put, List.setIfInBounds_toArray, List.set_cons_zero, List.set_cons_succ])
      refine wpAnyIn_take (i := 21) (oi := { dst := some 26, op := _, type := _, pos := _, after := _, guard := some (2, false) }) rfl rfl (by kernel_rfl) (by kernel_rfl) (by kernel_rfl) (fun _ _ _ h => h) ⟨Or.inl ⟨by rfl, fun _ => by go_simp <;> with_reducible rfl⟩, fun _ => by rfl⟩ ?_
      (try simp only [Act.put, List.setIfInBounds_toArray, List.set_cons_zero, List.set_cons_succ])
      refine wpAnyIn_take (i := 22) (oi := { dst := some 27, op := _, type := _, pos := _, after := _, guard := some (21, true) }) (v := undef) rfl rfl (by kernel_rfl) (by kernel_rfl) (by kernel_rfl) (fun _ _ _ h => h) ⟨Or.inr ⟨by rfl, rfl⟩, fun _ => by rfl⟩ ?_
      (try simp only [Act.put, List.setIfInBounds_toArray, List.set_cons_zero, List.set_cons_succ])
      refine wpAnyIn_take (i := 23) (oi := { dst := some 28, op := _, type := _, pos := _, after := _, guard := some (21, true) }) (v := undef) rfl rfl (by kernel_rfl) (by kernel_rfl) (by kernel_rfl) (fun _ _ _ h => h) ⟨Or.inr ⟨by rfl, rfl⟩, fun _ => by rfl⟩ ?_
      (try simp only [Act.put, List.setIfInBounds_toArray, List.set_cons_zero, List.set_cons_succ])
      refine wpAnyIn_take (i := 24) (oi := { dst := some 29, op := _, type := _, pos := _, after := _, guard := some (21, true) }) (v := undef) rfl rfl (by kernel_rfl) (by kernel_rfl) (by kernel_rfl) (fun _ _ _ h => h) ⟨Or.inr ⟨by rfl, rfl⟩, fun _ => by rfl⟩ ?_
      (try simp only [Act.put, List.setIfInBounds_toArray, List.set_cons_zero, List.set_cons_succ])
      refine wpAnyIn_take (i := 25) (oi := { dst := some 30, op := _, type := _, pos := _, after := _, guard := some (21, true) }) (v := undef) rfl rfl (by kernel_rfl) (by kernel_rfl) (by kernel_rfl) (fun _ _ _ h => h) ⟨Or.inr ⟨by rfl, rfl⟩, fun _ => by rfl⟩ ?_
      (try simp only [Act.put, List.setIfInBounds_toArray, List.set_cons_zero, List.set_cons_succ])
      refine wpAnyIn_take (i := 26) (oi := { dst := some 31, op := _, type := _, pos := _, after := _, guard := some (21, true) }) (v := undef) rfl rfl (by kernel_rfl) (by kernel_rfl) (by kernel_rfl) (fun _ _ _ h => h) ⟨Or.inr ⟨by rfl, rfl⟩, fun _ => by rfl⟩ ?_
      (try simp only [Act.put, List.setIfInBounds_toArray, List.set_cons_zero, List.set_cons_succ])
      refine wpAnyIn_ready (rs := [27]) (by kernel_rfl) (by simp) (AllReadyIn.cons (o := { dst := some 32, op := _, type := _, pos := _, after := _, guard := some (21, true) }) rfl (fun K hK => ?_) AllReadyIn.nil)
      go_simp
      refine ⟨?_, ?_⟩
      · first | trivial | (intros; trivial)
      refine hK _ _ ?_
      clear hK K
      (try simp only [Act.put, List.setIfInBounds_toArray, List.set_cons_zero, List.set_cons_succ])
      refine wpAnyIn_take (i := 28) (oi := { dst := some 33, op := _, type := _, pos := _, after := _, guard := some (2, false) }) rfl rfl (by kernel_rfl) (by kernel_rfl) (by kernel_rfl) (fun _ _ _ h => h) ⟨Or.inl ⟨by rfl, fun _ => by go_simp <;> with_reducible rfl⟩, fun _ => by rfl⟩ ?_
      (try simp only [Act.put, List.setIfInBounds_toArray, List.set_cons_zero, List.set_cons_succ])
      refine wpAnyIn_take (i := 29) (oi := { dst := some 34, op := _, type := _, pos := _, after := _, guard := none }) rfl rfl (by kernel_rfl) (by kernel_rfl) (by kernel_rfl) (fun _ _ _ h => h) ⟨Or.inl ⟨by rfl, fun _ => by go_simp <;> with_reducible rfl⟩, fun _ => by rfl⟩ ?_
      (try simp only [Act.put, List.setIfInBounds_toArray, List.set_cons_zero, List.set_cons_succ])
      refine wpAnyIn_take (i := 30) (oi := { dst := some 4, op := _, type := _, pos := _, after := _, guard := none }) rfl rfl (by kernel_rfl) (by kernel_rfl) (by kernel_rfl) (fun _ _ _ h => h) ⟨Or.inl ⟨by rfl, fun _ => by go_simp <;> with_reducible rfl⟩, fun _ => by rfl⟩ ?_
      (try simp only [Act.put, List.setIfInBounds_toArray, List.set_cons_zero, List.set_cons_succ])
      refine wpAnyIn_done (by kernel_rfl) ?_ _
      (gi_wp2; go_ret; exact .inr ⟨rfl, q, by rw [hflat.out]; exact hq.trans (List.prefix_append _ _), hx1⟩)
end Go.Proofs.YtdmpkgdlelagjaaGreatDoor.Ts
namespace Go.Proofs.YtdmpkgdlelagjaaGreatDoor.Tm
open Go.RowKit Go.Shelf Sh
attribute [local go_sem] Oper.semAt_some fold_none

/-- a node's cells as a walk reads them -/
def Sees (w' : World) (b : Nat) (e : (ByteArray × Int)) (pl pr : Option Addr) (n : Nat) : Prop := w'.cell? ⟨b, 0, none⟩ = some (.string e.1) ∧ w'.cell? ⟨b, 1, none⟩ = some (.int .i64 e.2) ∧ w'.cell? ⟨b, 2, none⟩ = some (.pointer pl) ∧ w'.cell? ⟨b, 3, none⟩ = some (.pointer pr) ∧ w'.cell? ⟨b, 4, none⟩ = some (.int .i64 (n : Int))
end Go.Proofs.YtdmpkgdlelagjaaGreatDoor.Tm
