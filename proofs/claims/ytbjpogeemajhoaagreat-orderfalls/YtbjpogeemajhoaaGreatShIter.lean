/-
  A shelf's trees gone over; sets: what is in them, gone over from a key on, one within another. Conditions: sets are not too great.
-/
import Derived.Test.YtbjpogeemajhoaaGreatRows
import Derived.Test.YtbjpogeemajhoaaGreatShCore
import Derived.RangeFuncNested
import Derived.RangeFuncBound
import Derived.RangeFuncCalls
import Derived.RangeFuncLeaves
import Derived.Shelf.Abstract
import Derived.Shelf.RegionOpen
import Derived.WalkKit
import Derived.OwnWalkIn
import Derived.TacticsInMore
import Derived.LoopNIn
import Derived.LoopIn
import Derived.BigRegionIn
import Derived.Maps.AppendAt
namespace Go.Proofs.YtbjpogeemajhoaaGreat.Sh
open Go.RowKit
theorem room_any {F : Fence} (hd : F.depth = none) (k : Nat) : F.room k := fun d h => by rw [hd] at h; cases h
theorem YieldAt.any {m : Nat} (m' : Nat) {P : Program} {l : Nat} {args : Array Value} {W : World} {R : Ending → World → Prop} (h : YieldAt Fence.wide m P l args W R) : YieldAt Fence.wide m' P l args W R := by
  obtain ⟨fn, tmps, assign, body, hy, hR⟩ := h
  exact ⟨fn, tmps, assign, body, hy, hR.1, fun c cs _ => hR.2 c cs (room_any rfl _)⟩
theorem deep (n : Nat) : Fence.wide.depth.isSome = true → 1 ≤ n := fun h => by cases h
theorem grown_drew (w : World) : w.grownBy w.drew none := ⟨rfl, rfl, rfl, Nat.le_refl _, fun _ _ _ => rfl⟩
end Go.Proofs.YtbjpogeemajhoaaGreat.Sh
namespace Go.Proofs.YtbjpogeemajhoaaGreat.Ti
open Go.RowKit Go.Shelf Sh
attribute [local go_sem] Oper.semAt_some fold_none

/-- a node's cells as a walk reads them -/
def Sees (w' : World) (b : Nat) (e : Int) (pl pr : Option Addr) (n : Nat) : Prop := w'.cell? ⟨b, 0, none⟩ = some (.int .i64 e) ∧ (partAt ⟨b, 0, none⟩ 1 8).run Tryz.prog w' = .ok ⟨b, 1, none⟩ w' ∧ w'.cell? ⟨b, 1, none⟩ = some (.pointer pl) ∧ w'.cell? ⟨b, 2, none⟩ = some (.pointer pr) ∧ w'.cell? ⟨b, 3, none⟩ = some (.int .i64 (n : Int))
end Go.Proofs.YtbjpogeemajhoaaGreat.Ti
namespace Go.Proofs.YtbjpogeemajhoaaGreat.Ts
open Go.RowKit Go.Shelf Sh
attribute [local go_sem] Oper.semAt_some fold_none

/-- a node's cells as a walk reads them -/
def Sees (w' : World) (b : Nat) (e : ByteArray) (pl pr : Option Addr) (n : Nat) : Prop := w'.cell? ⟨b, 0, none⟩ = some (.string e) ∧ (partAt ⟨b, 0, none⟩ 1 16).run Tryz.prog w' = .ok ⟨b, 1, none⟩ w' ∧ w'.cell? ⟨b, 1, none⟩ = some (.pointer pl) ∧ w'.cell? ⟨b, 2, none⟩ = some (.pointer pr) ∧ w'.cell? ⟨b, 3, none⟩ = some (.int .i64 (n : Int))
theorem nodes_drew {W W' : World} (h : Nodes W W') : Nodes W W'.drew := h

set_option maxRecDepth 100000 in
set_option maxHeartbeats 4000000 in
theorem walkY_in (l N : Nat) (J Jx : List ByteArray → World → Prop) (hJ : ∀ s A B, J s A → A.grownBy B none → J s B)
    (hY : ∀ m pre x W, J pre W → pre.length < N → YieldAt Fence.wide m Tryz.prog l #[.string x, .agg #[]] W fun e W' => (e = .returned (.bool true) ∧ J (pre ++ [x]) W' ∧ Nodes W W') ∨ (e = .returned (.bool false) ∧ Jx (pre ++ [x]) W')) (T : Tr ByteArray) :
    ∀ (n : Nat) (p : Option Addr) (pre : List ByteArray) (W : World), IsTree W p T → J pre W → pre.length + T.flat.length ≤ N →
      CallsIn Fence.wide n Tryz.prog 87 #[.pointer p, .func (.yield l) #[] #[]] W fun e W' =>
        (e = .returned (.bool true) ∧ J (pre ++ T.flat) W' ∧ Nodes W W') ∨ (e = .returned (.bool false) ∧ ∃ q, q <+: T.flat ∧ Jx (pre ++ q) W') := by
  induction T with
  | nil =>
    intro n p pre W ht hj _
    obtain rfl : p = none := ht
    have hj2 := hJ _ _ _ hj (grown_drew W)
    refine callsIn_of_wp Tryz.func87 rfl trivial ?_ rfl
    simp only [Tryz.ntmps87, List.size_toArray, List.length_cons, List.length_nil, Nat.reduceAdd, Nat.reduceSub, Array.replicate_succ, Array.replicate_zero, List.push_toArray, List.append_toArray, List.nil_append, List.cons_append]
    gi_wp2
    refine wpIn_region_any (by kernel_rfl) ?_
    refine wpAnyIn_take (i := 0) (oi := { dst := some 5, op := _, type := _, pos := _, after := _, guard := none }) rfl rfl (by kernel_rfl) (by kernel_rfl) (by kernel_rfl) (fun _ _ _ h => h) ⟨Or.inl ⟨by rfl, fun _ => by go_simp <;> with_reducible rfl⟩, fun _ => by rfl⟩ ?_
    (try simp only [Act.put, List.setIfInBounds_toArray, List.set_cons_zero, List.set_cons_succ])
    refine wpAnyIn_take (i := 1) (oi := { dst := some 6, op := _, type := _, pos := _, after := _, guard := none }) rfl rfl (by kernel_rfl) (by kernel_rfl) (by kernel_rfl) (fun _ _ _ h => h) ⟨Or.inl ⟨by rfl, fun _ => by go_simp <;> with_reducible rfl⟩, fun _ => by rfl⟩ ?_
    (try simp only [Act.put, List.setIfInBounds_toArray, List.set_cons_zero, List.set_cons_succ])
    refine wpAnyIn_take (i := 2) (oi := { dst := some 7, op := _, type := _, pos := _, after := _, guard := none }) rfl rfl (by kernel_rfl) (by kernel_rfl) (by kernel_rfl) (fun _ _ _ h => h) ⟨Or.inl ⟨by rfl, fun _ => by go_simp <;> with_reducible rfl⟩, fun _ => by rfl⟩ ?_
    (try simp only [Act.put, List.setIfInBounds_toArray, List.set_cons_zero, List.set_cons_succ])
    refine wpAnyIn_take (i := 3) (oi := { dst := some 8, op := _, type := _, pos := _, after := _, guard := some (2, false) }) (v := undef) rfl rfl (by kernel_rfl) (by kernel_rfl) (by kernel_rfl) (fun _ _ _ h => h) ⟨Or.inr ⟨by rfl, rfl⟩, fun _ => by rfl⟩ ?_
    (try simp only [Act.put, List.setIfInBounds_toArray, List.set_cons_zero, List.set_cons_succ])
    refine wpAnyIn_take (i := 4) (oi := { dst := some 9, op := _, type := _, pos := _, after := _, guard := some (2, false) }) (v := undef) rfl rfl (by kernel_rfl) (by kernel_rfl) (by kernel_rfl) (fun _ _ _ h => h) ⟨Or.inr ⟨by rfl, rfl⟩, fun _ => by rfl⟩ ?_
    (try simp only [Act.put, List.setIfInBounds_toArray, List.set_cons_zero, List.set_cons_succ])
    refine wpAnyIn_take (i := 5) (oi := { dst := some 10, op := _, type := _, pos := _, after := _, guard := some (2, false) }) (v := undef) rfl rfl (by kernel_rfl) (by kernel_rfl) (by kernel_rfl) (fun _ _ _ h => h) ⟨Or.inr ⟨by rfl, rfl⟩, fun _ => by rfl⟩ ?_
    (try simp only [Act.put, List.setIfInBounds_toArray, List.set_cons_zero, List.set_cons_succ])
    refine wpAnyIn_take (i := 6) (oi := { dst := some 11, op := _, type := _, pos := _, after := _, guard := some (2, false) }) (v := undef) rfl rfl (by kernel_rfl) (by kernel_rfl) (by kernel_rfl) (fun _ _ _ h => h) ⟨Or.inr ⟨by rfl, rfl⟩, fun _ => by rfl⟩ ?_
    (try simp only [Act.put, List.setIfInBounds_toArray, List.set_cons_zero, List.set_cons_succ])
    refine wpAnyIn_take (i := 7) (oi := { dst := some 12, op := _, type := _, pos := _, after := _, guard := some (2, false) }) (v := undef) rfl rfl (by kernel_rfl) (by kernel_rfl) (by kernel_rfl) (fun _ _ _ h => h) ⟨Or.inr ⟨by rfl, rfl⟩, fun _ => by rfl⟩ ?_
    (try simp only [Act.put, List.setIfInBounds_toArray, List.set_cons_zero, List.set_cons_succ])
    refine wpAnyIn_ready (rs := [8]) (by kernel_rfl) (by simp) (AllReadyIn.cons (o := { dst := some 13, op := _, type := _, pos := _, after := _, guard := some (2, false) }) rfl (fun K hK => ?_) AllReadyIn.nil)
    go_simp
    refine ⟨?_, ?_⟩
    · first | trivial | (intros; trivial)
    refine hK _ _ ?_
    clear hK K
    (try simp only [Act.put, List.setIfInBounds_toArray, List.set_cons_zero, List.set_cons_succ])
    refine wpAnyIn_take (i := 9) (oi := { dst := some 14, op := _, type := _, pos := _, after := _, guard := some (2, false) }) (v := undef) rfl rfl (by kernel_rfl) (by kernel_rfl) (by kernel_rfl) (fun _ _ _ h => h) ⟨Or.inr ⟨by rfl, rfl⟩, fun _ => by rfl⟩ ?_
    (try simp only [Act.put, List.setIfInBounds_toArray, List.set_cons_zero, List.set_cons_succ])
    refine wpAnyIn_take (i := 10) (oi := { dst := some 15, op := _, type := _, pos := _, after := _, guard := some (9, true) }) (v := undef) rfl rfl (by kernel_rfl) (by kernel_rfl) (by kernel_rfl) (fun _ _ _ h => h) ⟨Or.inr ⟨by rfl, rfl⟩, fun _ => by rfl⟩ ?_
    (try simp only [Act.put, List.setIfInBounds_toArray, List.set_cons_zero, List.set_cons_succ])
    refine wpAnyIn_take (i := 11) (oi := { dst := some 16, op := _, type := _, pos := _, after := _, guard := some (9, true) }) (v := undef) rfl rfl (by kernel_rfl) (by kernel_rfl) (by kernel_rfl) (fun _ _ _ h => h) ⟨Or.inr ⟨by rfl, rfl⟩, fun _ => by rfl⟩ ?_
    (try simp only [Act.put, List.setIfInBounds_toArray, List.set_cons_zero, List.set_cons_succ])
    refine wpAnyIn_take (i := 12) (oi := { dst := some 17, op := _, type := _, pos := _, after := _, guard := some (9, true) }) (v := undef) rfl rfl (by kernel_rfl) (by kernel_rfl) (by kernel_rfl) (fun _ _ _ h => h) ⟨Or.inr ⟨by rfl, rfl⟩, fun _ => by rfl⟩ ?_
    (try simp only [Act.put, List.setIfInBounds_toArray, List.set_cons_zero, List.set_cons_succ])
    refine wpAnyIn_take (i := 13) (oi := { dst := some 18, op := _, type := _, pos := _, after := _, guard := some (9, true) }) (v := undef) rfl rfl (by kernel_rfl) (by kernel_rfl) (by kernel_rfl) (fun _ _ _ h => h) ⟨Or.inr ⟨by rfl, rfl⟩, fun _ => by rfl⟩ ?_
    (try simp only [Act.put, List.setIfInBounds_toArray, List.set_cons_zero, List.set_cons_succ])
    refine wpAnyIn_take (i := 14) (oi := { dst := some 19, op := _, type := _, pos := _, after := _, guard := some (9, true) }) (v := undef) rfl rfl (by kernel_rfl) (by kernel_rfl) (by kernel_rfl) (fun _ _ _ h => h) ⟨Or.inr ⟨by rfl, rfl⟩, fun _ => by rfl⟩ ?_
    (try simp only [Act.put, List.setIfInBounds_toArray, List.set_cons_zero, List.set_cons_succ])
    refine wpAnyIn_take (i := 15) (oi := { dst := some 20, op := _, type := _, pos := _, after := _, guard := some (9, true) }) (v := undef) rfl rfl (by kernel_rfl) (by kernel_rfl) (by kernel_rfl) (fun _ _ _ h => h) ⟨Or.inr ⟨by rfl, rfl⟩, fun _ => by rfl⟩ ?_
    (try simp only [Act.put, List.setIfInBounds_toArray, List.set_cons_zero, List.set_cons_succ])
    refine wpAnyIn_take (i := 16) (oi := { dst := some 21, op := _, type := _, pos := _, after := _, guard := some (9, true) }) (v := undef) rfl rfl (by kernel_rfl) (by kernel_rfl) (by kernel_rfl) (fun _ _ _ h => h) ⟨Or.inr ⟨by rfl, rfl⟩, fun _ => by rfl⟩ ?_
    (try simp only [Act.put, List.setIfInBounds_toArray, List.set_cons_zero, List.set_cons_succ])
    refine wpAnyIn_take (i := 17) (oi := { dst := some 22, op := _, type := _, pos := _, after := _, guard := some (9, true) }) (v := undef) rfl rfl (by kernel_rfl) (by kernel_rfl) (by kernel_rfl) (fun _ _ _ h => h) ⟨Or.inr ⟨by rfl, rfl⟩, fun _ => by rfl⟩ ?_
    (try simp only [Act.put, List.setIfInBounds_toArray, List.set_cons_zero, List.set_cons_succ])
    refine wpAnyIn_take (i := 18) (oi := { dst := some 23, op := _, type := _, pos := _, after := _, guard := some (9, true) }) (v := undef) rfl rfl (by kernel_rfl) (by kernel_rfl) (by kernel_rfl) (fun _ _ _ h => h) ⟨Or.inr ⟨by rfl, rfl⟩, fun _ => by rfl⟩ ?_
    (try simp only [Act.put, List.setIfInBounds_toArray, List.set_cons_zero, List.set_cons_succ])
    refine wpAnyIn_ready (rs := [19]) (by kernel_rfl) (by simp) (AllReadyIn.cons (o := { dst := some 24, op := _, type := _, pos := _, after := _, guard := some (9, true) }) rfl (fun K hK => ?_) AllReadyIn.nil)
    go_simp
    refine ⟨?_, ?_⟩
    · first | trivial | (intros; trivial)
    refine hK _ _ ?_
    clear hK K
    (try simp only [Act.put, List.setIfInBounds_toArray, List.set_cons_zero, List.set_cons_succ])
    refine wpAnyIn_take (i := 20) (oi := { dst := some 25, op := _, type := _, pos := _, after := _, guard := some (2, false) }) (v := undef) rfl rfl (by kernel_rfl) (by kernel_rfl) (by kernel_rfl) (fun _ _ _ h => h) ⟨Or.inr ⟨by rfl, rfl⟩, fun _ => by rfl⟩ ?_
    (try simp only [Act.put, List.setIfInBounds_toArray, List.set_cons_zero, List.set_cons_succ])
    refine wpAnyIn_take (i := 21) (oi := { dst := some 26, op := _, type := _, pos := _, after := _, guard := some (2, false) }) (v := undef) rfl rfl (by kernel_rfl) (by kernel_rfl) (by kernel_rfl) (fun _ _ _ h => h) ⟨Or.inr ⟨by rfl, rfl⟩, fun _ => by rfl⟩ ?_
    (try simp only [Act.put, List.setIfInBounds_toArray, List.set_cons_zero, List.set_cons_succ])
    refine wpAnyIn_take (i := 22) (oi := { dst := some 27, op := _, type := _, pos := _, after := _, guard := some (21, true) }) (v := undef) rfl rfl (by kernel_rfl) (by kernel_rfl) (by kernel_rfl) (fun _ _ _ h => h) ⟨Or.inr ⟨by rfl, rfl⟩, fun _ => by rfl⟩ ?_
    (try simp only [Act.put, List.setIfInBounds_toArray, List.set_cons_zero, List.set_cons_succ])
    refine wpAnyIn_take (i := 23) (oi := { dst := some 28, op := _, type := _, pos := _, after := _, guard := some (21, true) }) (v := undef) rfl rfl (by kernel_rfl) (by kernel_rfl) (by kernel_rfl) (fun _ _ _ h => h) ⟨Or.inr ⟨by rfl, rfl⟩, fun _ => by rfl⟩ ?_
    (try simp only [Act.put, List.setIfInBounds_toArray, List.set_cons_zero, List.set_cons_succ])
    refine wpAnyIn_take (i := 24) (oi := { dst := some 29, op := _, type := _, pos := _, after := _, guard := some (21, true) }) (v := undef) rfl rfl (by kernel_rfl) (by kernel_rfl) (by kernel_rfl) (fun _ _ _ h => h) ⟨Or.inr ⟨by rfl, rfl⟩, fun _ => by rfl⟩ ?_
    (try simp only [Act.put, List.setIfInBounds_toArray, List.set_cons_zero, List.set_cons_succ])
    refine wpAnyIn_take (i := 25) (oi := { dst := some 30, op := _, type := _, pos := _, after := _, guard := some (21, true) }) (v := undef) rfl rfl (by kernel_rfl) (by kernel_rfl) (by kernel_rfl) (fun _ _ _ h => h) ⟨Or.inr ⟨by rfl, rfl⟩, fun _ => by rfl⟩ ?_
    (try simp only [Act.put, List.setIfInBounds_toArray, List.set_cons_zero, List.set_cons_succ])
    refine wpAnyIn_take (i := 26) (oi := { dst := some 31, op := _, type := _, pos := _, after := _, guard := some (21, true) }) (v := undef) rfl rfl (by kernel_rfl) (by kernel_rfl) (by kernel_rfl) (fun _ _ _ h => h) ⟨Or.inr ⟨by rfl, rfl⟩, fun _ => by rfl⟩ ?_
    (try simp only [Act.put, List.setIfInBounds_toArray, List.set_cons_zero, List.set_cons_succ])
    refine wpAnyIn_ready (rs := [27]) (by kernel_rfl) (by simp) (AllReadyIn.cons (o := { dst := some 32, op := _, type := _, pos := _, after := _, guard := some (21, true) }) rfl (fun K hK => ?_) AllReadyIn.nil)
    go_simp
    refine ⟨?_, ?_⟩
    · first | trivial | (intros; trivial)
    refine hK _ _ ?_
    clear hK K
    (try simp only [Act.put, List.setIfInBounds_toArray, List.set_cons_zero, List.set_cons_succ])
    refine wpAnyIn_take (i := 28) (oi := { dst := some 33, op := _, type := _, pos := _, after := _, guard := some (2, false) }) (v := undef) rfl rfl (by kernel_rfl) (by kernel_rfl) (by kernel_rfl) (fun _ _ _ h => h) ⟨Or.inr ⟨by rfl, rfl⟩, fun _ => by rfl⟩ ?_
    (try simp only [Act.put, List.setIfInBounds_toArray, List.set_cons_zero, List.set_cons_succ])
    refine wpAnyIn_take (i := 29) (oi := { dst := some 34, op := _, type := _, pos := _, after := _, guard := none }) rfl rfl (by kernel_rfl) (by kernel_rfl) (by kernel_rfl) (fun _ _ _ h => h) ⟨Or.inl ⟨by rfl, fun _ => by go_simp <;> with_reducible rfl⟩, fun _ => by rfl⟩ ?_
    (try simp only [Act.put, List.setIfInBounds_toArray, List.set_cons_zero, List.set_cons_succ])
    refine wpAnyIn_take (i := 30) (oi := { dst := some 4, op := _, type := _, pos := _, after := _, guard := none }) rfl rfl (by kernel_rfl) (by kernel_rfl) (by kernel_rfl) (fun _ _ _ h => h) ⟨Or.inl ⟨by rfl, fun _ => by go_simp <;> with_reducible rfl⟩, fun _ => by rfl⟩ ?_
    (try simp only [Act.put, List.setIfInBounds_toArray, List.set_cons_zero, List.set_cons_succ])
    refine wpAnyIn_done (by kernel_rfl) ?_ _
    (gi_wp2; go_ret; exact .inl ⟨rfl, by simpa [Tr.flat] using hj2, nodes_below (b_drew W)⟩)
  | node tl x tr ihl ihr =>
    intro n p pre W ht hj hN
    obtain ⟨b, pl, pr, rfl, hNd, hl, hr⟩ := ht
    have hd := b_drew W
    have hS0 : Sees W.drew b x pl pr (Tr.node tl x tr).num := (hNd.kept (nodes_below hd)).cells
    have hflat : (Tr.node tl x tr).flat = tl.flat ++ x :: tr.flat := rfl
    simp only [hflat, List.length_append, List.length_cons] at hN
    have hy2 : ∀ W1, J (pre ++ tl.flat) W1 → Nodes W.drew W1 → YieldAt Fence.wide (n - 1) Tryz.prog l #[.string x, .agg #[]] W1 fun e W2 =>
        (e = .returned (.bool true) ∧ J (pre ++ tl.flat ++ [x]) W2 ∧ Nodes W W2 ∧ W2.cell? ⟨b, 2, none⟩ = some (.pointer pr) ∧ IsTree W2 pr tr) ∨ (e = .returned (.bool false) ∧ Jx (pre ++ tl.flat ++ [x]) W2) := fun W1 h1 n1 =>
      YieldAt.mono (hY (n - 1) _ x W1 h1 (by simp; omega)) fun e W2 h => h.elim
        (fun ⟨he, hj2, n2⟩ => have n3 : Nodes W W2 := (nodes_below hd).trans (n1.trans n2); .inl ⟨he, hj2, n3, (hNd.kept n3).right, hr.kept n3⟩) .inr
    have ih1 := (ihl (n - 1) pl pre W.drew (hl.next hd) (hJ _ _ _ hj (grown_drew W)) (by omega)).mono (R' := fun e W1 =>
        (e = .returned (.bool true) ∧ Sees W1 b x pl pr (Tr.node tl x tr).num ∧ YieldAt Fence.wide (n - 1) Tryz.prog l #[.string x, .agg #[]] W1 fun e W2 =>
          (e = .returned (.bool true) ∧ J (pre ++ tl.flat ++ [x]) W2 ∧ Nodes W W2 ∧ W2.cell? ⟨b, 2, none⟩ = some (.pointer pr) ∧ IsTree W2 pr tr) ∨ (e = .returned (.bool false) ∧ Jx (pre ++ tl.flat ++ [x]) W2)) ∨
        (e = .returned (.bool false) ∧ ∃ q, q <+: tl.flat ∧ Jx (pre ++ q) W1))
      (fun e W1 h => h.elim (fun ⟨he, hj1, n1⟩ => .inl ⟨he, (hNd.kept ((nodes_below hd).trans n1)).cells, hy2 W1 hj1 n1⟩) .inr)
    have ih2 := Lib.hid fun W2 (h2 : IsTree W2 pr tr) (hj2 : J (pre ++ tl.flat ++ [x]) W2) => ihr (n - 1) pr _ W2 h2 hj2 (by simp; omega)
    obtain ⟨s0, s1, s2, s3, s4⟩ := hS0
    replace hflat := Lib.hid hflat
    clear hy2 ihl ihr hNd hl hr hN hj hd
    generalize (Tr.node tl x tr).num = nn at *
    generalize (Tr.node tl x tr).flat = ff at *
    refine callsIn_of_wp Tryz.func87 rfl trivial ?_ rfl
    simp only [Tryz.ntmps87, List.size_toArray, List.length_cons, List.length_nil, Nat.reduceAdd, Nat.reduceSub, Array.replicate_succ, Array.replicate_zero, List.push_toArray, List.append_toArray, List.nil_append, List.cons_append]
    gi_wp2
    refine wpIn_region_any (by kernel_rfl) ?_
    refine wpAnyIn_take (i := 0) (oi := { dst := some 5, op := _, type := _, pos := _, after := _, guard := none }) rfl rfl (by kernel_rfl) (by kernel_rfl) (by kernel_rfl) (fun _ _ _ h => h) ⟨Or.inl ⟨by rfl, fun _ => by go_simp <;> with_reducible rfl⟩, fun _ => by rfl⟩ ?_
    (try simp only [Act.put, List.setIfInBounds_toArray, List.set_cons_zero, List.set_cons_succ])
    refine wpAnyIn_take (i := 1) (oi := { dst := some 6, op := _, type := _, pos := _, after := _, guard := none }) rfl rfl (by kernel_rfl) (by kernel_rfl) (by kernel_rfl) (fun _ _ _ h => h) ⟨Or.inl ⟨by rfl, fun _ => by go_simp <;> with_reducible rfl⟩, fun _ => by rfl⟩ ?_
    (try simp only [Act.put, List.setIfInBounds_toArray, List.set_cons_zero, List.set_cons_succ])
    refine wpAnyIn_take (i := 2) (oi := { dst := some 7, op := _, type := _, pos := _, after := _, guard := none }) rfl rfl (by kernel_rfl) (by kernel_rfl) (by kernel_rfl) (fun _ _ _ h => h) ⟨Or.inl ⟨by rfl, fun _ => by go_simp <;> with_reducible rfl⟩, fun _ => by rfl⟩ ?_
    (try simp only [Act.put, List.setIfInBounds_toArray, List.set_cons_zero, List.set_cons_succ])
    refine wpAnyIn_take (i := 3) (oi := { dst := some 8, op := _, type := _, pos := _, after := _, guard := some (2, false) }) rfl rfl (by kernel_rfl) (by kernel_rfl) (by kernel_rfl) (fun _ _ _ h => h) ⟨Or.inl ⟨by rfl, fun _ => by go_simp <;> with_reducible rfl⟩, fun _ => by rfl⟩ ?_
    (try simp only [Act.put, List.setIfInBounds_toArray, List.set_cons_zero, List.set_cons_succ])
    refine wpAnyIn_take (i := 4) (oi := { dst := some 9, op := _, type := _, pos := _, after := _, guard := some (2, false) }) rfl rfl (by kernel_rfl) (by kernel_rfl) (by kernel_rfl) (fun _ _ _ h => h) ⟨Or.inl ⟨by rfl, fun _ => by go_simp <;> with_reducible rfl⟩, fun _ => by rfl⟩ ?_
    (try simp only [Act.put, List.setIfInBounds_toArray, List.set_cons_zero, List.set_cons_succ])
    refine wpAnyIn_take (i := 5) (oi := { dst := some 10, op := _, type := _, pos := _, after := _, guard := some (2, false) }) rfl rfl (by kernel_rfl) (by kernel_rfl) (by kernel_rfl) (fun _ _ _ h => h) ⟨Or.inl ⟨by rfl, fun _ => by go_simp <;> with_reducible rfl⟩, fun _ => by rfl⟩ ?_
    (try simp only [Act.put, List.setIfInBounds_toArray, List.set_cons_zero, List.set_cons_succ])
    refine wpAnyIn_take (i := 7) (oi := { dst := some 12, op := _, type := _, pos := _, after := _, guard := some (2, false) }) rfl rfl (by kernel_rfl) (by kernel_rfl) (by kernel_rfl) (fun _ _ _ h => h) ⟨Or.inl ⟨by rfl, fun _ => by go_simp <;> with_reducible rfl⟩, fun _ => by rfl⟩ ?_
    (try simp only [Act.put, List.setIfInBounds_toArray, List.set_cons_zero, List.set_cons_succ])
    refine wpAnyIn_ready (rs := [6]) (by kernel_rfl) (by simp) (AllReadyIn.cons (o := { dst := some 11, op := _, type := _, pos := _, after := _, guard := some (2, false) }) rfl (fun K hK => ?_) AllReadyIn.nil)
    go_simp
    refine hK _ _ ?_
    clear hK K
    (try simp only [Act.put, List.setIfInBounds_toArray, List.set_cons_zero, List.set_cons_succ])
    refine wpAnyIn_ready (rs := [8]) (by kernel_rfl) (by simp) (AllReadyIn.cons (o := { dst := some 13, op := _, type := _, pos := _, after := _, guard := some (2, false) }) rfl (fun K hK => ?_) AllReadyIn.nil)
    go_simp
    (refine ⟨trivial, deep _, ?_⟩; refine ih1.mono ?_; clear ih1; rintro e W1 (⟨rfl, ⟨k0, k1, k2, k3, k4⟩, fn, tmps, assign, body, hy, hR⟩ | ⟨rfl, q, hq, hx1⟩))
    · refine hK _ _ ?_
      clear hK K
      (try simp only [Act.put, List.setIfInBounds_toArray, List.set_cons_zero, List.set_cons_succ])
      refine wpAnyIn_take (i := 9) (oi := { dst := some 14, op := _, type := _, pos := _, after := _, guard := some (2, false) }) rfl rfl (by kernel_rfl) (by kernel_rfl) (by kernel_rfl) (fun _ _ _ h => h) ⟨Or.inl ⟨by rfl, fun _ => by go_simp <;> with_reducible rfl⟩, fun _ => by rfl⟩ ?_
      (try simp only [Act.put, List.setIfInBounds_toArray, List.set_cons_zero, List.set_cons_succ])
      refine wpAnyIn_take (i := 10) (oi := { dst := some 15, op := _, type := _, pos := _, after := _, guard := some (9, true) }) rfl rfl (by kernel_rfl) (by kernel_rfl) (by kernel_rfl) (fun _ _ _ h => h) ⟨Or.inl ⟨by rfl, fun _ => by go_simp <;> with_reducible rfl⟩, fun _ => by rfl⟩ ?_
      (try simp only [Act.put, List.setIfInBounds_toArray, List.set_cons_zero, List.set_cons_succ])
      refine wpAnyIn_take (i := 11) (oi := { dst := some 16, op := _, type := _, pos := _, after := _, guard := some (9, true) }) rfl rfl (by kernel_rfl) (by kernel_rfl) (by kernel_rfl) (fun _ _ _ h => h) ⟨Or.inl ⟨by rfl, fun _ => by go_simp <;> with_reducible rfl⟩, fun _ => by rfl⟩ ?_
      (try simp only [Act.put, List.setIfInBounds_toArray, List.set_cons_zero, List.set_cons_succ])
      refine wpAnyIn_take (i := 12) (oi := { dst := some 17, op := _, type := _, pos := _, after := _, guard := some (9, true) }) rfl rfl (by kernel_rfl) (by kernel_rfl) (by kernel_rfl) (fun _ _ _ h => h) ⟨Or.inl ⟨by rfl, fun _ => by go_simp <;> with_reducible rfl⟩, fun _ => by rfl⟩ ?_
      (try simp only [Act.put, List.setIfInBounds_toArray, List.set_cons_zero, List.set_cons_succ])
      refine wpAnyIn_take (i := 13) (oi := { dst := some 18, op := _, type := _, pos := _, after := _, guard := some (9, true) }) rfl rfl (by kernel_rfl) (by kernel_rfl) (by kernel_rfl) (fun _ _ _ h => h) ⟨Or.inl ⟨by rfl, fun _ => by go_simp <;> with_reducible rfl⟩, fun _ => by rfl⟩ ?_
      (try simp only [Act.put, List.setIfInBounds_toArray, List.set_cons_zero, List.set_cons_succ])
      refine wpAnyIn_take (i := 15) (oi := { dst := some 20, op := _, type := _, pos := _, after := _, guard := some (9, true) }) rfl rfl (by kernel_rfl) (by kernel_rfl) (by kernel_rfl) (fun _ _ _ h => h) ⟨Or.inl ⟨by rfl, fun _ => by go_simp <;> with_reducible rfl⟩, fun _ => by rfl⟩ ?_
      (try simp only [Act.put, List.setIfInBounds_toArray, List.set_cons_zero, List.set_cons_succ])
      refine wpAnyIn_take (i := 16) (oi := { dst := some 21, op := _, type := _, pos := _, after := _, guard := some (9, true) }) rfl rfl (by kernel_rfl) (by kernel_rfl) (by kernel_rfl) (fun _ _ _ h => h) ⟨Or.inl ⟨by rfl, fun _ => by go_simp <;> with_reducible rfl⟩, fun _ => by rfl⟩ ?_
      (try simp only [Act.put, List.setIfInBounds_toArray, List.set_cons_zero, List.set_cons_succ])
      refine wpAnyIn_ready (rs := [14, 17]) (by kernel_rfl) (by simp) (AllReadyIn.cons (o := { dst := some 19, op := _, type := _, pos := _, after := _, guard := some (9, true) }) rfl (fun K hK => ?_) (AllReadyIn.cons (o := { dst := some 22, op := _, type := _, pos := _, after := _, guard := some (9, true) }) rfl (fun K hK => ?_) AllReadyIn.nil))
      ·
        go_simp
        refine hK _ _ ?_
        clear hK K
        (try simp only [Act.put, List.setIfInBounds_toArray, List.set_cons_zero, List.set_cons_succ])
        refine wpAnyIn_ready (rs := [17]) (by kernel_rfl) (by simp) (AllReadyIn.cons (o := { dst := some 22, op := _, type := _, pos := _, after := _, guard := some (9, true) }) rfl (fun K hK => ?_) AllReadyIn.nil)
        go_simp
        refine hK _ _ ?_
        clear hK K
        (try simp only [Act.put, List.setIfInBounds_toArray, List.set_cons_zero, List.set_cons_succ])
        refine wpAnyIn_ready (rs := [18]) (by kernel_rfl) (by simp) (AllReadyIn.cons (o := { dst := some 23, op := _, type := _, pos := _, after := _, guard := some (9, true) }) rfl (fun K hK => ?_) AllReadyIn.nil)
        go_simp
        refine hK _ _ ?_
        clear hK K
        (try simp only [Act.put, List.setIfInBounds_toArray, List.set_cons_zero, List.set_cons_succ])
        refine wpAnyIn_ready (rs := [19]) (by kernel_rfl) (by simp) (AllReadyIn.cons (o := { dst := some 24, op := _, type := _, pos := _, after := _, guard := some (9, true) }) rfl (fun K hK => ?_) AllReadyIn.nil)
        go_simp
        (first | refine ⟨deep _, ?_⟩ | refine ⟨by intros; trivial, deep _, ?_⟩); (refine hR.mono ?_; clear hR; rintro e W2 (⟨rfl, hJ2, n2, c2, hr2⟩ | ⟨rfl, hx2⟩))
        · refine hK _ _ ?_
          clear hK K
          (try simp only [Act.put, List.setIfInBounds_toArray, List.set_cons_zero, List.set_cons_succ])
          refine wpAnyIn_take (i := 20) (oi := { dst := some 25, op := _, type := _, pos := _, after := _, guard := some (2, false) }) rfl rfl (by kernel_rfl) (by kernel_rfl) (by kernel_rfl) (fun _ _ _ h => h) ⟨Or.inl ⟨by rfl, fun _ => by go_simp <;> with_reducible rfl⟩, fun _ => by rfl⟩ ?_
          (try simp only [Act.put, List.setIfInBounds_toArray, List.set_cons_zero, List.set_cons_succ])
          refine wpAnyIn_take (i := 21) (oi := { dst := some 26, op := _, type := _, pos := _, after := _, guard := some (2, false) }) rfl rfl (by kernel_rfl) (by kernel_rfl) (by kernel_rfl) (fun _ _ _ h => h) ⟨Or.inl ⟨by rfl, fun _ => by go_simp <;> with_reducible rfl⟩, fun _ => by rfl⟩ ?_
          (try simp only [Act.put, List.setIfInBounds_toArray, List.set_cons_zero, List.set_cons_succ])
          refine wpAnyIn_take (i := 22) (oi := { dst := some 27, op := _, type := _, pos := _, after := _, guard := some (21, true) }) rfl rfl (by kernel_rfl) (by kernel_rfl) (by kernel_rfl) (fun _ _ _ h => h) ⟨Or.inl ⟨by rfl, fun _ => by go_simp <;> with_reducible rfl⟩, fun _ => by rfl⟩ ?_
          (try simp only [Act.put, List.setIfInBounds_toArray, List.set_cons_zero, List.set_cons_succ])
          refine wpAnyIn_take (i := 23) (oi := { dst := some 28, op := _, type := _, pos := _, after := _, guard := some (21, true) }) rfl rfl (by kernel_rfl) (by kernel_rfl) (by kernel_rfl) (fun _ _ _ h => h) ⟨Or.inl ⟨by rfl, fun _ => by go_simp <;> with_reducible rfl⟩, fun _ => by rfl⟩ ?_
          (try simp only [Act.put, List.setIfInBounds_toArray, List.set_cons_zero, List.set_cons_succ])
          refine wpAnyIn_take (i := 24) (oi := { dst := some 29, op := _, type := _, pos := _, after := _, guard := some (21, true) }) rfl rfl (by kernel_rfl) (by kernel_rfl) (by kernel_rfl) (fun _ _ _ h => h) ⟨Or.inl ⟨by rfl, fun _ => by go_simp <;> with_reducible rfl⟩, fun _ => by rfl⟩ ?_
          (try simp only [Act.put, List.setIfInBounds_toArray, List.set_cons_zero, List.set_cons_succ])
          refine wpAnyIn_take (i := 26) (oi := { dst := some 31, op := _, type := _, pos := _, after := _, guard := some (21, true) }) rfl rfl (by kernel_rfl) (by kernel_rfl) (by kernel_rfl) (fun _ _ _ h => h) ⟨Or.inl ⟨by rfl, fun _ => by go_simp <;> with_reducible rfl⟩, fun _ => by rfl⟩ ?_
          (try simp only [Act.put, List.setIfInBounds_toArray, List.set_cons_zero, List.set_cons_succ])
          refine wpAnyIn_ready (rs := [25]) (by kernel_rfl) (by simp) (AllReadyIn.cons (o := { dst := some 30, op := _, type := _, pos := _, after := _, guard := some (21, true) }) rfl (fun K hK => ?_) AllReadyIn.nil)
          go_simp
          refine hK _ _ ?_
          clear hK K
          (try simp only [Act.put, List.setIfInBounds_toArray, List.set_cons_zero, List.set_cons_succ])
          refine wpAnyIn_ready (rs := [27]) (by kernel_rfl) (by simp) (AllReadyIn.cons (o := { dst := some 32, op := _, type := _, pos := _, after := _, guard := some (21, true) }) rfl (fun K hK => ?_) AllReadyIn.nil)
          go_simp
          (refine ⟨trivial, deep _, ?_⟩; refine (ih2.out _ hr2 hJ2).mono ?_; rintro e W3 (⟨rfl, hJ3, n3⟩ | ⟨rfl, q, hq, hx3⟩))
          · refine hK _ _ ?_
            clear hK K
            (try simp only [Act.put, List.setIfInBounds_toArray, List.set_cons_zero, List.set_cons_succ])
            refine wpAnyIn_take (i := 28) (oi := { dst := some 33, op := _, type := _, pos := _, after := _, guard := some (2, false) }) rfl rfl (by kernel_rfl) (by kernel_rfl) (by kernel_rfl) (fun _ _ _ h => h) ⟨Or.inl ⟨by rfl, fun _ => by go_simp <;> with_reducible rfl⟩, fun _ => by rfl⟩ ?_
            (try simp only [Act.put, List.setIfInBounds_toArray, List.set_cons_zero, List.set_cons_succ])
            refine wpAnyIn_take (i := 29) (oi := { dst := some 34, op := _, type := _, pos := _, after := _, guard := none }) rfl rfl (by kernel_rfl) (by kernel_rfl) (by kernel_rfl) (fun _ _ _ h => h) ⟨Or.inl ⟨by rfl, fun _ => by go_simp <;> with_reducible rfl⟩, fun _ => by rfl⟩ ?_
            (try simp only [Act.put, List.setIfInBounds_toArray, List.set_cons_zero, List.set_cons_succ])
            refine wpAnyIn_take (i := 30) (oi := { dst := some 4, op := _, type := _, pos := _, after := _, guard := none }) rfl rfl (by kernel_rfl) (by kernel_rfl) (by kernel_rfl) (fun _ _ _ h => h) ⟨Or.inl ⟨by rfl, fun _ => by go_simp <;> with_reducible rfl⟩, fun _ => by rfl⟩ ?_
            (try simp only [Act.put, List.setIfInBounds_toArray, List.set_cons_zero, List.set_cons_succ])
            refine wpAnyIn_done (by kernel_rfl) ?_ _
            (gi_wp2; go_ret; exact .inl ⟨rfl, by rw [hflat.out]; simpa [List.append_assoc] using hJ3, n2.trans n3⟩)
          · refine hK _ _ ?_
            clear hK K
            (try simp only [Act.put, List.setIfInBounds_toArray, List.set_cons_zero, List.set_cons_succ])
            refine wpAnyIn_take (i := 28) (oi := { dst := some 33, op := _, type := _, pos := _, after := _, guard := some (2, false) }) rfl rfl (by kernel_rfl) (by kernel_rfl) (by kernel_rfl) (fun _ _ _ h => h) ⟨Or.inl ⟨by rfl, fun _ => by go_simp <;> with_reducible rfl⟩, fun _ => by rfl⟩ ?_
            (try simp only [Act.put, List.setIfInBounds_toArray, List.set_cons_zero, List.set_cons_succ])
            refine wpAnyIn_take (i := 29) (oi := { dst := some 34, op := _, type := _, pos := _, after := _, guard := none }) rfl rfl (by kernel_rfl) (by kernel_rfl) (by kernel_rfl) (fun _ _ _ h => h) ⟨Or.inl ⟨by rfl, fun _ => by go_simp <;> with_reducible rfl⟩, fun _ => by rfl⟩ ?_
            (try simp only [Act.put, List.setIfInBounds_toArray, List.set_cons_zero, List.set_cons_succ])
            refine wpAnyIn_take (i := 30) (oi := { dst := some 4, op := _, type := _, pos := _, after := _, guard := none }) rfl rfl (by kernel_rfl) (by kernel_rfl) (by kernel_rfl) (fun _ _ _ h => h) ⟨Or.inl ⟨by rfl, fun _ => by go_simp <;> with_reducible rfl⟩, fun _ => by rfl⟩ ?_
            (try simp only [Act.put, List.setIfInBounds_toArray, List.set_cons_zero, List.set_cons_succ])
            refine wpAnyIn_done (by kernel_rfl) ?_ _
            (gi_wp2; go_ret; obtain ⟨r, hr'⟩ := hq; exact .inr ⟨rfl, tl.flat ++ x :: q, by rw [hflat.out]; exact ⟨r, by simp [← hr']⟩, by simpa [List.append_assoc] using hx3⟩)
        · refine hK _ _ ?_
          clear hK K
          (try simp only [Act.put, List.setIfInBounds_toArray, List.set_cons_zero, List.set_cons_succ])
          refine wpAnyIn_take (i := 20) (oi := { dst := some 25, op := _, type := _, pos := _, after := _, guard := some (2, false) }) rfl rfl (by kernel_rfl) (by kernel_rfl) (by kernel_rfl) (fun _ _ _ h => h) ⟨Or.inl ⟨by rfl, fun _ => by go_simp <;> with_reducible rfl⟩, fun _ => by rfl⟩ ?_
          (try simp only [Act.put, List.setIfInBounds_toArray, List.set_cons_zero, List.set_cons_succ])
          refine wpAnyIn_take (i := 21) (oi := { dst := some 26, op := _, type := _, pos := _, after := _, guard := some (2, false) }) rfl rfl (by kernel_rfl) (by kernel_rfl) (by kernel_rfl) (fun _ _ _ h => h) ⟨Or.inl ⟨by rfl, fun _ => by go_simp <;> with_reducible rfl⟩, fun _ => by rfl⟩ ?_
          (try simp only [Act.put, List.setIfInBounds_toArray, List.set_cons_zero, List.set_cons_succ])
          refine wpAnyIn_take (i := 22) (oi := { dst := some 27, op := _, type := _, pos := _, after := _, guard := some (21, true) }) (v := undef) rfl rfl (by kernel_rfl) (by kernel_rfl) (by kernel_rfl) (fun _ _ _ h => h) ⟨Or.inr ⟨by rfl, rfl⟩, fun _ => by rfl⟩ ?_
          (try simp only [Act.put, List.setIfInBounds_toArray, List.set_cons_zero, List.set_cons_succ])
          refine wpAnyIn_take (i := 23) (oi := { dst := some 28, op := _, type := _, pos := _, after := _, guard := some (21, true) }) (v := undef) rfl rfl (by kernel_rfl) (by kernel_rfl) (by kernel_rfl) (fun _ _ _ h => h) ⟨Or.inr ⟨by rfl, rfl⟩, fun _ => by rfl⟩ ?_
          (try simp only [Act.put, List.setIfInBounds_toArray, List.set_cons_zero, List.set_cons_succ])
          refine wpAnyIn_take (i := 24) (oi := { dst := some 29, op := _, type := _, pos := _, after := _, guard := some (21, true) }) (v := undef) rfl rfl (by kernel_rfl) (by kernel_rfl) (by kernel_rfl) (fun _ _ _ h => h) ⟨Or.inr ⟨by rfl, rfl⟩, fun _ => by rfl⟩ ?_
          (try simp only [Act.put, List.setIfInBounds_toArray, List.set_cons_zero, List.set_cons_succ])
          refine wpAnyIn_take (i := 25) (oi := { dst := some 30, op := _, type := _, pos := _, after := _, guard := some (21, true) }) (v := undef) rfl rfl (by kernel_rfl) (by kernel_rfl) (by kernel_rfl) (fun _ _ _ h => h) ⟨Or.inr ⟨by rfl, rfl⟩, fun _ => by rfl⟩ ?_
          (try simp only [Act.put, List.setIfInBounds_toArray, List.set_cons_zero, List.set_cons_succ])
          refine wpAnyIn_take (i := 26) (oi := { dst := some 31, op := _, type := _, pos := _, after := _, guard := some (21, true) }) (v := undef) rfl rfl (by kernel_rfl) (by kernel_rfl) (by kernel_rfl) (fun _ _ _ h => h) ⟨Or.inr ⟨by rfl, rfl⟩, fun _ => by rfl⟩ ?_
          (try simp only [Act.put, List.setIfInBounds_toArray, List.set_cons_zero, List.set_cons_succ])
          refine wpAnyIn_ready (rs := [27]) (by kernel_rfl) (by simp) (AllReadyIn.cons (o := { dst := some 32, op := _, type := _, pos := _, after := _, guard := some (21, true) }) rfl (fun K hK => ?_) AllReadyIn.nil)
          go_simp
          refine ⟨?_, ?_⟩
          · first | trivial | (intros; trivial)
          refine hK _ _ ?_
          clear hK K
          (try simp only [Act.put, List.setIfInBounds_toArray, List.set_cons_zero, List.set_cons_succ])
          refine wpAnyIn_take (i := 28) (oi := { dst := some 33, op := _, type := _, pos := _, after := _, guard := some (2, false) }) rfl rfl (by kernel_rfl) (by kernel_rfl) (by kernel_rfl) (fun _ _ _ h => h) ⟨Or.inl ⟨by rfl, fun _ => by go_simp <;> with_reducible rfl⟩, fun _ => by rfl⟩ ?_
          (try simp only [Act.put, List.setIfInBounds_toArray, List.set_cons_zero, List.set_cons_succ])
          refine wpAnyIn_take (i := 29) (oi := { dst := some 34, op := _, type := _, pos := _, after := _, guard := none }) rfl rfl (by kernel_rfl) (by kernel_rfl) (by kernel_rfl) (fun _ _ _ h => h) ⟨Or.inl ⟨by rfl, fun _ => by go_simp <;> with_reducible rfl⟩, fun _ => by rfl⟩ ?_
          (try simp only [Act.put, List.setIfInBounds_toArray, List.set_cons_zero, List.set_cons_succ])
          refine wpAnyIn_take (i := 30) (oi := { dst := some 4, op := _, type := _, pos := _, after := _, guard := none }) rfl rfl (by kernel_rfl) (by kernel_rfl) (by kernel_rfl) (fun _ _ _ h => h) ⟨Or.inl ⟨by rfl, fun _ => by go_simp <;> with_reducible rfl⟩, fun _ => by rfl⟩ ?_
          (try simp only [Act.put, List.setIfInBounds_toArray, List.set_cons_zero, List.set_cons_succ])
          refine wpAnyIn_done (by kernel_rfl) ?_ _
          (gi_wp2; go_ret; exact .inr ⟨rfl, tl.flat ++ [x], by rw [hflat.out]; exact ⟨tr.flat, by simp⟩, by simpa [List.append_assoc] using hx2⟩)
      ·
        go_simp
        refine hK _ _ ?_
        clear hK K
        (try simp only [Act.put, List.setIfInBounds_toArray, List.set_cons_zero, List.set_cons_succ])
        refine wpAnyIn_ready (rs := [14, 18]) (by kernel_rfl) (by simp) (AllReadyIn.cons (o := { dst := some 19, op := _, type := _, pos := _, after := _, guard := some (9, true) }) rfl (fun K hK => ?_) (AllReadyIn.cons (o := { dst := some 23, op := _, type := _, pos := _, after := _, guard := some (9, true) }) rfl (fun K hK => ?_) AllReadyIn.nil))
        ·
          go_simp
          refine hK _ _ ?_
          clear hK K
          (try simp only [Act.put, List.setIfInBounds_toArray, List.set_cons_zero, List.set_cons_succ])
          refine wpAnyIn_ready (rs := [18]) (by kernel_rfl) (by simp) (AllReadyIn.cons (o := { dst := some 23, op := _, type := _, pos := _, after := _, guard := some (9, true) }) rfl (fun K hK => ?_) AllReadyIn.nil)
          go_simp
          refine hK _ _ ?_
          clear hK K
          (try simp only [Act.put, List.setIfInBounds_toArray, List.set_cons_zero, List.set_cons_succ])
          refine wpAnyIn_ready (rs := [19]) (by kernel_rfl) (by simp) (AllReadyIn.cons (o := { dst := some 24, op := _, type := _, pos := _, after := _, guard := some (9, true) }) rfl (fun K hK => ?_) AllReadyIn.nil)
          go_simp
          (first | refine ⟨deep _, ?_⟩ | refine ⟨by intros; trivial, deep _, ?_⟩); (refine hR.mono ?_; clear hR; rintro e W2 (⟨rfl, hJ2, n2, c2, hr2⟩ | ⟨rfl, hx2⟩))
          · refine hK _ _ ?_
            clear hK K
            (try simp only [Act.put, List.setIfInBounds_toArray, List.set_cons_zero, List.set_cons_succ])
            refine wpAnyIn_take (i := 20) (oi := { dst := some 25, op := _, type := _, pos := _, after := _, guard := some (2, false) }) rfl rfl (by kernel_rfl) (by kernel_rfl) (by kernel_rfl) (fun _ _ _ h => h) ⟨Or.inl ⟨by rfl, fun _ => by go_simp <;> with_reducible rfl⟩, fun _ => by rfl⟩ ?_
            (try simp only [Act.put, List.setIfInBounds_toArray, List.set_cons_zero, List.set_cons_succ])
            refine wpAnyIn_take (i := 21) (oi := { dst := some 26, op := _, type := _, pos := _, after := _, guard := some (2, false) }) rfl rfl (by kernel_rfl) (by kernel_rfl) (by kernel_rfl) (fun _ _ _ h => h) ⟨Or.inl ⟨by rfl, fun _ => by go_simp <;> with_reducible rfl⟩, fun _ => by rfl⟩ ?_
            (try simp only [Act.put, List.setIfInBounds_toArray, List.set_cons_zero, List.set_cons_succ])
            refine wpAnyIn_take (i := 22) (oi := { dst := some 27, op := _, type := _, pos := _, after := _, guard := some (21, true) }) rfl rfl (by kernel_rfl) (by kernel_rfl) (by kernel_rfl) (fun _ _ _ h => h) ⟨Or.inl ⟨by rfl, fun _ => by go_simp <;> with_reducible rfl⟩, fun _ => by rfl⟩ ?_
            (try simp only [Act.put, List.setIfInBounds_toArray, List.set_cons_zero, List.set_cons_succ])
            refine wpAnyIn_take (i := 23) (oi := { dst := some 28, op := _, type := _, pos := _, after := _, guard := some (21, true) }) rfl rfl (by kernel_rfl) (by kernel_rfl) (by kernel_rfl) (fun _ _ _ h => h) ⟨Or.inl ⟨by rfl, fun _ => by go_simp <;> with_reducible rfl⟩, fun _ => by rfl⟩ ?_
            (try simp only [Act.put, List.setIfInBounds_toArray, List.set_cons_zero, List.set_cons_succ])
            refine wpAnyIn_take (i := 24) (oi := { dst := some 29, op := _, type := _, pos := _, after := _, guard := some (21, true) }) rfl rfl (by kernel_rfl) (by kernel_rfl) (by kernel_rfl) (fun _ _ _ h => h) ⟨Or.inl ⟨by rfl, fun _ => by go_simp <;> with_reducible rfl⟩, fun _ => by rfl⟩ ?_
            (try simp only [Act.put, List.setIfInBounds_toArray, List.set_cons_zero, List.set_cons_succ])
            refine wpAnyIn_take (i := 26) (oi := { dst := some 31, op := _, type := _, pos := _, after := _, guard := some (21, true) }) rfl rfl (by kernel_rfl) (by kernel_rfl) (by kernel_rfl) (fun _ _ _ h => h) ⟨Or.inl ⟨by rfl, fun _ => by go_simp <;> with_reducible rfl⟩, fun _ => by rfl⟩ ?_
            (try simp only [Act.put, List.setIfInBounds_toArray, List.set_cons_zero, List.set_cons_succ])
            refine wpAnyIn_ready (rs := [25]) (by kernel_rfl) (by simp) (AllReadyIn.cons (o := { dst := some 30, op := _, type := _, pos := _, after := _, guard := some (21, true) }) rfl (fun K hK => ?_) AllReadyIn.nil)
            go_simp
            refine hK _ _ ?_
            clear hK K
            (try simp only [Act.put, List.setIfInBounds_toArray, List.set_cons_zero, List.set_cons_succ])
            refine wpAnyIn_ready (rs := [27]) (by kernel_rfl) (by simp) (AllReadyIn.cons (o := { dst := some 32, op := _, type := _, pos := _, after := _, guard := some (21, true) }) rfl (fun K hK => ?_) AllReadyIn.nil)
            go_simp
            (refine ⟨trivial, deep _, ?_⟩; refine (ih2.out _ hr2 hJ2).mono ?_; rintro e W3 (⟨rfl, hJ3, n3⟩ | ⟨rfl, q, hq, hx3⟩))
            · refine hK _ _ ?_
              clear hK K
              (try simp only [Act.put, List.setIfInBounds_toArray, List.set_cons_zero, List.set_cons_succ])
              refine wpAnyIn_take (i := 28) (oi := { dst := some 33, op := _, type := _, pos := _, after := _, guard := some (2, false) }) rfl rfl (by kernel_rfl) (by kernel_rfl) (by kernel_rfl) (fun _ _ _ h => h) ⟨Or.inl ⟨by rfl, fun _ => by go_simp <;> with_reducible rfl⟩, fun _ => by rfl⟩ ?_
              (try simp only [Act.put, List.setIfInBounds_toArray, List.set_cons_zero, List.set_cons_succ])
              refine wpAnyIn_take (i := 29) (oi := { dst := some 34, op := _, type := _, pos := _, after := _, guard := none }) rfl rfl (by kernel_rfl) (by kernel_rfl) (by kernel_rfl) (fun _ _ _ h => h) ⟨Or.inl ⟨by rfl, fun _ => by go_simp <;> with_reducible rfl⟩, fun _ => by rfl⟩ ?_
              (try simp only [Act.put, List.setIfInBounds_toArray, List.set_cons_zero, List.set_cons_succ])
              refine wpAnyIn_take (i := 30) (oi := { dst := some 4, op := _, type := _, pos := _, after := _, guard := none }) rfl rfl (by kernel_rfl) (by kernel_rfl) (by kernel_rfl) (fun _ _ _ h => h) ⟨Or.inl ⟨by rfl, fun _ => by go_simp <;> with_reducible rfl⟩, fun _ => by rfl⟩ ?_
              (try simp only [Act.put, List.setIfInBounds_toArray, List.set_cons_zero, List.set_cons_succ])
              refine wpAnyIn_done (by kernel_rfl) ?_ _
              (gi_wp2; go_ret; exact .inl ⟨rfl, by rw [hflat.out]; simpa [List.append_assoc] using hJ3, n2.trans n3⟩)
            · refine hK _ _ ?_
              clear hK K
              (try simp only [Act.put, List.setIfInBounds_toArray, List.set_cons_zero, List.set_cons_succ])
              refine wpAnyIn_take (i := 28) (oi := { dst := some 33, op := _, type := _, pos := _, after := _, guard := some (2, false) }) rfl rfl (by kernel_rfl) (by kernel_rfl) (by kernel_rfl) (fun _ _ _ h => h) ⟨Or.inl ⟨by rfl, fun _ => by go_simp <;> with_reducible rfl⟩, fun _ => by rfl⟩ ?_
              (try simp only [Act.put, List.setIfInBounds_toArray, List.set_cons_zero, List.set_cons_succ])
              refine wpAnyIn_take (i := 29) (oi := { dst := some 34, op := _, type := _, pos := _, after := _, guard := none }) rfl rfl (by kernel_rfl) (by kernel_rfl) (by kernel_rfl) (fun _ _ _ h => h) ⟨Or.inl ⟨by rfl, fun _ => by go_simp <;> with_reducible rfl⟩, fun _ => by rfl⟩ ?_
              (try simp only [Act.put, List.setIfInBounds_toArray, List.set_cons_zero, List.set_cons_succ])
              refine wpAnyIn_take (i := 30) (oi := { dst := some 4, op := _, type := _, pos := _, after := _, guard := none }) rfl rfl (by kernel_rfl) (by kernel_rfl) (by kernel_rfl) (fun _ _ _ h => h) ⟨Or.inl ⟨by rfl, fun _ => by go_simp <;> with_reducible rfl⟩, fun _ => by rfl⟩ ?_
              (try simp only [Act.put, List.setIfInBounds_toArray, List.set_cons_zero, List.set_cons_succ])
              refine wpAnyIn_done (by kernel_rfl) ?_ _
              (gi_wp2; go_ret; obtain ⟨r, hr'⟩ := hq; exact .inr ⟨rfl, tl.flat ++ x :: q, by rw [hflat.out]; exact ⟨r, by simp [← hr']⟩, by simpa [List.append_assoc] using hx3⟩)
          · refine hK _ _ ?_
            clear hK K
            (try simp only [Act.put, List.setIfInBounds_toArray, List.set_cons_zero, List.set_cons_succ])
            refine wpAnyIn_take (i := 20) (oi := { dst := some 25, op := _, type := _, pos := _, after := _, guard := some (2, false) }) rfl rfl (by kernel_rfl) (by kernel_rfl) (by kernel_rfl) (fun _ _ _ h => h) ⟨Or.inl ⟨by rfl, fun _ => by go_simp <;> with_reducible rfl⟩, fun _ => by rfl⟩ ?_
            (try simp only [Act.put, List.setIfInBounds_toArray, List.set_cons_zero, List.set_cons_succ])
            refine wpAnyIn_take (i := 21) (oi := { dst := some 26, op := _, type := _, pos := _, after := _, guard := some (2, false) }) rfl rfl (by kernel_rfl) (by kernel_rfl) (by kernel_rfl) (fun _ _ _ h => h) ⟨Or.inl ⟨by rfl, fun _ => by go_simp <;> with_reducible rfl⟩, fun _ => by rfl⟩ ?_
            (try simp only [Act.put, List.setIfInBounds_toArray, List.set_cons_zero, List.set_cons_succ])
            refine wpAnyIn_take (i := 22) (oi := { dst := some 27, op := _, type := _, pos := _, after := _, guard := some (21, true) }) (v := undef) rfl rfl (by kernel_rfl) (by kernel_rfl) (by kernel_rfl) (fun _ _ _ h => h) ⟨Or.inr ⟨by rfl, rfl⟩, fun _ => by rfl⟩ ?_
            (try simp only [Act.put, List.setIfInBounds_toArray, List.set_cons_zero, List.set_cons_succ])
            refine wpAnyIn_take (i := 23) (oi := { dst := some 28, op := _, type := _, pos := _, after := _, guard := some (21, true) }) (v := undef) rfl rfl (by kernel_rfl) (by kernel_rfl) (by kernel_rfl) (fun _ _ _ h => h) ⟨Or.inr ⟨by rfl, rfl⟩, fun _ => by rfl⟩ ?_
            (try simp only [Act.put, List.setIfInBounds_toArray, List.set_cons_zero, List.set_cons_succ])
            refine wpAnyIn_take (i := 24) (oi := { dst := some 29, op := _, type := _, pos := _, after := _, guard := some (21, true) }) (v := undef) rfl rfl (by kernel_rfl) (by kernel_rfl) (by kernel_rfl) (fun _ _ _ h => h) ⟨Or.inr ⟨by rfl, rfl⟩, fun _ => by rfl⟩ ?_
            (try simp only [Act.put, List.setIfInBounds_toArray, List.set_cons_zero, List.set_cons_succ])
            refine wpAnyIn_take (i := 25) (oi := { dst := some 30, op := _, type := _, pos := _, after := _, guard := some (21, true) }) (v := undef) rfl rfl (by kernel_rfl) (by kernel_rfl) (by kernel_rfl) (fun _ _ _ h => h) ⟨Or.inr ⟨by rfl, rfl⟩, fun _ => by rfl⟩ ?_
            (try simp only [Act.put, List.setIfInBounds_toArray, List.set_cons_zero, List.set_cons_succ])
            refine wpAnyIn_take (i := 26) (oi := { dst := some 31, op := _, type := _, pos := _, after := _, guard := some (21, true) }) (v := undef) rfl rfl (by kernel_rfl) (by kernel_rfl) (by kernel_rfl) (fun _ _ _ h => h) ⟨Or.inr ⟨by rfl, rfl⟩, fun _ => by rfl⟩ ?_
            (try simp only [Act.put, List.setIfInBounds_toArray, List.set_cons_zero, List.set_cons_succ])
            refine wpAnyIn_ready (rs := [27]) (by kernel_rfl) (by simp) (AllReadyIn.cons (o := { dst := some 32, op := _, type := _, pos := _, after := _, guard := some (21, true) }) rfl (fun K hK => ?_) AllReadyIn.nil)
            go_simp
            refine ⟨?_, ?_⟩
            · first | trivial | (intros; trivial)
            refine hK _ _ ?_
            clear hK K
            (try simp only [Act.put, List.setIfInBounds_toArray, List.set_cons_zero, List.set_cons_succ])
            refine wpAnyIn_take (i := 28) (oi := { dst := some 33, op := _, type := _, pos := _, after := _, guard := some (2, false) }) rfl rfl (by kernel_rfl) (by kernel_rfl) (by kernel_rfl) (fun _ _ _ h => h) ⟨Or.inl ⟨by rfl, fun _ => by go_simp <;> with_reducible rfl⟩, fun _ => by rfl⟩ ?_
            (try simp only [Act.put, List.setIfInBounds_toArray, List.set_cons_zero, List.set_cons_succ])
            refine wpAnyIn_take (i := 29) (oi := { dst := some 34, op := _, type := _, pos := _, after := _, guard := none }) rfl rfl (by kernel_rfl) (by kernel_rfl) (by kernel_rfl) (fun _ _ _ h => h) ⟨Or.inl ⟨by rfl, fun _ => by go_simp <;> with_reducible rfl⟩, fun _ => by rfl⟩ ?_
            (try simp only [Act.put, List.setIfInBounds_toArray, List.set_cons_zero, List.set_cons_succ])
            refine wpAnyIn_take (i := 30) (oi := { dst := some 4, op := _, type := _, pos := _, after := _, guard := none }) rfl rfl (by kernel_rfl) (by kernel_rfl) (by kernel_rfl) (fun _ _ _ h => h) ⟨Or.inl ⟨by rfl, fun _ => by go_simp <;> with_reducible rfl⟩, fun _ => by rfl⟩ ?_
            (try simp only [Act.put, List.setIfInBounds_toArray, List.set_cons_zero, List.set_cons_succ])
            refine wpAnyIn_done (by kernel_rfl) ?_ _
            (gi_wp2; go_ret; exact .inr ⟨rfl, tl.flat ++ [x], by rw [hflat.out]; exact ⟨tr.flat, by simp⟩, by simpa [List.append_assoc] using hx2⟩)
        ·
          go_simp
          refine hK _ _ ?_
          clear hK K
          (try simp only [Act.put, List.setIfInBounds_toArray, List.set_cons_zero, List.set_cons_succ])
          refine wpAnyIn_ready (rs := [14]) (by kernel_rfl) (by simp) (AllReadyIn.cons (o := { dst := some 19, op := _, type := _, pos := _, after := _, guard := some (9, true) }) rfl (fun K hK => ?_) AllReadyIn.nil)
          go_simp
          refine hK _ _ ?_
          clear hK K
          (try simp only [Act.put, List.setIfInBounds_toArray, List.set_cons_zero, List.set_cons_succ])
          refine wpAnyIn_ready (rs := [19]) (by kernel_rfl) (by simp) (AllReadyIn.cons (o := { dst := some 24, op := _, type := _, pos := _, after := _, guard := some (9, true) }) rfl (fun K hK => ?_) AllReadyIn.nil)
          go_simp
          (first | refine ⟨deep _, ?_⟩ | refine ⟨by intros; trivial, deep _, ?_⟩); (refine hR.mono ?_; clear hR; rintro e W2 (⟨rfl, hJ2, n2, c2, hr2⟩ | ⟨rfl, hx2⟩))
          · refine hK _ _ ?_
            clear hK K
            (try simp only [Act.put, List.setIfInBounds_toArray, List.set_cons_zero, List.set_cons_succ])
            refine wpAnyIn_take (i := 20) (oi := { dst := some 25, op := _, type := _, pos := _, after := _, guard := some (2, false) }) rfl rfl (by kernel_rfl) (by kernel_rfl) (by kernel_rfl) (fun _ _ _ h => h) ⟨Or.inl ⟨by rfl, fun _ => by go_simp <;> with_reducible rfl⟩, fun _ => by rfl⟩ ?_
            (try simp only [Act.put, List.setIfInBounds_toArray, List.set_cons_zero, List.set_cons_succ])
            refine wpAnyIn_take (i := 21) (oi := { dst := some 26, op := _, type := _, pos := _, after := _, guard := some (2, false) }) rfl rfl (by kernel_rfl) (by kernel_rfl) (by kernel_rfl) (fun _ _ _ h => h) ⟨Or.inl ⟨by rfl, fun _ => by go_simp <;> with_reducible rfl⟩, fun _ => by rfl⟩ ?_
            (try simp only [Act.put, List.setIfInBounds_toArray, List.set_cons_zero, List.set_cons_succ])
            refine wpAnyIn_take (i := 22) (oi := { dst := some 27, op := _, type := _, pos := _, after := _, guard := some (21, true) }) rfl rfl (by kernel_rfl) (by kernel_rfl) (by kernel_rfl) (fun _ _ _ h => h) ⟨Or.inl ⟨by rfl, fun _ => by go_simp <;> with_reducible rfl⟩, fun _ => by rfl⟩ ?_
            (try simp only [Act.put, List.setIfInBounds_toArray, List.set_cons_zero, List.set_cons_succ])
            refine wpAnyIn_take (i := 23) (oi := { dst := some 28, op := _, type := _, pos := _, after := _, guard := some (21, true) }) rfl rfl (by kernel_rfl) (by kernel_rfl) (by kernel_rfl) (fun _ _ _ h => h) ⟨Or.inl ⟨by rfl, fun _ => by go_simp <;> with_reducible rfl⟩, fun _ => by rfl⟩ ?_
            (try simp only [Act.put, List.setIfInBounds_toArray, List.set_cons_zero, List.set_cons_succ])
            refine wpAnyIn_take (i := 24) (oi := { dst := some 29, op := _, type := _, pos := _, after := _, guard := some (21, true) }) rfl rfl (by kernel_rfl) (by kernel_rfl) (by kernel_rfl) (fun _ _ _ h => h) ⟨Or.inl ⟨by rfl, fun _ => by go_simp <;> with_reducible rfl⟩, fun _ => by rfl⟩ ?_
            (try simp only [Act.put, List.setIfInBounds_toArray, List.set_cons_zero, List.set_cons_succ])
            refine wpAnyIn_take (i := 26) (oi := { dst := some 31, op := _, type := _, pos := _, after := _, guard := some (21, true) }) rfl rfl (by kernel_rfl) (by kernel_rfl) (by kernel_rfl) (fun _ _ _ h => h) ⟨Or.inl ⟨by rfl, fun _ => by go_simp <;> with_reducible rfl⟩, fun _ => by rfl⟩ ?_
            (try simp only [Act.put, List.setIfInBounds_toArray, List.set_cons_zero, List.set_cons_succ])
            refine wpAnyIn_ready (rs := [25]) (by kernel_rfl) (by simp) (AllReadyIn.cons (o := { dst := some 30, op := _, type := _, pos := _, after := _, guard := some (21, true) }) rfl (fun K hK => ?_) AllReadyIn.nil)
            go_simp
            refine hK _ _ ?_
            clear hK K
            (try simp only [Act.put, List.setIfInBounds_toArray, List.set_cons_zero, List.set_cons_succ])
            refine wpAnyIn_ready (rs := [27]) (by kernel_rfl) (by simp) (AllReadyIn.cons (o := { dst := some 32, op := _, type := _, pos := _, after := _, guard := some (21, true) }) rfl (fun K hK => ?_) AllReadyIn.nil)
            go_simp
            (refine ⟨trivial, deep _, ?_⟩; refine (ih2.out _ hr2 hJ2).mono ?_; rintro e W3 (⟨rfl, hJ3, n3⟩ | ⟨rfl, q, hq, hx3⟩))
            · refine hK _ _ ?_
              clear hK K
              (try simp only [Act.put, List.setIfInBounds_toArray, List.set_cons_zero, List.set_cons_succ])
              refine wpAnyIn_take (i := 28) (oi := { dst := some 33, op := _, type := _, pos := _, after := _, guard := some (2, false) }) rfl rfl (by kernel_rfl) (by kernel_rfl) (by kernel_rfl) (fun _ _ _ h => h) ⟨Or.inl ⟨by rfl, fun _ => by go_simp <;> with_reducible rfl⟩, fun _ => by rfl⟩ ?_
              (try simp only [Act.put, List.setIfInBounds_toArray, List.set_cons_zero, List.set_cons_succ])
              refine wpAnyIn_take (i := 29) (oi := { dst := some 34, op := _, type := _, pos := _, after := _, guard := none }) rfl rfl (by kernel_rfl) (by kernel_rfl) (by kernel_rfl) (fun _ _ _ h => h) ⟨Or.inl ⟨by rfl, fun _ => by go_simp <;> with_reducible rfl⟩, fun _ => by rfl⟩ ?_
              (try simp only [Act.put, List.setIfInBounds_toArray, List.set_cons_zero, List.set_cons_succ])
              refine wpAnyIn_take (i := 30) (oi := { dst := some 4, op := _, type := _, pos := _, after := _, guard := none }) rfl rfl (by kernel_rfl) (by kernel_rfl) (by kernel_rfl) (fun _ _ _ h => h) ⟨Or.inl ⟨by rfl, fun _ => by go_simp <;> with_reducible rfl⟩, fun _ => by rfl⟩ ?_
              (try simp only [Act.put, List.setIfInBounds_toArray, List.set_cons_zero, List.set_cons_succ])
              refine wpAnyIn_done (by kernel_rfl) ?_ _
              (gi_wp2; go_ret; exact .inl ⟨rfl, by rw [hflat.out]; simpa [List.append_assoc] using hJ3, n2.trans n3⟩)
            · refine hK _ _ ?_
              clear hK K
              (try simp only [Act.put, List.setIfInBounds_toArray, List.set_cons_zero, List.set_cons_succ])
              refine wpAnyIn_take (i := 28) (oi := { dst := some 33, op := _, type := _, pos := _, after := _, guard := some (2, false) }) rfl rfl (by kernel_rfl) (by kernel_rfl) (by kernel_rfl) (fun _ _ _ h => h) ⟨Or.inl ⟨by rfl, fun _ => by go_simp <;> with_reducible rfl⟩, fun _ => by rfl⟩ ?_
              (try simp only [Act.put, List.setIfInBounds_toArray, List.set_cons_zero, List.set_cons_succ])
              refine wpAnyIn_take (i := 29) (oi := { dst := some 34, op := _, type := _, pos := _, after := _, guard := none }) rfl rfl (by kernel_rfl) (by kernel_rfl) (by kernel_rfl) (fun _ _ _ h => h) ⟨Or.inl ⟨by rfl, fun _ => by go_simp <;> with_reducible rfl⟩, fun _ => by rfl⟩ ?_
              (try simp only [Act.put, List.setIfInBounds_toArray, List.set_cons_zero, List.set_cons_succ])
              refine wpAnyIn_take (i := 30) (oi := { dst := some 4, op := _, type := _, pos := _, after := _, guard := none }) rfl rfl (by kernel_rfl) (by kernel_rfl) (by kernel_rfl) (fun _ _ _ h => h) ⟨Or.inl ⟨by rfl, fun _ => by go_simp <;> with_reducible rfl⟩, fun _ => by rfl⟩ ?_
              (try simp only [Act.put, List.setIfInBounds_toArray, List.set_cons_zero, List.set_cons_succ])
              refine wpAnyIn_done (by kernel_rfl) ?_ _
              (gi_wp2; go_ret; obtain ⟨r, hr'⟩ := hq; exact .inr ⟨rfl, tl.flat ++ x :: q, by rw [hflat.out]; exact ⟨r, by simp [← hr']⟩, by simpa [List.append_assoc] using hx3⟩)
          · refine hK _ _ ?_
            clear hK K
            (try simp only [Act.put, List.setIfInBounds_toArray, List.set_cons_zero, List.set_cons_succ])
            refine wpAnyIn_take (i := 20) (oi := { dst := some 25, op := _, type := _, pos := _, after := _, guard := some (2, false) }) rfl rfl (by kernel_rfl) (by kernel_rfl) (by kernel_rfl) (fun _ _ _ h => h) ⟨Or.inl ⟨by rfl, fun _ => by go_simp <;> with_reducible rfl⟩, fun _ => by rfl⟩ ?_
            (try simp only [Act.put, List.setIfInBounds_toArray, List.set_cons_zero, List.set_cons_succ])
            refine wpAnyIn_take (i := 21) (oi := { dst := some 26, op := _, type := _, pos := _, after := _, guard := some (2, false) }) rfl rfl (by kernel_rfl) (by kernel_rfl) (by kernel_rfl) (fun _ _ _ h => h) ⟨Or.inl ⟨by rfl, fun _ => by go_simp <;> with_reducible rfl⟩, fun _ => by rfl⟩ ?_
            (try simp only [Act.put, List.setIfInBounds_toArray, List.set_cons_zero, List.set_cons_succ])
            refine wpAnyIn_take (i := 22) (oi := { dst := some 27, op := _, type := _, pos := _, after := _, guard := some (21, true) }) (v := undef) rfl rfl (by kernel_rfl) (by kernel_rfl) (by kernel_rfl) (fun _ _ _ h => h) ⟨Or.inr ⟨by rfl, rfl⟩, fun _ => by rfl⟩ ?_
            (try simp only [Act.put, List.setIfInBounds_toArray, List.set_cons_zero, List.set_cons_succ])
            refine wpAnyIn_take (i := 23) (oi := { dst := some 28, op := _, type := _, pos := _, after := _, guard := some (21, true) }) (v := undef) rfl rfl (by kernel_rfl) (by kernel_rfl) (by kernel_rfl) (fun _ _ _ h => h) ⟨Or.inr ⟨by rfl, rfl⟩, fun _ => by rfl⟩ ?_
            (try simp only [Act.put, List.setIfInBounds_toArray, List.set_cons_zero, List.set_cons_succ])
            refine wpAnyIn_take (i := 24) (oi := { dst := some 29, op := _, type := _, pos := _, after := _, guard := some (21, true) }) (v := undef) rfl rfl (by kernel_rfl) (by kernel_rfl) (by kernel_rfl) (fun _ _ _ h => h) ⟨Or.inr ⟨by rfl, rfl⟩, fun _ => by rfl⟩ ?_
            (try simp only [Act.put, List.setIfInBounds_toArray, List.set_cons_zero, List.set_cons_succ])
            refine wpAnyIn_take (i := 25) (oi := { dst := some 30, op := _, type := _, pos := _, after := _, guard := some (21, true) }) (v := undef) rfl rfl (by kernel_rfl) (by kernel_rfl) (by kernel_rfl) (fun _ _ _ h => h) ⟨Or.inr ⟨by rfl, rfl⟩, fun _ => by rfl⟩ ?_
            (try simp only [Act.put, List.setIfInBounds_toArray, List.set_cons_zero, List.set_cons_succ])
            refine wpAnyIn_take (i := 26) (oi := { dst := some 31, op := _, type := _, pos := _, after := _, guard := some (21, true) }) (v := undef) rfl rfl (by kernel_rfl) (by kernel_rfl) (by kernel_rfl) (fun _ _ _ h => h) ⟨Or.inr ⟨by rfl, rfl⟩, fun _ => by rfl⟩ ?_
            (try simp only [Act.put, List.setIfInBounds_toArray, List.set_cons_zero, List.set_cons_succ])
            refine wpAnyIn_ready (rs := [27]) (by kernel_rfl) (by simp) (AllReadyIn.cons (o := { dst := some 32, op := _, type := _, pos := _, after := _, guard := some (21, true) }) rfl (fun K hK => ?_) AllReadyIn.nil)
            go_simp
            refine ⟨?_, ?_⟩
            · first | trivial | (intros; trivial)
            refine hK _ _ ?_
            clear hK K
            (try simp only [Act.put, List.setIfInBounds_toArray, List.set_cons_zero, List.set_cons_succ])
            refine wpAnyIn_take (i := 28) (oi := { dst := some 33, op := _, type := _, pos := _, after := _, guard := some (2, false) }) rfl rfl (by kernel_rfl) (by kernel_rfl) (by kernel_rfl) (fun _ _ _ h => h) ⟨Or.inl ⟨by rfl, fun _ => by go_simp <;> with_reducible rfl⟩, fun _ => by rfl⟩ ?_
            (try simp only [Act.put, List.setIfInBounds_toArray, List.set_cons_zero, List.set_cons_succ])
            refine wpAnyIn_take (i := 29) (oi := { dst := some 34, op := _, type := _, pos := _, after := _, guard := none }) rfl rfl (by kernel_rfl) (by kernel_rfl) (by kernel_rfl) (fun _ _ _ h => h) ⟨Or.inl ⟨by rfl, fun _ => by go_simp <;> with_reducible rfl⟩, fun _ => by rfl⟩ ?_
            (try simp only [Act.put, List.setIfInBounds_toArray, List.set_cons_zero, List.set_cons_succ])
            refine wpAnyIn_take (i := 30) (oi := { dst := some 4, op := _, type := _, pos := _, after := _, guard := none }) rfl rfl (by kernel_rfl) (by kernel_rfl) (by kernel_rfl) (fun _ _ _ h => h) ⟨Or.inl ⟨by rfl, fun _ => by go_simp <;> with_reducible rfl⟩, fun _ => by rfl⟩ ?_
            (try simp only [Act.put, List.setIfInBounds_toArray, List.set_cons_zero, List.set_cons_succ])
            refine wpAnyIn_done (by kernel_rfl) ?_ _
            (gi_wp2; go_ret; exact .inr ⟨rfl, tl.flat ++ [x], by rw [hflat.out]; exact ⟨tr.flat, by simp⟩, by simpa [List.append_assoc] using hx2⟩)
    · refine hK _ _ ?_
      clear hK K
      (try simp only [Act.put, List.setIfInBounds_toArray, List.set_cons_zero, List.set_cons_succ])
      refine wpAnyIn_take (i := 9) (oi := { dst := some 14, op := _, type := _, pos := _, after := _, guard := some (2, false) }) rfl rfl (by kernel_rfl) (by kernel_rfl) (by kernel_rfl) (fun _ _ _ h => h) ⟨Or.inl ⟨by rfl, fun _ => by go_simp <;> with_reducible rfl⟩, fun _ => by rfl⟩ ?_
      (try simp only [Act.put, List.setIfInBounds_toArray, List.set_cons_zero, List.set_cons_succ])
      refine wpAnyIn_take (i := 10) (oi := { dst := some 15, op := _, type := _, pos := _, after := _, guard := some (9, true) }) (v := undef) rfl rfl (by kernel_rfl) (by kernel_rfl) (by kernel_rfl) (fun _ _ _ h => h) ⟨Or.inr ⟨by rfl, rfl⟩, fun _ => by rfl⟩ ?_
      (try simp only [Act.put, List.setIfInBounds_toArray, List.set_cons_zero, List.set_cons_succ])
      refine wpAnyIn_take (i := 11) (oi := { dst := some 16, op := _, type := _, pos := _, after := _, guard := some (9, true) }) (v := undef) rfl rfl (by kernel_rfl) (by kernel_rfl) (by kernel_rfl) (fun _ _ _ h => h) ⟨Or.inr ⟨by rfl, rfl⟩, fun _ => by rfl⟩ ?_
      (try simp only [Act.put, List.setIfInBounds_toArray, List.set_cons_zero, List.set_cons_succ])
      refine wpAnyIn_take (i := 12) (oi := { dst := some 17, op := _, type := _, pos := _, after := _, guard := some (9, true) }) (v := undef) rfl rfl (by kernel_rfl) (by kernel_rfl) (by kernel_rfl) (fun _ _ _ h => h) ⟨Or.inr ⟨by rfl, rfl⟩, fun _ => by rfl⟩ ?_
      (try simp only [Act.put, List.setIfInBounds_toArray, List.set_cons_zero, List.set_cons_succ])
      refine wpAnyIn_take (i := 13) (oi := { dst := some 18, op := _, type := _, pos := _, after := _, guard := some (9, true) }) (v := undef) rfl rfl (by kernel_rfl) (by kernel_rfl) (by kernel_rfl) (fun _ _ _ h => h) ⟨Or.inr ⟨by rfl, rfl⟩, fun _ => by rfl⟩ ?_
      (try simp only [Act.put, List.setIfInBounds_toArray, List.set_cons_zero, List.set_cons_succ])
      refine wpAnyIn_take (i := 14) (oi := { dst := some 19, op := _, type := _, pos := _, after := _, guard := some (9, true) }) (v := undef) rfl rfl (by kernel_rfl) (by kernel_rfl) (by kernel_rfl) (fun _ _ _ h => h) ⟨Or.inr ⟨by rfl, rfl⟩, fun _ => by rfl⟩ ?_
      (try simp only [Act.put, List.setIfInBounds_toArray, List.set_cons_zero, List.set_cons_succ])
      refine wpAnyIn_take (i := 15) (oi := { dst := some 20, op := _, type := _, pos := _, after := _, guard := some (9, true) }) (v := undef) rfl rfl (by kernel_rfl) (by kernel_rfl) (by kernel_rfl) (fun _ _ _ h => h) ⟨Or.inr ⟨by rfl, rfl⟩, fun _ => by rfl⟩ ?_
      (try simp only [Act.put, List.setIfInBounds_toArray, List.set_cons_zero, List.set_cons_succ])
      refine wpAnyIn_take (i := 16) (oi := { dst := some 21, op := _, type := _, pos := _, after := _, guard := some (9, true) }) (v := undef) rfl rfl (by kernel_rfl) (by kernel_rfl) (by kernel_rfl) (fun _ _ _ h => h) ⟨Or.inr ⟨by rfl, rfl⟩, fun _ => by rfl⟩ ?_
      (try simp only [Act.put, List.setIfInBounds_toArray, List.set_cons_zero, List.set_cons_succ])
      refine wpAnyIn_take (i := 17) (oi := { dst := some 22, op := _, type := _, pos := _, after := _, guard := some (9, true) }) (v := undef) rfl rfl (by kernel_rfl) (by kernel_rfl) (by kernel_rfl) (fun _ _ _ h => h) ⟨Or.inr ⟨by rfl, rfl⟩, fun _ => by rfl⟩ ?_
      (try simp only [Act.put, List.setIfInBounds_toArray, List.set_cons_zero, List.set_cons_succ])
      refine wpAnyIn_take (i := 18) (oi := { dst := some 23, op := _, type := _, pos := _, after := _, guard := some (9, true) }) (v := undef) rfl rfl (by kernel_rfl) (by kernel_rfl) (by kernel_rfl) (fun _ _ _ h => h) ⟨Or.inr ⟨by rfl, rfl⟩, fun _ => by rfl⟩ ?_
      (try simp only [Act.put, List.setIfInBounds_toArray, List.set_cons_zero, List.set_cons_succ])
      refine wpAnyIn_ready (rs := [19]) (by kernel_rfl) (by simp) (AllReadyIn.cons (o := { dst := some 24, op := _, type := _, pos := _, after := _, guard := some (9, true) }) rfl (fun K hK => ?_) AllReadyIn.nil)
      go_simp
      refine ⟨?_, ?_⟩
      · first | trivial | (intros; trivial)
      refine hK _ _ ?_
      clear hK K
      (try simp only [Act.put, List.setIfInBounds_toArray, List.set_cons_zero, List.set_cons_succ])
      refine wpAnyIn_take (i := 20) (oi := { dst := some 25, op := _, type := _, pos := _, after := _, guard := some (2, false) }) rfl rfl (by kernel_rfl) (by kernel_rfl) (by kernel_rfl) (fun _ _ _ h => h) ⟨Or.inl ⟨by rfl, fun _ => by go_simp <;> with_reducible rfl⟩, fun _ => by rfl⟩ ?_
      (try simp only [Act.put, List.setIfInBounds_toArray, List.set_cons_zero, List.set_cons_succ])
      refine wpAnyIn_take (i := 21) (oi := { dst := some 26, op := _, type := _, pos := _, after := _, guard := some (2, false) }) rfl rfl (by kernel_rfl) (by kernel_rfl) (by kernel_rfl) (fun _ _ _ h => h) ⟨Or.inl ⟨by rfl, fun _ => by go_simp <;> with_reducible rfl⟩, fun _ => by rfl⟩ ?_
      (try simp only [Act.put, List.setIfInBounds_toArray, List.set_cons_zero, List.set_cons_succ])
      refine wpAnyIn_take (i := 22) (oi := { dst := some 27, op := _, type := _, pos := _, after := _, guard := some (21, true) }) (v := undef) rfl rfl (by kernel_rfl) (by kernel_rfl) (by kernel_rfl) (fun _ _ _ h => h) ⟨Or.inr ⟨by rfl, rfl⟩, fun _ => by rfl⟩ ?_
      (try simp only [Act.put, List.setIfInBounds_toArray, List.set_cons_zero, List.set_cons_succ])
      refine wpAnyIn_take (i := 23) (oi := { dst := some 28, op := _, type := _, pos := _, after := _, guard := some (21, true) }) (v := undef) rfl rfl (by kernel_rfl) (by kernel_rfl) (by kernel_rfl) (fun _ _ _ h => h) ⟨Or.inr ⟨by rfl, rfl⟩, fun _ => by rfl⟩ ?_
      (try simp only [Act.put, List.setIfInBounds_toArray, List.set_cons_zero, List.set_cons_succ])
      refine wpAnyIn_take (i := 24) (oi := { dst := some 29, op := _, type := _, pos := _, after := _, guard := some (21, true) }) (v := undef) rfl rfl (by kernel_rfl) (by kernel_rfl) (by kernel_rfl) (fun _ _ _ h => h) ⟨Or.inr ⟨by rfl, rfl⟩, fun _ => by rfl⟩ ?_
      (try simp only [Act.put, List.setIfInBounds_toArray, List.set_cons_zero, List.set_cons_succ])
      refine wpAnyIn_take (i := 25) (oi := { dst := some 30, op := _, type := _, pos := _, after := _, guard := some (21, true) }) (v := undef) rfl rfl (by kernel_rfl) (by kernel_rfl) (by kernel_rfl) (fun _ _ _ h => h) ⟨Or.inr ⟨by rfl, rfl⟩, fun _ => by rfl⟩ ?_
      (try simp only [Act.put, List.setIfInBounds_toArray, List.set_cons_zero, List.set_cons_succ])
      refine wpAnyIn_take (i := 26) (oi := { dst := some 31, op := _, type := _, pos := _, after := _, guard := some (21, true) }) (v := undef) rfl rfl (by kernel_rfl) (by kernel_rfl) (by kernel_rfl) (fun _ _ _ h => h) ⟨Or.inr ⟨by rfl, rfl⟩, fun _ => by rfl⟩ ?_
      (try simp only [Act.put, List.setIfInBounds_toArray, List.set_cons_zero, List.set_cons_succ])
      refine wpAnyIn_ready (rs := [27]) (by kernel_rfl) (by simp) (AllReadyIn.cons (o := { dst := some 32, op := _, type := _, pos := _, after := _, guard := some (21, true) }) rfl (fun K hK => ?_) AllReadyIn.nil)
      go_simp
      refine ⟨?_, ?_⟩
      · first | trivial | (intros; trivial)
      refine hK _ _ ?_
      clear hK K
      (try simp only [Act.put, List.setIfInBounds_toArray, List.set_cons_zero, List.set_cons_succ])
      refine wpAnyIn_take (i := 28) (oi := { dst := some 33, op := _, type := _, pos := _, after := _, guard := some (2, false) }) rfl rfl (by kernel_rfl) (by kernel_rfl) (by kernel_rfl) (fun _ _ _ h => h) ⟨Or.inl ⟨by rfl, fun _ => by go_simp <;> with_reducible rfl⟩, fun _ => by rfl⟩ ?_
      (try simp only [Act.put, List.setIfInBounds_toArray, List.set_cons_zero, List.set_cons_succ])
      refine wpAnyIn_take (i := 29) (oi := { dst := some 34, op := _, type := _, pos := _, after := _, guard := none }) rfl rfl (by kernel_rfl) (by kernel_rfl) (by kernel_rfl) (fun _ _ _ h => h) ⟨Or.inl ⟨by rfl, fun _ => by go_simp <;> with_reducible rfl⟩, fun _ => by rfl⟩ ?_
      (try simp only [Act.put, List.setIfInBounds_toArray, List.set_cons_zero, List.set_cons_succ])
      refine wpAnyIn_take (i := 30) (oi := { dst := some 4, op := _, type := _, pos := _, after := _, guard := none }) rfl rfl (by kernel_rfl) (by kernel_rfl) (by kernel_rfl) (fun _ _ _ h => h) ⟨Or.inl ⟨by rfl, fun _ => by go_simp <;> with_reducible rfl⟩, fun _ => by rfl⟩ ?_
      (try simp only [Act.put, List.setIfInBounds_toArray, List.set_cons_zero, List.set_cons_succ])
      refine wpAnyIn_done (by kernel_rfl) ?_ _
      (gi_wp2; go_ret; exact .inr ⟨rfl, q, by rw [hflat.out]; exact hq.trans (List.prefix_append _ _), hx1⟩)
end Go.Proofs.YtbjpogeemajhoaaGreat.Ts
namespace Go.Proofs.YtbjpogeemajhoaaGreat.Tm
open Go.RowKit Go.Shelf Sh
attribute [local go_sem] Oper.semAt_some fold_none

/-- a node's cells as a walk reads them -/
def Sees (w' : World) (b : Nat) (e : (ByteArray × Int)) (pl pr : Option Addr) (n : Nat) : Prop := w'.cell? ⟨b, 0, none⟩ = some (.string e.1) ∧ w'.cell? ⟨b, 1, none⟩ = some (.int .i64 e.2) ∧ w'.cell? ⟨b, 2, none⟩ = some (.pointer pl) ∧ w'.cell? ⟨b, 3, none⟩ = some (.pointer pr) ∧ w'.cell? ⟨b, 4, none⟩ = some (.int .i64 (n : Int))
theorem nodes_drew {W W' : World} (h : Nodes W W') : Nodes W W'.drew := h

end Go.Proofs.YtbjpogeemajhoaaGreat.Tm
namespace Go.Proofs.YtbjpogeemajhoaaGreat.Sh
open Go.RowKit
/-- a slice of the call's own handed back -/
def Lists (w : World) (et : TypeId) (M : List Value) (e : Ending) (W' : World) : Prop := ∃ v, e = .returned v ∧ (W'.ownsRow w.heap.size et 1 v M.length M ∧ ∃ g c, v = .slice (some ⟨g, 0, none⟩) M.length c) ∧ Below w.heap.size w W'
/-- blocks of a type are as they were -/
def Stays (T : TypeId) (W W' : World) : Prop := ∀ (b : Nat) (c : Array Value) (z : Nat × Nat), W.heap[b]? = some (.cells c T z) → W'.heap[b]? = some (.cells c T z)
theorem Stays.trans {T : TypeId} {A B C : World} (h : Stays T A B) (g : Stays T B C) : Stays T A C := fun b c z hb => g b c z (h b c z hb)
theorem stays_box {T t : TypeId} {W : World} {B : Nat} {v u : Value} (hne : t ≠ T) (hv : Boxed W B t v) : Stays T W (W.setCell ⟨B, 0, none⟩ u) := fun b c z hb => by
  refine (Below.heap_setCell _ _ _ b fun e => ?_).trans hb
  subst e
  have h := hb.symm.trans hv
  simp at h
  exact hne h.2.1.symm
theorem stays_row {T e : TypeId} {W w1 : World} {base size k : Nat} {v : Value} {xs : List Value} (hne : e ≠ T) (hr : W.ownsRow base e size v k xs) (hg : W.grownBy w1 v.ownBlock) : Stays T W w1 := fun b c z hb => by
  refine (hg.block b (Array.getElem?_eq_some_iff.1 hb).1 fun e' => ?_).trans hb
  rcases hr.2 with ⟨rfl, _⟩ | ⟨g, cap, cur, rfl, _, hgb, _⟩
  · simp [Value.ownBlock] at e'
  · simp [Value.ownBlock] at e'
    subst e'
    have h := hb.symm.trans hgb
    simp at h
    exact hne h.2.1.symm
theorem stays_below {T : TypeId} {W W' : World} (h : Below W.heap.size W W') : Stays T W W' := fun b _ _ hb => (h.block b (Array.getElem?_eq_some_iff.1 hb).1).trans hb
/-- an append to a row of one's own, laid back into its box, leaves blocks of other types alone -/
theorem stays_append {T t e : TypeId} {W w1 : World} {base B size k : Nat} {v v' : Value} {xs : List Value} {tmp : Obj} (h1 : t ≠ T) (h2 : e ≠ T) (hr : W.ownsRow base e size v k xs) (hg : (W.alloc tmp).grownBy w1 v.ownBlock) (hv1 : Boxed w1 B t v) : Stays T W (w1.setCell ⟨B, 0, none⟩ v') :=
  (stays_below (b_alloc W tmp)).trans ((stays_row h2 (hr.alloc tmp) hg).trans (stays_box h1 hv1))
theorem make_of (t et : TypeId) (i : TypeInfo) (z : Value) (ht : Tryz.prog.underlying t = some (.slice et)) (hi : Tryz.prog.info? et = some i) (hz : i.zero = some z) (hs : i.size = 1) (hb : i.bytes ≤ 100) (n : Nat) (hn : n ≤ 1000000) (w : World) :
    (Instr.makeSlice t (.int .i64 0) (.int .i64 (n : Int))).run Tryz.prog w = .ok (.slice (some ⟨w.heap.size, 0, none⟩) 0 n) (w.alloc (.cells (madeCells z.cells n) et)) := by
  have h := run_makeSlice (P := Tryz.prog) w t et i z ht hi hz .i64 .i64 0 (n : Int) (by omega) (by omega) (by rw [hs]; omega) (by
    have : i.bytes * n ≤ 100 * 1000000 := Nat.mul_le_mul hb hn
    have h2 : ((i.bytes * n : Nat) : Int) ≤ 281474976710656 := by omega
    rwa [Int.natCast_mul] at h2) (by omega)
  simpa [hs] using h
theorem made_size (z : Array Value) (n : Nat) : (madeCells z n).size = n * 1 := by rw [size_madeCells]; omega
end Go.Proofs.YtbjpogeemajhoaaGreat.Sh
namespace Go.Proofs.YtbjpogeemajhoaaGreat.Ti
open Go.RowKit Go.Shelf Sh
attribute [local go_sem] Oper.semAt_some fold_none

/-- keys as the model's values -/
def keysV (l : List Int) : List Value := l.map fun x => .int .i64 x
theorem keysV_len (l : List Int) : (keysV l).length = l.length := by simp [keysV]
theorem keysV_snoc (l : List Int) (x : Int) : keysV (l ++ [x]) = keysV l ++ [.int .i64 x] := by simp [keysV]
theorem info_key : (Tryz.prog.info? 3).map (fun i => (i.zero, i.size, i.bytes)) = some (some (Value.int .i64 0), 1, 8) := by kernel_rfl

end Go.Proofs.YtbjpogeemajhoaaGreat.Ti
namespace Go.Proofs.YtbjpogeemajhoaaGreat.Ts
open Go.RowKit Go.Shelf Sh
attribute [local go_sem] Oper.semAt_some fold_none

theorem nodes_put {w : World} (W : World) (l : Nat) (o o' : Obj) (_ : w.heap.size ≤ l) (h : W.heap[l]? = some o) (hc : o.isCells = false) (_ : o.isWalk = false) : Nodes W (W.putObj l o') := fun b c z hb => by
  refine (World.putObj_heap_other fun e => ?_).trans hb
  subst e
  rw [hb] at h
  cases h
  cases hc

set_option maxHeartbeats 1000000 in
theorem MapAll_calls (w : World) (a : Option Addr) :
    Calls Tryz.prog 65 #[.pointer a] w fun e w' => e = .returned (.func (.func 86) #[] #[.pointer (some ⟨w.heap.size, 0, none⟩)]) ∧ w' = w.alloc (.cells #[.pointer a] 88) := by
  go_enter Tryz.func65, Tryz.ntmps65
  go_wp2
  go_ret
  exact ⟨rfl, rfl⟩

set_option maxHeartbeats 2000000 in
/-- what a map's iterator does: its entries, rising -/
theorem mapAll1_stops (n : Nat) (w : World) (t : TypeId) (B : Nat) (a : Option Addr) (L : List ByteArray) (hB : w.cell? ⟨B, 0, none⟩ = some (.pointer a)) (hA : At w t a L) :
    SeqStopsK Fence.wide n Tryz.prog 86 #[.pointer (some ⟨B, 0, none⟩)] (fun x : ByteArray => #[.string x, .agg #[]]) Nodes (fun ys => ys = L) (fun pre => pre <+: L) L.length w := fun l J Jx W hW hJ hJx hY h0 => by
  have hB' : W.cell? ⟨B, 0, none⟩ = some (.pointer a) := by
    have hlt : B < w.heap.size := World.block_lt_of_cell? w _ hB
    exact (hW.cell (p := ⟨B, 0, none⟩) hlt).trans hB
  have hT := Lib.hid (tree_calls W t a L (hA.next hW))
  have hw := Lib.hid fun p T (h2 : IsTree W p T) (h3 : T.flat = L) => walkY_in l L.length J Jx (fun s A B hs hg => hJ s A B none hs hg (fun r e => by cases e)) (fun m pre x W h1 h2 => YieldAt.any m (hY pre x W h1 h2)) T (n - 1) p [] W h2 h0 (by rw [h3]; simp)
  clear hY hJ hJx hW h0 hA hB
  show CallsIn Fence.wide n Tryz.prog 86 #[.func (.yield l) #[] #[], .pointer (some ⟨B, 0, none⟩)] W _
  refine callsIn_of_wp Tryz.func86 rfl trivial ?_ rfl
  simp only [Tryz.ntmps86, List.size_toArray, List.length_cons, List.length_nil, Nat.reduceAdd, Nat.reduceSub, Array.replicate_succ, Array.replicate_zero, List.push_toArray, List.append_toArray, List.nil_append, List.cons_append]
  gi_wp2_with (first
    | (refine ⟨trivial, deep _, ?_⟩; gi_at_call 83; refine (callsIn_wide.2 hT.out).mono ?_; rintro e w1 ⟨⟨p, T, rfl, h2, h3⟩, rfl⟩; have hw2 := Lib.hid (hw.out p T h2 h3); replace h3 := Lib.hid h3; clear hT hw h2)
    | (refine ⟨trivial, deep _, ?_⟩; gi_at_call 87; refine hw2.out.mono ?_; clear hw2; rintro e W1 (⟨rfl, hJ1, _⟩ | ⟨rfl, q, hq, hx⟩)))
  · go_end0
    exact ⟨⟨_, rfl⟩, .inl ⟨_, h3.out, by simpa using hJ1⟩⟩
  · go_end0
    exact ⟨⟨_, rfl⟩, .inr ⟨q, h3.out ▸ hq, by simpa using hx⟩⟩

/-- keys as the model's values -/
def keysV (l : List ByteArray) : List Value := l.map fun x => .string x
theorem keysV_len (l : List ByteArray) : (keysV l).length = l.length := by simp [keysV]
theorem keysV_snoc (l : List ByteArray) (x : ByteArray) : keysV (l ++ [x]) = keysV l ++ [.string x] := by simp [keysV]
theorem info_key : (Tryz.prog.info? 9).map (fun i => (i.zero, i.size, i.bytes)) = some (some (Value.string ByteArray.empty), 1, 16) := by kernel_rfl

set_option maxRecDepth 100000 in
set_option maxHeartbeats 4000000 in
theorem Keys_calls (w : World) (t : TypeId) (a : Option Addr) (L : List ByteArray) (hA : At w t a L) (hb : L.length ≤ 1000000) :
    Calls Tryz.prog 44 #[.pointer a] w (Lists w 9 (keysV L)) := by
  obtain ⟨i0, hi, hz0, hz1, hz2⟩ := info_parts info_key
  have hmk : (Instr.makeSlice 26 (.int .i64 0) (.int .i64 (L.length : Int))).run Tryz.prog w = .ok (.slice (some ⟨w.heap.size, 0, none⟩) 0 L.length) (w.alloc (.cells (madeCells #[Value.string ByteArray.empty] L.length) 9)) := make_of 26 9 i0 _ Tryz.underlying26 hi hz0 hz1 (by rw [hz2]; decide) L.length hb w
  have hL := Lib.hid (Len_calls w t a L hA)
  have hM := Lib.hid fun w' => MapAll_calls w' a
  have h1 := World.ownsRow_made (e := 9) (size := 1) w (madeCells #[Value.string ByteArray.empty] L.length) L.length (Nat.le_refl w.heap.size) (by simp [maxLen]; omega) (made_size _ _)
  have b1 := b_then (b_alloc w (.cells (madeCells #[Value.string ByteArray.empty] L.length) 9)) (b_then (b_alloc _ (.cells #[.slice (some ⟨w.heap.size, 0, none⟩) 0 L.length] 26)) (b_alloc _ (.cells #[.pointer a] 88)))
  have bO := (Boxed.new (w.alloc (.cells (madeCells #[Value.string ByteArray.empty] L.length) 9)) 26 (.slice (some ⟨w.heap.size, 0, none⟩) 0 L.length)).alloc (.cells #[.pointer a] 88)
  have bN := Boxed.new ((w.alloc (.cells (madeCells #[Value.string ByteArray.empty] L.length) 9)).alloc (.cells #[.slice (some ⟨w.heap.size, 0, none⟩) 0 L.length] 26)) 88 (.pointer a)
  rw [World.size_alloc] at bO
  rw [World.size_alloc, World.size_alloc] at bN
  have hown := (h1.alloc (.cells #[.slice (some ⟨w.heap.size, 0, none⟩) 0 L.length] 26)).alloc (.cells #[.pointer a] 88)
  have hst := mapAll1_stops 2 _ t (w.heap.size + 1 + 1) a L bN.cell (hA.next b1)
  have hsz : (((w.alloc (.cells (madeCells #[Value.string ByteArray.empty] L.length) 9)).alloc (.cells #[.slice (some ⟨w.heap.size, 0, none⟩) 0 L.length] 26)).alloc (.cells #[.pointer a] 88)).heap.size = w.heap.size + 3 := by simp
  clear hA h1 bN
  replace hst := Lib.hid hst
  replace hown := Lib.hid hown
  replace hsz := Lib.hid hsz
  replace b1 := Lib.hid b1
  replace bO := Lib.hid bO
  refine (callsIn_wide (n := 3)).1 ?_
  refine callsIn_of_wp_marks Tryz.func44 rfl trivial ?_ rfl
  simp only [Tryz.ntmps44, List.size_toArray, List.length_cons, List.length_nil, Nat.reduceAdd, Nat.reduceSub, Array.replicate_succ, Array.replicate_zero, List.push_toArray, List.append_toArray, List.nil_append, List.cons_append]
  gi_wp2_with (first
    | (refine ⟨trivial, ?_⟩; gi_at_call 63; refine (callsIn_wide.2 hL.out).mono ?_; rintro e w' ⟨rfl, hw'⟩; obtain rfl := hw'.symm; clear hw')
    | (refine ⟨trivial, ?_⟩; gi_at_call 65; refine (callsIn_wide.2 (hM.out _)).mono ?_; rintro e w' ⟨rfl, rfl⟩))
  clear hmk hL hM
  generalize ((w.alloc (.cells (madeCells #[Value.string ByteArray.empty] L.length) 9)).alloc (.cells #[.slice (some ⟨w.heap.size, 0, none⟩) 0 L.length] 26)).alloc (.cells #[.pointer a] 88) = W1 at *
  have bW := b1.out
  have hsz1 := hsz.out
  refine wpIn_rangeFunc_ownG rfl (by omega) (gf := 86) (lb := #[.pointer (some ⟨w.heap.size + 1 + 1, 0, none⟩)]) rfl trivial (enters_of Tryz.func86 (by kernel_rfl) rfl)
    hst.out (fun h k => Nodes.trans h k) nodes_put (Below.refl _ _) (fun _ => rfl)
    (fun pre W => (∃ v, Boxed W (w.heap.size + 1) 26 v ∧ W.ownsRow w.heap.size 9 1 v (keysV pre).length (keysV pre) ∧ ∃ g c, v = .slice (some ⟨g, 0, none⟩) (keysV pre).length c) ∧ Below w.heap.size w W)
    (fun _ _ _ => False)
    (OwnFrom.and (Own.from (holdsRow_own w.heap.size (w.heap.size + 1) 26 9 1 (fun pre => (keysV pre).length) keysV (fun pre v => ∃ g c, v = .slice (some ⟨g, 0, none⟩) (keysV pre).length c)) _) (ownFrom_below (Nat.le_refl _) (by omega)))
    (fun _ _ _ _ _ hs _ _ => hs)
    ⟨⟨_, bO.out, hown.out, _, _, rfl⟩, bW⟩
    (fun x => { tmps := #[.pointer a, undef, .slice none 0 0, .pointer (some ⟨w.heap.size + 1, 0, none⟩), .string x, .pointer a, .int .i64 (L.length : Int), .slice (some ⟨w.heap.size, 0, none⟩) 0 L.length, .pointer a, .func (.func 86) #[] #[.pointer (some ⟨w.heap.size + 1 + 1, 0, none⟩)], .string x, .agg #[], undef, undef, undef, undef, undef], defers := [] }) ?assign ?body ?done ?stop
  case assign =>
    intro l x W K hK
    gi_wp2
    exact hK
  case body =>
    rintro l pre x W ⟨⟨v, hv, hrow, -⟩, hB⟩ hlt
    have hc := hv.cell
    have hp1 : Hid ((keysV pre).length < L.length) := Lib.hid (by rw [keysV_len]; exact hlt)
    have hp2 := Lib.hid (keysV_snoc pre x)
    generalize keysV pre = M at *
    gi_wp2_with (gi_at_builtin; refine wpListIn_append_own _ rfl _ _ 26 rfl w.heap.size 9 i0 (Value.string ByteArray.empty) 1 16 Tryz.underlying26 hi hz0 hz1 hz2 rfl (by decide) _ _ _ rfl (hrow.alloc _) ⟨W.heap.size, 0, none⟩ 1 1 [.string x] rfl rfl (cell_one_new _ _ _) (by simp [Value.oneCell']) (by have := hp1.out; simp [maxLen]; omega) (by have := hp1.out; omega) (by have := hB.size; simp; omega) ?_; intro v' w1 hown' hgrow _; obtain ⟨g', cap', rfl⟩ := ownsRow_succ hown'; obtain ⟨hv1, hv2, hr2, hk2, hb2⟩ := hv.appended (by decide) hrow hB.size (by omega) hown' hgrow; have hc1 := hv1.cell; have hf1 := hv1.frozen)
    have hnd : Hid (Nodes W (w1.setCell ⟨w.heap.size + 1, 0, none⟩ (.slice (some ⟨g', 0, none⟩) (M.length + 1) cap'))) := Lib.hid (stays_append (by decide) (by decide) hrow hgrow hv1)
    have hl2 : Hid ((keysV (pre ++ [x])).length = M.length + 1) := Lib.hid (by rw [hp2.out]; simp)
    exact ⟨hk2.from _, hnd.out, ⟨_, hv2, by rw [hl2.out, hp2.out]; exact hr2, _, _, by rw [hl2.out]⟩, hB.trans hb2⟩
  case done =>
    rintro D ys W hD rfl ⟨⟨v, hv, hrow, hsome⟩, hB⟩ hK
    have hc := hv.cell
    gi_wp2
    refine ⟨by simp, .inl ⟨_, _, rfl, run_takeDeferred hK, ?_⟩⟩
    exact ⟨_, results_tmp rfl _ _ _, v, rfl, ⟨ownsRow_putObj hrow _ hK rfl, hsome⟩, hB.trans (belowK_b (w := w) (Nat.le_refl _) W D _ _ (by omega) hK rfl rfl)⟩
  case stop =>
    rintro D c pre W _ _ h _
    exact h.elim
end Go.Proofs.YtbjpogeemajhoaaGreat.Ts
namespace Go.Proofs.YtbjpogeemajhoaaGreat.Tm
open Go.RowKit Go.Shelf Sh
attribute [local go_sem] Oper.semAt_some fold_none

theorem nodes_put {w : World} (W : World) (l : Nat) (o o' : Obj) (_ : w.heap.size ≤ l) (h : W.heap[l]? = some o) (hc : o.isCells = false) (_ : o.isWalk = false) : Nodes W (W.putObj l o') := fun b c z hb => by
  refine (World.putObj_heap_other fun e => ?_).trans hb
  subst e
  rw [hb] at h
  cases h
  cases hc

/-- keys as the model's values -/
def keysV (l : List (ByteArray × Int)) : List Value := l.map fun x => .string x.1
theorem keysV_len (l : List (ByteArray × Int)) : (keysV l).length = l.length := by simp [keysV]
theorem keysV_snoc (l : List (ByteArray × Int)) (x : (ByteArray × Int)) : keysV (l ++ [x]) = keysV l ++ [.string x.1] := by simp [keysV]
theorem info_key : (Tryz.prog.info? 9).map (fun i => (i.zero, i.size, i.bytes)) = some (some (Value.string ByteArray.empty), 1, 16) := by kernel_rfl

end Go.Proofs.YtbjpogeemajhoaaGreat.Tm
namespace Go.Proofs.YtbjpogeemajhoaaGreat.Ti
open Go.RowKit Sh
open Key (lt)
open Ent (key)
attribute [local go_sem] fold_none

end Go.Proofs.YtbjpogeemajhoaaGreat.Ti
namespace Go.Proofs.YtbjpogeemajhoaaGreat.Ts
open Go.RowKit Sh
open Key (lt)
open Ent (key)
attribute [local go_sem] fold_none

theorem setKeys_calls (w : World) (a : Option Addr) (h : a = none ∨ ∃ b, a = some ⟨b, 0, none⟩) :
    Calls Tryz.prog 41 #[.pointer a] w fun e w' => e = .returned (.pointer a) ∧ w' = w := by
  rcases h with rfl | ⟨b, rfl⟩
  · go_enter Tryz.func41, Tryz.ntmps41
    go_wp2
    go_ret
    exact ⟨rfl, rfl⟩
  · go_enter Tryz.func41, Tryz.ntmps41
    go_wp2
    go_ret
    exact ⟨rfl, rfl⟩
theorem At.addr {W : World} {t : TypeId} {a : Option Addr} {L : List ByteArray} (h : At W t a L) : a = none ∨ ∃ b, a = some ⟨b, 0, none⟩ := by
  rcases h with ⟨rfl, _⟩ | ⟨b, _, _, rfl, _⟩
  · exact Or.inl rfl
  · exact Or.inr ⟨b, rfl⟩
/-- a set -/
abbrev SetAt (W : World) (a : Option Addr) (L : List ByteArray) : Prop := At W 106 a L

theorem SetList_calls (w : World) (a : Option Addr) (L : List ByteArray) (h : SetAt w a L) (hb : L.length ≤ 1000000) :
    Calls Tryz.prog 20 #[.pointer a] w (Lists w 9 (keysV L)) := by
  have hK := Lib.hid (setKeys_calls w a h.addr)
  have hL := Lib.hid (Keys_calls w _ a L h hb)
  clear h
  go_enter Tryz.func20, Tryz.ntmps20
  go_wp2_with (first
    | (go_at_call 41; refine hK.out.mono ?_; rintro e w' ⟨rfl, hw⟩; obtain rfl := hw.symm; clear hw)
    | (go_at_call 44; refine hL.out.mono ?_; rintro e w' ⟨v, rfl, h1, h2⟩))
  go_ret
  exact ⟨v, rfl, h1, h2⟩
theorem Add_calls (w : World) (b : Nat) (L : List ByteArray) (x : ByteArray) (h : SetAt w (some ⟨b, 0, none⟩) L) (hR : Rises L) (hb : L.length < 600000) :
    Calls Tryz.prog 18 #[.pointer (some ⟨b, 0, none⟩), .string x] w fun r w' => r = .returned (.bool (!has (key x) L)) ∧ Turns w 106 b (ins x L) w' := by
  have hK := Lib.hid (setKeys_calls w _ h.addr)
  have hL := Lib.hid (Put_calls w _ b L x (by decide) h hR hb)
  clear h hR hb
  generalize (!has (key x) L) = z at *
  go_enter Tryz.func18, Tryz.ntmps18
  go_wp2_with (first
    | (go_at_call 41; refine hK.out.mono ?_; rintro e w' ⟨rfl, hw⟩; obtain rfl := hw.symm; clear hw)
    | (go_at_call 42; refine hL.out.mono ?_; rintro e w' ⟨rfl, h1⟩))
  go_ret
  exact ⟨rfl, h1⟩
/-- of a nil set nothing is put in or taken out -/
theorem AddNil_calls (w : World) (x : ByteArray) :
    Calls Tryz.prog 18 #[.pointer none, .string x] w fun r w' => r = .returned (.bool false) ∧ Below w.heap.size w w' := by
  have hK := Lib.hid (setKeys_calls w none (Or.inl rfl))
  have hL : Hid (Calls Tryz.prog 42 #[.pointer none, .string x, .agg #[]] w fun r w' => r = .returned (.bool false) ∧ Below w.heap.size w w') := Lib.hid (by
    have b0 := b_alloc w (.cells #[] 91)
    go_enter Tryz.func42, Tryz.ntmps42
    go_wp2
    go_ret
    exact ⟨rfl, b0⟩)
  go_enter Tryz.func18, Tryz.ntmps18
  go_wp2_with (first
    | (go_at_call 41; refine hK.out.mono ?_; rintro e w' ⟨rfl, hw⟩; obtain rfl := hw.symm; clear hw)
    | (go_at_call 42; refine hL.out.mono ?_; rintro e w' ⟨rfl, h1⟩))
  go_ret
  exact ⟨rfl, h1⟩
end Go.Proofs.YtbjpogeemajhoaaGreat.Ts
namespace Go.Proofs.YtbjpogeemajhoaaGreat.Ti
open Go.RowKit Go.Shelf Sh
open Key (lt)
open Ent (key)
attribute [local go_sem] Oper.semAt_some fold_none

/-- function values that take a key are as they were -/
def Fns (W W' : World) : Prop := ∀ (b : Nat) (c : Array Value) (z : Nat × Nat), W.heap[b]? = some (.cells c 100 z) → W'.heap[b]? = some (.cells c 100 z)
theorem fns_below {W W' : World} (h : Below W.heap.size W W') : Fns W W' := fun b _ _ hb => (h.block b (Array.getElem?_eq_some_iff.1 hb).1).trans hb

end Go.Proofs.YtbjpogeemajhoaaGreat.Ti
namespace Go.Proofs.YtbjpogeemajhoaaGreat.Ts
open Go.RowKit Go.Shelf Sh
open Key (lt)
open Ent (key)
attribute [local go_sem] Oper.semAt_some fold_none

/-- function values that take a key are as they were -/
def Fns (W W' : World) : Prop := ∀ (b : Nat) (c : Array Value) (z : Nat × Nat), W.heap[b]? = some (.cells c 53 z) → W'.heap[b]? = some (.cells c 53 z)
/-- what a set's going wants kept -/
def Keeps (W W' : World) : Prop := Nodes W W' ∧ Fns W W'
theorem fns_below {W W' : World} (h : Below W.heap.size W W') : Fns W W' := fun b _ _ hb => (h.block b (Array.getElem?_eq_some_iff.1 hb).1).trans hb

end Go.Proofs.YtbjpogeemajhoaaGreat.Ts
namespace Go.Proofs.YtbjpogeemajhoaaGreat.Sh
open Key (lt)
open Ent (key)
section
variable {E K : Type} [Key K] [Ent E K]
/-- those from a key on -/
def abv (k : K) (l : List E) : List E := l.filter fun x => !lt (key x) k
theorem abv_right {k : K} {e : E} {l r : List E} (h : Rises (l ++ e :: r)) (hk : lt (key e) k = true) : abv k (l ++ e :: r) = abv k r := by
  obtain ⟨_, _, h3, _⟩ := rises_mid h
  have h1 : abv k l = [] := by
    unfold abv; rw [List.filter_eq_nil_iff]; intro a ha; simp [Key.tra _ _ _ (h3 a ha) hk]
  have h2 : abv k (l ++ e :: r) = abv k l ++ abv k (e :: r) := by simp only [abv, List.filter_append]
  rw [h2, h1]; simp [abv, hk]
theorem abv_left {k : K} {e : E} {l r : List E} (h : Rises (l ++ e :: r)) (hk : lt (key e) k = false) : abv k (l ++ e :: r) = abv k l ++ e :: r := by
  obtain ⟨_, _, _, h4⟩ := rises_mid h
  have h1 : abv k (e :: r) = e :: r := by
    unfold abv; rw [List.filter_eq_self]; intro a ha
    rcases List.mem_cons.1 ha with rfl | ha
    · simp [hk]
    · cases g : lt (key a) k with
      | false => rfl
      | true => rw [Key.tra _ _ _ (h4 a ha) g] at hk; cases hk
  have h2 : abv k (l ++ e :: r) = abv k l ++ abv k (e :: r) := by simp only [abv, List.filter_append]
  rw [h2, h1]
end
end Go.Proofs.YtbjpogeemajhoaaGreat.Sh
namespace Go.Proofs.YtbjpogeemajhoaaGreat.Ti
open Go.RowKit Go.Shelf Sh
open Key (lt)
open Ent (key)
attribute [local go_sem] Oper.semAt_some fold_none

end Go.Proofs.YtbjpogeemajhoaaGreat.Ti
namespace Go.Proofs.YtbjpogeemajhoaaGreat.Ti
open Go.RowKit Go.Shelf Sh
attribute [local go_sem] Oper.semAt_some fold_none

/-- the box of a function value stays where function values stay -/
theorem abide_box {J : List Int → World → Prop} (hJ : ∀ s A B, J s A → A.grownBy B none → J s B) {b : Nat} {f : Value} : ∀ s A B, (J s A ∧ Boxed A b 100 f) → A.grownBy B none → (J s B ∧ Boxed B b 100 f) :=
  fun s A B h hg => ⟨hJ s A B h.1 hg, h.2.kept hg (by simp)⟩

end Go.Proofs.YtbjpogeemajhoaaGreat.Ti
namespace Go.Proofs.YtbjpogeemajhoaaGreat.Ts
open Go.RowKit Go.Shelf Sh
attribute [local go_sem] Oper.semAt_some fold_none

theorem keeps_put {w : World} (W : World) (l : Nat) (o o' : Obj) (_ : w.heap.size ≤ l) (h : W.heap[l]? = some o) (hc : o.isCells = false) (_ : o.isWalk = false) : Keeps W (W.putObj l o') := by
  refine ⟨fun b c z hb => ?_, fun b c z hb => ?_⟩ <;>
    (refine (World.putObj_heap_other fun e => ?_).trans hb
     subst e
     rw [hb] at h
     cases h
     cases hc)
theorem Keeps.trans {A B C : World} (h : Keeps A B) (g : Keeps B C) : Keeps A C := ⟨h.1.trans g.1, fun b c z hb => g.2 b c z (h.2 b c z hb)⟩
theorem keeps_below {A B : World} (h : Below A.heap.size A B) : Keeps A B := ⟨nodes_below h, fns_below h⟩
/-- the box of a function value stays where function values stay -/
theorem abide_box {J : List ByteArray → World → Prop} (hJ : ∀ s A B, J s A → A.grownBy B none → J s B) {b : Nat} {f : Value} : ∀ s A B, (J s A ∧ Boxed A b 53 f) → A.grownBy B none → (J s B ∧ Boxed B b 53 f) :=
  fun s A B h hg => ⟨hJ s A B h.1 hg, h.2.kept hg (by simp)⟩

end Go.Proofs.YtbjpogeemajhoaaGreat.Ts
namespace Go.Proofs.YtbjpogeemajhoaaGreat.Ti
open Go.RowKit Go.Shelf Sh
end Go.Proofs.YtbjpogeemajhoaaGreat.Ti
namespace Go.Proofs.YtbjpogeemajhoaaGreat.Ti
open Go.RowKit Go.Shelf Sh
attribute [local go_sem] Oper.semAt_some fold_none
theorem keepsFrom_below {B : Nat} {W W' : World} (h : Below W.heap.size W W') : KeepsFrom B W W' := ⟨h.size, fun k _ _ hk _ => (h.block k (Array.getElem?_eq_some_iff.1 hk).1).trans hk⟩
theorem box_next {W W' : World} {b : Nat} {t : TypeId} {v : Value} (h : Boxed W b t v) (hb : Below W.heap.size W W') : Boxed W' b t v := (hb.block b h.lt).trans h

end Go.Proofs.YtbjpogeemajhoaaGreat.Ti
namespace Go.Proofs.YtbjpogeemajhoaaGreat.Ts
open Go.RowKit Go.Shelf Sh
attribute [local go_sem] Oper.semAt_some fold_none
theorem keepsFrom_below {B : Nat} {W W' : World} (h : Below W.heap.size W W') : KeepsFrom B W W' := ⟨h.size, fun k _ _ hk _ => (h.block k (Array.getElem?_eq_some_iff.1 hk).1).trans hk⟩
theorem box_next {W W' : World} {b : Nat} {t : TypeId} {v : Value} (h : Boxed W b t v) (hb : Below W.heap.size W W') : Boxed W' b t v := (hb.block b h.lt).trans h

end Go.Proofs.YtbjpogeemajhoaaGreat.Ts
