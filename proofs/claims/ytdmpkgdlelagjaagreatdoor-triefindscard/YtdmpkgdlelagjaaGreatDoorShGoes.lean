/-
  Going over a shelf's set: its things come in order, each once, till one is refused; from one on. Conditions: what takes them leaves the nodes as they are, and the function values that the set has made.
-/
import Derived.Test.YtdmpkgdlelagjaaGreatDoorRows
import Derived.Test.YtdmpkgdlelagjaaGreatDoorShWalk
namespace Go.Proofs.YtdmpkgdlelagjaaGreatDoor.Ti
open Go.RowKit Go.Shelf Sh
open Key (lt)
open Ent (key)
attribute [local go_sem] Oper.semAt_some fold_none

/-- function values that take a key are as they were -/
def Fns (W W' : World) : Prop := ∀ (b : Nat) (c : Array Value) (z : Nat × Nat), W.heap[b]? = some (.cells c 128 z) → W'.heap[b]? = some (.cells c 128 z)
theorem fns_below {W W' : World} (h : Below W.heap.size W W') : Fns W W' := fun b _ _ hb => (h.block b (Array.getElem?_eq_some_iff.1 hb).1).trans hb

end Go.Proofs.YtdmpkgdlelagjaaGreatDoor.Ti
namespace Go.Proofs.YtdmpkgdlelagjaaGreatDoor.Ts
open Go.RowKit Go.Shelf Sh
open Key (lt)
open Ent (key)
attribute [local go_sem] Oper.semAt_some fold_none

/-- function values that take a key are as they were -/
def Fns (W W' : World) : Prop := ∀ (b : Nat) (c : Array Value) (z : Nat × Nat), W.heap[b]? = some (.cells c 43 z) → W'.heap[b]? = some (.cells c 43 z)
/-- what a set's going wants kept -/
def Keeps (W W' : World) : Prop := Nodes W W' ∧ Fns W W'
theorem fns_below {W W' : World} (h : Below W.heap.size W W') : Fns W W' := fun b _ _ hb => (h.block b (Array.getElem?_eq_some_iff.1 hb).1).trans hb

set_option maxHeartbeats 2000000 in
theorem keyOnly1_in (l B N : Nat) (J Jx : List ByteArray → World → Prop) (hJ : ∀ s A B, J s A → A.grownBy B none → J s B)
    (hY : ∀ m pre x W, J pre W → pre.length < N → YieldAt Fence.wide m Tryz.prog l #[.string x] W fun e W' => (e = .returned (.bool true) ∧ J (pre ++ [x]) W' ∧ Keeps W W') ∨ (e = .returned (.bool false) ∧ Jx (pre ++ [x]) W'))
    (m : Nat) (pre : List ByteArray) (x : ByteArray) (W : World) (hj : J pre W) (hB : Boxed W B 43 (.func (.yield l) #[] #[])) (hN : pre.length < N) :
    CallsIn Fence.wide m Tryz.prog 118 #[.string x, .agg #[], .pointer (some ⟨B, 0, none⟩)] W fun e W' =>
      (e = .returned (.bool true) ∧ (J (pre ++ [x]) W' ∧ Boxed W' B 43 (.func (.yield l) #[] #[])) ∧ Nodes W W') ∨ (e = .returned (.bool false) ∧ Jx (pre ++ [x]) W') := by
  have b0 := b_alloc W (.cells #[] 85)
  have hB1 : Boxed (W.alloc (.cells #[] 85)) B 43 (.func (.yield l) #[] #[]) := hB.alloc _
  have c0 := hB1.cell
  have hy0 := hY (m - 1) pre x (W.alloc (.cells #[] 85)) (hJ _ _ _ hj (World.grownBy_alloc W _ none)) hN
  obtain ⟨fn, tmps, assign, body, hy, hR⟩ := hy0
  have hK : Hid (∀ W', Keeps (W.alloc (.cells #[] 85)) W' → Boxed W' B 43 (.func (.yield l) #[] #[]) ∧ Nodes W W') := Lib.hid fun W' h => ⟨h.2 _ _ _ hB1, (nodes_below b0).trans h.1⟩
  clear hY hj hB hB1
  refine callsIn_of_wp Tryz.func118 rfl trivial ?_ rfl
  simp only [Tryz.ntmps118, List.size_toArray, List.length_cons, List.length_nil, Nat.reduceAdd, Nat.reduceSub, Array.replicate_succ, Array.replicate_zero, List.push_toArray, List.append_toArray, List.nil_append, List.cons_append]
  gi_wp2_with ((try refine ⟨deep _, ?_⟩); refine hR.mono ?_; clear hR; rintro e W2 (⟨rfl, hJ2, n2⟩ | ⟨rfl, hx2⟩))
  · go_ret
    exact .inl ⟨rfl, ⟨hJ2, (hK.out _ n2).1⟩, (hK.out _ n2).2⟩
  · go_ret
    exact .inr ⟨rfl, hx2⟩

set_option maxRecDepth 100000 in
set_option maxHeartbeats 4000000 in
theorem walkC_in (B N : Nat) (J Jx : List ByteArray → World → Prop) (hJ : ∀ s A B, J s A → A.grownBy B none → J s B)
    (hY : ∀ m pre x W, J pre W → pre.length < N → CallsIn Fence.wide m Tryz.prog 118 #[.string x, .agg #[], .pointer (some ⟨B, 0, none⟩)] W fun e W' => (e = .returned (.bool true) ∧ J (pre ++ [x]) W' ∧ Nodes W W') ∨ (e = .returned (.bool false) ∧ Jx (pre ++ [x]) W')) (T : Tr ByteArray) :
    ∀ (n : Nat) (p : Option Addr) (pre : List ByteArray) (W : World), IsTree W p T → J pre W → pre.length + T.flat.length ≤ N →
      CallsIn Fence.wide n Tryz.prog 91 #[.pointer p, .func (.func 118) #[] #[.pointer (some ⟨B, 0, none⟩)]] W fun e W' =>
        (e = .returned (.bool true) ∧ J (pre ++ T.flat) W' ∧ Nodes W W') ∨ (e = .returned (.bool false) ∧ ∃ q, q <+: T.flat ∧ Jx (pre ++ q) W') := by
  induction T with
  | nil =>
    intro n p pre W ht hj _
    obtain rfl : p = none := ht
    have hj2 := hJ _ _ _ hj (grown_drew W)
    refine callsIn_of_wp Tryz.func91 rfl trivial ?_ rfl
    simp only [Tryz.ntmps91, List.size_toArray, List.length_cons, List.length_nil, Nat.reduceAdd, Nat.reduceSub, Array.replicate_succ, Array.replicate_zero, List.push_toArray, List.append_toArray, List.nil_append, List.cons_append]
    gi_wp2
    refine wpIn_region_any (by kernel_rfl) ?_
    refine wpAnyIn_take (i := 0) (oi := { dst := some 5, op := _, type := _, pos := _, after := _, guard := none }) rfl rfl (by kernel_rfl) (by kernel_rfl) (by kernel_rfl) (fun _ _ _ h => h) ⟨Or.inl ⟨by rfl, fun _ => by go_simp <;> with_reducible rfl⟩, fun _ => by rfl⟩ ?_
    (try simp only [Act.put, List.setIfInBounds_toArray, List.set_cons_zero, List.set_cons_succ])
    refine wpAnyIn_take (i := 1) (oi := { dst := some 6, op := _, type := _, pos := _, after := _, guard := none }) rfl rfl (by kernel_rfl) (by kernel_rfl) (by kernel_rfl) (fun _ _ _ h => h) ⟨Or.inl ⟨by rfl, fun _ => by go_simp <;> with_reducible rfl⟩, fun _ => by rfl⟩ ?_
    (try simp only [Act.put, List.setIfInBounds_toArray, List.set_cons_zero, List.set_cons_succ])
    refine wpAnyIn_take (i := 2) (oi := { dst := some 7, op := _, type := _, pos := _, after := _, guard := none }) rfl rfl (by kernel_rfl) (by kernel_rfl) (by kernel_rfl) (fun _ _ _ h => h) ⟨Or.inl ⟨by rfl, fun _ => by go_simp <;> with_reducible rfl⟩, fun _ => by rfl⟩ ?_
    (try simp only [Act.put, List.setIfInBounds_toArray, List.set_cons_zero, List.set_cons_succ])
    refine wpAnyIn_take (i := 3) (oi := { dst := some 8, op := _, type := _, pos := _, after := _, guard := some (2, false) }) (v := undef) rfl rfl (by kernel_rfl) (by kernel_rfl) (by kernel_rfl) (fun _ _ _ h => h) ⟨Or.inr ⟨by rfl, rfl⟩, fun _ => by rfl⟩ ?_
    (try simp only [Act.put, List.setIfInBounds_toArray, List.set_cons_zero, List.set_cons_succ])
    refine wpAnyIn_take (i := 4) (oi := { dst := some 9, op := _, type := _, pos := _, after := _, guard := some (2, false) }) (v := undef) rfl rfl (by kernel_rfl) (by kernel_rfl) (by kernel_rfl) (fun _ _ _ h => h) ⟨Or.inr ⟨by rfl, rfl⟩, fun _ => by rfl⟩ ?_
    (try simp only [Act.put, List.setIfInBounds_toArray, List.set_cons_zero, List.set_cons_succ])
    refine wpAnyIn_take (i := 5) (oi := { dst := some 10, op := _, type := _, pos := _, after := _, guard := some (2, false) }) (v := undef) rfl rfl (by kernel_rfl) (by kernel_rfl) (by kernel_rfl) (fun _ _ _ h => h) ⟨Or.inr ⟨by rfl, rfl⟩, fun _ => by rfl⟩ ?_
    (try simp only [Act.put, List.setIfInBounds_toArray, List.set_cons_zero, List.set_cons_succ])
    refine wpAnyIn_take (i := 6) (oi := { dst := some 11, op := _, type := _, pos := _, after := _, guard := some (2, false) }) (v := undef) rfl rfl (by kernel_rfl) (by kernel_rfl) (by kernel_rfl) (fun _ _ _ h => h) ⟨Or.inr ⟨by rfl, rfl⟩, fun _ => by rfl⟩ ?_
    (try simp only [Act.put, List.setIfInBounds_toArray, List.set_cons_zero, List.set_cons_succ])
    refine wpAnyIn_take (i := 7) (oi := { dst := some 12, op := _, type := _, pos := _, after := _, guard := some (2, false) }) (v := undef) rfl rfl (by kernel_rfl) (by kernel_rfl) (by kernel_rfl) (fun _ _ _ h => h) ⟨Or.inr ⟨by rfl, rfl⟩, fun _ => by rfl⟩ ?_
    (try simp only [Act.put, List.setIfInBounds_toArray, List.set_cons_zero, List.set_cons_succ])
    refine wpAnyIn_ready (rs := [8]) (by kernel_rfl) (by simp) (AllReadyIn.cons (o := { dst := some 13, op := _, type := _, pos := _, after := _, guard := some (2, false) }) rfl (fun K hK => ?_) AllReadyIn.nil)
    go_simp
    refine ⟨?_, ?_⟩
    · first | trivial | (intros; trivial)
    refine hK _ _ ?_
    clear hK K
    (try simp only [Act.put, List.setIfInBounds_toArray, List.set_cons_zero, List.set_cons_succ])
    refine wpAnyIn_take (i := 9) (oi := { dst := some 14, op := _, type := _, pos := _, after := _, guard := some (2, false) }) (v := undef) rfl rfl (by kernel_rfl) (by kernel_rfl) (by kernel_rfl) (fun _ _ _ h => h) ⟨Or.inr ⟨by rfl, rfl⟩, fun _ => by rfl⟩ ?_
    (try simp only [Act.put, List.setIfInBounds_toArray, List.set_cons_zero, List.set_cons_succ])
    refine wpAnyIn_take (i := 10) (oi := { dst := some 15, op := _, type := _, pos := _, after := _, guard := some (9, true) }) (v := undef) rfl rfl (by kernel_rfl) (by kernel_rfl) (by kernel_rfl) (fun _ _ _ h => h) ⟨Or.inr ⟨by rfl, rfl⟩, fun _ => by rfl⟩ ?_
    (try simp only [Act.put, List.setIfInBounds_toArray, List.set_cons_zero, List.set_cons_succ])
    refine wpAnyIn_take (i := 11) (oi := { dst := some 16, op := _, type := _, pos := _, after := _, guard := some (9, true) }) (v := undef) rfl rfl (by kernel_rfl) (by kernel_rfl) (by kernel_rfl) (fun _ _ _ h => h) ⟨Or.inr ⟨by rfl, rfl⟩, fun _ => by rfl⟩ ?_
    (try simp only [Act.put, List.setIfInBounds_toArray, List.set_cons_zero, List.set_cons_succ])
    refine wpAnyIn_take (i := 12) (oi := { dst := some 17, op := _, type := _, pos := _, after := _, guard := some (9, true) }) (v := undef) rfl rfl (by kernel_rfl) (by kernel_rfl) (by kernel_rfl) (fun _ _ _ h => h) ⟨Or.inr ⟨by rfl, rfl⟩, fun _ => by rfl⟩ ?_
    (try simp only [Act.put, List.setIfInBounds_toArray, List.set_cons_zero, List.set_cons_succ])
    refine wpAnyIn_take (i := 13) (oi := { dst := some 18, op := _, type := _, pos := _, after := _, guard := some (9, true) }) (v := undef) rfl rfl (by kernel_rfl) (by kernel_rfl) (by kernel_rfl) (fun _ _ _ h => h) ⟨Or.inr ⟨by rfl, rfl⟩, fun _ => by rfl⟩ ?_
    (try simp only [Act.put, List.setIfInBounds_toArray, List.set_cons_zero, List.set_cons_succ])
    refine wpAnyIn_take (i := 14) (oi := { dst := some 19, op := _, type := _, pos := _, after := _, guard := some (9, true) }) (v := undef) rfl rfl (by kernel_rfl) (by kernel_rfl) (by kernel_rfl) (fun _ _ _ h => h) ⟨Or.inr ⟨by rfl, rfl⟩, fun _ => by rfl⟩ ?_
    (try simp only [Act.put, List.setIfInBounds_toArray, List.set_cons_zero, List.set_cons_succ])
    refine wpAnyIn_take (i := 15) (oi := { dst := some 20, op := _, type := _, pos := _, after := _, guard := some (9, true) }) (v := undef) rfl rfl (by kernel_rfl) (by kernel_rfl) (by kernel_rfl) (fun _ _ _ h => h) ⟨Or.inr ⟨by rfl, rfl⟩, fun _ => by rfl⟩ ?_
    (try simp only [Act.put, List.setIfInBounds_toArray, List.set_cons_zero, List.set_cons_succ])
    refine wpAnyIn_take (i := 16) (oi := { dst := some 21, op := _, type := _, pos := _, after := _, guard := some (9, true) }) (v := undef) rfl rfl (by kernel_rfl) (by kernel_rfl) (by kernel_rfl) (fun _ _ _ h => h) ⟨Or.inr ⟨by rfl, rfl⟩, fun _ => by rfl⟩ ?_
    (try simp only [Act.put, List.setIfInBounds_toArray, List.set_cons_zero, List.set_cons_succ])
    refine wpAnyIn_take (i := 17) (oi := { dst := some 22, op := _, type := _, pos := _, after := _, guard := some (9, true) }) (v := undef) rfl rfl (by kernel_rfl) (by kernel_rfl) (by kernel_rfl) (fun _ _ _ h => h) ⟨Or.inr ⟨by rfl, rfl⟩, fun _ => by rfl⟩ ?_
    (try simp only [Act.put, List.setIfInBounds_toArray, List.set_cons_zero, List.set_cons_succ])
    refine wpAnyIn_take (i := 18) (oi := { dst := some 23, op := _, type := _, pos := _, after := _, guard := some (9, true) }) (v := undef) rfl rfl (by kernel_rfl) (by kernel_rfl) (by kernel_rfl) (fun _ _ _ h => h) ⟨Or.inr ⟨by rfl, rfl⟩, fun _ => by rfl⟩ ?_
    (try simp only [Act.put, List.setIfInBounds_toArray, List.set_cons_zero, List.set_cons_succ])
    refine wpAnyIn_ready (rs := [19]) (by kernel_rfl) (by simp) (AllReadyIn.cons (o := { dst := some 24, op := _, type := _, pos := _, after := _, guard := some (9, true) }) rfl (fun K hK => ?_) AllReadyIn.nil)
    go_simp
    refine ⟨?_, ?_⟩
    · first | trivial | (intros; trivial)
    refine hK _ _ ?_
    clear hK K
    (try simp only [Act.put, List.setIfInBounds_toArray, List.set_cons_zero, List.set_cons_succ])
    refine wpAnyIn_take (i := 20) (oi := { dst := some 25, op := _, type := _, pos := _, after := _, guard := some (2, false) }) (v := undef) rfl rfl (by kernel_rfl) (by kernel_rfl) (by kernel_rfl) (fun _ _ _ h => h) ⟨Or.inr ⟨by rfl, rfl⟩, fun _ => by rfl⟩ ?_
    (try simp only [Act.put, List.setIfInBounds_toArray, List.set_cons_zero, List.set_cons_succ])
    refine wpAnyIn_take (i := 21) (oi := { dst := some 26, op := _, type := _, pos := _, after := _, guard := some (2, false) }) (v := undef) rfl rfl (by kernel_rfl) (by kernel_rfl) (by kernel_rfl) (fun _ _ _ h => h) ⟨Or.inr ⟨by rfl, rfl⟩, fun _ => by rfl⟩ ?_
    (try simp only [Act.put, List.setIfInBounds_toArray, List.set_cons_zero, List.set_cons_succ])
    refine wpAnyIn_take (i := 22) (oi := { dst := some 27, op := _, type := _, pos := _, after := _, guard := some (21, true) }) (v := undef) rfl rfl (by kernel_rfl) (by kernel_rfl) (by kernel_rfl) (fun _ _ _ h => h) ⟨Or.inr ⟨by rfl, rfl⟩, fun _ => by rfl⟩ ?_
    (try simp only [Act.put, List.setIfInBounds_toArray, List.set_cons_zero, List.set_cons_succ])
    refine wpAnyIn_take (i := 23) (oi := { dst := some 28, op := _, type := _, pos := _, after := _, guard := some (21, true) }) (v := undef) rfl rfl (by kernel_rfl) (by kernel_rfl) (by kernel_rfl) (fun _ _ _ h => h) ⟨Or.inr ⟨by rfl, rfl⟩, fun _ => by rfl⟩ ?_
    (try simp only [Act.put, List.setIfInBounds_toArray, List.set_cons_zero, List.set_cons_succ])
    refine wpAnyIn_take (i := 24) (oi := { dst := some 29, op := _, type := _, pos := _, after := _, guard := some (21, true) }) (v := undef) rfl rfl (by kernel_rfl) (by kernel_rfl) (by kernel_rfl) (fun _ _ _ h => h) ⟨Or.inr ⟨by rfl, rfl⟩, fun _ => by rfl⟩ ?_
    (try simp only [Act.put, List.setIfInBounds_toArray, List.set_cons_zero, List.set_cons_succ])
    refine wpAnyIn_take (i := 25) (oi := { dst := some 30, op := _, type := _, pos := _, after := _, guard := some (21, true) }) (v := undef) rfl rfl (by kernel_rfl) (by kernel_rfl) (by kernel_rfl) (fun _ _ _ h => h) ⟨Or.inr ⟨by rfl, rfl⟩, fun _ => by rfl⟩ ?_
    (try simp only [Act.put, List.setIfInBounds_toArray, List.set_cons_zero, List.set_cons_succ])
    refine wpAnyIn_take (i := 26) (oi := { dst := some 31, op := _, type := _, pos := _, after := _, guard := some (21, true) }) (v := undef) rfl rfl (by kernel_rfl) (by kernel_rfl) (by kernel_rfl) (fun _ _ _ h => h) ⟨Or.inr ⟨by rfl, rfl⟩, fun _ => by rfl⟩ ?_
    (try simp only [Act.put, List.setIfInBounds_toArray, List.set_cons_zero, List.set_cons_succ])
    refine wpAnyIn_ready (rs := [27]) (by kernel_rfl) (by simp) (AllReadyIn.cons (o := { dst := some 32, op := _, type := _, pos := _, after := _, guard := some (21, true) }) rfl (fun K hK => ?_) AllReadyIn.nil)
    go_simp
    refine ⟨?_, ?_⟩
    · first | trivial | (intros; trivial)
    refine hK _ _ ?_
    clear hK K
    (try simp only [Act.put, List.setIfInBounds_toArray, List.set_cons_zero, List.set_cons_succ])
    refine wpAnyIn_take (i := 28) (oi := { dst := some 33, op := _, type := _, pos := _, after := _, guard := some (2, false) }) (v := undef) rfl rfl (by kernel_rfl) (by kernel_rfl) (by kernel_rfl) (fun _ _ _ h => h) ⟨Or.inr ⟨by rfl, rfl⟩, fun _ => by rfl⟩ ?_
    (try simp only [Act.put, List.setIfInBounds_toArray, List.set_cons_zero, List.set_cons_succ])
    refine wpAnyIn_take (i := 29) (oi := { dst := some 34, op := _, type := _, pos := _, after := _, guard := none }) rfl rfl (by kernel_rfl) (by kernel_rfl) (by kernel_rfl) (fun _ _ _ h => h) ⟨Or.inl ⟨by rfl, fun _ => by go_simp <;> with_reducible rfl⟩, fun _ => by rfl⟩ ?_
    (try simp only [Act.put, List.setIfInBounds_toArray, List.set_cons_zero, List.set_cons_succ])
    refine wpAnyIn_take (i := 30) (oi := { dst := some 4, op := _, type := _, pos := _, after := _, guard := none }) rfl rfl (by kernel_rfl) (by kernel_rfl) (by kernel_rfl) (fun _ _ _ h => h) ⟨Or.inl ⟨by rfl, fun _ => by go_simp <;> with_reducible rfl⟩, fun _ => by rfl⟩ ?_
    (try simp only [Act.put, List.setIfInBounds_toArray, List.set_cons_zero, List.set_cons_succ])
    refine wpAnyIn_done (by kernel_rfl) ?_ _
    (gi_wp2; go_ret; exact .inl ⟨rfl, by simpa [Tr.flat] using hj2, nodes_below (b_drew W)⟩)
  | node tl x tr ihl ihr =>
    intro n p pre W ht hj hN
    obtain ⟨b, pl, pr, rfl, hNd, hl, hr⟩ := ht
    have hd := b_drew W
    have hS0 : Sees W.drew b x pl pr (Tr.node tl x tr).num := (hNd.kept (nodes_below hd)).cells
    have hflat : (Tr.node tl x tr).flat = tl.flat ++ x :: tr.flat := rfl
    simp only [hflat, List.length_append, List.length_cons] at hN
    have hy2 : ∀ W1, J (pre ++ tl.flat) W1 → Nodes W.drew W1 → CallsIn Fence.wide (n - 1) Tryz.prog 118 #[.string x, .agg #[], .pointer (some ⟨B, 0, none⟩)] W1 fun e W2 =>
        (e = .returned (.bool true) ∧ J (pre ++ tl.flat ++ [x]) W2 ∧ Nodes W W2 ∧ W2.cell? ⟨b, 2, none⟩ = some (.pointer pr) ∧ IsTree W2 pr tr) ∨ (e = .returned (.bool false) ∧ Jx (pre ++ tl.flat ++ [x]) W2) := fun W1 h1 n1 =>
      CallsIn.mono (hY (n - 1) _ x W1 h1 (by simp; omega)) fun e W2 h => h.elim
        (fun ⟨he, hj2, n2⟩ => have n3 : Nodes W W2 := (nodes_below hd).trans (n1.trans n2); .inl ⟨he, hj2, n3, (hNd.kept n3).right, hr.kept n3⟩) .inr
    have ih1 := (ihl (n - 1) pl pre W.drew (hl.next hd) (hJ _ _ _ hj (grown_drew W)) (by omega)).mono (R' := fun e W1 =>
        (e = .returned (.bool true) ∧ Sees W1 b x pl pr (Tr.node tl x tr).num ∧ Hid (CallsIn Fence.wide (n - 1) Tryz.prog 118 #[.string x, .agg #[], .pointer (some ⟨B, 0, none⟩)] W1 fun e W2 =>
          (e = .returned (.bool true) ∧ J (pre ++ tl.flat ++ [x]) W2 ∧ Nodes W W2 ∧ W2.cell? ⟨b, 2, none⟩ = some (.pointer pr) ∧ IsTree W2 pr tr) ∨ (e = .returned (.bool false) ∧ Jx (pre ++ tl.flat ++ [x]) W2))) ∨
        (e = .returned (.bool false) ∧ ∃ q, q <+: tl.flat ∧ Jx (pre ++ q) W1))
      (fun e W1 h => h.elim (fun ⟨he, hj1, n1⟩ => .inl ⟨he, (hNd.kept ((nodes_below hd).trans n1)).cells, hy2 W1 hj1 n1⟩) .inr)
    have ih2 := Lib.hid fun W2 (h2 : IsTree W2 pr tr) (hj2 : J (pre ++ tl.flat ++ [x]) W2) => ihr (n - 1) pr _ W2 h2 hj2 (by simp; omega)
    obtain ⟨s0, s1, s2, s3, s4⟩ := hS0
    replace hflat := Lib.hid hflat
    clear hy2 ihl ihr hNd hl hr hN hj hd
    generalize (Tr.node tl x tr).num = nn at *
    generalize (Tr.node tl x tr).flat = ff at *
    refine callsIn_of_wp Tryz.func91 rfl trivial ?_ rfl
    simp only [Tryz.ntmps91, List.size_toArray, List.length_cons, List.length_nil, Nat.reduceAdd, Nat.reduceSub, Array.replicate_succ, Array.replicate_zero, List.push_toArray, List.append_toArray, List.nil_append, List.cons_append]
    gi_wp2
    refine wpIn_region_any (by kernel_rfl) ?_
    refine wpAnyIn_take (i := 0) (oi := { dst := some 5, op := _, type := _, pos := _, after := _, guard := none }) rfl rfl (by kernel_rfl) (by kernel_rfl) (by kernel_rfl) (fun _ _ _ h => h) ⟨Or.inl ⟨by rfl, fun _ => by go_simp <;> with_reducible rfl⟩, fun _ => by rfl⟩ ?_
    (try simp only [Act.put, List.setIfInBounds_toArray, List.set_cons_zero, List.set_cons_succ])
    refine wpAnyIn_take (i := 1) (oi := { dst := some 6, op := _, type := _, pos := _, after := _, guard := none }) rfl rfl (by kernel_rfl) (by kernel_rfl) (by kernel_rfl) (fun _ _ _ h => h) ⟨Or.inl ⟨by rfl, fun _ => by go_simp <;> with_reducible rfl⟩, fun _ => by rfl⟩ ?_
    (try simp only [Act.put, List.setIfInBounds_toArray, List.set_cons_zero, List.set_cons_succ])
    refine wpAnyIn_take (i := 2) (oi := { dst := some 7, op := _, type := _, pos := _, after := _, guard := none }) rfl rfl (by kernel_rfl) (by kernel_rfl) (by kernel_rfl) (fun _ _ _ h => h) ⟨Or.inl ⟨by rfl, fun _ => by go_simp <;> with_reducible rfl⟩, fun _ => by rfl⟩ ?_
    (try simp only [Act.put, List.setIfInBounds_toArray, List.set_cons_zero, List.set_cons_succ])
    refine wpAnyIn_take (i := 3) (oi := { dst := some 8, op := _, type := _, pos := _, after := _, guard := some (2, false) }) rfl rfl (by kernel_rfl) (by kernel_rfl) (by kernel_rfl) (fun _ _ _ h => h) ⟨Or.inl ⟨by rfl, fun _ => by go_simp <;> with_reducible rfl⟩, fun _ => by rfl⟩ ?_
    (try simp only [Act.put, List.setIfInBounds_toArray, List.set_cons_zero, List.set_cons_succ])
    refine wpAnyIn_take (i := 4) (oi := { dst := some 9, op := _, type := _, pos := _, after := _, guard := some (2, false) }) rfl rfl (by kernel_rfl) (by kernel_rfl) (by kernel_rfl) (fun _ _ _ h => h) ⟨Or.inl ⟨by rfl, fun _ => by go_simp <;> with_reducible rfl⟩, fun _ => by rfl⟩ ?_
    (try simp only [Act.put, List.setIfInBounds_toArray, List.set_cons_zero, List.set_cons_succ])
    refine wpAnyIn_take (i := 5) (oi := { dst := some 10, op := _, type := _, pos := _, after := _, guard := some (2, false) }) rfl rfl (by kernel_rfl) (by kernel_rfl) (by kernel_rfl) (fun _ _ _ h => h) ⟨Or.inl ⟨by rfl, fun _ => by go_simp <;> with_reducible rfl⟩, fun _ => by rfl⟩ ?_
    (try simp only [Act.put, List.setIfInBounds_toArray, List.set_cons_zero, List.set_cons_succ])
    refine wpAnyIn_take (i := 7) (oi := { dst := some 12, op := _, type := _, pos := _, after := _, guard := some (2, false) }) rfl rfl (by kernel_rfl) (by kernel_rfl) (by kernel_rfl) (fun _ _ _ h => h) ⟨Or.inl ⟨by rfl, fun _ => by go_simp <;> with_reducible rfl⟩, fun _ => by rfl⟩ ?_
    (try simp only [Act.put, List.setIfInBounds_toArray, List.set_cons_zero, List.set_cons_succ])
    refine wpAnyIn_ready (rs := [6]) (by kernel_rfl) (by simp) (AllReadyIn.cons (o := { dst := some 11, op := _, type := _, pos := _, after := _, guard := some (2, false) }) rfl (fun K hK => ?_) AllReadyIn.nil)
    go_simp
    refine hK _ _ ?_
    clear hK K
    (try simp only [Act.put, List.setIfInBounds_toArray, List.set_cons_zero, List.set_cons_succ])
    refine wpAnyIn_ready (rs := [8]) (by kernel_rfl) (by simp) (AllReadyIn.cons (o := { dst := some 13, op := _, type := _, pos := _, after := _, guard := some (2, false) }) rfl (fun K hK => ?_) AllReadyIn.nil)
    go_simp
    (refine ⟨trivial, deep _, ?_⟩; refine ih1.mono ?_; clear ih1; rintro e W1 (⟨rfl, ⟨k0, k1, k2, k3, k4⟩, hR⟩ | ⟨rfl, q, hq, hx1⟩))
    · refine hK _ _ ?_
      clear hK K
      (try simp only [Act.put, List.setIfInBounds_toArray, List.set_cons_zero, List.set_cons_succ])
      refine wpAnyIn_take (i := 9) (oi := { dst := some 14, op := _, type := _, pos := _, after := _, guard := some (2, false) }) rfl rfl (by kernel_rfl) (by kernel_rfl) (by kernel_rfl) (fun _ _ _ h => h) ⟨Or.inl ⟨by rfl, fun _ => by go_simp <;> with_reducible rfl⟩, fun _ => by rfl⟩ ?_
      (try simp only [Act.put, List.setIfInBounds_toArray, List.set_cons_zero, List.set_cons_succ])
      refine wpAnyIn_take (i := 10) (oi := { dst := some 15, op := _, type := _, pos := _, after := _, guard := some (9, true) }) rfl rfl (by kernel_rfl) (by kernel_rfl) (by kernel_rfl) (fun _ _ _ h => h) ⟨Or.inl ⟨by rfl, fun _ => by go_simp <;> with_reducible rfl⟩, fun _ => by rfl⟩ ?_
      (try simp only [Act.put, List.setIfInBounds_toArray, List.set_cons_zero, List.set_cons_succ])
      refine wpAnyIn_take (i := 11) (oi := { dst := some 16, op := _, type := _, pos := _, after := _, guard := some (9, true) }) rfl rfl (by kernel_rfl) (by kernel_rfl) (by kernel_rfl) (fun _ _ _ h => h) ⟨Or.inl ⟨by rfl, fun _ => by go_simp <;> with_reducible rfl⟩, fun _ => by rfl⟩ ?_
      (try simp only [Act.put, List.setIfInBounds_toArray, List.set_cons_zero, List.set_cons_succ])
      refine wpAnyIn_take (i := 12) (oi := { dst := some 17, op := _, type := _, pos := _, after := _, guard := some (9, true) }) rfl rfl (by kernel_rfl) (by kernel_rfl) (by kernel_rfl) (fun _ _ _ h => h) ⟨Or.inl ⟨by rfl, fun _ => by go_simp <;> with_reducible rfl⟩, fun _ => by rfl⟩ ?_
      (try simp only [Act.put, List.setIfInBounds_toArray, List.set_cons_zero, List.set_cons_succ])
      refine wpAnyIn_take (i := 13) (oi := { dst := some 18, op := _, type := _, pos := _, after := _, guard := some (9, true) }) rfl rfl (by kernel_rfl) (by kernel_rfl) (by kernel_rfl) (fun _ _ _ h => h) ⟨Or.inl ⟨by rfl, fun _ => by go_simp <;> with_reducible rfl⟩, fun _ => by rfl⟩ ?_
      (try simp only [Act.put, List.setIfInBounds_toArray, List.set_cons_zero, List.set_cons_succ])
      refine wpAnyIn_take (i := 15) (oi := { dst := some 20, op := _, type := _, pos := _, after := _, guard := some (9, true) }) rfl rfl (by kernel_rfl) (by kernel_rfl) (by kernel_rfl) (fun _ _ _ h => h) ⟨Or.inl ⟨by rfl, fun _ => by go_simp <;> with_reducible rfl⟩, fun _ => by rfl⟩ ?_
      (try simp only [Act.put, List.setIfInBounds_toArray, List.set_cons_zero, List.set_cons_succ])
      refine wpAnyIn_take (i := 16) (oi := { dst := some 21, op := _, type := _, pos := _, after := _, guard := some (9, true) }) rfl rfl (by kernel_rfl) (by kernel_rfl) (by kernel_rfl) (fun _ _ _ h => h) ⟨Or.inl ⟨by rfl, fun _ => by go_simp <;> with_reducible rfl⟩, fun _ => by rfl⟩ ?_
      (try simp only [Act.put, List.setIfInBounds_toArray, List.set_cons_zero, List.set_cons_succ])
      refine wpAnyIn_ready (rs := [14, 17]) (by kernel_rfl) (by simp) (AllReadyIn.cons (o := { dst := some 19, op := _, type := _, pos := _, after := _, guard := some (9, true) }) rfl (fun K hK => ?_) (AllReadyIn.cons (o := { dst := some 22, op := _, type := _, pos := _, after := _, guard := some (9, true) }) rfl (fun K hK => ?_) AllReadyIn.nil))
      ·
        go_simp
        refine hK _ _ ?_
        clear hK K
        (try simp only [Act.put, List.setIfInBounds_toArray, List.set_cons_zero, List.set_cons_succ])
        refine wpAnyIn_ready (rs := [17]) (by kernel_rfl) (by simp) (AllReadyIn.cons (o := { dst := some 22, op := _, type := _, pos := _, after := _, guard := some (9, true) }) rfl (fun K hK => ?_) AllReadyIn.nil)
        go_simp
        refine hK _ _ ?_
        clear hK K
        (try simp only [Act.put, List.setIfInBounds_toArray, List.set_cons_zero, List.set_cons_succ])
        refine wpAnyIn_ready (rs := [18]) (by kernel_rfl) (by simp) (AllReadyIn.cons (o := { dst := some 23, op := _, type := _, pos := _, after := _, guard := some (9, true) }) rfl (fun K hK => ?_) AllReadyIn.nil)
        go_simp
        refine hK _ _ ?_
        clear hK K
        (try simp only [Act.put, List.setIfInBounds_toArray, List.set_cons_zero, List.set_cons_succ])
        refine wpAnyIn_ready (rs := [19]) (by kernel_rfl) (by simp) (AllReadyIn.cons (o := { dst := some 24, op := _, type := _, pos := _, after := _, guard := some (9, true) }) rfl (fun K hK => ?_) AllReadyIn.nil)
        go_simp
        (refine ⟨trivial, deep _, ?_⟩; refine hR.out.mono ?_; clear hR; rintro e W2 (⟨rfl, hJ2, n2, c2, hr2⟩ | ⟨rfl, hx2⟩))
        · refine hK _ _ ?_
          clear hK K
          (try simp only [Act.put, List.setIfInBounds_toArray, List.set_cons_zero, List.set_cons_succ])
          refine wpAnyIn_take (i := 20) (oi := { dst := some 25, op := _, type := _, pos := _, after := _, guard := some (2, false) }) rfl rfl (by kernel_rfl) (by kernel_rfl) (by kernel_rfl) (fun _ _ _ h => h) ⟨Or.inl ⟨by rfl, fun _ => by go_simp <;> with_reducible rfl⟩, fun _ => by rfl⟩ ?_
          (try simp only [Act.put, List.setIfInBounds_toArray, List.set_cons_zero, List.set_cons_succ])
          refine wpAnyIn_take (i := 21) (oi := { dst := some 26, op := _, type := _, pos := _, after := _, guard := some (2, false) }) rfl rfl (by kernel_rfl) (by kernel_rfl) (by kernel_rfl) (fun _ _ _ h => h) ⟨Or.inl ⟨by rfl, fun _ => by go_simp <;> with_reducible rfl⟩, fun _ => by rfl⟩ ?_
          (try simp only [Act.put, List.setIfInBounds_toArray, List.set_cons_zero, List.set_cons_succ])
          refine wpAnyIn_take (i := 22) (oi := { dst := some 27, op := _, type := _, pos := _, after := _, guard := some (21, true) }) rfl rfl (by kernel_rfl) (by kernel_rfl) (by kernel_rfl) (fun _ _ _ h => h) ⟨Or.inl ⟨by rfl, fun _ => by go_simp <;> with_reducible rfl⟩, fun _ => by rfl⟩ ?_
          (try simp only [Act.put, List.setIfInBounds_toArray, List.set_cons_zero, List.set_cons_succ])
          refine wpAnyIn_take (i := 23) (oi := { dst := some 28, op := _, type := _, pos := _, after := _, guard := some (21, true) }) rfl rfl (by kernel_rfl) (by kernel_rfl) (by kernel_rfl) (fun _ _ _ h => h) ⟨Or.inl ⟨by rfl, fun _ => by go_simp <;> with_reducible rfl⟩, fun _ => by rfl⟩ ?_
          (try simp only [Act.put, List.setIfInBounds_toArray, List.set_cons_zero, List.set_cons_succ])
          refine wpAnyIn_take (i := 24) (oi := { dst := some 29, op := _, type := _, pos := _, after := _, guard := some (21, true) }) rfl rfl (by kernel_rfl) (by kernel_rfl) (by kernel_rfl) (fun _ _ _ h => h) ⟨Or.inl ⟨by rfl, fun _ => by go_simp <;> with_reducible rfl⟩, fun _ => by rfl⟩ ?_
          (try simp only [Act.put, List.setIfInBounds_toArray, List.set_cons_zero, List.set_cons_succ])
          refine wpAnyIn_take (i := 26) (oi := { dst := some 31, op := _, type := _, pos := _, after := _, guard := some (21, true) }) rfl rfl (by kernel_rfl) (by kernel_rfl) (by kernel_rfl) (fun _ _ _ h => h) ⟨Or.inl ⟨by rfl, fun _ => by go_simp <;> with_reducible rfl⟩, fun _ => by rfl⟩ ?_
          (try simp only [Act.put, List.setIfInBounds_toArray, List.set_cons_zero, List.set_cons_succ])
          refine wpAnyIn_ready (rs := [25]) (by kernel_rfl) (by simp) (AllReadyIn.cons (o := { dst := some 30, op := _, type := _, pos := _, after := _, guard := some (21, true) }) rfl (fun K hK => ?_) AllReadyIn.nil)
          go_simp
          refine hK _ _ ?_
          clear hK K
          (try simp only [Act.put, List.setIfInBounds_toArray, List.set_cons_zero, List.set_cons_succ])
          refine wpAnyIn_ready (rs := [27]) (by kernel_rfl) (by simp) (AllReadyIn.cons (o := { dst := some 32, op := _, type := _, pos := _, after := _, guard := some (21, true) }) rfl (fun K hK => ?_) AllReadyIn.nil)
          go_simp
          (refine ⟨trivial, deep _, ?_⟩; refine (ih2.out _ hr2 hJ2).mono ?_; rintro e W3 (⟨rfl, hJ3, n3⟩ | ⟨rfl, q, hq, hx3⟩))
          · refine hK _ _ ?_
            clear hK K
            (try simp only [Act.put, List.setIfInBounds_toArray, List.set_cons_zero, List.set_cons_succ])
            refine wpAnyIn_take (i := 28) (oi := { dst := some 33, op := _, type := _, pos := _, after := _, guard := some (2, false) }) rfl rfl (by kernel_rfl) (by kernel_rfl) (by kernel_rfl) (fun _ _ _ h => h) ⟨Or.inl ⟨by rfl, fun _ => by go_simp <;> with_reducible rfl⟩, fun _ => by rfl⟩ ?_
            (try simp only [Act.put, List.setIfInBounds_toArray, List.set_cons_zero, List.set_cons_succ])
            refine wpAnyIn_take (i := 29) (oi := { dst := some 34, op := _, type := _, pos := _, after := _, guard := none }) rfl rfl (by kernel_rfl) (by kernel_rfl) (by kernel_rfl) (fun _ _ _ h => h) ⟨Or.inl ⟨by rfl, fun _ => by go_simp <;> with_reducible rfl⟩, fun _ => by rfl⟩ ?_
            (try simp only [Act.put, List.setIfInBounds_toArray, List.set_cons_zero, List.set_cons_succ])
            refine wpAnyIn_take (i := 30) (oi := { dst := some 4, op := _, type := _, pos := _, after := _, guard := none }) rfl rfl (by kernel_rfl) (by kernel_rfl) (by kernel_rfl) (fun _ _ _ h => h) ⟨Or.inl ⟨by rfl, fun _ => by go_simp <;> with_reducible rfl⟩, fun _ => by rfl⟩ ?_
            (try simp only [Act.put, List.setIfInBounds_toArray, List.set_cons_zero, List.set_cons_succ])
            refine wpAnyIn_done (by kernel_rfl) ?_ _
            (gi_wp2; go_ret; exact .inl ⟨rfl, by rw [hflat.out]; simpa [List.append_assoc] using hJ3, n2.trans n3⟩)
          · refine hK _ _ ?_
            clear hK K
            (try simp only [Act.put, List.setIfInBounds_toArray, List.set_cons_zero, List.set_cons_succ])
            refine wpAnyIn_take (i := 28) (oi := { dst := some 33, op := _, type := _, pos := _, after := _, guard := some (2, false) }) rfl rfl (by kernel_rfl) (by kernel_rfl) (by kernel_rfl) (fun _ _ _ h => h) ⟨Or.inl ⟨by rfl, fun _ => by go_simp <;> with_reducible rfl⟩, fun _ => by rfl⟩ ?_
            (try simp only [Act.put, List.setIfInBounds_toArray, List.set_cons_zero, List.set_cons_succ])
            refine wpAnyIn_take (i := 29) (oi := { dst := some 34, op := _, type := _, pos := _, after := _, guard := none }) rfl rfl (by kernel_rfl) (by kernel_rfl) (by kernel_rfl) (fun _ _ _ h => h) ⟨Or.inl ⟨by rfl, fun _ => by go_simp <;> with_reducible rfl⟩, fun _ => by rfl⟩ ?_
            (try simp only [Act.put, List.setIfInBounds_toArray, List.set_cons_zero, List.set_cons_succ])
            refine wpAnyIn_take (i := 30) (oi := { dst := some 4, op := _, type := _, pos := _, after := _, guard := none }) rfl rfl (by kernel_rfl) (by kernel_rfl) (by kernel_rfl) (fun _ _ _ h => h) ⟨Or.inl ⟨by rfl, fun _ => by go_simp <;> with_reducible rfl⟩, fun _ => by rfl⟩ ?_
            (try simp only [Act.put, List.setIfInBounds_toArray, List.set_cons_zero, List.set_cons_succ])
            refine wpAnyIn_done (by kernel_rfl) ?_ _
            (gi_wp2; go_ret; obtain ⟨r, hr'⟩ := hq; exact .inr ⟨rfl, tl.flat ++ x :: q, by rw [hflat.out]; exact ⟨r, by simp [← hr']⟩, by simpa [List.append_assoc] using hx3⟩)
        · refine hK _ _ ?_
          clear hK K
          (try simp only [Act.put, List.setIfInBounds_toArray, List.set_cons_zero, List.set_cons_succ])
          refine wpAnyIn_take (i := 20) (oi := { dst := some 25, op := _, type := _, pos := _, after := _, guard := some (2, false) }) rfl rfl (by kernel_rfl) (by kernel_rfl) (by kernel_rfl) (fun _ _ _ h => h) ⟨Or.inl ⟨by rfl, fun _ => by go_simp <;> with_reducible rfl⟩, fun _ => by rfl⟩ ?_
          (try simp only [Act.put, List.setIfInBounds_toArray, List.set_cons_zero, List.set_cons_succ])
          refine wpAnyIn_take (i := 21) (oi := { dst := some 26, op := _, type := _, pos := _, after := _, guard := some (2, false) }) rfl rfl (by kernel_rfl) (by kernel_rfl) (by kernel_rfl) (fun _ _ _ h => h) ⟨Or.inl ⟨by rfl, fun _ => by go_simp <;> with_reducible rfl⟩, fun _ => by rfl⟩ ?_
          (try simp only [Act.put, List.setIfInBounds_toArray, List.set_cons_zero, List.set_cons_succ])
          refine wpAnyIn_take (i := 22) (oi := { dst := some 27, op := _, type := _, pos := _, after := _, guard := some (21, true) }) (v := undef) rfl rfl (by kernel_rfl) (by kernel_rfl) (by kernel_rfl) (fun _ _ _ h => h) ⟨Or.inr ⟨by rfl, rfl⟩, fun _ => by rfl⟩ ?_
          (try simp only [Act.put, List.setIfInBounds_toArray, List.set_cons_zero, List.set_cons_succ])
          refine wpAnyIn_take (i := 23) (oi := { dst := some 28, op := _, type := _, pos := _, after := _, guard := some (21, true) }) (v := undef) rfl rfl (by kernel_rfl) (by kernel_rfl) (by kernel_rfl) (fun _ _ _ h => h) ⟨Or.inr ⟨by rfl, rfl⟩, fun _ => by rfl⟩ ?_
          (try simp only [Act.put, List.setIfInBounds_toArray, List.set_cons_zero, List.set_cons_succ])
          refine wpAnyIn_take (i := 24) (oi := { dst := some 29, op := _, type := _, pos := _, after := _, guard := some (21, true) }) (v := undef) rfl rfl (by kernel_rfl) (by kernel_rfl) (by kernel_rfl) (fun _ _ _ h => h) ⟨Or.inr ⟨by rfl, rfl⟩, fun _ => by rfl⟩ ?_
          (try simp only [Act.put, List.setIfInBounds_toArray, List.set_cons_zero, List.set_cons_succ])
          refine wpAnyIn_take (i := 25) (oi := { dst := some 30, op := _, type := _, pos := _, after := _, guard := some (21, true) }) (v := undef) rfl rfl (by kernel_rfl) (by kernel_rfl) (by kernel_rfl) (fun _ _ _ h => h) ⟨Or.inr ⟨by rfl, rfl⟩, fun _ => by rfl⟩ ?_
          (try simp only [Act.put, List.setIfInBounds_toArray, List.set_cons_zero, List.set_cons_succ])
          refine wpAnyIn_take (i := 26) (oi := { dst := some 31, op := _, type := _, pos := _, after := _, guard := some (21, true) }) (v := undef) rfl rfl (by kernel_rfl) (by kernel_rfl) (by kernel_rfl) (fun _ _ _ h => h) ⟨Or.inr ⟨by rfl, rfl⟩, fun _ => by rfl⟩ ?_
          (try simp only [Act.put, List.setIfInBounds_toArray, List.set_cons_zero, List.set_cons_succ])
          refine wpAnyIn_ready (rs := [27]) (by kernel_rfl) (by simp) (AllReadyIn.cons (o := { dst := some 32, op := _, type := _, pos := _, after := _, guard := some (21, true) }) rfl (fun K hK => ?_) AllReadyIn.nil)
          go_simp
          refine ⟨?_, ?_⟩
          · first | trivial | (intros; trivial)
          refine hK _ _ ?_
          clear hK K
          (try simp only [Act.put, List.setIfInBounds_toArray, List.set_cons_zero, List.set_cons_succ])
          refine wpAnyIn_take (i := 28) (oi := { dst := some 33, op := _, type := _, pos := _, after := _, guard := some (2, false) }) rfl rfl (by kernel_rfl) (by kernel_rfl) (by kernel_rfl) (fun _ _ _ h => h) ⟨Or.inl ⟨by rfl, fun _ => by go_simp <;> with_reducible rfl⟩, fun _ => by rfl⟩ ?_
          (try simp only [Act.put, List.setIfInBounds_toArray, List.set_cons_zero, List.set_cons_succ])
          refine wpAnyIn_take (i := 29) (oi := { dst := some 34, op := _, type := _, pos := _, after := _, guard := none }) rfl rfl (by kernel_rfl) (by kernel_rfl) (by kernel_rfl) (fun _ _ _ h => h) ⟨Or.inl ⟨by rfl, fun _ => by go_simp <;> with_reducible rfl⟩, fun _ => by rfl⟩ ?_
          (try simp only [Act.put, List.setIfInBounds_toArray, List.set_cons_zero, List.set_cons_succ])
          refine wpAnyIn_take (i := 30) (oi := { dst := some 4, op := _, type := _, pos := _, after := _, guard := none }) rfl rfl (by kernel_rfl) (by kernel_rfl) (by kernel_rfl) (fun _ _ _ h => h) ⟨Or.inl ⟨by rfl, fun _ => by go_simp <;> with_reducible rfl⟩, fun _ => by rfl⟩ ?_
          (try simp only [Act.put, List.setIfInBounds_toArray, List.set_cons_zero, List.set_cons_succ])
          refine wpAnyIn_done (by kernel_rfl) ?_ _
          (gi_wp2; go_ret; exact .inr ⟨rfl, tl.flat ++ [x], by rw [hflat.out]; exact ⟨tr.flat, by simp⟩, by simpa [List.append_assoc] using hx2⟩)
      ·
        go_simp
        refine hK _ _ ?_
        clear hK K
        (try simp only [Act.put, List.setIfInBounds_toArray, List.set_cons_zero, List.set_cons_succ])
        refine wpAnyIn_ready (rs := [14, 18]) (by kernel_rfl) (by simp) (AllReadyIn.cons (o := { dst := some 19, op := _, type := _, pos := _, after := _, guard := some (9, true) }) rfl (fun K hK => ?_) (AllReadyIn.cons (o := { dst := some 23, op := _, type := _, pos := _, after := _, guard := some (9, true) }) rfl (fun K hK => ?_) AllReadyIn.nil))
        ·
          go_simp
          refine hK _ _ ?_
          clear hK K
          (try simp only [Act.put, List.setIfInBounds_toArray, List.set_cons_zero, List.set_cons_succ])
          refine wpAnyIn_ready (rs := [18]) (by kernel_rfl) (by simp) (AllReadyIn.cons (o := { dst := some 23, op := _, type := _, pos := _, after := _, guard := some (9, true) }) rfl (fun K hK => ?_) AllReadyIn.nil)
          go_simp
          refine hK _ _ ?_
          clear hK K
          (try simp only [Act.put, List.setIfInBounds_toArray, List.set_cons_zero, List.set_cons_succ])
          refine wpAnyIn_ready (rs := [19]) (by kernel_rfl) (by simp) (AllReadyIn.cons (o := { dst := some 24, op := _, type := _, pos := _, after := _, guard := some (9, true) }) rfl (fun K hK => ?_) AllReadyIn.nil)
          go_simp
          (refine ⟨trivial, deep _, ?_⟩; refine hR.out.mono ?_; clear hR; rintro e W2 (⟨rfl, hJ2, n2, c2, hr2⟩ | ⟨rfl, hx2⟩))
          · refine hK _ _ ?_
            clear hK K
            (try simp only [Act.put, List.setIfInBounds_toArray, List.set_cons_zero, List.set_cons_succ])
            refine wpAnyIn_take (i := 20) (oi := { dst := some 25, op := _, type := _, pos := _, after := _, guard := some (2, false) }) rfl rfl (by kernel_rfl) (by kernel_rfl) (by kernel_rfl) (fun _ _ _ h => h) ⟨Or.inl ⟨by rfl, fun _ => by go_simp <;> with_reducible rfl⟩, fun _ => by rfl⟩ ?_
            (try simp only [Act.put, List.setIfInBounds_toArray, List.set_cons_zero, List.set_cons_succ])
            refine wpAnyIn_take (i := 21) (oi := { dst := some 26, op := _, type := _, pos := _, after := _, guard := some (2, false) }) rfl rfl (by kernel_rfl) (by kernel_rfl) (by kernel_rfl) (fun _ _ _ h => h) ⟨Or.inl ⟨by rfl, fun _ => by go_simp <;> with_reducible rfl⟩, fun _ => by rfl⟩ ?_
            (try simp only [Act.put, List.setIfInBounds_toArray, List.set_cons_zero, List.set_cons_succ])
            refine wpAnyIn_take (i := 22) (oi := { dst := some 27, op := _, type := _, pos := _, after := _, guard := some (21, true) }) rfl rfl (by kernel_rfl) (by kernel_rfl) (by kernel_rfl) (fun _ _ _ h => h) ⟨Or.inl ⟨by rfl, fun _ => by go_simp <;> with_reducible rfl⟩, fun _ => by rfl⟩ ?_
            (try simp only [Act.put, List.setIfInBounds_toArray, List.set_cons_zero, List.set_cons_succ])
            refine wpAnyIn_take (i := 23) (oi := { dst := some 28, op := _, type := _, pos := _, after := _, guard := some (21, true) }) rfl rfl (by kernel_rfl) (by kernel_rfl) (by kernel_rfl) (fun _ _ _ h => h) ⟨Or.inl ⟨by rfl, fun _ => by go_simp <;> with_reducible rfl⟩, fun _ => by rfl⟩ ?_
            (try simp only [Act.put, List.setIfInBounds_toArray, List.set_cons_zero, List.set_cons_succ])
            refine wpAnyIn_take (i := 24) (oi := { dst := some 29, op := _, type := _, pos := _, after := _, guard := some (21, true) }) rfl rfl (by kernel_rfl) (by kernel_rfl) (by kernel_rfl) (fun _ _ _ h => h) ⟨Or.inl ⟨by rfl, fun _ => by go_simp <;> with_reducible rfl⟩, fun _ => by rfl⟩ ?_
            (try simp only [Act.put, List.setIfInBounds_toArray, List.set_cons_zero, List.set_cons_succ])
            refine wpAnyIn_take (i := 26) (oi := { dst := some 31, op := _, type := _, pos := _, after := _, guard := some (21, true) }) rfl rfl (by kernel_rfl) (by kernel_rfl) (by kernel_rfl) (fun _ _ _ h => h) ⟨Or.inl ⟨by rfl, fun _ => by go_simp <;> with_reducible rfl⟩, fun _ => by rfl⟩ ?_
            (try simp only [Act.put, List.setIfInBounds_toArray, List.set_cons_zero, List.set_cons_succ])
            refine wpAnyIn_ready (rs := [25]) (by kernel_rfl) (by simp) (AllReadyIn.cons (o := { dst := some 30, op := _, type := _, pos := _, after := _, guard := some (21, true) }) rfl (fun K hK => ?_) AllReadyIn.nil)
            go_simp
            refine hK _ _ ?_
            clear hK K
            (try simp only [Act.put, List.setIfInBounds_toArray, List.set_cons_zero, List.set_cons_succ])
            refine wpAnyIn_ready (rs := [27]) (by kernel_rfl) (by simp) (AllReadyIn.cons (o := { dst := some 32, op := _, type := _, pos := _, after := _, guard := some (21, true) }) rfl (fun K hK => ?_) AllReadyIn.nil)
            go_simp
            (refine ⟨trivial, deep _, ?_⟩; refine (ih2.out _ hr2 hJ2).mono ?_; rintro e W3 (⟨rfl, hJ3, n3⟩ | ⟨rfl, q, hq, hx3⟩))
            · refine hK _ _ ?_
              clear hK K
              (try simp only [Act.put, List.setIfInBounds_toArray, List.set_cons_zero, List.set_cons_succ])
              refine wpAnyIn_take (i := 28) (oi := { dst := some 33, op := _, type := _, pos := _, after := _, guard := some (2, false) }) rfl rfl (by kernel_rfl) (by kernel_rfl) (by kernel_rfl) (fun _ _ _ h => h) ⟨Or.inl ⟨by rfl, fun _ => by go_simp <;> with_reducible rfl⟩, fun _ => by rfl⟩ ?_
              (try simp only [Act.put, List.setIfInBounds_toArray, List.set_cons_zero, List.set_cons_succ])
              refine wpAnyIn_take (i := 29) (oi := { dst := some 34, op := _, type := _, pos := _, after := _, guard := none }) rfl rfl (by kernel_rfl) (by kernel_rfl) (by kernel_rfl) (fun _ _ _ h => h) ⟨Or.inl ⟨by rfl, fun _ => by go_simp <;> with_reducible rfl⟩, fun _ => by rfl⟩ ?_
              (try simp only [Act.put, List.setIfInBounds_toArray, List.set_cons_zero, List.set_cons_succ])
              refine wpAnyIn_take (i := 30) (oi := { dst := some 4, op := _, type := _, pos := _, after := _, guard := none }) rfl rfl (by kernel_rfl) (by kernel_rfl) (by kernel_rfl) (fun _ _ _ h => h) ⟨Or.inl ⟨by rfl, fun _ => by go_simp <;> with_reducible rfl⟩, fun _ => by rfl⟩ ?_
              (try simp only [Act.put, List.setIfInBounds_toArray, List.set_cons_zero, List.set_cons_succ])
              refine wpAnyIn_done (by kernel_rfl) ?_ _
              (gi_wp2; go_ret; exact .inl ⟨rfl, by rw [hflat.out]; simpa [List.append_assoc] using hJ3, n2.trans n3⟩)
            · refine hK _ _ ?_
              clear hK K
              (try simp only [Act.put, List.setIfInBounds_toArray, List.set_cons_zero, List.set_cons_succ])
              refine wpAnyIn_take (i := 28) (oi := { dst := some 33, op := _, type := _, pos := _, after := _, guard := some (2, false) }) rfl rfl (by kernel_rfl) (by kernel_rfl) (by kernel_rfl) (fun _ _ _ h => h) ⟨Or.inl ⟨by rfl, fun _ => by go_simp <;> with_reducible rfl⟩, fun _ => by rfl⟩ ?_
              (try simp only [Act.put, List.setIfInBounds_toArray, List.set_cons_zero, List.set_cons_succ])
              refine wpAnyIn_take (i := 29) (oi := { dst := some 34, op := _, type := _, pos := _, after := _, guard := none }) rfl rfl (by kernel_rfl) (by kernel_rfl) (by kernel_rfl) (fun _ _ _ h => h) ⟨Or.inl ⟨by rfl, fun _ => by go_simp <;> with_reducible rfl⟩, fun _ => by rfl⟩ ?_
              (try simp only [Act.put, List.setIfInBounds_toArray, List.set_cons_zero, List.set_cons_succ])
              refine wpAnyIn_take (i := 30) (oi := { dst := some 4, op := _, type := _, pos := _, after := _, guard := none }) rfl rfl (by kernel_rfl) (by kernel_rfl) (by kernel_rfl) (fun _ _ _ h => h) ⟨Or.inl ⟨by rfl, fun _ => by go_simp <;> with_reducible rfl⟩, fun _ => by rfl⟩ ?_
              (try simp only [Act.put, List.setIfInBounds_toArray, List.set_cons_zero, List.set_cons_succ])
              refine wpAnyIn_done (by kernel_rfl) ?_ _
              (gi_wp2; go_ret; obtain ⟨r, hr'⟩ := hq; exact .inr ⟨rfl, tl.flat ++ x :: q, by rw [hflat.out]; exact ⟨r, by simp [← hr']⟩, by simpa [List.append_assoc] using hx3⟩)
          · refine hK _ _ ?_
            clear hK K
            (try simp only [Act.put, List.setIfInBounds_toArray, List.set_cons_zero, List.set_cons_succ])
            refine wpAnyIn_take (i := 20) (oi := { dst := some 25, op := _, type := _, pos := _, after := _, guard := some (2, false) }) rfl rfl (by kernel_rfl) (by kernel_rfl) (by kernel_rfl) (fun _ _ _ h => h) ⟨Or.inl ⟨by rfl, fun _ => by go_simp <;> with_reducible rfl⟩, fun _ => by rfl⟩ ?_
            (try simp only [Act.put, List.setIfInBounds_toArray, List.set_cons_zero, List.set_cons_succ])
            refine wpAnyIn_take (i := 21) (oi := { dst := some 26, op := _, type := _, pos := _, after := _, guard := some (2, false) }) rfl rfl (by kernel_rfl) (by kernel_rfl) (by kernel_rfl) (fun _ _ _ h => h) ⟨Or.inl ⟨by rfl, fun _ => by go_simp <;> with_reducible rfl⟩, fun _ => by rfl⟩ ?_
            (try simp only [Act.put, List.setIfInBounds_toArray, List.set_cons_zero, List.set_cons_succ])
            refine wpAnyIn_take (i := 22) (oi := { dst := some 27, op := _, type := _, pos := _, after := _, guard := some (21, true) }) (v := undef) rfl rfl (by kernel_rfl) (by kernel_rfl) (by kernel_rfl) (fun _ _ _ h => h) ⟨Or.inr ⟨by rfl, rfl⟩, fun _ => by rfl⟩ ?_
            (try simp only [Act.put, List.setIfInBounds_toArray, List.set_cons_zero, List.set_cons_succ])
            refine wpAnyIn_take (i := 23) (oi := { dst := some 28, op := _, type := _, pos := _, after := _, guard := some (21, true) }) (v := undef) rfl rfl (by kernel_rfl) (by kernel_rfl) (by kernel_rfl) (fun _ _ _ h => h) ⟨Or.inr ⟨by rfl, rfl⟩, fun _ => by rfl⟩ ?_
            (try simp only [Act.put, List.setIfInBounds_toArray, List.set_cons_zero, List.set_cons_succ])
            refine wpAnyIn_take (i := 24) (oi := { dst := some 29, op := _, type := _, pos := _, after := _, guard := some (21, true) }) (v := undef) rfl rfl (by kernel_rfl) (by kernel_rfl) (by kernel_rfl) (fun _ _ _ h => h) ⟨Or.inr ⟨by rfl, rfl⟩, fun _ => by rfl⟩ ?_
            (try simp only [Act.put, List.setIfInBounds_toArray, List.set_cons_zero, List.set_cons_succ])
            refine wpAnyIn_take (i := 25) (oi := { dst := some 30, op := _, type := _, pos := _, after := _, guard := some (21, true) }) (v := undef) rfl rfl (by kernel_rfl) (by kernel_rfl) (by kernel_rfl) (fun _ _ _ h => h) ⟨Or.inr ⟨by rfl, rfl⟩, fun _ => by rfl⟩ ?_
            (try simp only [Act.put, List.setIfInBounds_toArray, List.set_cons_zero, List.set_cons_succ])
            refine wpAnyIn_take (i := 26) (oi := { dst := some 31, op := _, type := _, pos := _, after := _, guard := some (21, true) }) (v := undef) rfl rfl (by kernel_rfl) (by kernel_rfl) (by kernel_rfl) (fun _ _ _ h => h) ⟨Or.inr ⟨by rfl, rfl⟩, fun _ => by rfl⟩ ?_
            (try simp only [Act.put, List.setIfInBounds_toArray, List.set_cons_zero, List.set_cons_succ])
            refine wpAnyIn_ready (rs := [27]) (by kernel_rfl) (by simp) (AllReadyIn.cons (o := { dst := some 32, op := _, type := _, pos := _, after := _, guard := some (21, true) }) rfl (fun K hK => ?_) AllReadyIn.nil)
            go_simp
            refine ⟨?_, ?_⟩
            · first | trivial | (intros; trivial)
            refine hK _ _ ?_
            clear hK K
            (try simp only [Act.put, List.setIfInBounds_toArray, List.set_cons_zero, List.set_cons_succ])
            refine wpAnyIn_take (i := 28) (oi := { dst := some 33, op := _, type := _, pos := _, after := _, guard := some (2, false) }) rfl rfl (by kernel_rfl) (by kernel_rfl) (by kernel_rfl) (fun _ _ _ h => h) ⟨Or.inl ⟨by rfl, fun _ => by go_simp <;> with_reducible rfl⟩, fun _ => by rfl⟩ ?_
            (try simp only [Act.put, List.setIfInBounds_toArray, List.set_cons_zero, List.set_cons_succ])
            refine wpAnyIn_take (i := 29) (oi := { dst := some 34, op := _, type := _, pos := _, after := _, guard := none }) rfl rfl (by kernel_rfl) (by kernel_rfl) (by kernel_rfl) (fun _ _ _ h => h) ⟨Or.inl ⟨by rfl, fun _ => by go_simp <;> with_reducible rfl⟩, fun _ => by rfl⟩ ?_
            (try simp only [Act.put, List.setIfInBounds_toArray, List.set_cons_zero, List.set_cons_succ])
            refine wpAnyIn_take (i := 30) (oi := { dst := some 4, op := _, type := _, pos := _, after := _, guard := none }) rfl rfl (by kernel_rfl) (by kernel_rfl) (by kernel_rfl) (fun _ _ _ h => h) ⟨Or.inl ⟨by rfl, fun _ => by go_simp <;> with_reducible rfl⟩, fun _ => by rfl⟩ ?_
            (try simp only [Act.put, List.setIfInBounds_toArray, List.set_cons_zero, List.set_cons_succ])
            refine wpAnyIn_done (by kernel_rfl) ?_ _
            (gi_wp2; go_ret; exact .inr ⟨rfl, tl.flat ++ [x], by rw [hflat.out]; exact ⟨tr.flat, by simp⟩, by simpa [List.append_assoc] using hx2⟩)
        ·
          go_simp
          refine hK _ _ ?_
          clear hK K
          (try simp only [Act.put, List.setIfInBounds_toArray, List.set_cons_zero, List.set_cons_succ])
          refine wpAnyIn_ready (rs := [14]) (by kernel_rfl) (by simp) (AllReadyIn.cons (o := { dst := some 19, op := _, type := _, pos := _, after := _, guard := some (9, true) }) rfl (fun K hK => ?_) AllReadyIn.nil)
          go_simp
          refine hK _ _ ?_
          clear hK K
          (try simp only [Act.put, List.setIfInBounds_toArray, List.set_cons_zero, List.set_cons_succ])
          refine wpAnyIn_ready (rs := [19]) (by kernel_rfl) (by simp) (AllReadyIn.cons (o := { dst := some 24, op := _, type := _, pos := _, after := _, guard := some (9, true) }) rfl (fun K hK => ?_) AllReadyIn.nil)
          go_simp
          (refine ⟨trivial, deep _, ?_⟩; refine hR.out.mono ?_; clear hR; rintro e W2 (⟨rfl, hJ2, n2, c2, hr2⟩ | ⟨rfl, hx2⟩))
          · refine hK _ _ ?_
            clear hK K
            (try simp only [Act.put, List.setIfInBounds_toArray, List.set_cons_zero, List.set_cons_succ])
            refine wpAnyIn_take (i := 20) (oi := { dst := some 25, op := _, type := _, pos := _, after := _, guard := some (2, false) }) rfl rfl (by kernel_rfl) (by kernel_rfl) (by kernel_rfl) (fun _ _ _ h => h) ⟨Or.inl ⟨by rfl, fun _ => by go_simp <;> with_reducible rfl⟩, fun _ => by rfl⟩ ?_
            (try simp only [Act.put, List.setIfInBounds_toArray, List.set_cons_zero, List.set_cons_succ])
            refine wpAnyIn_take (i := 21) (oi := { dst := some 26, op := _, type := _, pos := _, after := _, guard := some (2, false) }) rfl rfl (by kernel_rfl) (by kernel_rfl) (by kernel_rfl) (fun _ _ _ h => h) ⟨Or.inl ⟨by rfl, fun _ => by go_simp <;> with_reducible rfl⟩, fun _ => by rfl⟩ ?_
            (try simp only [Act.put, List.setIfInBounds_toArray, List.set_cons_zero, List.set_cons_succ])
            refine wpAnyIn_take (i := 22) (oi := { dst := some 27, op := _, type := _, pos := _, after := _, guard := some (21, true) }) rfl rfl (by kernel_rfl) (by kernel_rfl) (by kernel_rfl) (fun _ _ _ h => h) ⟨Or.inl ⟨by rfl, fun _ => by go_simp <;> with_reducible rfl⟩, fun _ => by rfl⟩ ?_
            (try simp only [Act.put, List.setIfInBounds_toArray, List.set_cons_zero, List.set_cons_succ])
            refine wpAnyIn_take (i := 23) (oi := { dst := some 28, op := _, type := _, pos := _, after := _, guard := some (21, true) }) rfl rfl (by kernel_rfl) (by kernel_rfl) (by kernel_rfl) (fun _ _ _ h => h) ⟨Or.inl ⟨by rfl, fun _ => by go_simp <;> with_reducible rfl⟩, fun _ => by rfl⟩ ?_
            (try simp only [Act.put, List.setIfInBounds_toArray, List.set_cons_zero, List.set_cons_succ])
            refine wpAnyIn_take (i := 24) (oi := { dst := some 29, op := _, type := _, pos := _, after := _, guard := some (21, true) }) rfl rfl (by kernel_rfl) (by kernel_rfl) (by kernel_rfl) (fun _ _ _ h => h) ⟨Or.inl ⟨by rfl, fun _ => by go_simp <;> with_reducible rfl⟩, fun _ => by rfl⟩ ?_
            (try simp only [Act.put, List.setIfInBounds_toArray, List.set_cons_zero, List.set_cons_succ])
            refine wpAnyIn_take (i := 26) (oi := { dst := some 31, op := _, type := _, pos := _, after := _, guard := some (21, true) }) rfl rfl (by kernel_rfl) (by kernel_rfl) (by kernel_rfl) (fun _ _ _ h => h) ⟨Or.inl ⟨by rfl, fun _ => by go_simp <;> with_reducible rfl⟩, fun _ => by rfl⟩ ?_
            (try simp only [Act.put, List.setIfInBounds_toArray, List.set_cons_zero, List.set_cons_succ])
            refine wpAnyIn_ready (rs := [25]) (by kernel_rfl) (by simp) (AllReadyIn.cons (o := { dst := some 30, op := _, type := _, pos := _, after := _, guard := some (21, true) }) rfl (fun K hK => ?_) AllReadyIn.nil)
            go_simp
            refine hK _ _ ?_
            clear hK K
            (try simp only [Act.put, List.setIfInBounds_toArray, List.set_cons_zero, List.set_cons_succ])
            refine wpAnyIn_ready (rs := [27]) (by kernel_rfl) (by simp) (AllReadyIn.cons (o := { dst := some 32, op := _, type := _, pos := _, after := _, guard := some (21, true) }) rfl (fun K hK => ?_) AllReadyIn.nil)
            go_simp
            (refine ⟨trivial, deep _, ?_⟩; refine (ih2.out _ hr2 hJ2).mono ?_; rintro e W3 (⟨rfl, hJ3, n3⟩ | ⟨rfl, q, hq, hx3⟩))
            · refine hK _ _ ?_
              clear hK K
              (try simp only [Act.put, List.setIfInBounds_toArray, List.set_cons_zero, List.set_cons_succ])
              refine wpAnyIn_take (i := 28) (oi := { dst := some 33, op := _, type := _, pos := _, after := _, guard := some (2, false) }) rfl rfl (by kernel_rfl) (by kernel_rfl) (by kernel_rfl) (fun _ _ _ h => h) ⟨Or.inl ⟨by rfl, fun _ => by go_simp <;> with_reducible rfl⟩, fun _ => by rfl⟩ ?_
              (try simp only [Act.put, List.setIfInBounds_toArray, List.set_cons_zero, List.set_cons_succ])
              refine wpAnyIn_take (i := 29) (oi := { dst := some 34, op := _, type := _, pos := _, after := _, guard := none }) rfl rfl (by kernel_rfl) (by kernel_rfl) (by kernel_rfl) (fun _ _ _ h => h) ⟨Or.inl ⟨by rfl, fun _ => by go_simp <;> with_reducible rfl⟩, fun _ => by rfl⟩ ?_
              (try simp only [Act.put, List.setIfInBounds_toArray, List.set_cons_zero, List.set_cons_succ])
              refine wpAnyIn_take (i := 30) (oi := { dst := some 4, op := _, type := _, pos := _, after := _, guard := none }) rfl rfl (by kernel_rfl) (by kernel_rfl) (by kernel_rfl) (fun _ _ _ h => h) ⟨Or.inl ⟨by rfl, fun _ => by go_simp <;> with_reducible rfl⟩, fun _ => by rfl⟩ ?_
              (try simp only [Act.put, List.setIfInBounds_toArray, List.set_cons_zero, List.set_cons_succ])
              refine wpAnyIn_done (by kernel_rfl) ?_ _
              (gi_wp2; go_ret; exact .inl ⟨rfl, by rw [hflat.out]; simpa [List.append_assoc] using hJ3, n2.trans n3⟩)
            · refine hK _ _ ?_
              clear hK K
              (try simp only [Act.put, List.setIfInBounds_toArray, List.set_cons_zero, List.set_cons_succ])
              refine wpAnyIn_take (i := 28) (oi := { dst := some 33, op := _, type := _, pos := _, after := _, guard := some (2, false) }) rfl rfl (by kernel_rfl) (by kernel_rfl) (by kernel_rfl) (fun _ _ _ h => h) ⟨Or.inl ⟨by rfl, fun _ => by go_simp <;> with_reducible rfl⟩, fun _ => by rfl⟩ ?_
              (try simp only [Act.put, List.setIfInBounds_toArray, List.set_cons_zero, List.set_cons_succ])
              refine wpAnyIn_take (i := 29) (oi := { dst := some 34, op := _, type := _, pos := _, after := _, guard := none }) rfl rfl (by kernel_rfl) (by kernel_rfl) (by kernel_rfl) (fun _ _ _ h => h) ⟨Or.inl ⟨by rfl, fun _ => by go_simp <;> with_reducible rfl⟩, fun _ => by rfl⟩ ?_
              (try simp only [Act.put, List.setIfInBounds_toArray, List.set_cons_zero, List.set_cons_succ])
              refine wpAnyIn_take (i := 30) (oi := { dst := some 4, op := _, type := _, pos := _, after := _, guard := none }) rfl rfl (by kernel_rfl) (by kernel_rfl) (by kernel_rfl) (fun _ _ _ h => h) ⟨Or.inl ⟨by rfl, fun _ => by go_simp <;> with_reducible rfl⟩, fun _ => by rfl⟩ ?_
              (try simp only [Act.put, List.setIfInBounds_toArray, List.set_cons_zero, List.set_cons_succ])
              refine wpAnyIn_done (by kernel_rfl) ?_ _
              (gi_wp2; go_ret; obtain ⟨r, hr'⟩ := hq; exact .inr ⟨rfl, tl.flat ++ x :: q, by rw [hflat.out]; exact ⟨r, by simp [← hr']⟩, by simpa [List.append_assoc] using hx3⟩)
          · refine hK _ _ ?_
            clear hK K
            (try simp only [Act.put, List.setIfInBounds_toArray, List.set_cons_zero, List.set_cons_succ])
            refine wpAnyIn_take (i := 20) (oi := { dst := some 25, op := _, type := _, pos := _, after := _, guard := some (2, false) }) rfl rfl (by kernel_rfl) (by kernel_rfl) (by kernel_rfl) (fun _ _ _ h => h) ⟨Or.inl ⟨by rfl, fun _ => by go_simp <;> with_reducible rfl⟩, fun _ => by rfl⟩ ?_
            (try simp only [Act.put, List.setIfInBounds_toArray, List.set_cons_zero, List.set_cons_succ])
            refine wpAnyIn_take (i := 21) (oi := { dst := some 26, op := _, type := _, pos := _, after := _, guard := some (2, false) }) rfl rfl (by kernel_rfl) (by kernel_rfl) (by kernel_rfl) (fun _ _ _ h => h) ⟨Or.inl ⟨by rfl, fun _ => by go_simp <;> with_reducible rfl⟩, fun _ => by rfl⟩ ?_
            (try simp only [Act.put, List.setIfInBounds_toArray, List.set_cons_zero, List.set_cons_succ])
            refine wpAnyIn_take (i := 22) (oi := { dst := some 27, op := _, type := _, pos := _, after := _, guard := some (21, true) }) (v := undef) rfl rfl (by kernel_rfl) (by kernel_rfl) (by kernel_rfl) (fun _ _ _ h => h) ⟨Or.inr ⟨by rfl, rfl⟩, fun _ => by rfl⟩ ?_
            (try simp only [Act.put, List.setIfInBounds_toArray, List.set_cons_zero, List.set_cons_succ])
            refine wpAnyIn_take (i := 23) (oi := { dst := some 28, op := _, type := _, pos := _, after := _, guard := some (21, true) }) (v := undef) rfl rfl (by kernel_rfl) (by kernel_rfl) (by kernel_rfl) (fun _ _ _ h => h) ⟨Or.inr ⟨by rfl, rfl⟩, fun _ => by rfl⟩ ?_
            (try simp only [Act.put, List.setIfInBounds_toArray, List.set_cons_zero, List.set_cons_succ])
            refine wpAnyIn_take (i := 24) (oi := { dst := some 29, op := _, type := _, pos := _, after := _, guard := some (21, true) }) (v := undef) rfl rfl (by kernel_rfl) (by kernel_rfl) (by kernel_rfl) (fun _ _ _ h => h) ⟨Or.inr ⟨by rfl, rfl⟩, fun _ => by rfl⟩ ?_
            (try simp only [Act.put, List.setIfInBounds_toArray, List.set_cons_zero, List.set_cons_succ])
            refine wpAnyIn_take (i := 25) (oi := { dst := some 30, op := _, type := _, pos := _, after := _, guard := some (21, true) }) (v := undef) rfl rfl (by kernel_rfl) (by kernel_rfl) (by kernel_rfl) (fun _ _ _ h => h) ⟨Or.inr ⟨by rfl, rfl⟩, fun _ => by rfl⟩ ?_
            (try simp only [Act.put, List.setIfInBounds_toArray, List.set_cons_zero, List.set_cons_succ])
            refine wpAnyIn_take (i := 26) (oi := { dst := some 31, op := _, type := _, pos := _, after := _, guard := some (21, true) }) (v := undef) rfl rfl (by kernel_rfl) (by kernel_rfl) (by kernel_rfl) (fun _ _ _ h => h) ⟨Or.inr ⟨by rfl, rfl⟩, fun _ => by rfl⟩ ?_
            (try simp only [Act.put, List.setIfInBounds_toArray, List.set_cons_zero, List.set_cons_succ])
            refine wpAnyIn_ready (rs := [27]) (by kernel_rfl) (by simp) (AllReadyIn.cons (o := { dst := some 32, op := _, type := _, pos := _, after := _, guard := some (21, true) }) rfl (fun K hK => ?_) AllReadyIn.nil)
            go_simp
            refine ⟨?_, ?_⟩
            · first | trivial | (intros; trivial)
            refine hK _ _ ?_
            clear hK K
            (try simp only [Act.put, List.setIfInBounds_toArray, List.set_cons_zero, List.set_cons_succ])
            refine wpAnyIn_take (i := 28) (oi := { dst := some 33, op := _, type := _, pos := _, after := _, guard := some (2, false) }) rfl rfl (by kernel_rfl) (by kernel_rfl) (by kernel_rfl) (fun _ _ _ h => h) ⟨Or.inl ⟨by rfl, fun _ => by go_simp <;> with_reducible rfl⟩, fun _ => by rfl⟩ ?_
            (try simp only [Act.put, List.setIfInBounds_toArray, List.set_cons_zero, List.set_cons_succ])
            refine wpAnyIn_take (i := 29) (oi := { dst := some 34, op := _, type := _, pos := _, after := _, guard := none }) rfl rfl (by kernel_rfl) (by kernel_rfl) (by kernel_rfl) (fun _ _ _ h => h) ⟨Or.inl ⟨by rfl, fun _ => by go_simp <;> with_reducible rfl⟩, fun _ => by rfl⟩ ?_
            (try simp only [Act.put, List.setIfInBounds_toArray, List.set_cons_zero, List.set_cons_succ])
            refine wpAnyIn_take (i := 30) (oi := { dst := some 4, op := _, type := _, pos := _, after := _, guard := none }) rfl rfl (by kernel_rfl) (by kernel_rfl) (by kernel_rfl) (fun _ _ _ h => h) ⟨Or.inl ⟨by rfl, fun _ => by go_simp <;> with_reducible rfl⟩, fun _ => by rfl⟩ ?_
            (try simp only [Act.put, List.setIfInBounds_toArray, List.set_cons_zero, List.set_cons_succ])
            refine wpAnyIn_done (by kernel_rfl) ?_ _
            (gi_wp2; go_ret; exact .inr ⟨rfl, tl.flat ++ [x], by rw [hflat.out]; exact ⟨tr.flat, by simp⟩, by simpa [List.append_assoc] using hx2⟩)
    · refine hK _ _ ?_
      clear hK K
      (try simp only [Act.put, List.setIfInBounds_toArray, List.set_cons_zero, List.set_cons_succ])
      refine wpAnyIn_take (i := 9) (oi := { dst := some 14, op := _, type := _, pos := _, after := _, guard := some (2, false) }) rfl rfl (by kernel_rfl) (by kernel_rfl) (by kernel_rfl) (fun _ _ _ h => h) ⟨Or.inl ⟨by rfl, fun _ => by go_simp <;> with_reducible rfl⟩, fun _ => by rfl⟩ ?_
      (try simp only [Act.put, List.setIfInBounds_toArray, List.set_cons_zero, List.set_cons_succ])
      refine wpAnyIn_take (i := 10) (oi := { dst := some 15, op := _, type := _, pos := _, after := _, guard := some (9, true) }) (v := undef) rfl rfl (by kernel_rfl) (by kernel_rfl) (by kernel_rfl) (fun _ _ _ h => h) ⟨Or.inr ⟨by rfl, rfl⟩, fun _ => by rfl⟩ ?_
      (try simp only [Act.put, List.setIfInBounds_toArray, List.set_cons_zero, List.set_cons_succ])
      refine wpAnyIn_take (i := 11) (oi := { dst := some 16, op := _, type := _, pos := _, after := _, guard := some (9, true) }) (v := undef) rfl rfl (by kernel_rfl) (by kernel_rfl) (by kernel_rfl) (fun _ _ _ h => h) ⟨Or.inr ⟨by rfl, rfl⟩, fun _ => by rfl⟩ ?_
      (try simp only [Act.put, List.setIfInBounds_toArray, List.set_cons_zero, List.set_cons_succ])
      refine wpAnyIn_take (i := 12) (oi := { dst := some 17, op := _, type := _, pos := _, after := _, guard := some (9, true) }) (v := undef) rfl rfl (by kernel_rfl) (by kernel_rfl) (by kernel_rfl) (fun _ _ _ h => h) ⟨Or.inr ⟨by rfl, rfl⟩, fun _ => by rfl⟩ ?_
      (try simp only [Act.put, List.setIfInBounds_toArray, List.set_cons_zero, List.set_cons_succ])
      refine wpAnyIn_take (i := 13) (oi := { dst := some 18, op := _, type := _, pos := _, after := _, guard := some (9, true) }) (v := undef) rfl rfl (by kernel_rfl) (by kernel_rfl) (by kernel_rfl) (fun _ _ _ h => h) ⟨Or.inr ⟨by rfl, rfl⟩, fun _ => by rfl⟩ ?_
      (try simp only [Act.put, List.setIfInBounds_toArray, List.set_cons_zero, List.set_cons_succ])
      refine wpAnyIn_take (i := 14) (oi := { dst := some 19, op := _, type := _, pos := _, after := _, guard := some (9, true) }) (v := undef) rfl rfl (by kernel_rfl) (by kernel_rfl) (by kernel_rfl) (fun _ _ _ h => h) ⟨Or.inr ⟨by rfl, rfl⟩, fun _ => by rfl⟩ ?_
      (try simp only [Act.put, List.setIfInBounds_toArray, List.set_cons_zero, List.set_cons_succ])
      refine wpAnyIn_take (i := 15) (oi := { dst := some 20, op := _, type := _, pos := _, after := _, guard := some (9, true) }) (v := undef) rfl rfl (by kernel_rfl) (by kernel_rfl) (by kernel_rfl) (fun _ _ _ h => h) ⟨Or.inr ⟨by rfl, rfl⟩, fun _ => by rfl⟩ ?_
      (try simp only [Act.put, List.setIfInBounds_toArray, List.set_cons_zero, List.set_cons_succ])
      refine wpAnyIn_take (i := 16) (oi := { dst := some 21, op := _, type := _, pos := _, after := _, guard := some (9, true) }) (v := undef) rfl rfl (by kernel_rfl) (by kernel_rfl) (by kernel_rfl) (fun _ _ _ h => h) ⟨Or.inr ⟨by rfl, rfl⟩, fun _ => by rfl⟩ ?_
      (try simp only [Act.put, List.setIfInBounds_toArray, List.set_cons_zero, List.set_cons_succ])
      refine wpAnyIn_take (i := 17) (oi := { dst := some 22, op := _, type := _, pos := _, after := _, guard := some (9, true) }) (v := undef) rfl rfl (by kernel_rfl) (by kernel_rfl) (by kernel_rfl) (fun _ _ _ h => h) ⟨Or.inr ⟨by rfl, rfl⟩, fun _ => by rfl⟩ ?_
      (try simp only [Act.put, List.setIfInBounds_toArray, List.set_cons_zero, List.set_cons_succ])
      refine wpAnyIn_take (i := 18) (oi := { dst := some 23, op := _, type := _, pos := _, after := _, guard := some (9, true) }) (v := undef) rfl rfl (by kernel_rfl) (by kernel_rfl) (by kernel_rfl) (fun _ _ _ h => h) ⟨Or.inr ⟨by rfl, rfl⟩, fun _ => by rfl⟩ ?_
      (try simp only [Act.put, List.setIfInBounds_toArray, List.set_cons_zero, List.set_cons_succ])
      refine wpAnyIn_ready (rs := [19]) (by kernel_rfl) (by simp) (AllReadyIn.cons (o := { dst := some 24, op := _, type := _, pos := _, after := _, guard := some (9, true) }) rfl (fun K hK => ?_) AllReadyIn.nil)
      go_simp
      refine ⟨?_, ?_⟩
      · first | trivial | (intros; trivial)
      refine hK _ _ ?_
      clear hK K
      (try simp only [Act.put, List.setIfInBounds_toArray, List.set_cons_zero, List.set_cons_succ])
      refine wpAnyIn_take (i := 20) (oi := { dst := some 25, op := _, type := _, pos := _, after := _, guard := some (2, false) }) rfl rfl (by kernel_rfl) (by kernel_rfl) (by kernel_rfl) (fun _ _ _ h => h) ⟨Or.inl ⟨by rfl, fun _ => by go_simp <;> with_reducible rfl⟩, fun _ => by rfl⟩ ?_
      (try simp only [Act.put, List.setIfInBounds_toArray, List.set_cons_zero, List.set_cons_succ])
      refine wpAnyIn_take (i := 21) (oi := { dst := some 26, op := _, type := _, pos := _, after := _, guard := some (2, false) }) rfl rfl (by kernel_rfl) (by kernel_rfl) (by kernel_rfl) (fun _ _ _ h => h) ⟨Or.inl ⟨by rfl, fun _ => by go_simp <;> with_reducible rfl⟩, fun _ => by rfl⟩ ?_
      (try simp only [Act.put, List.setIfInBounds_toArray, List.set_cons_zero, List.set_cons_succ])
      refine wpAnyIn_take (i := 22) (oi := { dst := some 27, op := _, type := _, pos := _, after := _, guard := some (21, true) }) (v := undef) rfl rfl (by kernel_rfl) (by kernel_rfl) (by kernel_rfl) (fun _ _ _ h => h) ⟨Or.inr ⟨by rfl, rfl⟩, fun _ => by rfl⟩ ?_
      (try simp only [Act.put, List.setIfInBounds_toArray, List.set_cons_zero, List.set_cons_succ])
      refine wpAnyIn_take (i := 23) (oi := { dst := some 28, op := _, type := _, pos := _, after := _, guard := some (21, true) }) (v := undef) rfl rfl (by kernel_rfl) (by kernel_rfl) (by kernel_rfl) (fun _ _ _ h => h) ⟨Or.inr ⟨by rfl, rfl⟩, fun _ => by rfl⟩ ?_
      (try simp only [Act.put, List.setIfInBounds_toArray, List.set_cons_zero, List.set_cons_succ])
      refine wpAnyIn_take (i := 24) (oi := { dst := some 29, op := _, type := _, pos := _, after := _, guard := some (21, true) }) (v := undef) rfl rfl (by kernel_rfl) (by kernel_rfl) (by kernel_rfl) (fun _ _ _ h => h) ⟨Or.inr ⟨by rfl, rfl⟩, fun _ => by rfl⟩ ?_
      (try simp only [Act.put, List.setIfInBounds_toArray, List.set_cons_zero, List.set_cons_succ])
      refine wpAnyIn_take (i := 25) (oi := { dst := some 30, op := _, type := _, pos := _, after := _, guard := some (21, true) }) (v := undef) rfl rfl (by kernel_rfl) (by kernel_rfl) (by kernel_rfl) (fun _ _ _ h => h) ⟨Or.inr ⟨by rfl, rfl⟩, fun _ => by rfl⟩ ?_
      (try simp only [Act.put, List.setIfInBounds_toArray, List.set_cons_zero, List.set_cons_succ])
      refine wpAnyIn_take (i := 26) (oi := { dst := some 31, op := _, type := _, pos := _, after := _, guard := some (21, true) }) (v := undef) rfl rfl (by kernel_rfl) (by kernel_rfl) (by kernel_rfl) (fun _ _ _ h => h) ⟨Or.inr ⟨by rfl, rfl⟩, fun _ => by rfl⟩ ?_
      (try simp only [Act.put, List.setIfInBounds_toArray, List.set_cons_zero, List.set_cons_succ])
      refine wpAnyIn_ready (rs := [27]) (by kernel_rfl) (by simp) (AllReadyIn.cons (o := { dst := some 32, op := _, type := _, pos := _, after := _, guard := some (21, true) }) rfl (fun K hK => ?_) AllReadyIn.nil)
      go_simp
      refine ⟨?_, ?_⟩
      · first | trivial | (intros; trivial)
      refine hK _ _ ?_
      clear hK K
      (try simp only [Act.put, List.setIfInBounds_toArray, List.set_cons_zero, List.set_cons_succ])
      refine wpAnyIn_take (i := 28) (oi := { dst := some 33, op := _, type := _, pos := _, after := _, guard := some (2, false) }) rfl rfl (by kernel_rfl) (by kernel_rfl) (by kernel_rfl) (fun _ _ _ h => h) ⟨Or.inl ⟨by rfl, fun _ => by go_simp <;> with_reducible rfl⟩, fun _ => by rfl⟩ ?_
      (try simp only [Act.put, List.setIfInBounds_toArray, List.set_cons_zero, List.set_cons_succ])
      refine wpAnyIn_take (i := 29) (oi := { dst := some 34, op := _, type := _, pos := _, after := _, guard := none }) rfl rfl (by kernel_rfl) (by kernel_rfl) (by kernel_rfl) (fun _ _ _ h => h) ⟨Or.inl ⟨by rfl, fun _ => by go_simp <;> with_reducible rfl⟩, fun _ => by rfl⟩ ?_
      (try simp only [Act.put, List.setIfInBounds_toArray, List.set_cons_zero, List.set_cons_succ])
      refine wpAnyIn_take (i := 30) (oi := { dst := some 4, op := _, type := _, pos := _, after := _, guard := none }) rfl rfl (by kernel_rfl) (by kernel_rfl) (by kernel_rfl) (fun _ _ _ h => h) ⟨Or.inl ⟨by rfl, fun _ => by go_simp <;> with_reducible rfl⟩, fun _ => by rfl⟩ ?_
      (try simp only [Act.put, List.setIfInBounds_toArray, List.set_cons_zero, List.set_cons_succ])
      refine wpAnyIn_done (by kernel_rfl) ?_ _
      (gi_wp2; go_ret; exact .inr ⟨rfl, q, by rw [hflat.out]; exact hq.trans (List.prefix_append _ _), hx1⟩)
end Go.Proofs.YtdmpkgdlelagjaaGreatDoor.Ts
