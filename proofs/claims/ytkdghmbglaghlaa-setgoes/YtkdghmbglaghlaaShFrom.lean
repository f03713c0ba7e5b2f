/-
  A set's iterators: all of it, and from one thing on. Conditions: what takes the things leaves the nodes as they are, and the function values that the set has made.
-/
import Derived.Test.YtkdghmbglaghlaaRows
import Derived.Test.YtkdghmbglaghlaaShGoes
import Derived.Test.YtkdghmbglaghlaaShSet
namespace Go.Proofs.Ytkdghmbglaghlaa.Sh
open Key (lt)
open Ent (key)
section
variable {E K : Type} [Key K] [Ent E K]
/-- those from a key on -/
def abv (k : K) (l : List E) : List E := l.filter fun x => !lt (key x) k
theorem abv_right {k : K} {e : E} {l r : List E} (h : Rises (l ++ e :: r)) (hk : lt (key e) k = true) : abv k (l ++ e :: r) = abv k r := by
  obtain ⟨_, _, h3, _⟩ := rises_mid h
  have h1 : abv k l = [] := by
    unfold abv; rw [List.filter_eq_nil_iff]; intro a ha; simp [Key.tra _ _ _ (h3 a ha) hk]
  have h2 : abv k (l ++ e :: r) = abv k l ++ abv k (e :: r) := by simp only [abv, List.filter_append]
  rw [h2, h1]; simp [abv, hk]
theorem abv_left {k : K} {e : E} {l r : List E} (h : Rises (l ++ e :: r)) (hk : lt (key e) k = false) : abv k (l ++ e :: r) = abv k l ++ e :: r := by
  obtain ⟨_, _, _, h4⟩ := rises_mid h
  have h1 : abv k (e :: r) = e :: r := by
    unfold abv; rw [List.filter_eq_self]; intro a ha
    rcases List.mem_cons.1 ha with rfl | ha
    · simp [hk]
    · cases g : lt (key a) k with
      | false => rfl
      | true => rw [Key.tra _ _ _ (h4 a ha) g] at hk; cases hk
  have h2 : abv k (l ++ e :: r) = abv k l ++ abv k (e :: r) := by simp only [abv, List.filter_append]
  rw [h2, h1]
end
end Go.Proofs.Ytkdghmbglaghlaa.Sh
namespace Go.Proofs.Ytkdghmbglaghlaa.Ti
open Go.RowKit Go.Shelf Sh
open Key (lt)
open Ent (key)
attribute [local go_sem] Oper.semAt_some fold_none

set_option maxRecDepth 100000 in
set_option maxHeartbeats 4000000 in
theorem walkFromC_in (k : Int) (B N : Nat) (J Jx : List Int → World → Prop) (hJ : ∀ s A B, J s A → A.grownBy B none → J s B)
    (hY : ∀ m pre x W, J pre W → pre.length < N → CallsIn Fence.wide m Try.prog 84 #[.int .i64 x, .agg #[], .pointer (some ⟨B, 0, none⟩)] W fun e W' => (e = .returned (.bool true) ∧ J (pre ++ [x]) W' ∧ Nodes W W') ∨ (e = .returned (.bool false) ∧ Jx (pre ++ [x]) W')) (T : Tr Int) :
    ∀ (n : Nat) (p : Option Addr) (pre : List Int) (W : World), IsTree W p T → Rises T.flat → J pre W → pre.length + (abv k T.flat).length ≤ N →
      CallsIn Fence.wide n Try.prog 75 #[.pointer p, .int .i64 k, .func (.func 84) #[] #[.pointer (some ⟨B, 0, none⟩)]] W fun e W' =>
        (e = .returned (.bool true) ∧ J (pre ++ abv k T.flat) W' ∧ Nodes W W') ∨ (e = .returned (.bool false) ∧ ∃ q, q <+: abv k T.flat ∧ Jx (pre ++ q) W') := by
  induction T with
  | nil =>
    intro n p pre W ht _ hj _
    obtain rfl : p = none := ht
    refine callsIn_of_wp Try.func75 rfl trivial ?_ rfl
    simp only [Try.ntmps75, List.size_toArray, List.length_cons, List.length_nil, Nat.reduceAdd, Nat.reduceSub, Array.replicate_succ, Array.replicate_zero, List.push_toArray, List.append_toArray, List.nil_append, List.cons_append]
    gi_wp2
    go_ret
    exact .inl ⟨rfl, by simpa [Tr.flat, abv] using hj, nodes_refl W⟩
  | node tl x tr ihl ihr =>
    intro n p pre W ht hR hj hN
    obtain ⟨b, pl, pr, rfl, hNd, hl, hr⟩ := ht
    have hd := b_drew W
    have hR0 : Rises (tl.flat ++ x :: tr.flat) := hR
    obtain ⟨rl, rr, _, _⟩ := rises_mid hR0
    have c0 := hNd.key
    have c1 := hNd.right
    have hC := Lib.hid (Ci.Less_calls (key x) k W)
    cases hlt : lt (key x) k with
    | true =>
      have hf : Hid (abv k (Tr.node tl x tr).flat = abv k tr.flat) := Lib.hid (abv_right hR0 hlt)
      rw [hf.out] at hN
      rw [hlt] at hC
      have ih := Lib.hid (ihr (n - 1) pr pre W hr rr hj hN)
      clear ihl ihr hNd hl hr hN hj hd hR hR0 rl rr hlt
      rw [hf.out]
      refine callsIn_of_wp Try.func75 rfl trivial ?_ rfl
      simp only [Try.ntmps75, List.size_toArray, List.length_cons, List.length_nil, Nat.reduceAdd, Nat.reduceSub, Array.replicate_succ, Array.replicate_zero, List.push_toArray, List.append_toArray, List.nil_append, List.cons_append]
      gi_wp2_with (first
        | (refine ⟨trivial, deep _, ?_⟩; gi_at_call 91; refine (callsIn_wide.2 hC.out).mono ?_; rintro e w' ⟨rfl, hw⟩; obtain rfl := hw.symm; clear hw)
        | (refine ⟨trivial, deep _, ?_⟩; gi_at_call 75; refine ih.out.mono ?_; rintro e w' (⟨rfl, h1, h2⟩ | ⟨rfl, h1⟩)))
      · go_ret
        exact .inl ⟨rfl, h1, h2⟩
      · go_ret
        exact .inr ⟨rfl, h1⟩
    | false =>
      have hf : Hid (abv k (Tr.node tl x tr).flat = abv k tl.flat ++ x :: tr.flat) := Lib.hid (abv_left hR0 hlt)
      rw [hf.out] at hN
      rw [hlt] at hC
      simp only [List.length_append, List.length_cons] at hN
      have hS0 : Sees W.drew b x pl pr (Tr.node tl x tr).num := (hNd.kept (nodes_below hd)).cells
      generalize hA : abv k tl.flat = A at *
      have hy2 : ∀ W1, J (pre ++ A) W1 → Nodes W.drew W1 → CallsIn Fence.wide (n - 1) Try.prog 84 #[.int .i64 x, .agg #[], .pointer (some ⟨B, 0, none⟩)] W1 fun e W2 =>
          (e = .returned (.bool true) ∧ J (pre ++ A ++ [x]) W2 ∧ Nodes W W2 ∧ W2.cell? ⟨b, 2, none⟩ = some (.pointer pr) ∧ IsTree W2 pr tr) ∨ (e = .returned (.bool false) ∧ Jx (pre ++ A ++ [x]) W2) := fun W1 h1 n1 =>
        CallsIn.mono (hY (n - 1) _ x W1 h1 (by simp; omega)) fun e W2 h => h.elim
          (fun ⟨he, hj2, n2⟩ => have n3 : Nodes W W2 := (nodes_below hd).trans (n1.trans n2); .inl ⟨he, hj2, n3, (hNd.kept n3).right, hr.kept n3⟩) .inr
      have ih1 := (ihl (n - 1) pl pre W.drew (hl.next hd) rl (hJ _ _ _ hj (grown_drew W)) (by omega)).mono (R' := fun e W1 =>
          (e = .returned (.bool true) ∧ Sees W1 b x pl pr (Tr.node tl x tr).num ∧ Hid (CallsIn Fence.wide (n - 1) Try.prog 84 #[.int .i64 x, .agg #[], .pointer (some ⟨B, 0, none⟩)] W1 fun e W2 =>
            (e = .returned (.bool true) ∧ J (pre ++ A ++ [x]) W2 ∧ Nodes W W2 ∧ W2.cell? ⟨b, 2, none⟩ = some (.pointer pr) ∧ IsTree W2 pr tr) ∨ (e = .returned (.bool false) ∧ Jx (pre ++ A ++ [x]) W2))) ∨
          (e = .returned (.bool false) ∧ ∃ q, q <+: A ∧ Jx (pre ++ q) W1))
        (fun e W1 h => h.elim (fun ⟨he, hj1, n1⟩ => .inl ⟨he, (hNd.kept ((nodes_below hd).trans n1)).cells, hy2 W1 hj1 n1⟩) .inr)
      have ih2 := Lib.hid fun W2 (h2 : IsTree W2 pr tr) (hj2 : J (pre ++ A ++ [x]) W2) => walkC_in B N J Jx hJ hY tr (n - 1) pr _ W2 h2 hj2 (by simp; omega)
      obtain ⟨s0, s1, s2, s3, s4⟩ := hS0
      clear hy2 ihl ihr hNd hl hr hN hj hd hR hR0 rl rr hlt hA
      rw [hf.out]
      generalize (Tr.node tl x tr).num = nn at *
      refine callsIn_of_wp Try.func75 rfl trivial ?_ rfl
      simp only [Try.ntmps75, List.size_toArray, List.length_cons, List.length_nil, Nat.reduceAdd, Nat.reduceSub, Array.replicate_succ, Array.replicate_zero, List.push_toArray, List.append_toArray, List.nil_append, List.cons_append]
      gi_wp2_with (refine ⟨trivial, deep _, ?_⟩; gi_at_call 91; refine (callsIn_wide.2 hC.out).mono ?_; rintro e w' ⟨rfl, hw⟩; obtain rfl := hw.symm; clear hw)
      refine wpIn_region_any (by kernel_rfl) ?_
      refine wpAnyIn_take (i := 0) (oi := { dst := some 24, op := _, type := _, pos := _, after := _, guard := none }) rfl rfl (by kernel_rfl) (by kernel_rfl) (by kernel_rfl) (fun _ _ _ h => h) ⟨Or.inl ⟨by rfl, fun _ => by go_simp <;> with_reducible rfl⟩, fun _ => by rfl⟩ ?_
      (try simp only [Act.put, List.setIfInBounds_toArray, List.set_cons_zero, List.set_cons_succ])
      refine wpAnyIn_take (i := 1) (oi := { dst := some 25, op := _, type := _, pos := _, after := _, guard := none }) rfl rfl (by kernel_rfl) (by kernel_rfl) (by kernel_rfl) (fun _ _ _ h => h) ⟨Or.inl ⟨by rfl, fun _ => by go_simp <;> with_reducible rfl⟩, fun _ => by rfl⟩ ?_
      (try simp only [Act.put, List.setIfInBounds_toArray, List.set_cons_zero, List.set_cons_succ])
      refine wpAnyIn_take (i := 2) (oi := { dst := some 26, op := _, type := _, pos := _, after := _, guard := none }) rfl rfl (by kernel_rfl) (by kernel_rfl) (by kernel_rfl) (fun _ _ _ h => h) ⟨Or.inl ⟨by rfl, fun _ => by go_simp <;> with_reducible rfl⟩, fun _ => by rfl⟩ ?_
      (try simp only [Act.put, List.setIfInBounds_toArray, List.set_cons_zero, List.set_cons_succ])
      refine wpAnyIn_take (i := 4) (oi := { dst := some 28, op := _, type := _, pos := _, after := _, guard := none }) rfl rfl (by kernel_rfl) (by kernel_rfl) (by kernel_rfl) (fun _ _ _ h => h) ⟨Or.inl ⟨by rfl, fun _ => by go_simp <;> with_reducible rfl⟩, fun _ => by rfl⟩ ?_
      (try simp only [Act.put, List.setIfInBounds_toArray, List.set_cons_zero, List.set_cons_succ])
      refine wpAnyIn_take (i := 5) (oi := { dst := some 29, op := _, type := _, pos := _, after := _, guard := none }) rfl rfl (by kernel_rfl) (by kernel_rfl) (by kernel_rfl) (fun _ _ _ h => h) ⟨Or.inl ⟨by rfl, fun _ => by go_simp <;> with_reducible rfl⟩, fun _ => by rfl⟩ ?_
      (try simp only [Act.put, List.setIfInBounds_toArray, List.set_cons_zero, List.set_cons_succ])
      refine wpAnyIn_ready (rs := [3]) (by kernel_rfl) (by simp) (AllReadyIn.cons (o := { dst := some 27, op := _, type := _, pos := _, after := _, guard := none }) rfl (fun K hK => ?_) AllReadyIn.nil)
      go_simp
      refine hK _ _ ?_
      clear hK K
      (try simp only [Act.put, List.setIfInBounds_toArray, List.set_cons_zero, List.set_cons_succ])
      refine wpAnyIn_ready (rs := [6]) (by kernel_rfl) (by simp) (AllReadyIn.cons (o := { dst := some 30, op := _, type := _, pos := _, after := _, guard := none }) rfl (fun K hK => ?_) AllReadyIn.nil)
      go_simp
      (refine ⟨trivial, deep _, ?_⟩; refine ih1.mono ?_; clear ih1; rintro e W1 (⟨rfl, ⟨k0, k1, k2, k3, k4⟩, hR⟩ | ⟨rfl, q, hq, hx1⟩))
      · refine hK _ _ ?_
        clear hK K
        (try simp only [Act.put, List.setIfInBounds_toArray, List.set_cons_zero, List.set_cons_succ])
        refine wpAnyIn_take (i := 7) (oi := { dst := some 31, op := _, type := _, pos := _, after := _, guard := none }) rfl rfl (by kernel_rfl) (by kernel_rfl) (by kernel_rfl) (fun _ _ _ h => h) ⟨Or.inl ⟨by rfl, fun _ => by go_simp <;> with_reducible rfl⟩, fun _ => by rfl⟩ ?_
        (try simp only [Act.put, List.setIfInBounds_toArray, List.set_cons_zero, List.set_cons_succ])
        refine wpAnyIn_take (i := 8) (oi := { dst := some 32, op := _, type := _, pos := _, after := _, guard := some (7, true) }) rfl rfl (by kernel_rfl) (by kernel_rfl) (by kernel_rfl) (fun _ _ _ h => h) ⟨Or.inl ⟨by rfl, fun _ => by go_simp <;> with_reducible rfl⟩, fun _ => by rfl⟩ ?_
        (try simp only [Act.put, List.setIfInBounds_toArray, List.set_cons_zero, List.set_cons_succ])
        refine wpAnyIn_take (i := 9) (oi := { dst := some 33, op := _, type := _, pos := _, after := _, guard := some (7, true) }) rfl rfl (by kernel_rfl) (by kernel_rfl) (by kernel_rfl) (fun _ _ _ h => h) ⟨Or.inl ⟨by rfl, fun _ => by go_simp <;> with_reducible rfl⟩, fun _ => by rfl⟩ ?_
        (try simp only [Act.put, List.setIfInBounds_toArray, List.set_cons_zero, List.set_cons_succ])
        refine wpAnyIn_take (i := 10) (oi := { dst := some 34, op := _, type := _, pos := _, after := _, guard := some (7, true) }) rfl rfl (by kernel_rfl) (by kernel_rfl) (by kernel_rfl) (fun _ _ _ h => h) ⟨Or.inl ⟨by rfl, fun _ => by go_simp <;> with_reducible rfl⟩, fun _ => by rfl⟩ ?_
        (try simp only [Act.put, List.setIfInBounds_toArray, List.set_cons_zero, List.set_cons_succ])
        refine wpAnyIn_take (i := 11) (oi := { dst := some 35, op := _, type := _, pos := _, after := _, guard := some (7, true) }) rfl rfl (by kernel_rfl) (by kernel_rfl) (by kernel_rfl) (fun _ _ _ h => h) ⟨Or.inl ⟨by rfl, fun _ => by go_simp <;> with_reducible rfl⟩, fun _ => by rfl⟩ ?_
        (try simp only [Act.put, List.setIfInBounds_toArray, List.set_cons_zero, List.set_cons_succ])
        refine wpAnyIn_take (i := 13) (oi := { dst := some 37, op := _, type := _, pos := _, after := _, guard := some (7, true) }) rfl rfl (by kernel_rfl) (by kernel_rfl) (by kernel_rfl) (fun _ _ _ h => h) ⟨Or.inl ⟨by rfl, fun _ => by go_simp <;> with_reducible rfl⟩, fun _ => by rfl⟩ ?_
        (try simp only [Act.put, List.setIfInBounds_toArray, List.set_cons_zero, List.set_cons_succ])
        refine wpAnyIn_take (i := 14) (oi := { dst := some 38, op := _, type := _, pos := _, after := _, guard := some (7, true) }) rfl rfl (by kernel_rfl) (by kernel_rfl) (by kernel_rfl) (fun _ _ _ h => h) ⟨Or.inl ⟨by rfl, fun _ => by go_simp <;> with_reducible rfl⟩, fun _ => by rfl⟩ ?_
        (try simp only [Act.put, List.setIfInBounds_toArray, List.set_cons_zero, List.set_cons_succ])
        refine wpAnyIn_ready (rs := [12, 15]) (by kernel_rfl) (by simp) (AllReadyIn.cons (o := { dst := some 36, op := _, type := _, pos := _, after := _, guard := some (7, true) }) rfl (fun K hK => ?_) (AllReadyIn.cons (o := { dst := some 39, op := _, type := _, pos := _, after := _, guard := some (7, true) }) rfl (fun K hK => ?_) AllReadyIn.nil))
        ·
          go_simp
          refine hK _ _ ?_
          clear hK K
          (try simp only [Act.put, List.setIfInBounds_toArray, List.set_cons_zero, List.set_cons_succ])
          refine wpAnyIn_ready (rs := [15]) (by kernel_rfl) (by simp) (AllReadyIn.cons (o := { dst := some 39, op := _, type := _, pos := _, after := _, guard := some (7, true) }) rfl (fun K hK => ?_) AllReadyIn.nil)
          go_simp
          refine hK _ _ ?_
          clear hK K
          (try simp only [Act.put, List.setIfInBounds_toArray, List.set_cons_zero, List.set_cons_succ])
          refine wpAnyIn_ready (rs := [16]) (by kernel_rfl) (by simp) (AllReadyIn.cons (o := { dst := some 40, op := _, type := _, pos := _, after := _, guard := some (7, true) }) rfl (fun K hK => ?_) AllReadyIn.nil)
          go_simp
          refine hK _ _ ?_
          clear hK K
          (try simp only [Act.put, List.setIfInBounds_toArray, List.set_cons_zero, List.set_cons_succ])
          refine wpAnyIn_ready (rs := [17]) (by kernel_rfl) (by simp) (AllReadyIn.cons (o := { dst := some 41, op := _, type := _, pos := _, after := _, guard := some (7, true) }) rfl (fun K hK => ?_) AllReadyIn.nil)
          go_simp
          (refine ⟨trivial, deep _, ?_⟩; refine hR.out.mono ?_; clear hR; rintro e W2 (⟨rfl, hJ2, n2, c2, hr2⟩ | ⟨rfl, hx2⟩))
          · refine hK _ _ ?_
            clear hK K
            (try simp only [Act.put, List.setIfInBounds_toArray, List.set_cons_zero, List.set_cons_succ])
            refine wpAnyIn_take (i := 18) (oi := { dst := some 42, op := _, type := _, pos := _, after := _, guard := none }) rfl rfl (by kernel_rfl) (by kernel_rfl) (by kernel_rfl) (fun _ _ _ h => h) ⟨Or.inl ⟨by rfl, fun _ => by go_simp <;> with_reducible rfl⟩, fun _ => by rfl⟩ ?_
            (try simp only [Act.put, List.setIfInBounds_toArray, List.set_cons_zero, List.set_cons_succ])
            refine wpAnyIn_take (i := 19) (oi := { dst := some 43, op := _, type := _, pos := _, after := _, guard := none }) rfl rfl (by kernel_rfl) (by kernel_rfl) (by kernel_rfl) (fun _ _ _ h => h) ⟨Or.inl ⟨by rfl, fun _ => by go_simp <;> with_reducible rfl⟩, fun _ => by rfl⟩ ?_
            (try simp only [Act.put, List.setIfInBounds_toArray, List.set_cons_zero, List.set_cons_succ])
            refine wpAnyIn_take (i := 20) (oi := { dst := some 44, op := _, type := _, pos := _, after := _, guard := some (19, true) }) rfl rfl (by kernel_rfl) (by kernel_rfl) (by kernel_rfl) (fun _ _ _ h => h) ⟨Or.inl ⟨by rfl, fun _ => by go_simp <;> with_reducible rfl⟩, fun _ => by rfl⟩ ?_
            (try simp only [Act.put, List.setIfInBounds_toArray, List.set_cons_zero, List.set_cons_succ])
            refine wpAnyIn_take (i := 21) (oi := { dst := some 45, op := _, type := _, pos := _, after := _, guard := some (19, true) }) rfl rfl (by kernel_rfl) (by kernel_rfl) (by kernel_rfl) (fun _ _ _ h => h) ⟨Or.inl ⟨by rfl, fun _ => by go_simp <;> with_reducible rfl⟩, fun _ => by rfl⟩ ?_
            (try simp only [Act.put, List.setIfInBounds_toArray, List.set_cons_zero, List.set_cons_succ])
            refine wpAnyIn_take (i := 22) (oi := { dst := some 46, op := _, type := _, pos := _, after := _, guard := some (19, true) }) rfl rfl (by kernel_rfl) (by kernel_rfl) (by kernel_rfl) (fun _ _ _ h => h) ⟨Or.inl ⟨by rfl, fun _ => by go_simp <;> with_reducible rfl⟩, fun _ => by rfl⟩ ?_
            (try simp only [Act.put, List.setIfInBounds_toArray, List.set_cons_zero, List.set_cons_succ])
            refine wpAnyIn_take (i := 24) (oi := { dst := some 48, op := _, type := _, pos := _, after := _, guard := some (19, true) }) rfl rfl (by kernel_rfl) (by kernel_rfl) (by kernel_rfl) (fun _ _ _ h => h) ⟨Or.inl ⟨by rfl, fun _ => by go_simp <;> with_reducible rfl⟩, fun _ => by rfl⟩ ?_
            (try simp only [Act.put, List.setIfInBounds_toArray, List.set_cons_zero, List.set_cons_succ])
            refine wpAnyIn_ready (rs := [23]) (by kernel_rfl) (by simp) (AllReadyIn.cons (o := { dst := some 47, op := _, type := _, pos := _, after := _, guard := some (19, true) }) rfl (fun K hK => ?_) AllReadyIn.nil)
            go_simp
            refine hK _ _ ?_
            clear hK K
            (try simp only [Act.put, List.setIfInBounds_toArray, List.set_cons_zero, List.set_cons_succ])
            refine wpAnyIn_ready (rs := [25]) (by kernel_rfl) (by simp) (AllReadyIn.cons (o := { dst := some 49, op := _, type := _, pos := _, after := _, guard := some (19, true) }) rfl (fun K hK => ?_) AllReadyIn.nil)
            go_simp
            (refine ⟨trivial, deep _, ?_⟩; refine (ih2.out _ hr2 hJ2).mono ?_; rintro e W3 (⟨rfl, hJ3, n3⟩ | ⟨rfl, q, hq, hx3⟩))
            · refine hK _ _ ?_
              clear hK K
              (try simp only [Act.put, List.setIfInBounds_toArray, List.set_cons_zero, List.set_cons_succ])
              refine wpAnyIn_take (i := 26) (oi := { dst := some 50, op := _, type := _, pos := _, after := _, guard := none }) rfl rfl (by kernel_rfl) (by kernel_rfl) (by kernel_rfl) (fun _ _ _ h => h) ⟨Or.inl ⟨by rfl, fun _ => by go_simp <;> with_reducible rfl⟩, fun _ => by rfl⟩ ?_
              (try simp only [Act.put, List.setIfInBounds_toArray, List.set_cons_zero, List.set_cons_succ])
              refine wpAnyIn_take (i := 27) (oi := { dst := some 6, op := _, type := _, pos := _, after := _, guard := none }) rfl rfl (by kernel_rfl) (by kernel_rfl) (by kernel_rfl) (fun _ _ _ h => h) ⟨Or.inl ⟨by rfl, fun _ => by go_simp <;> with_reducible rfl⟩, fun _ => by rfl⟩ ?_
              (try simp only [Act.put, List.setIfInBounds_toArray, List.set_cons_zero, List.set_cons_succ])
              refine wpAnyIn_done (by kernel_rfl) ?_ _
              (gi_wp2; go_ret; exact .inl ⟨rfl, by simpa [List.append_assoc] using hJ3, n2.trans n3⟩)
            · refine hK _ _ ?_
              clear hK K
              (try simp only [Act.put, List.setIfInBounds_toArray, List.set_cons_zero, List.set_cons_succ])
              refine wpAnyIn_take (i := 26) (oi := { dst := some 50, op := _, type := _, pos := _, after := _, guard := none }) rfl rfl (by kernel_rfl) (by kernel_rfl) (by kernel_rfl) (fun _ _ _ h => h) ⟨Or.inl ⟨by rfl, fun _ => by go_simp <;> with_reducible rfl⟩, fun _ => by rfl⟩ ?_
              (try simp only [Act.put, List.setIfInBounds_toArray, List.set_cons_zero, List.set_cons_succ])
              refine wpAnyIn_take (i := 27) (oi := { dst := some 6, op := _, type := _, pos := _, after := _, guard := none }) rfl rfl (by kernel_rfl) (by kernel_rfl) (by kernel_rfl) (fun _ _ _ h => h) ⟨Or.inl ⟨by rfl, fun _ => by go_simp <;> with_reducible rfl⟩, fun _ => by rfl⟩ ?_
              (try simp only [Act.put, List.setIfInBounds_toArray, List.set_cons_zero, List.set_cons_succ])
              refine wpAnyIn_done (by kernel_rfl) ?_ _
              (gi_wp2; go_ret; obtain ⟨r, hr'⟩ := hq; exact .inr ⟨rfl, A ++ x :: q, ⟨r, by simp [← hr']⟩, by simpa [List.append_assoc] using hx3⟩)
          · refine hK _ _ ?_
            clear hK K
            (try simp only [Act.put, List.setIfInBounds_toArray, List.set_cons_zero, List.set_cons_succ])
            refine wpAnyIn_take (i := 18) (oi := { dst := some 42, op := _, type := _, pos := _, after := _, guard := none }) rfl rfl (by kernel_rfl) (by kernel_rfl) (by kernel_rfl) (fun _ _ _ h => h) ⟨Or.inl ⟨by rfl, fun _ => by go_simp <;> with_reducible rfl⟩, fun _ => by rfl⟩ ?_
            (try simp only [Act.put, List.setIfInBounds_toArray, List.set_cons_zero, List.set_cons_succ])
            refine wpAnyIn_take (i := 19) (oi := { dst := some 43, op := _, type := _, pos := _, after := _, guard := none }) rfl rfl (by kernel_rfl) (by kernel_rfl) (by kernel_rfl) (fun _ _ _ h => h) ⟨Or.inl ⟨by rfl, fun _ => by go_simp <;> with_reducible rfl⟩, fun _ => by rfl⟩ ?_
            (try simp only [Act.put, List.setIfInBounds_toArray, List.set_cons_zero, List.set_cons_succ])
            refine wpAnyIn_take (i := 20) (oi := { dst := some 44, op := _, type := _, pos := _, after := _, guard := some (19, true) }) (v := undef) rfl rfl (by kernel_rfl) (by kernel_rfl) (by kernel_rfl) (fun _ _ _ h => h) ⟨Or.inr ⟨by rfl, rfl⟩, fun _ => by rfl⟩ ?_
            (try simp only [Act.put, List.setIfInBounds_toArray, List.set_cons_zero, List.set_cons_succ])
            refine wpAnyIn_take (i := 21) (oi := { dst := some 45, op := _, type := _, pos := _, after := _, guard := some (19, true) }) (v := undef) rfl rfl (by kernel_rfl) (by kernel_rfl) (by kernel_rfl) (fun _ _ _ h => h) ⟨Or.inr ⟨by rfl, rfl⟩, fun _ => by rfl⟩ ?_
            (try simp only [Act.put, List.setIfInBounds_toArray, List.set_cons_zero, List.set_cons_succ])
            refine wpAnyIn_take (i := 22) (oi := { dst := some 46, op := _, type := _, pos := _, after := _, guard := some (19, true) }) (v := undef) rfl rfl (by kernel_rfl) (by kernel_rfl) (by kernel_rfl) (fun _ _ _ h => h) ⟨Or.inr ⟨by rfl, rfl⟩, fun _ => by rfl⟩ ?_
            (try simp only [Act.put, List.setIfInBounds_toArray, List.set_cons_zero, List.set_cons_succ])
            refine wpAnyIn_take (i := 23) (oi := { dst := some 47, op := _, type := _, pos := _, after := _, guard := some (19, true) }) (v := undef) rfl rfl (by kernel_rfl) (by kernel_rfl) (by kernel_rfl) (fun _ _ _ h => h) ⟨Or.inr ⟨by rfl, rfl⟩, fun _ => by rfl⟩ ?_
            (try simp only [Act.put, List.setIfInBounds_toArray, List.set_cons_zero, List.set_cons_succ])
            refine wpAnyIn_take (i := 24) (oi := { dst := some 48, op := _, type := _, pos := _, after := _, guard := some (19, true) }) (v := undef) rfl rfl (by kernel_rfl) (by kernel_rfl) (by kernel_rfl) (fun _ _ _ h => h) ⟨Or.inr ⟨by rfl, rfl⟩, fun _ => by rfl⟩ ?_
            (try simp only [Act.put, List.setIfInBounds_toArray, List.set_cons_zero, List.set_cons_succ])
            refine wpAnyIn_ready (rs := [25]) (by kernel_rfl) (by simp) (AllReadyIn.cons (o := { dst := some 49, op := _, type := _, pos := _, after := _, guard := some (19, true) }) rfl (fun K hK => ?_) AllReadyIn.nil)
            go_simp
            refine ⟨?_, ?_⟩
            · first | trivial | (intros; trivial)
            refine hK _ _ ?_
            clear hK K
            (try simp only [Act.put, List.setIfInBounds_toArray, List.set_cons_zero, List.set_cons_succ])
            refine wpAnyIn_take (i := 26) (oi := { dst := some 50, op := _, type := _, pos := _, after := _, guard := none }) rfl rfl (by kernel_rfl) (by kernel_rfl) (by kernel_rfl) (fun _ _ _ h => h) ⟨Or.inl ⟨by rfl, fun _ => by go_simp <;> with_reducible rfl⟩, fun _ => by rfl⟩ ?_
            (try simp only [Act.put, List.setIfInBounds_toArray, List.set_cons_zero, List.set_cons_succ])
            refine wpAnyIn_take (i := 27) (oi := { dst := some 6, op := _, type := _, pos := _, after := _, guard := none }) rfl rfl (by kernel_rfl) (by kernel_rfl) (by kernel_rfl) (fun _ _ _ h => h) ⟨Or.inl ⟨by rfl, fun _ => by go_simp <;> with_reducible rfl⟩, fun _ => by rfl⟩ ?_
            (try simp only [Act.put, List.setIfInBounds_toArray, List.set_cons_zero, List.set_cons_succ])
            refine wpAnyIn_done (by kernel_rfl) ?_ _
            (gi_wp2; go_ret; exact .inr ⟨rfl, A ++ [x], ⟨tr.flat, by simp⟩, by simpa [List.append_assoc] using hx2⟩)
        ·
          go_simp
          refine hK _ _ ?_
          clear hK K
          (try simp only [Act.put, List.setIfInBounds_toArray, List.set_cons_zero, List.set_cons_succ])
          refine wpAnyIn_ready (rs := [12, 16]) (by kernel_rfl) (by simp) (AllReadyIn.cons (o := { dst := some 36, op := _, type := _, pos := _, after := _, guard := some (7, true) }) rfl (fun K hK => ?_) (AllReadyIn.cons (o := { dst := some 40, op := _, type := _, pos := _, after := _, guard := some (7, true) }) rfl (fun K hK => ?_) AllReadyIn.nil))
          ·
            go_simp
            refine hK _ _ ?_
            clear hK K
            (try simp only [Act.put, List.setIfInBounds_toArray, List.set_cons_zero, List.set_cons_succ])
            refine wpAnyIn_ready (rs := [16]) (by kernel_rfl) (by simp) (AllReadyIn.cons (o := { dst := some 40, op := _, type := _, pos := _, after := _, guard := some (7, true) }) rfl (fun K hK => ?_) AllReadyIn.nil)
            go_simp
            refine hK _ _ ?_
            clear hK K
            (try simp only [Act.put, List.setIfInBounds_toArray, List.set_cons_zero, List.set_cons_succ])
            refine wpAnyIn_ready (rs := [17]) (by kernel_rfl) (by simp) (AllReadyIn.cons (o := { dst := some 41, op := _, type := _, pos := _, after := _, guard := some (7, true) }) rfl (fun K hK => ?_) AllReadyIn.nil)
            go_simp
            (refine ⟨trivial, deep _, ?_⟩; refine hR.out.mono ?_; clear hR; rintro e W2 (⟨rfl, hJ2, n2, c2, hr2⟩ | ⟨rfl, hx2⟩))
            · refine hK _ _ ?_
              clear hK K
              (try simp only [Act.put, List.setIfInBounds_toArray, List.set_cons_zero, List.set_cons_succ])
              refine wpAnyIn_take (i := 18) (oi := { dst := some 42, op := _, type := _, pos := _, after := _, guard := none }) rfl rfl (by kernel_rfl) (by kernel_rfl) (by kernel_rfl) (fun _ _ _ h => h) ⟨Or.inl ⟨by rfl, fun _ => by go_simp <;> with_reducible rfl⟩, fun _ => by rfl⟩ ?_
              (try simp only [Act.put, List.setIfInBounds_toArray, List.set_cons_zero, List.set_cons_succ])
              refine wpAnyIn_take (i := 19) (oi := { dst := some 43, op := _, type := _, pos := _, after := _, guard := none }) rfl rfl (by kernel_rfl) (by kernel_rfl) (by kernel_rfl) (fun _ _ _ h => h) ⟨Or.inl ⟨by rfl, fun _ => by go_simp <;> with_reducible rfl⟩, fun _ => by rfl⟩ ?_
              (try simp only [Act.put, List.setIfInBounds_toArray, List.set_cons_zero, List.set_cons_succ])
              refine wpAnyIn_take (i := 20) (oi := { dst := some 44, op := _, type := _, pos := _, after := _, guard := some (19, true) }) rfl rfl (by kernel_rfl) (by kernel_rfl) (by kernel_rfl) (fun _ _ _ h => h) ⟨Or.inl ⟨by rfl, fun _ => by go_simp <;> with_reducible rfl⟩, fun _ => by rfl⟩ ?_
              (try simp only [Act.put, List.setIfInBounds_toArray, List.set_cons_zero, List.set_cons_succ])
              refine wpAnyIn_take (i := 21) (oi := { dst := some 45, op := _, type := _, pos := _, after := _, guard := some (19, true) }) rfl rfl (by kernel_rfl) (by kernel_rfl) (by kernel_rfl) (fun _ _ _ h => h) ⟨Or.inl ⟨by rfl, fun _ => by go_simp <;> with_reducible rfl⟩, fun _ => by rfl⟩ ?_
              (try simp only [Act.put, List.setIfInBounds_toArray, List.set_cons_zero, List.set_cons_succ])
              refine wpAnyIn_take (i := 22) (oi := { dst := some 46, op := _, type := _, pos := _, after := _, guard := some (19, true) }) rfl rfl (by kernel_rfl) (by kernel_rfl) (by kernel_rfl) (fun _ _ _ h => h) ⟨Or.inl ⟨by rfl, fun _ => by go_simp <;> with_reducible rfl⟩, fun _ => by rfl⟩ ?_
              (try simp only [Act.put, List.setIfInBounds_toArray, List.set_cons_zero, List.set_cons_succ])
              refine wpAnyIn_take (i := 24) (oi := { dst := some 48, op := _, type := _, pos := _, after := _, guard := some (19, true) }) rfl rfl (by kernel_rfl) (by kernel_rfl) (by kernel_rfl) (fun _ _ _ h => h) ⟨Or.inl ⟨by rfl, fun _ => by go_simp <;> with_reducible rfl⟩, fun _ => by rfl⟩ ?_
              (try simp only [Act.put, List.setIfInBounds_toArray, List.set_cons_zero, List.set_cons_succ])
              refine wpAnyIn_ready (rs := [23]) (by kernel_rfl) (by simp) (AllReadyIn.cons (o := { dst := some 47, op := _, type := _, pos := _, after := _, guard := some (19, true) }) rfl (fun K hK => ?_) AllReadyIn.nil)
              go_simp
              refine hK _ _ ?_
              clear hK K
              (try simp only [Act.put, List.setIfInBounds_toArray, List.set_cons_zero, List.set_cons_succ])
              refine wpAnyIn_ready (rs := [25]) (by kernel_rfl) (by simp) (AllReadyIn.cons (o := { dst := some 49, op := _, type := _, pos := _, after := _, guard := some (19, true) }) rfl (fun K hK => ?_) AllReadyIn.nil)
              go_simp
              (refine ⟨trivial, deep _, ?_⟩; refine (ih2.out _ hr2 hJ2).mono ?_; rintro e W3 (⟨rfl, hJ3, n3⟩ | ⟨rfl, q, hq, hx3⟩))
              · refine hK _ _ ?_
                clear hK K
                (try simp only [Act.put, List.setIfInBounds_toArray, List.set_cons_zero, List.set_cons_succ])
                refine wpAnyIn_take (i := 26) (oi := { dst := some 50, op := _, type := _, pos := _, after := _, guard := none }) rfl rfl (by kernel_rfl) (by kernel_rfl) (by kernel_rfl) (fun _ _ _ h => h) ⟨Or.inl ⟨by rfl, fun _ => by go_simp <;> with_reducible rfl⟩, fun _ => by rfl⟩ ?_
                (try simp only [Act.put, List.setIfInBounds_toArray, List.set_cons_zero, List.set_cons_succ])
                refine wpAnyIn_take (i := 27) (oi := { dst := some 6, op := _, type := _, pos := _, after := _, guard := none }) rfl rfl (by kernel_rfl) (by kernel_rfl) (by kernel_rfl) (fun _ _ _ h => h) ⟨Or.inl ⟨by rfl, fun _ => by go_simp <;> with_reducible rfl⟩, fun _ => by rfl⟩ ?_
                (try simp only [Act.put, List.setIfInBounds_toArray, List.set_cons_zero, List.set_cons_succ])
                refine wpAnyIn_done (by kernel_rfl) ?_ _
                (gi_wp2; go_ret; exact .inl ⟨rfl, by simpa [List.append_assoc] using hJ3, n2.trans n3⟩)
              · refine hK _ _ ?_
                clear hK K
                (try simp only [Act.put, List.setIfInBounds_toArray, List.set_cons_zero, List.set_cons_succ])
                refine wpAnyIn_take (i := 26) (oi := { dst := some 50, op := _, type := _, pos := _, after := _, guard := none }) rfl rfl (by kernel_rfl) (by kernel_rfl) (by kernel_rfl) (fun _ _ _ h => h) ⟨Or.inl ⟨by rfl, fun _ => by go_simp <;> with_reducible rfl⟩, fun _ => by rfl⟩ ?_
                (try simp only [Act.put, List.setIfInBounds_toArray, List.set_cons_zero, List.set_cons_succ])
                refine wpAnyIn_take (i := 27) (oi := { dst := some 6, op := _, type := _, pos := _, after := _, guard := none }) rfl rfl (by kernel_rfl) (by kernel_rfl) (by kernel_rfl) (fun _ _ _ h => h) ⟨Or.inl ⟨by rfl, fun _ => by go_simp <;> with_reducible rfl⟩, fun _ => by rfl⟩ ?_
                (try simp only [Act.put, List.setIfInBounds_toArray, List.set_cons_zero, List.set_cons_succ])
                refine wpAnyIn_done (by kernel_rfl) ?_ _
                (gi_wp2; go_ret; obtain ⟨r, hr'⟩ := hq; exact .inr ⟨rfl, A ++ x :: q, ⟨r, by simp [← hr']⟩, by simpa [List.append_assoc] using hx3⟩)
            · refine hK _ _ ?_
              clear hK K
              (try simp only [Act.put, List.setIfInBounds_toArray, List.set_cons_zero, List.set_cons_succ])
              refine wpAnyIn_take (i := 18) (oi := { dst := some 42, op := _, type := _, pos := _, after := _, guard := none }) rfl rfl (by kernel_rfl) (by kernel_rfl) (by kernel_rfl) (fun _ _ _ h => h) ⟨Or.inl ⟨by rfl, fun _ => by go_simp <;> with_reducible rfl⟩, fun _ => by rfl⟩ ?_
              (try simp only [Act.put, List.setIfInBounds_toArray, List.set_cons_zero, List.set_cons_succ])
              refine wpAnyIn_take (i := 19) (oi := { dst := some 43, op := _, type := _, pos := _, after := _, guard := none }) rfl rfl (by kernel_rfl) (by kernel_rfl) (by kernel_rfl) (fun _ _ _ h => h) ⟨Or.inl ⟨by rfl, fun _ => by go_simp <;> with_reducible rfl⟩, fun _ => by rfl⟩ ?_
              (try simp only [Act.put, List.setIfInBounds_toArray, List.set_cons_zero, List.set_cons_succ])
              refine wpAnyIn_take (i := 20) (oi := { dst := some 44, op := _, type := _, pos := _, after := _, guard := some (19, true) }) (v := undef) rfl rfl (by kernel_rfl) (by kernel_rfl) (by kernel_rfl) (fun _ _ _ h => h) ⟨Or.inr ⟨by rfl, rfl⟩, fun _ => by rfl⟩ ?_
              (try simp only [Act.put, List.setIfInBounds_toArray, List.set_cons_zero, List.set_cons_succ])
              refine wpAnyIn_take (i := 21) (oi := { dst := some 45, op := _, type := _, pos := _, after := _, guard := some (19, true) }) (v := undef) rfl rfl (by kernel_rfl) (by kernel_rfl) (by kernel_rfl) (fun _ _ _ h => h) ⟨Or.inr ⟨by rfl, rfl⟩, fun _ => by rfl⟩ ?_
              (try simp only [Act.put, List.setIfInBounds_toArray, List.set_cons_zero, List.set_cons_succ])
              refine wpAnyIn_take (i := 22) (oi := { dst := some 46, op := _, type := _, pos := _, after := _, guard := some (19, true) }) (v := undef) rfl rfl (by kernel_rfl) (by kernel_rfl) (by kernel_rfl) (fun _ _ _ h => h) ⟨Or.inr ⟨by rfl, rfl⟩, fun _ => by rfl⟩ ?_
              (try simp only [Act.put, List.setIfInBounds_toArray, List.set_cons_zero, List.set_cons_succ])
              refine wpAnyIn_take (i := 23) (oi := { dst := some 47, op := _, type := _, pos := _, after := _, guard := some (19, true) }) (v := undef) rfl rfl (by kernel_rfl) (by kernel_rfl) (by kernel_rfl) (fun _ _ _ h => h) ⟨Or.inr ⟨by rfl, rfl⟩, fun _ => by rfl⟩ ?_
              (try simp only [Act.put, List.setIfInBounds_toArray, List.set_cons_zero, List.set_cons_succ])
              refine wpAnyIn_take (i := 24) (oi := { dst := some 48, op := _, type := _, pos := _, after := _, guard := some (19, true) }) (v := undef) rfl rfl (by kernel_rfl) (by kernel_rfl) (by kernel_rfl) (fun _ _ _ h => h) ⟨Or.inr ⟨by rfl, rfl⟩, fun _ => by rfl⟩ ?_
              (try simp only [Act.put, List.setIfInBounds_toArray, List.set_cons_zero, List.set_cons_succ])
              refine wpAnyIn_ready (rs := [25]) (by kernel_rfl) (by simp) (AllReadyIn.cons (o := { dst := some 49, op := _, type := _, pos := _, after := _, guard := some (19, true) }) rfl (fun K hK => ?_) AllReadyIn.nil)
              go_simp
              refine ⟨?_, ?_⟩
              · first | trivial | (intros; trivial)
              refine hK _ _ ?_
              clear hK K
              (try simp only [Act.put, List.setIfInBounds_toArray, List.set_cons_zero, List.set_cons_succ])
              refine wpAnyIn_take (i := 26) (oi := { dst := some 50, op := _, type := _, pos := _, after := _, guard := none }) rfl rfl (by kernel_rfl) (by kernel_rfl) (by kernel_rfl) (fun _ _ _ h => h) ⟨Or.inl ⟨by rfl, fun _ => by go_simp <;> with_reducible rfl⟩, fun _ => by rfl⟩ ?_
              (try simp only [Act.put, List.setIfInBounds_toArray, List.set_cons_zero, List.set_cons_succ])
              refine wpAnyIn_take (i := 27) (oi := { dst := some 6, op := _, type := _, pos := _, after := _, guard := none }) rfl rfl (by kernel_rfl) (by kernel_rfl) (by kernel_rfl) (fun _ _ _ h => h) ⟨Or.inl ⟨by rfl, fun _ => by go_simp <;> with_reducible rfl⟩, fun _ => by rfl⟩ ?_
              (try simp only [Act.put, List.setIfInBounds_toArray, List.set_cons_zero, List.set_cons_succ])
              refine wpAnyIn_done (by kernel_rfl) ?_ _
              (gi_wp2; go_ret; exact .inr ⟨rfl, A ++ [x], ⟨tr.flat, by simp⟩, by simpa [List.append_assoc] using hx2⟩)
          ·
            go_simp
            refine hK _ _ ?_
            clear hK K
            (try simp only [Act.put, List.setIfInBounds_toArray, List.set_cons_zero, List.set_cons_succ])
            refine wpAnyIn_ready (rs := [12]) (by kernel_rfl) (by simp) (AllReadyIn.cons (o := { dst := some 36, op := _, type := _, pos := _, after := _, guard := some (7, true) }) rfl (fun K hK => ?_) AllReadyIn.nil)
            go_simp
            refine hK _ _ ?_
            clear hK K
            (try simp only [Act.put, List.setIfInBounds_toArray, List.set_cons_zero, List.set_cons_succ])
            refine wpAnyIn_ready (rs := [17]) (by kernel_rfl) (by simp) (AllReadyIn.cons (o := { dst := some 41, op := _, type := _, pos := _, after := _, guard := some (7, true) }) rfl (fun K hK => ?_) AllReadyIn.nil)
            go_simp
            (refine ⟨trivial, deep _, ?_⟩; refine hR.out.mono ?_; clear hR; rintro e W2 (⟨rfl, hJ2, n2, c2, hr2⟩ | ⟨rfl, hx2⟩))
            · refine hK _ _ ?_
              clear hK K
              (try simp only [Act.put, List.setIfInBounds_toArray, List.set_cons_zero, List.set_cons_succ])
              refine wpAnyIn_take (i := 18) (oi := { dst := some 42, op := _, type := _, pos := _, after := _, guard := none }) rfl rfl (by kernel_rfl) (by kernel_rfl) (by kernel_rfl) (fun _ _ _ h => h) ⟨Or.inl ⟨by rfl, fun _ => by go_simp <;> with_reducible rfl⟩, fun _ => by rfl⟩ ?_
              (try simp only [Act.put, List.setIfInBounds_toArray, List.set_cons_zero, List.set_cons_succ])
              refine wpAnyIn_take (i := 19) (oi := { dst := some 43, op := _, type := _, pos := _, after := _, guard := none }) rfl rfl (by kernel_rfl) (by kernel_rfl) (by kernel_rfl) (fun _ _ _ h => h) ⟨Or.inl ⟨by rfl, fun _ => by go_simp <;> with_reducible rfl⟩, fun _ => by rfl⟩ ?_
              (try simp only [Act.put, List.setIfInBounds_toArray, List.set_cons_zero, List.set_cons_succ])
              refine wpAnyIn_take (i := 20) (oi := { dst := some 44, op := _, type := _, pos := _, after := _, guard := some (19, true) }) rfl rfl (by kernel_rfl) (by kernel_rfl) (by kernel_rfl) (fun _ _ _ h => h) ⟨Or.inl ⟨by rfl, fun _ => by go_simp <;> with_reducible rfl⟩, fun _ => by rfl⟩ ?_
              (try simp only [Act.put, List.setIfInBounds_toArray, List.set_cons_zero, List.set_cons_succ])
              refine wpAnyIn_take (i := 21) (oi := { dst := some 45, op := _, type := _, pos := _, after := _, guard := some (19, true) }) rfl rfl (by kernel_rfl) (by kernel_rfl) (by kernel_rfl) (fun _ _ _ h => h) ⟨Or.inl ⟨by rfl, fun _ => by go_simp <;> with_reducible rfl⟩, fun _ => by rfl⟩ ?_
              (try simp only [Act.put, List.setIfInBounds_toArray, List.set_cons_zero, List.set_cons_succ])
              refine wpAnyIn_take (i := 22) (oi := { dst := some 46, op := _, type := _, pos := _, after := _, guard := some (19, true) }) rfl rfl (by kernel_rfl) (by kernel_rfl) (by kernel_rfl) (fun _ _ _ h => h) ⟨Or.inl ⟨by rfl, fun _ => by go_simp <;> with_reducible rfl⟩, fun _ => by rfl⟩ ?_
              (try simp only [Act.put, List.setIfInBounds_toArray, List.set_cons_zero, List.set_cons_succ])
              refine wpAnyIn_take (i := 24) (oi := { dst := some 48, op := _, type := _, pos := _, after := _, guard := some (19, true) }) rfl rfl (by kernel_rfl) (by kernel_rfl) (by kernel_rfl) (fun _ _ _ h => h) ⟨Or.inl ⟨by rfl, fun _ => by go_simp <;> with_reducible rfl⟩, fun _ => by rfl⟩ ?_
              (try simp only [Act.put, List.setIfInBounds_toArray, List.set_cons_zero, List.set_cons_succ])
              refine wpAnyIn_ready (rs := [23]) (by kernel_rfl) (by simp) (AllReadyIn.cons (o := { dst := some 47, op := _, type := _, pos := _, after := _, guard := some (19, true) }) rfl (fun K hK => ?_) AllReadyIn.nil)
              go_simp
              refine hK _ _ ?_
              clear hK K
              (try simp only [Act.put, List.setIfInBounds_toArray, List.set_cons_zero, List.set_cons_succ])
              refine wpAnyIn_ready (rs := [25]) (by kernel_rfl) (by simp) (AllReadyIn.cons (o := { dst := some 49, op := _, type := _, pos := _, after := _, guard := some (19, true) }) rfl (fun K hK => ?_) AllReadyIn.nil)
              go_simp
              (refine ⟨trivial, deep _, ?_⟩; refine (ih2.out _ hr2 hJ2).mono ?_; rintro e W3 (⟨rfl, hJ3, n3⟩ | ⟨rfl, q, hq, hx3⟩))
              · refine hK _ _ ?_
                clear hK K
                (try simp only [Act.put, List.setIfInBounds_toArray, List.set_cons_zero, List.set_cons_succ])
                refine wpAnyIn_take (i := 26) (oi := { dst := some 50, op := _, type := _, pos := _, after := _, guard := none }) rfl rfl (by kernel_rfl) (by kernel_rfl) (by kernel_rfl) (fun _ _ _ h => h) ⟨Or.inl ⟨by rfl, fun _ => by go_simp <;> with_reducible rfl⟩, fun _ => by rfl⟩ ?_
                (try simp only [Act.put, List.setIfInBounds_toArray, List.set_cons_zero, List.set_cons_succ])
                refine wpAnyIn_take (i := 27) (oi := { dst := some 6, op := _, type := _, pos := _, after := _, guard := none }) rfl rfl (by kernel_rfl) (by kernel_rfl) (by kernel_rfl) (fun _ _ _ h => h) ⟨Or.inl ⟨by rfl, fun _ => by go_simp <;> with_reducible rfl⟩, fun _ => by rfl⟩ ?_
                (try simp only [Act.put, List.setIfInBounds_toArray, List.set_cons_zero, List.set_cons_succ])
                refine wpAnyIn_done (by kernel_rfl) ?_ _
                (gi_wp2; go_ret; exact .inl ⟨rfl, by simpa [List.append_assoc] using hJ3, n2.trans n3⟩)
              · refine hK _ _ ?_
                clear hK K
                (try simp only [Act.put, List.setIfInBounds_toArray, List.set_cons_zero, List.set_cons_succ])
                refine wpAnyIn_take (i := 26) (oi := { dst := some 50, op := _, type := _, pos := _, after := _, guard := none }) rfl rfl (by kernel_rfl) (by kernel_rfl) (by kernel_rfl) (fun _ _ _ h => h) ⟨Or.inl ⟨by rfl, fun _ => by go_simp <;> with_reducible rfl⟩, fun _ => by rfl⟩ ?_
                (try simp only [Act.put, List.setIfInBounds_toArray, List.set_cons_zero, List.set_cons_succ])
                refine wpAnyIn_take (i := 27) (oi := { dst := some 6, op := _, type := _, pos := _, after := _, guard := none }) rfl rfl (by kernel_rfl) (by kernel_rfl) (by kernel_rfl) (fun _ _ _ h => h) ⟨Or.inl ⟨by rfl, fun _ => by go_simp <;> with_reducible rfl⟩, fun _ => by rfl⟩ ?_
                (try simp only [Act.put, List.setIfInBounds_toArray, List.set_cons_zero, List.set_cons_succ])
                refine wpAnyIn_done (by kernel_rfl) ?_ _
                (gi_wp2; go_ret; obtain ⟨r, hr'⟩ := hq; exact .inr ⟨rfl, A ++ x :: q, ⟨r, by simp [← hr']⟩, by simpa [List.append_assoc] using hx3⟩)
            · refine hK _ _ ?_
              clear hK K
              (try simp only [Act.put, List.setIfInBounds_toArray, List.set_cons_zero, List.set_cons_succ])
              refine wpAnyIn_take (i := 18) (oi := { dst := some 42, op := _, type := _, pos := _, after := _, guard := none }) rfl rfl (by kernel_rfl) (by kernel_rfl) (by kernel_rfl) (fun _ _ _ h => h) ⟨Or.inl ⟨by rfl, fun _ => by go_simp <;> with_reducible rfl⟩, fun _ => by rfl⟩ ?_
              (try simp only [Act.put, List.setIfInBounds_toArray, List.set_cons_zero, List.set_cons_succ])
              refine wpAnyIn_take (i := 19) (oi := { dst := some 43, op := _, type := _, pos := _, after := _, guard := none }) rfl rfl (by kernel_rfl) (by kernel_rfl) (by kernel_rfl) (fun _ _ _ h => h) ⟨Or.inl ⟨by rfl, fun _ => by go_simp <;> with_reducible rfl⟩, fun _ => by rfl⟩ ?_
              (try simp only [Act.put, List.setIfInBounds_toArray, List.set_cons_zero, List.set_cons_succ])
              refine wpAnyIn_take (i := 20) (oi := { dst := some 44, op := _, type := _, pos := _, after := _, guard := some (19, true) }) (v := undef) rfl rfl (by kernel_rfl) (by kernel_rfl) (by kernel_rfl) (fun _ _ _ h => h) ⟨Or.inr ⟨by rfl, rfl⟩, fun _ => by rfl⟩ ?_
              (try simp only [Act.put, List.setIfInBounds_toArray, List.set_cons_zero, List.set_cons_succ])
              refine wpAnyIn_take (i := 21) (oi := { dst := some 45, op := _, type := _, pos := _, after := _, guard := some (19, true) }) (v := undef) rfl rfl (by kernel_rfl) (by kernel_rfl) (by kernel_rfl) (fun _ _ _ h => h) ⟨Or.inr ⟨by rfl, rfl⟩, fun _ => by rfl⟩ ?_
              (try simp only [Act.put, List.setIfInBounds_toArray, List.set_cons_zero, List.set_cons_succ])
              refine wpAnyIn_take (i := 22) (oi := { dst := some 46, op := _, type := _, pos := _, after := _, guard := some (19, true) }) (v := undef) rfl rfl (by kernel_rfl) (by kernel_rfl) (by kernel_rfl) (fun _ _ _ h => h) ⟨Or.inr ⟨by rfl, rfl⟩, fun _ => by rfl⟩ ?_
              (try simp only [Act.put, List.setIfInBounds_toArray, List.set_cons_zero, List.set_cons_succ])
              refine wpAnyIn_take (i := 23) (oi := { dst := some 47, op := _, type := _, pos := _, after := _, guard := some (19, true) }) (v := undef) rfl rfl (by kernel_rfl) (by kernel_rfl) (by kernel_rfl) (fun _ _ _ h => h) ⟨Or.inr ⟨by rfl, rfl⟩, fun _ => by rfl⟩ ?_
              (try simp only [Act.put, List.setIfInBounds_toArray, List.set_cons_zero, List.set_cons_succ])
              refine wpAnyIn_take (i := 24) (oi := { dst := some 48, op := _, type := _, pos := _, after := _, guard := some (19, true) }) (v := undef) rfl rfl (by kernel_rfl) (by kernel_rfl) (by kernel_rfl) (fun _ _ _ h => h) ⟨Or.inr ⟨by rfl, rfl⟩, fun _ => by rfl⟩ ?_
              (try simp only [Act.put, List.setIfInBounds_toArray, List.set_cons_zero, List.set_cons_succ])
              refine wpAnyIn_ready (rs := [25]) (by kernel_rfl) (by simp) (AllReadyIn.cons (o := { dst := some 49, op := _, type := _, pos := _, after := _, guard := some (19, true) }) rfl (fun K hK => ?_) AllReadyIn.nil)
              go_simp
              refine ⟨?_, ?_⟩
              · first | trivial | (intros; trivial)
              refine hK _ _ ?_
              clear hK K
              (try simp only [Act.put, List.setIfInBounds_toArray, List.set_cons_zero, List.set_cons_succ])
              refine wpAnyIn_take (i := 26) (oi := { dst := some 50, op := _, type := _, pos := _, after := _, guard := none }) rfl rfl (by kernel_rfl) (by kernel_rfl) (by kernel_rfl) (fun _ _ _ h => h) ⟨Or.inl ⟨by rfl, fun _ => by go_simp <;> with_reducible rfl⟩, fun _ => by rfl⟩ ?_
              (try simp only [Act.put, List.setIfInBounds_toArray, List.set_cons_zero, List.set_cons_succ])
              refine wpAnyIn_take (i := 27) (oi := { dst := some 6, op := _, type := _, pos := _, after := _, guard := none }) rfl rfl (by kernel_rfl) (by kernel_rfl) (by kernel_rfl) (fun _ _ _ h => h) ⟨Or.inl ⟨by rfl, fun _ => by go_simp <;> with_reducible rfl⟩, fun _ => by rfl⟩ ?_
              (try simp only [Act.put, List.setIfInBounds_toArray, List.set_cons_zero, List.set_cons_succ])
              refine wpAnyIn_done (by kernel_rfl) ?_ _
              (gi_wp2; go_ret; exact .inr ⟨rfl, A ++ [x], ⟨tr.flat, by simp⟩, by simpa [List.append_assoc] using hx2⟩)
      · refine hK _ _ ?_
        clear hK K
        (try simp only [Act.put, List.setIfInBounds_toArray, List.set_cons_zero, List.set_cons_succ])
        refine wpAnyIn_take (i := 7) (oi := { dst := some 31, op := _, type := _, pos := _, after := _, guard := none }) rfl rfl (by kernel_rfl) (by kernel_rfl) (by kernel_rfl) (fun _ _ _ h => h) ⟨Or.inl ⟨by rfl, fun _ => by go_simp <;> with_reducible rfl⟩, fun _ => by rfl⟩ ?_
        (try simp only [Act.put, List.setIfInBounds_toArray, List.set_cons_zero, List.set_cons_succ])
        refine wpAnyIn_take (i := 8) (oi := { dst := some 32, op := _, type := _, pos := _, after := _, guard := some (7, true) }) (v := undef) rfl rfl (by kernel_rfl) (by kernel_rfl) (by kernel_rfl) (fun _ _ _ h => h) ⟨Or.inr ⟨by rfl, rfl⟩, fun _ => by rfl⟩ ?_
        (try simp only [Act.put, List.setIfInBounds_toArray, List.set_cons_zero, List.set_cons_succ])
        refine wpAnyIn_take (i := 9) (oi := { dst := some 33, op := _, type := _, pos := _, after := _, guard := some (7, true) }) (v := undef) rfl rfl (by kernel_rfl) (by kernel_rfl) (by kernel_rfl) (fun _ _ _ h => h) ⟨Or.inr ⟨by rfl, rfl⟩, fun _ => by rfl⟩ ?_
        (try simp only [Act.put, List.setIfInBounds_toArray, List.set_cons_zero, List.set_cons_succ])
        refine wpAnyIn_take (i := 10) (oi := { dst := some 34, op := _, type := _, pos := _, after := _, guard := some (7, true) }) (v := undef) rfl rfl (by kernel_rfl) (by kernel_rfl) (by kernel_rfl) (fun _ _ _ h => h) ⟨Or.inr ⟨by rfl, rfl⟩, fun _ => by rfl⟩ ?_
        (try simp only [Act.put, List.setIfInBounds_toArray, List.set_cons_zero, List.set_cons_succ])
        refine wpAnyIn_take (i := 11) (oi := { dst := some 35, op := _, type := _, pos := _, after := _, guard := some (7, true) }) (v := undef) rfl rfl (by kernel_rfl) (by kernel_rfl) (by kernel_rfl) (fun _ _ _ h => h) ⟨Or.inr ⟨by rfl, rfl⟩, fun _ => by rfl⟩ ?_
        (try simp only [Act.put, List.setIfInBounds_toArray, List.set_cons_zero, List.set_cons_succ])
        refine wpAnyIn_take (i := 12) (oi := { dst := some 36, op := _, type := _, pos := _, after := _, guard := some (7, true) }) (v := undef) rfl rfl (by kernel_rfl) (by kernel_rfl) (by kernel_rfl) (fun _ _ _ h => h) ⟨Or.inr ⟨by rfl, rfl⟩, fun _ => by rfl⟩ ?_
        (try simp only [Act.put, List.setIfInBounds_toArray, List.set_cons_zero, List.set_cons_succ])
        refine wpAnyIn_take (i := 13) (oi := { dst := some 37, op := _, type := _, pos := _, after := _, guard := some (7, true) }) (v := undef) rfl rfl (by kernel_rfl) (by kernel_rfl) (by kernel_rfl) (fun _ _ _ h => h) ⟨Or.inr ⟨by rfl, rfl⟩, fun _ => by rfl⟩ ?_
        (try simp only [Act.put, List.setIfInBounds_toArray, List.set_cons_zero, List.set_cons_succ])
        refine wpAnyIn_take (i := 14) (oi := { dst := some 38, op := _, type := _, pos := _, after := _, guard := some (7, true) }) (v := undef) rfl rfl (by kernel_rfl) (by kernel_rfl) (by kernel_rfl) (fun _ _ _ h => h) ⟨Or.inr ⟨by rfl, rfl⟩, fun _ => by rfl⟩ ?_
        (try simp only [Act.put, List.setIfInBounds_toArray, List.set_cons_zero, List.set_cons_succ])
        refine wpAnyIn_take (i := 15) (oi := { dst := some 39, op := _, type := _, pos := _, after := _, guard := some (7, true) }) (v := undef) rfl rfl (by kernel_rfl) (by kernel_rfl) (by kernel_rfl) (fun _ _ _ h => h) ⟨Or.inr ⟨by rfl, rfl⟩, fun _ => by rfl⟩ ?_
        (try simp only [Act.put, List.setIfInBounds_toArray, List.set_cons_zero, List.set_cons_succ])
        refine wpAnyIn_take (i := 16) (oi := { dst := some 40, op := _, type := _, pos := _, after := _, guard := some (7, true) }) (v := undef) rfl rfl (by kernel_rfl) (by kernel_rfl) (by kernel_rfl) (fun _ _ _ h => h) ⟨Or.inr ⟨by rfl, rfl⟩, fun _ => by rfl⟩ ?_
        (try simp only [Act.put, List.setIfInBounds_toArray, List.set_cons_zero, List.set_cons_succ])
        refine wpAnyIn_ready (rs := [17]) (by kernel_rfl) (by simp) (AllReadyIn.cons (o := { dst := some 41, op := _, type := _, pos := _, after := _, guard := some (7, true) }) rfl (fun K hK => ?_) AllReadyIn.nil)
        go_simp
        refine ⟨?_, ?_⟩
        · first | trivial | (intros; trivial)
        refine hK _ _ ?_
        clear hK K
        (try simp only [Act.put, List.setIfInBounds_toArray, List.set_cons_zero, List.set_cons_succ])
        refine wpAnyIn_take (i := 18) (oi := { dst := some 42, op := _, type := _, pos := _, after := _, guard := none }) rfl rfl (by kernel_rfl) (by kernel_rfl) (by kernel_rfl) (fun _ _ _ h => h) ⟨Or.inl ⟨by rfl, fun _ => by go_simp <;> with_reducible rfl⟩, fun _ => by rfl⟩ ?_
        (try simp only [Act.put, List.setIfInBounds_toArray, List.set_cons_zero, List.set_cons_succ])
        refine wpAnyIn_take (i := 19) (oi := { dst := some 43, op := _, type := _, pos := _, after := _, guard := none }) rfl rfl (by kernel_rfl) (by kernel_rfl) (by kernel_rfl) (fun _ _ _ h => h) ⟨Or.inl ⟨by rfl, fun _ => by go_simp <;> with_reducible rfl⟩, fun _ => by rfl⟩ ?_
        (try simp only [Act.put, List.setIfInBounds_toArray, List.set_cons_zero, List.set_cons_succ])
        refine wpAnyIn_take (i := 20) (oi := { dst := some 44, op := _, type := _, pos := _, after := _, guard := some (19, true) }) (v := undef) rfl rfl (by kernel_rfl) (by kernel_rfl) (by kernel_rfl) (fun _ _ _ h => h) ⟨Or.inr ⟨by rfl, rfl⟩, fun _ => by rfl⟩ ?_
        (try simp only [Act.put, List.setIfInBounds_toArray, List.set_cons_zero, List.set_cons_succ])
        refine wpAnyIn_take (i := 21) (oi := { dst := some 45, op := _, type := _, pos := _, after := _, guard := some (19, true) }) (v := undef) rfl rfl (by kernel_rfl) (by kernel_rfl) (by kernel_rfl) (fun _ _ _ h => h) ⟨Or.inr ⟨by rfl, rfl⟩, fun _ => by rfl⟩ ?_
        (try simp only [Act.put, List.setIfInBounds_toArray, List.set_cons_zero, List.set_cons_succ])
        refine wpAnyIn_take (i := 22) (oi := { dst := some 46, op := _, type := _, pos := _, after := _, guard := some (19, true) }) (v := undef) rfl rfl (by kernel_rfl) (by kernel_rfl) (by kernel_rfl) (fun _ _ _ h => h) ⟨Or.inr ⟨by rfl, rfl⟩, fun _ => by rfl⟩ ?_
        (try simp only [Act.put, List.setIfInBounds_toArray, List.set_cons_zero, List.set_cons_succ])
        refine wpAnyIn_take (i := 23) (oi := { dst := some 47, op := _, type := _, pos := _, after := _, guard := some (19, true) }) (v := undef) rfl rfl (by kernel_rfl) (by kernel_rfl) (by kernel_rfl) (fun _ _ _ h => h) ⟨Or.inr ⟨by rfl, rfl⟩, fun _ => by rfl⟩ ?_
        (try simp only [Act.put, List.setIfInBounds_toArray, List.set_cons_zero, List.set_cons_succ])
        refine wpAnyIn_take (i := 24) (oi := { dst := some 48, op := _, type := _, pos := _, after := _, guard := some (19, true) }) (v := undef) rfl rfl (by kernel_rfl) (by kernel_rfl) (by kernel_rfl) (fun _ _ _ h => h) ⟨Or.inr ⟨by rfl, rfl⟩, fun _ => by rfl⟩ ?_
        (try simp only [Act.put, List.setIfInBounds_toArray, List.set_cons_zero, List.set_cons_succ])
        refine wpAnyIn_ready (rs := [25]) (by kernel_rfl) (by simp) (AllReadyIn.cons (o := { dst := some 49, op := _, type := _, pos := _, after := _, guard := some (19, true) }) rfl (fun K hK => ?_) AllReadyIn.nil)
        go_simp
        refine ⟨?_, ?_⟩
        · first | trivial | (intros; trivial)
        refine hK _ _ ?_
        clear hK K
        (try simp only [Act.put, List.setIfInBounds_toArray, List.set_cons_zero, List.set_cons_succ])
        refine wpAnyIn_take (i := 26) (oi := { dst := some 50, op := _, type := _, pos := _, after := _, guard := none }) rfl rfl (by kernel_rfl) (by kernel_rfl) (by kernel_rfl) (fun _ _ _ h => h) ⟨Or.inl ⟨by rfl, fun _ => by go_simp <;> with_reducible rfl⟩, fun _ => by rfl⟩ ?_
        (try simp only [Act.put, List.setIfInBounds_toArray, List.set_cons_zero, List.set_cons_succ])
        refine wpAnyIn_take (i := 27) (oi := { dst := some 6, op := _, type := _, pos := _, after := _, guard := none }) rfl rfl (by kernel_rfl) (by kernel_rfl) (by kernel_rfl) (fun _ _ _ h => h) ⟨Or.inl ⟨by rfl, fun _ => by go_simp <;> with_reducible rfl⟩, fun _ => by rfl⟩ ?_
        (try simp only [Act.put, List.setIfInBounds_toArray, List.set_cons_zero, List.set_cons_succ])
        refine wpAnyIn_done (by kernel_rfl) ?_ _
        (gi_wp2; go_ret; exact .inr ⟨rfl, q, hq.trans (List.prefix_append _ _), hx1⟩)
end Go.Proofs.Ytkdghmbglaghlaa.Ti
namespace Go.Proofs.Ytkdghmbglaghlaa.Ti
open Go.RowKit Go.Shelf Sh
attribute [local go_sem] Oper.semAt_some fold_none

theorem keyOnly_calls (w : World) (l : Nat) :
    Calls Try.prog 65 #[.func (.yield l) #[] #[]] w fun e w' => e = .returned (.func (.func 84) #[] #[.pointer (some ⟨w.heap.size, 0, none⟩)]) ∧ w' = w.alloc (.cells #[.func (.yield l) #[] #[]] 30) := by
  go_enter Try.func65, Try.ntmps65
  go_wp2
  go_ret
  exact ⟨rfl, rfl⟩
theorem SetAll_calls (w : World) (a : Option Addr) :
    Calls Try.prog 40 #[.pointer a] w fun e w' => e = .returned (.func (.func 63) #[] #[.pointer (some ⟨w.heap.size, 0, none⟩)]) ∧ w' = w.alloc (.cells #[.pointer a] 25) := by
  go_enter Try.func40, Try.ntmps40
  go_wp2
  go_ret
  exact ⟨rfl, rfl⟩
theorem SetFrom_calls (w : World) (a : Option Addr) (k : Int) :
    Calls Try.prog 51 #[.pointer a, .int .i64 k] w fun e w' => e = .returned (.func (.func 74) #[] #[.pointer (some ⟨w.heap.size, 0, none⟩), .pointer (some ⟨w.heap.size + 1, 0, none⟩)]) ∧ w' = (w.alloc (.cells #[.pointer a] 25)).alloc (.cells #[.int .i64 k] 3) := by
  go_enter Try.func51, Try.ntmps51
  go_wp2
  go_ret
  exact ⟨rfl, rfl⟩

theorem keeps_put {w : World} (W : World) (l : Nat) (o o' : Obj) (_ : w.heap.size ≤ l) (h : W.heap[l]? = some o) (hc : o.isCells = false) (_ : o.isWalk = false) : Keeps W (W.putObj l o') := by
  refine ⟨fun b c z hb => ?_, fun b c z hb => ?_⟩ <;>
    (refine (World.putObj_heap_other fun e => ?_).trans hb
     subst e
     rw [hb] at h
     cases h
     cases hc)
theorem Keeps.trans {A B C : World} (h : Keeps A B) (g : Keeps B C) : Keeps A C := ⟨h.1.trans g.1, fun b c z hb => g.2 b c z (h.2 b c z hb)⟩
theorem keeps_below {A B : World} (h : Below A.heap.size A B) : Keeps A B := ⟨nodes_below h, fns_below h⟩
/-- the box of a function value stays where function values stay -/
theorem abide_box {J : List Int → World → Prop} (hJ : ∀ s A B, J s A → A.grownBy B none → J s B) {b : Nat} {f : Value} : ∀ s A B, (J s A ∧ Boxed A b 30 f) → A.grownBy B none → (J s B ∧ Boxed B b 30 f) :=
  fun s A B h hg => ⟨hJ s A B h.1 hg, h.2.kept hg (by simp)⟩

set_option maxHeartbeats 2000000 in
/-- what a set's iterator does: its things, rising -/
theorem setAll1_stops (n : Nat) (w : World) (B : Nat) (a : Option Addr) (L : List Int) (hB : w.cell? ⟨B, 0, none⟩ = some (.pointer a)) (hA : SetAt w a L) :
    SeqStopsK Fence.wide n Try.prog 63 #[.pointer (some ⟨B, 0, none⟩)] (fun x : Int => #[.int .i64 x]) Keeps (fun ys => ys = L) (fun pre => pre <+: L) L.length w := fun l J Jx W hW hJ hJx hY h0 => by
  have hlt : B < w.heap.size := World.block_lt_of_cell? w _ hB
  have hB' : W.cell? ⟨B, 0, none⟩ = some (.pointer a) := (hW.cell (p := ⟨B, 0, none⟩) hlt).trans hB
  have hJ' : ∀ s A B, J s A → A.grownBy B none → J s B := fun s A B hs hg => hJ s A B none hs hg (fun r e => by cases e)
  have hK := Lib.hid (setKeys_calls W a (hA.addr))
  have hT := Lib.hid (tree_calls W _ a L (hA.next hW))
  have hO := Lib.hid (keyOnly_calls W l)
  have hBx := Boxed.new W 30 (.func (.yield l) #[] #[])
  have hw := Lib.hid fun p T (h2 : IsTree W p T) (h3 : T.flat = L) => walkC_in W.heap.size L.length (fun s A => J s A ∧ Boxed A W.heap.size 30 (.func (.yield l) #[] #[])) Jx (abide_box hJ')
    (fun m pre x W1 h1 h2 => keyOnly1_in l W.heap.size L.length J Jx hJ' (fun m pre x W h1 h2 => YieldAt.any m (hY pre x W h1 h2)) m pre x W1 h1.1 h1.2 h2) T (n - 1) p [] (W.alloc (.cells #[.func (.yield l) #[] #[]] 30)) (h2.next (b_alloc _ _)) ⟨hJ' _ _ _ h0 (World.grownBy_alloc W _ none), hBx⟩ (by rw [h3]; simp)
  clear hY hJ hJx hW h0 hA hB hJ' hBx
  show CallsIn Fence.wide n Try.prog 63 #[.func (.yield l) #[] #[], .pointer (some ⟨B, 0, none⟩)] W _
  refine callsIn_of_wp Try.func63 rfl trivial ?_ rfl
  simp only [Try.ntmps63, List.size_toArray, List.length_cons, List.length_nil, Nat.reduceAdd, Nat.reduceSub, Array.replicate_succ, Array.replicate_zero, List.push_toArray, List.append_toArray, List.nil_append, List.cons_append]
  gi_wp2_with (first
    | (refine ⟨trivial, deep _, ?_⟩; gi_at_call 45; refine (callsIn_wide.2 hK.out).mono ?_; rintro e w1 ⟨rfl, hq⟩; obtain rfl := hq.symm; clear hq)
    | (refine ⟨trivial, deep _, ?_⟩; gi_at_call 49; refine (callsIn_wide.2 hT.out).mono ?_; rintro e w1 ⟨⟨p, T, rfl, h2, h3⟩, hq⟩; obtain rfl := hq.symm; clear hq; have hw2 := Lib.hid (hw.out p T h2 h3); replace h3 := Lib.hid h3; clear hT hw h2)
    | (refine ⟨trivial, deep _, ?_⟩; gi_at_call 65; refine (callsIn_wide.2 hO.out).mono ?_; rintro e w1 ⟨rfl, rfl⟩)
    | (refine ⟨trivial, deep _, ?_⟩; gi_at_call 64; refine hw2.out.mono ?_; clear hw2; rintro e W1 (⟨rfl, hJ1, _⟩ | ⟨rfl, q, hq, hx⟩)))
  · go_end0
    exact ⟨⟨_, rfl⟩, .inl ⟨_, h3.out, by simpa using hJ1.1⟩⟩
  · go_end0
    exact ⟨⟨_, rfl⟩, .inr ⟨q, h3.out ▸ hq, by simpa using hx⟩⟩
end Go.Proofs.Ytkdghmbglaghlaa.Ti
namespace Go.Proofs.Ytkdghmbglaghlaa.Ts
open Go.RowKit Go.Shelf Sh
attribute [local go_sem] Oper.semAt_some fold_none

/-- the box of a function value stays where function values stay -/
theorem abide_box {J : List ByteArray → World → Prop} (hJ : ∀ s A B, J s A → A.grownBy B none → J s B) {b : Nat} {f : Value} : ∀ s A B, (J s A ∧ Boxed A b 53 f) → A.grownBy B none → (J s B ∧ Boxed B b 53 f) :=
  fun s A B h hg => ⟨hJ s A B h.1 hg, h.2.kept hg (by simp)⟩

end Go.Proofs.Ytkdghmbglaghlaa.Ts
namespace Go.Proofs.Ytkdghmbglaghlaa.Ti
open Go.RowKit Go.Shelf Sh
attribute [local go_sem] fold_none
set_option maxRecDepth 100000 in
set_option maxHeartbeats 4000000 in
/-- what a set's iterator from a thing on does -/
theorem setFrom1_stops (n : Nat) (w : World) (B C : Nat) (a : Option Addr) (k : Int) (L : List Int) (hB : w.cell? ⟨B, 0, none⟩ = some (.pointer a)) (hC : w.cell? ⟨C, 0, none⟩ = some (.int .i64 k)) (hA : SetAt w a L) (hR : Rises L) :
    SeqStopsK Fence.wide n Try.prog 74 #[.pointer (some ⟨B, 0, none⟩), .pointer (some ⟨C, 0, none⟩)] (fun x : Int => #[.int .i64 x]) Keeps (fun ys => ys = abv k L) (fun pre => pre <+: abv k L) (abv k L).length w := fun l J Jx W hW hJ hJx hY h0 => by
  have hlt : B < w.heap.size := World.block_lt_of_cell? w _ hB
  have hlt2 : C < w.heap.size := World.block_lt_of_cell? w _ hC
  have hS := Lib.hid fun w' (h : Below W.heap.size W w') => And.intro ((h.cell (p := ⟨B, 0, none⟩) (Nat.lt_of_lt_of_le hlt hW.size)).trans ((hW.cell (p := ⟨B, 0, none⟩) hlt).trans hB)) ((h.cell (p := ⟨C, 0, none⟩) (Nat.lt_of_lt_of_le hlt2 hW.size)).trans ((hW.cell (p := ⟨C, 0, none⟩) hlt2).trans hC))
  have hJ' : ∀ s A B, J s A → A.grownBy B none → J s B := fun s A B hs hg => hJ s A B none hs hg (fun r e => by cases e)
  have hK := Lib.hid fun w' => setKeys_calls w' a (hA.addr)
  have hT := Lib.hid fun w' (h : Below W.heap.size W w') => tree_calls w' _ a L ((hA.next hW).next h)
  have hO := Lib.hid fun w' => keyOnly_calls w' l
  have hw : Hid (∀ p T, IsTree (W.drew.alloc (.cells #[.func (.yield l) #[] #[]] 30)) p T → T.flat = L → Calls Try.prog 75 #[.pointer p, .int .i64 k, .func (.func 84) #[] #[.pointer (some ⟨W.heap.size, 0, none⟩)]] (W.drew.alloc (.cells #[.func (.yield l) #[] #[]] 30)) fun e W' =>
      ∃ z, e = .returned (.bool z) ∧ ((z = true ∧ J (abv k L) W') ∨ (z = false ∧ ∃ q, q <+: abv k L ∧ Jx q W'))) := Lib.hid fun p T h2 h3 => by
    have hBx : Boxed (W.drew.alloc (.cells #[.func (.yield l) #[] #[]] 30)) W.heap.size 30 (.func (.yield l) #[] #[]) := Boxed.new W.drew _ _
    have hg : W.grownBy (W.drew.alloc (.cells #[.func (.yield l) #[] #[]] 30)) none := by
      have h1 := World.grownBy_alloc W.drew (.cells #[.func (.yield l) #[] #[]] 30) none
      exact ⟨h1.os, h1.tape, h1.output, h1.size, h1.block⟩
    refine (callsIn_wide.1 (walkFromC_in k W.heap.size (abv k L).length (fun s A => J s A ∧ Boxed A W.heap.size 30 (.func (.yield l) #[] #[])) Jx (abide_box hJ')
      (fun m pre x W1 h1 h2 => keyOnly1_in l W.heap.size (abv k L).length J Jx hJ' (fun m pre x W h1 h2 => YieldAt.any m (hY pre x W h1 h2)) m pre x W1 h1.1 h1.2 h2) T n p [] _ h2 (h3 ▸ hR) ⟨hJ' _ _ _ h0 hg, hBx⟩ (by rw [h3]; simp))).mono ?_
    rintro e W' (⟨rfl, h5, _⟩ | ⟨rfl, q, hq, hx⟩)
    · exact ⟨true, rfl, Or.inl ⟨rfl, by rw [h3] at h5; simpa using h5.1⟩⟩
    · exact ⟨false, rfl, Or.inr ⟨rfl, q, by rw [h3] at hq; exact hq, by simpa using hx⟩⟩
  clear hY hJ hJx hW h0 hA hB hC hJ' hR hlt hlt2
  refine callsIn_wide.2 ?_
  show Calls Try.prog 74 #[.func (.yield l) #[] #[], .pointer (some ⟨B, 0, none⟩), .pointer (some ⟨C, 0, none⟩)] W _
  have bd := b_drew W
  have hs0 := hS.out _ bd
  go_enter Try.func74, Try.ntmps74
  go_wp2_with fail
  obtain ⟨s0, s1⟩ := hs0
  obtain ⟨s2, s3⟩ := hS.out _ (b_alloc W (.cells #[.func (.yield l) #[] #[]] 30))
  go_region_law (first
      | (go_simp; go_at_call 45; refine (hK.out _).mono ?_; rintro e w1 ⟨rfl, rfl⟩)
      | (go_simp; go_at_call 49; refine (hT.out _ (by first | exact bd | exact b_then bd (b_alloc _ _))).mono ?_; rintro e w1 ⟨⟨p, T, rfl, h2, h3⟩, rfl⟩; replace h3 := Lib.hid h3)
      | (go_simp; go_at_call 65; refine (hO.out _).mono ?_; rintro e w1 ⟨rfl, rfl⟩)
      | (go_simp; go_at_call 75; refine (hw.out _ _ (by first | exact h2 | exact IsTree.next h2 (b_alloc _ _)) h3.out).mono ?_; rintro e W1 ⟨z, rfl, h9⟩))
  all_goals
    go_wp2
    go_end0
    rcases h9 with ⟨rfl, h5⟩ | ⟨rfl, q, hq, hx⟩
    · exact ⟨⟨_, rfl⟩, .inl ⟨_, rfl, h5⟩⟩
    · exact ⟨⟨_, rfl⟩, .inr ⟨q, hq, hx⟩⟩
end Go.Proofs.Ytkdghmbglaghlaa.Ti
