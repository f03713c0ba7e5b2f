/-
  Of every list of texts: the list of the set made of it rises, has each of its things once, and just these (SetRises). Conditions: none.
-/
import Derived.Test.YtkdghmbglaghlaaGreatRows
import Derived.Test.YtkdghmbglaghlaaGreatOctKit
import Derived.Test.YtkdghmbglaghlaaGreatShAwake
import Derived.Test.YtkdghmbglaghlaaGreatShCount
import Derived.ProofKit
import Derived.OpenShut
import Derived.Stop.Joined
import Derived.Deep.AppendLies
namespace Go.Proofs.YtkdghmbglaghlaaGreat.setRises
open Go Go.ChangeShapes Go.WideShapes Go.ChangeAt Go.RowKit Sh
open Ts (SetAt Makes IsOf Reads keysV)
attribute [local go_sem] fold_none

theorem reads_texts {W : World} {a : Option Addr} {len cap b off : Nat} {T : Nat → ByteArray} (h : Oct.TextsAt W a b off len T) : Reads W.heap.size W (.slice a ((List.range len).map T).length cap) ((List.range len).map T) :=
  ⟨a, cap, rfl, fun h0 => ⟨b, off, h.addr (by simpa using h0), World.block_lt_of_cell? W _ (h.cell 0 (by simpa using h0)), fun j hj => by
    have hj' : j < len := by simpa using hj
    rw [h.cell j hj']
    simp [hj']⟩⟩
theorem Makes.of {w : World} {L : List ByteArray} {e : Ending} {w' : World} (h : Makes w L e w') : ∃ b, e = .returned (.pointer (some ⟨b, 0, none⟩)) ∧ SetAt w' (some ⟨b, 0, none⟩) L ∧ Below w.heap.size w w' := by
  obtain ⟨b, h1, _, h2, h3⟩ := h
  exact ⟨b, h1, h2, h3⟩
theorem text_eq {a b : ByteArray} (h : a = b) : (a.toList == b.toList) = true := by rw [h]; exact beq_self_eq_true _
theorem text_ne {a b : ByteArray} (h : a ≠ b) : (a.toList == b.toList) = false := beq_eq_false_iff_ne.2 fun e => h (bytes_ext e)
/-- whether one of the first k is x -/
def Among (M : List ByteArray) (x : ByteArray) (k : Nat) (z : Bool) : Prop := z = true ↔ ∃ j, j < k ∧ M[j]?.getD default = x
theorem among_none (M : List ByteArray) (x : ByteArray) : Among M x 0 false := ⟨fun h => (nomatch h), fun ⟨j, h, _⟩ => by omega⟩
theorem among_keep {M : List ByteArray} {x : ByteArray} {k : Nat} (h : Among M x k true) : Among M x (k + 1) true := ⟨fun _ => by obtain ⟨j, h1, h2⟩ := h.1 rfl; exact ⟨j, by omega, h2⟩, fun _ => rfl⟩
theorem among_yes {M : List ByteArray} {x : ByteArray} {k : Nat} (h : M[k]?.getD default = x) : Among M x (k + 1) true := ⟨fun _ => ⟨k, by omega, h⟩, fun _ => rfl⟩
theorem among_no {M : List ByteArray} {x : ByteArray} {k : Nat} (h : Among M x k false) (he : M[k]?.getD default ≠ x) : Among M x (k + 1) false := ⟨fun h => (nomatch h), fun ⟨j, h1, h2⟩ => by
  by_cases e : j = k
  · rw [e] at h2; exact absurd h2 he
  · exact h.2 ⟨j, by omega, h2⟩⟩
theorem among_all {M : List ByteArray} {x : ByteArray} {z : Bool} (h : Among M x M.length z) (hx : x ∈ M) : z = true := by
  obtain ⟨j, h1, h2⟩ := List.getElem_of_mem hx
  exact h.2 ⟨j, h1, by rw [List.getElem?_eq_getElem h1]; exact h2⟩

set_option maxHeartbeats 16000000 in
set_option maxRecDepth 100000 in
theorem walk (w : World) (s1 : Option Addr) (c1 na : Nat) (M : List ByteArray) (hna : M.length = na) (hv : Reads w.heap.size w (.slice s1 na c1) M) :
    Calls Tryz.prog 4 #[.slice s1 na c1] w fun e w' => e = .returned (.bool true) ∧ Below w.heap.size w w' := by
  have hAw := Lib.hid (Law.awake_calls w)
  by_cases g1 : 300 < na
  · have d1 : (300 : Int) < na := by omega
    clear hv hna
    go_enter Tryz.func4, Tryz.ntmps4
    go_wp2_with (go_at_call 5; refine hAw.out.mono ?_; rintro e w1 ⟨rfl, b1⟩)
    go_ret
    exact ⟨rfl, b1⟩
  have d1 : decide ((300 : Int) < na) = false := decide_eq_false (by omega)
  have d2 : (na : Int) ≤ 300 := by omega
  have hm : Hid (na ≤ 300) := Lib.hid (by omega)
  have hv0 := Lib.hid hv
  have hT : Hid (∀ W, Below w.heap.size w W → ∀ j, j < na → ∃ g off, s1 = some ⟨g, off, none⟩ ∧ W.cell? ⟨g, off + j, none⟩ = some (.string (M[j]?.getD default))) := Lib.hid fun W hW j hj => by
    obtain ⟨a, cap, e, h1⟩ := hv
    obtain ⟨rfl, _, rfl⟩ : s1 = a ∧ na = M.length ∧ c1 = cap := by simpa using e
    obtain ⟨g, off, ea, hg, hc⟩ := h1 (by omega)
    exact ⟨g, off, ea, (hW.cell (p := ⟨g, off + j, none⟩) hg).trans (hc j (by omega))⟩
  replace hna := Lib.hid hna
  clear hv g1
  go_enter Tryz.func4, Tryz.ntmps4
  go_wp2_with fail
  refine hAw.out.mono ?_
  rintro e w1 ⟨rfl, b1⟩
  have hOf := Ts.Of_calls w1 s1 c1 M (by have := hna.out; have := hm.out; omega) (by rw [hna.out]; obtain ⟨a', c', e, h1⟩ := hv0.out.below b1; exact ⟨a', c', e, fun h0 => by obtain ⟨g, off, ea, hg, hc⟩ := h1 h0; exact ⟨g, off, ea, Nat.lt_of_lt_of_le hg b1.size, hc⟩⟩)
  rw [hna.out] at hOf
  replace hOf := Lib.hid hOf
  replace b1 := Lib.hid b1
  clear hAw hv0
  go_wp2_with fail
  refine hOf.out.mono ?_
  rintro e w2 ⟨A, hA, hm2⟩
  obtain ⟨p, rfl, sA, b2'⟩ := Makes.of hm2
  have b2 := Lib.hid (b_then b1.out b2')
  have lA : Hid (A.length ≤ 300) := Lib.hid (by have := hA.2.2; have := hna.out; have := hm.out; omega)
  have rA := Lib.hid hA.1
  have mA := Lib.hid hA.2.1
  have hLi := Lib.hid (Ts.SetList_calls w2 _ A sA (by have := lA.out; omega))
  clear hOf b1 b2' hm2 hA
  go_wp2_with fail
  refine hLi.out.mono ?_
  rintro e w3 ⟨v4, rfl, ⟨ho, g, uc, rfl⟩, b3'⟩
  obtain ⟨n, hn⟩ : ∃ n, A.length = n := ⟨_, rfl⟩
  have hkl : (keysV A).length = n := by rw [Ts.keysV_len]; exact hn
  rw [hkl] at ho ⊢
  have hgl := ho.lt g rfl
  have hL : Hid (∀ W, Below w3.heap.size w3 W → ∀ j, j < n → W.cell? ⟨g, j, none⟩ = some (.string (A[j]?.getD default))) := Lib.hid fun W hW j hj => by
    have := World.ownsRow.cells ho (g := g) rfl j (.string (A[j]?.getD default)) (by simp [keysV, List.getElem?_eq_getElem (hn ▸ hj : j < A.length)])
    rw [Addr.add_mid, Nat.zero_add] at this
    exact (hW.cell (p := ⟨g, j, none⟩) hgl.2).trans this
  have b3 := Lib.hid (b_then b2.out b3')
  have hS := Lib.hid fun W (h : Below w3.heap.size w3 W) => (sA.next b3').next h
  have hup : Hid (∀ j, 0 < j → j < n → Key.lt (A[j - 1]?.getD default) (A[j]?.getD default) = true) := Lib.hid fun j h1 h2 => by
    have := List.pairwise_iff_getElem.1 rA.out (j - 1) j (by omega) (by omega) (by omega)
    rw [List.getElem?_eq_getElem (by omega), List.getElem?_eq_getElem (by omega)]
    exact this
  have hin : Hid (∀ j, j < n → A[j]?.getD default ∈ A) := Lib.hid fun j hj => by rw [List.getElem?_eq_getElem (by omega)]; exact List.getElem_mem _
  have hHas := Lib.hid fun W (h : Below w3.heap.size w3 W) x (hx : x ∈ A) => (by
    have h1 := Ts.Has_calls W _ A x (hS.out W h) rA.out
    rwa [(has_mem (fun a => rfl) x A).2 hx] at h1 : Calls Tryz.prog 13 #[.pointer (some ⟨p, 0, none⟩), .string x] W fun r w' => r = .returned (.bool true) ∧ Below W.heap.size W w')
  have hn9 : Hid (n ≤ 300) := Lib.hid (by have := lA.out; omega)
  replace hn := Lib.hid hn
  clear hLi ho b3' hkl sA b2 hgl
  go_wp2_with fail
  go_loopg [5] n (fun gg s5 wr => ∃ (i : Nat), s5 = .int .i64 (i : Int) ∧ i ≤ n ∧ n - i ≤ gg ∧ Hid (Below w3.heap.size w3 wr))
  case atStart => exact ⟨0, rfl, by omega, by omega, Lib.hid (Below.refl _ _)⟩
  case round =>
    obtain ⟨i, rfl, hi, hgg, hB⟩ := hrel
    by_cases hlt : i < n
    · have l1 : (i : Int) < n := by omega
      have l2 : (0 : Int) ≤ i := by omega
      have hms : Hid (n - (i + 1) < gk) := Lib.hid (by omega)
      have hkn : Hid (i + 1 ≤ n) := Lib.hid (by omega)
      have hw1 : IntKind.i64.wrap ((i : Int) + 1) = ((i + 1 : Nat) : Int) := wrap_nat (i + 1) (by have := hn9.out; omega)
      have hx := Lib.hid (hin.out i hlt)
      have hbr : Below w3.heap.size w3 wr.drew := b_then hB.out (b_drew _)
      have ci := hL.out wr hB.out i hlt
      have hH := Lib.hid (hHas.out wr.drew hbr _ hx.out)
      by_cases h0 : 0 < i
      · have ci1 := hL.out wr hB.out (i - 1) (by omega)
        have hlt2 := hup.out i h0 hlt
        generalize hy : A[i]?.getD default = y at *
        generalize hy0 : A[i - 1]?.getD default = y0 at *
        replace hy0 := Lib.hid hy0
        have hlt3 := Lib.hid hlt
        have p1 : Op.bytesLess y0.toList y.toList = true := hlt2
        have p2 : Op.bytesLess y.toList y0.toList = false := lt_asym (K := ByteArray) hlt2
        have p3 := text_ne (lt_ne (K := ByteArray) hlt2)
        have m1 : (0 : Int) < i := by omega
        obtain ⟨m, rfl⟩ : ∃ m, i = m + 1 := ⟨i - 1, by omega⟩
        rw [Nat.add_sub_cancel] at ci1 hy0
        have m2 : IntKind.i64.wrap (((m + 1 : Nat) : Int) - 1) = (m : Int) := by
          have : (((m + 1 : Nat) : Int) - 1) = (m : Int) := by omega
          rw [this]; exact wrap_nat m (by have := hn9.out; omega)
        have m3 : (m : Int) < n := by omega
        have m4 : (0 : Int) ≤ m := by omega
        generalize hm1 : m + 1 = i at *
        have m5 : 0 < i := by omega
        have m6 : decide (0 < i) = true := decide_eq_true m5
        replace hm1 := Lib.hid hm1
        replace hy := Lib.hid hy
        clear hlt hi hgg h0
        go_wp2_with fail
        have hk4 := Lib.hid fun W (h : Below wr.drew.heap.size wr.drew W) => (by have := hL.out W (b_then hbr h) i hlt3.out; rw [hy.out] at this; exact ⟨this, (by have := hL.out W (b_then hbr h) m (by have := hlt3.out; have := hm1.out; omega); rw [hy0.out] at this; exact this)⟩ : W.cell? ⟨g, i, none⟩ = some (.string y) ∧ W.cell? ⟨g, m, none⟩ = some (.string y0))
        refine wp_region_held_drew (S := (fun w' => w'.cell? ⟨g, i, none⟩ = some (.string y) ∧ w'.cell? ⟨g, m, none⟩ = some (.string y0))) (by kernel_rfl) (⟨ci, ci1⟩) (fun hHeld => ?_)
        refine wpAnyH_take (i := 0) (oi := { dst := some 26, op := _, type := _, pos := _, after := _, guard := none }) (v := ?vr1_0) rfl (by kernel_rfl) (by kernel_rfl) (by kernel_rfl) (fun _ _ _ h => h) (Or.inl ⟨by rfl, ?hyr1_0⟩) (by assumption) ?restr1_0
        case hyr1_0 => (intro w hSw; (try dsimp only at hSw); go_simp <;> with_reducible rfl)
        (try simp only [Act.put, List.setIfInBounds_toArray, List.set_cons_zero, List.set_cons_succ])
        refine wpAnyH_take (i := 1) (oi := { dst := some 27, op := _, type := _, pos := _, after := _, guard := none }) (v := ?vr1_1) rfl (by kernel_rfl) (by kernel_rfl) (by kernel_rfl) (fun _ _ _ h => h) (Or.inl ⟨by rfl, ?hyr1_1⟩) (by assumption) ?restr1_1
        case hyr1_1 => (intro w hSw; (try dsimp only at hSw); go_simp <;> with_reducible rfl)
        (try simp only [Act.put, List.setIfInBounds_toArray, List.set_cons_zero, List.set_cons_succ])
        refine wpAnyH_take (i := 2) (oi := { dst := some 28, op := _, type := _, pos := _, after := _, guard := none }) (v := ?vr1_2) rfl (by kernel_rfl) (by kernel_rfl) (by kernel_rfl) (fun _ _ _ h => h) (Or.inl ⟨by rfl, ?hyr1_2⟩) (by assumption) ?restr1_2
        case hyr1_2 => (intro w hSw; (try dsimp only at hSw); go_simp <;> with_reducible rfl)
        (try simp only [Act.put, List.setIfInBounds_toArray, List.set_cons_zero, List.set_cons_succ])
        refine wpAnyH_take (i := 3) (oi := { dst := some 29, op := _, type := _, pos := _, after := _, guard := some (2, true) }) (v := ?vr1_3) rfl (by kernel_rfl) (by kernel_rfl) (by kernel_rfl) (fun _ _ _ h => h) (Or.inl ⟨by rfl, ?hyr1_3⟩) (by assumption) ?restr1_3
        case hyr1_3 => (intro w hSw; (try dsimp only at hSw); go_simp <;> with_reducible rfl)
        (try simp only [Act.put, List.setIfInBounds_toArray, List.set_cons_zero, List.set_cons_succ])
        refine wpAnyH_take (i := 4) (oi := { dst := some 30, op := _, type := _, pos := _, after := _, guard := some (2, true) }) (v := ?vr1_4) rfl (by kernel_rfl) (by kernel_rfl) (by kernel_rfl) (fun _ _ _ h => h) (Or.inl ⟨by rfl, ?hyr1_4⟩) (by assumption) ?restr1_4
        case hyr1_4 => (intro w hSw; (try dsimp only at hSw); go_simp <;> with_reducible rfl)
        (try simp only [Act.put, List.setIfInBounds_toArray, List.set_cons_zero, List.set_cons_succ])
        refine wpAnyH_take (i := 5) (oi := { dst := some 31, op := _, type := _, pos := _, after := _, guard := some (2, true) }) (v := ?vr1_5) rfl (by kernel_rfl) (by kernel_rfl) (by kernel_rfl) (fun _ _ _ h => h) (Or.inl ⟨by rfl, ?hyr1_5⟩) (by assumption) ?restr1_5
        case hyr1_5 => (intro w hSw; (try dsimp only at hSw); go_simp <;> with_reducible rfl)
        (try simp only [Act.put, List.setIfInBounds_toArray, List.set_cons_zero, List.set_cons_succ])
        refine wpAnyH_take (i := 6) (oi := { dst := some 32, op := _, type := _, pos := _, after := _, guard := some (2, true) }) (v := ?vr1_6) rfl (by kernel_rfl) (by kernel_rfl) (by kernel_rfl) (fun _ _ _ h => h) (Or.inl ⟨by rfl, ?hyr1_6⟩) (by assumption) ?restr1_6
        case hyr1_6 => (intro w hSw; (try dsimp only at hSw); go_simp <;> with_reducible rfl)
        (try simp only [Act.put, List.setIfInBounds_toArray, List.set_cons_zero, List.set_cons_succ])
        refine wpAnyH_take (i := 7) (oi := { dst := some 33, op := _, type := _, pos := _, after := _, guard := some (2, true) }) (v := ?vr1_7) rfl (by kernel_rfl) (by kernel_rfl) (by kernel_rfl) (fun _ _ _ h => h) (Or.inl ⟨by rfl, ?hyr1_7⟩) (by assumption) ?restr1_7
        case hyr1_7 => (intro w hSw; (try dsimp only at hSw); go_simp <;> with_reducible rfl)
        (try simp only [Act.put, List.setIfInBounds_toArray, List.set_cons_zero, List.set_cons_succ])
        refine wpAnyH_take (i := 8) (oi := { dst := some 34, op := _, type := _, pos := _, after := _, guard := some (2, true) }) (v := ?vr1_8) rfl (by kernel_rfl) (by kernel_rfl) (by kernel_rfl) (fun _ _ _ h => h) (Or.inl ⟨by rfl, ?hyr1_8⟩) (by assumption) ?restr1_8
        case hyr1_8 => (intro w hSw; (try dsimp only at hSw); go_simp <;> with_reducible rfl)
        (try simp only [Act.put, List.setIfInBounds_toArray, List.set_cons_zero, List.set_cons_succ])
        refine wpAnyH_take (i := 9) (oi := { dst := some 35, op := _, type := _, pos := _, after := _, guard := some (2, true) }) (v := ?vr1_9) rfl (by kernel_rfl) (by kernel_rfl) (by kernel_rfl) (fun _ _ _ h => h) (Or.inl ⟨by rfl, ?hyr1_9⟩) (by assumption) ?restr1_9
        case hyr1_9 => (intro w hSw; (try dsimp only at hSw); go_simp <;> with_reducible rfl)
        (try simp only [Act.put, List.setIfInBounds_toArray, List.set_cons_zero, List.set_cons_succ])
        refine wpAnyH_take (i := 10) (oi := { dst := some 36, op := _, type := _, pos := _, after := _, guard := some (2, true) }) (v := ?vr1_10) rfl (by kernel_rfl) (by kernel_rfl) (by kernel_rfl) (fun _ _ _ h => h) (Or.inl ⟨by rfl, ?hyr1_10⟩) (by assumption) ?restr1_10
        case hyr1_10 => (intro w hSw; (try dsimp only at hSw); go_simp <;> with_reducible rfl)
        (try simp only [Act.put, List.setIfInBounds_toArray, List.set_cons_zero, List.set_cons_succ])
        refine wpAnyH_take (i := 11) (oi := { dst := some 37, op := _, type := _, pos := _, after := _, guard := some (2, true) }) (v := ?vr1_11) rfl (by kernel_rfl) (by kernel_rfl) (by kernel_rfl) (fun _ _ _ h => h) (Or.inl ⟨by rfl, ?hyr1_11⟩) (by assumption) ?restr1_11
        case hyr1_11 => (intro w hSw; (try dsimp only at hSw); go_simp <;> with_reducible rfl)
        (try simp only [Act.put, List.setIfInBounds_toArray, List.set_cons_zero, List.set_cons_succ])
        refine wpAnyH_take (i := 12) (oi := { dst := some 38, op := _, type := _, pos := _, after := _, guard := some (2, true) }) (v := ?vr1_12) rfl (by kernel_rfl) (by kernel_rfl) (by kernel_rfl) (fun _ _ _ h => h) (Or.inl ⟨by rfl, ?hyr1_12⟩) (by assumption) ?restr1_12
        case hyr1_12 => (intro w hSw; (try dsimp only at hSw); go_simp <;> with_reducible rfl)
        (try simp only [Act.put, List.setIfInBounds_toArray, List.set_cons_zero, List.set_cons_succ])
        refine wpAnyH_take (i := 13) (oi := { dst := some 39, op := _, type := _, pos := _, after := _, guard := none }) (v := ?vr1_13) rfl (by kernel_rfl) (by kernel_rfl) (by kernel_rfl) (fun _ _ _ h => h) (Or.inl ⟨by rfl, ?hyr1_13⟩) (by assumption) ?restr1_13
        case hyr1_13 => (intro w hSw; (try dsimp only at hSw); go_simp <;> with_reducible rfl)
        (try simp only [Act.put, List.setIfInBounds_toArray, List.set_cons_zero, List.set_cons_succ])
        refine wpAnyH_take (i := 14) (oi := { dst := some 40, op := _, type := _, pos := _, after := _, guard := none }) (v := ?vr1_14) rfl (by kernel_rfl) (by kernel_rfl) (by kernel_rfl) (fun _ _ _ h => h) (Or.inl ⟨by rfl, ?hyr1_14⟩) (by assumption) ?restr1_14
        case hyr1_14 => (intro w hSw; (try dsimp only at hSw); go_simp <;> with_reducible rfl)
        (try simp only [Act.put, List.setIfInBounds_toArray, List.set_cons_zero, List.set_cons_succ])
        refine wpAnyH_take (i := 15) (oi := { dst := some 41, op := _, type := _, pos := _, after := _, guard := some (14, false) }) (v := ?vr1_15) rfl (by kernel_rfl) (by kernel_rfl) (by kernel_rfl) (fun _ _ _ h => h) (Or.inl ⟨by rfl, ?hyr1_15⟩) (by assumption) ?restr1_15
        case hyr1_15 => (intro w hSw; (try dsimp only at hSw); go_simp <;> with_reducible rfl)
        (try simp only [Act.put, List.setIfInBounds_toArray, List.set_cons_zero, List.set_cons_succ])
        refine wpAnyH_take (i := 16) (oi := { dst := some 42, op := _, type := _, pos := _, after := _, guard := some (14, false) }) (v := ?vr1_16) rfl (by kernel_rfl) (by kernel_rfl) (by kernel_rfl) (fun _ _ _ h => h) (Or.inl ⟨by rfl, ?hyr1_16⟩) (by assumption) ?restr1_16
        case hyr1_16 => (intro w hSw; (try dsimp only at hSw); go_simp <;> with_reducible rfl)
        (try simp only [Act.put, List.setIfInBounds_toArray, List.set_cons_zero, List.set_cons_succ])
        refine wpAnyH_take (i := 17) (oi := { dst := some 43, op := _, type := _, pos := _, after := _, guard := some (14, false) }) (v := ?vr1_17) rfl (by kernel_rfl) (by kernel_rfl) (by kernel_rfl) (fun _ _ _ h => h) (Or.inl ⟨by rfl, ?hyr1_17⟩) (by assumption) ?restr1_17
        case hyr1_17 => (intro w hSw; (try dsimp only at hSw); go_simp <;> with_reducible rfl)
        (try simp only [Act.put, List.setIfInBounds_toArray, List.set_cons_zero, List.set_cons_succ])
        refine wpAnyH_take (i := 18) (oi := { dst := some 44, op := _, type := _, pos := _, after := _, guard := some (14, false) }) (v := ?vr1_18) rfl (by kernel_rfl) (by kernel_rfl) (by kernel_rfl) (fun _ _ _ h => h) (Or.inl ⟨by rfl, ?hyr1_18⟩) (by assumption) ?restr1_18
        case hyr1_18 => (intro w hSw; (try dsimp only at hSw); go_simp <;> with_reducible rfl)
        (try simp only [Act.put, List.setIfInBounds_toArray, List.set_cons_zero, List.set_cons_succ])
        refine wpAnyH_take (i := 19) (oi := { dst := some 45, op := _, type := _, pos := _, after := _, guard := some (14, false) }) (v := ?vr1_19) rfl (by kernel_rfl) (by kernel_rfl) (by kernel_rfl) (fun _ _ _ h => h) (Or.inl ⟨by rfl, ?hyr1_19⟩) (by assumption) ?restr1_19
        case hyr1_19 => (intro w hSw; (try dsimp only at hSw); go_simp <;> with_reducible rfl)
        (try simp only [Act.put, List.setIfInBounds_toArray, List.set_cons_zero, List.set_cons_succ])
        refine wpAnyH_ready (rs := [20]) (by kernel_rfl) (by simp) ?_
        refine AllReadyH.cons (o := { dst := some 46, op := _, type := _, pos := _, after := _, guard := some (14, false) }) rfl (fun K hK => ?_) AllReadyH.nil
        go_simp
        (refine hH.out.mono ?_; rintro e w4 ⟨rfl, b4⟩)
        (try go_wp2_with fail)
        refine hK.out _ _ (hk4.out w4 b4) (fun hHeld => ?_)
        clear hK K
        (try simp only [Act.put, List.setIfInBounds_toArray, List.set_cons_zero, List.set_cons_succ])
        refine wpAnyH_take (i := 21) (oi := { dst := some 47, op := _, type := _, pos := _, after := _, guard := some (14, false) }) (v := ?vr1_20) rfl (by kernel_rfl) (by kernel_rfl) (by kernel_rfl) (fun _ _ _ h => h) (Or.inl ⟨by rfl, ?hyr1_20⟩) (by assumption) ?restr1_20
        case hyr1_20 => (intro w hSw; (try dsimp only at hSw); go_simp <;> with_reducible rfl)
        (try simp only [Act.put, List.setIfInBounds_toArray, List.set_cons_zero, List.set_cons_succ])
        refine wpAnyH_take (i := 22) (oi := { dst := some 48, op := _, type := _, pos := _, after := _, guard := none }) (v := ?vr1_21) rfl (by kernel_rfl) (by kernel_rfl) (by kernel_rfl) (fun _ _ _ h => h) (Or.inl ⟨by rfl, ?hyr1_21⟩) (by assumption) ?restr1_21
        case hyr1_21 => (intro w hSw; (try dsimp only at hSw); go_simp <;> with_reducible rfl)
        (try simp only [Act.put, List.setIfInBounds_toArray, List.set_cons_zero, List.set_cons_succ])
        refine wpAnyH_done (by kernel_rfl) ?_ _
        have B4 := Lib.hid (b_then hbr b4)
        clear b4 hk4 hH hbr ci hHeld hB ci1 hlt2 p1 p2 p3
        go_wp2_with fail
        go_loopg [6, 7] na (fun gg s6 s7 W => ∃ (z : Bool) (k : Nat), s6 = .bool z ∧ s7 = .int .i64 (k : Int) ∧ k ≤ na ∧ na - k ≤ gg ∧ Hid (Among M y k z) ∧ Hid (Below w3.heap.size w3 W))
        case atStart => exact ⟨false, 0, rfl, rfl, by omega, by omega, Lib.hid (among_none M y), B4⟩
        case round =>
          clear B4
          obtain ⟨z, k, rfl, rfl, hk, hkg, hz, hB⟩ := hrel
          by_cases hlt : k < na
          · have q1 : (k : Int) < na := by omega
            have q2 : (0 : Int) ≤ k := by omega
            have hmt : Hid (na - (k + 1) < gk) := Lib.hid (by omega)
            have htn : Hid (k + 1 ≤ na) := Lib.hid (by omega)
            have hw2 : IntKind.i64.wrap ((k : Int) + 1) = ((k + 1 : Nat) : Int) := wrap_nat (k + 1) (by have := hm.out; omega)
            obtain ⟨g2, o2, hs1, c1'⟩ := hT.out wr (b_then b3.out hB.out) k hlt
            have c2' := hL.out wr hB.out i hlt3.out
            rw [hy.out] at c2'
            have hB2 := Lib.hid fun m => b_then hB.out (b_drewN wr m)
            have hzy := Lib.hid fun (h : M[k]?.getD default = y) => among_yes h
            have hzn := Lib.hid fun (e : z = false) (h : M[k]?.getD default ≠ y) => among_no (e ▸ hz.out) h
            have hzk := Lib.hid fun (e : z = true) => among_keep (e ▸ hz.out)
            clear hz hlt hk hkg hB
            generalize hMk : M[k]?.getD default = x at *
            replace hMk := Lib.hid hMk
            cases z
            · by_cases he : x = y
              · have hz2 := Lib.hid (hzy.out he)
                have q3 := text_eq he
                replace he := Lib.hid he
                clear hzy hzn hzk hT
                subst hs1
                go_wp2_with fail
                go_quiet (fail)
                go_wp2
                go_roundg (na - (k + 1))
                case measure => exact hmt.out
                case rel => exact ⟨true, k + 1, by simp [q3], by simp, htn.out, Nat.le_refl _, hz2, Lib.hid (hB2.out _)⟩
              · have hz2 := Lib.hid (hzn.out rfl he)
                have q3 := text_ne he
                replace he := Lib.hid he
                clear hzy hzn hzk hT
                subst hs1
                go_wp2_with fail
                go_quiet (fail)
                go_wp2
                go_roundg (na - (k + 1))
                case measure => exact hmt.out
                case rel => exact ⟨false, k + 1, by simp [q3], by simp, htn.out, Nat.le_refl _, hz2, Lib.hid (hB2.out _)⟩
            · have hz2 := Lib.hid (hzk.out rfl)
              clear hzy hzn hzk hT c1' c2'
              go_wp2_with fail
              go_quiet (fail)
              go_wp2
              go_roundg (na - (k + 1))
              case measure => exact hmt.out
              case rel => exact ⟨true, k + 1, by simp, by simp, htn.out, Nat.le_refl _, hz2, Lib.hid (hB2.out _)⟩
          · obtain rfl : na = k := by omega
            have q1 : ¬ (na : Int) < na := by omega
            obtain rfl : z = true := among_all (by rw [hna.out]; exact hz.out) ((mA.out y).1 hx.out)
            have hAt := Lib.hid (Ts.SetAt_calls wr _ A (i : Int) (hS.out wr hB.out) (by have := lA.out; omega) (by have := hlt3.out; have := hn9.out; omega) y true (Or.inr ⟨by
              have h5 : A[i]? = some y := by rw [← hy.out, List.getElem?_eq_getElem (by rw [hn.out]; exact hlt3.out)]; rfl
              simp [nth, h5], rfl⟩))
            have c2' := hL.out wr hB.out i hlt3.out
            rw [hy.out] at c2'
            have q3 := text_eq (rfl : y = y)
            clear hz hk hkg hlt
            go_wp2_with fail
            refine hAt.out.mono ?_
            rintro e w5 ⟨rfl, hq⟩
            obtain rfl := hq.symm
            clear hq hAt
            go_wp2
            go_roundg (n - (i + 1))
            case measure => exact hms.out
            case rel => exact ⟨i + 1, by simp, hkn.out, Nat.le_refl _, hB⟩
      · generalize hy : A[i]?.getD default = y at *
        replace hy := Lib.hid hy
        have hlt3 := Lib.hid hlt
        have m1 : ¬ (0 : Int) < i := by omega
        have m2 : decide ((0 : Int) < i) = false := decide_eq_false m1
        have m6 : decide (0 < i) = false := decide_eq_false h0
        have hk4 := Lib.hid fun W (h : Below wr.drew.heap.size wr.drew W) => (by have := hL.out W (b_then hbr h) i hlt3.out; rw [hy.out] at this; exact this : W.cell? ⟨g, i, none⟩ = some (.string y))
        clear hlt hi hgg
        go_wp2_with fail
        refine wp_region_held_drew (S := (fun w' => w'.cell? ⟨g, i, none⟩ = some (.string y))) (by kernel_rfl) (ci) (fun hHeld => ?_)
        refine wpAnyH_take (i := 0) (oi := { dst := some 26, op := _, type := _, pos := _, after := _, guard := none }) (v := ?vr2_0) rfl (by kernel_rfl) (by kernel_rfl) (by kernel_rfl) (fun _ _ _ h => h) (Or.inl ⟨by rfl, ?hyr2_0⟩) (by assumption) ?restr2_0
        case hyr2_0 => (intro w hSw; (try dsimp only at hSw); go_simp <;> with_reducible rfl)
        (try simp only [Act.put, List.setIfInBounds_toArray, List.set_cons_zero, List.set_cons_succ])
        refine wpAnyH_take (i := 1) (oi := { dst := some 27, op := _, type := _, pos := _, after := _, guard := none }) (v := ?vr2_1) rfl (by kernel_rfl) (by kernel_rfl) (by kernel_rfl) (fun _ _ _ h => h) (Or.inl ⟨by rfl, ?hyr2_1⟩) (by assumption) ?restr2_1
        case hyr2_1 => (intro w hSw; (try dsimp only at hSw); go_simp <;> with_reducible rfl)
        (try simp only [Act.put, List.setIfInBounds_toArray, List.set_cons_zero, List.set_cons_succ])
        refine wpAnyH_take (i := 2) (oi := { dst := some 28, op := _, type := _, pos := _, after := _, guard := none }) (v := ?vr2_2) rfl (by kernel_rfl) (by kernel_rfl) (by kernel_rfl) (fun _ _ _ h => h) (Or.inl ⟨by rfl, ?hyr2_2⟩) (by assumption) ?restr2_2
        case hyr2_2 => (intro w hSw; (try dsimp only at hSw); go_simp <;> with_reducible rfl)
        (try simp only [Act.put, List.setIfInBounds_toArray, List.set_cons_zero, List.set_cons_succ])
        refine wpAnyH_take (i := 3) (oi := { dst := some 29, op := _, type := _, pos := _, after := _, guard := some (2, true) }) (v := undef) rfl (by kernel_rfl) (by kernel_rfl) (by kernel_rfl) (fun _ _ _ h => h) (Or.inr ⟨by rfl, rfl⟩) (by assumption) ?_
        (try simp only [Act.put, List.setIfInBounds_toArray, List.set_cons_zero, List.set_cons_succ])
        refine wpAnyH_take (i := 4) (oi := { dst := some 30, op := _, type := _, pos := _, after := _, guard := some (2, true) }) (v := undef) rfl (by kernel_rfl) (by kernel_rfl) (by kernel_rfl) (fun _ _ _ h => h) (Or.inr ⟨by rfl, rfl⟩) (by assumption) ?_
        (try simp only [Act.put, List.setIfInBounds_toArray, List.set_cons_zero, List.set_cons_succ])
        refine wpAnyH_take (i := 5) (oi := { dst := some 31, op := _, type := _, pos := _, after := _, guard := some (2, true) }) (v := undef) rfl (by kernel_rfl) (by kernel_rfl) (by kernel_rfl) (fun _ _ _ h => h) (Or.inr ⟨by rfl, rfl⟩) (by assumption) ?_
        (try simp only [Act.put, List.setIfInBounds_toArray, List.set_cons_zero, List.set_cons_succ])
        refine wpAnyH_take (i := 6) (oi := { dst := some 32, op := _, type := _, pos := _, after := _, guard := some (2, true) }) (v := undef) rfl (by kernel_rfl) (by kernel_rfl) (by kernel_rfl) (fun _ _ _ h => h) (Or.inr ⟨by rfl, rfl⟩) (by assumption) ?_
        (try simp only [Act.put, List.setIfInBounds_toArray, List.set_cons_zero, List.set_cons_succ])
        refine wpAnyH_take (i := 7) (oi := { dst := some 33, op := _, type := _, pos := _, after := _, guard := some (2, true) }) (v := undef) rfl (by kernel_rfl) (by kernel_rfl) (by kernel_rfl) (fun _ _ _ h => h) (Or.inr ⟨by rfl, rfl⟩) (by assumption) ?_
        (try simp only [Act.put, List.setIfInBounds_toArray, List.set_cons_zero, List.set_cons_succ])
        refine wpAnyH_take (i := 8) (oi := { dst := some 34, op := _, type := _, pos := _, after := _, guard := some (2, true) }) (v := undef) rfl (by kernel_rfl) (by kernel_rfl) (by kernel_rfl) (fun _ _ _ h => h) (Or.inr ⟨by rfl, rfl⟩) (by assumption) ?_
        (try simp only [Act.put, List.setIfInBounds_toArray, List.set_cons_zero, List.set_cons_succ])
        refine wpAnyH_take (i := 9) (oi := { dst := some 35, op := _, type := _, pos := _, after := _, guard := some (2, true) }) (v := undef) rfl (by kernel_rfl) (by kernel_rfl) (by kernel_rfl) (fun _ _ _ h => h) (Or.inr ⟨by rfl, rfl⟩) (by assumption) ?_
        (try simp only [Act.put, List.setIfInBounds_toArray, List.set_cons_zero, List.set_cons_succ])
        refine wpAnyH_take (i := 10) (oi := { dst := some 36, op := _, type := _, pos := _, after := _, guard := some (2, true) }) (v := undef) rfl (by kernel_rfl) (by kernel_rfl) (by kernel_rfl) (fun _ _ _ h => h) (Or.inr ⟨by rfl, rfl⟩) (by assumption) ?_
        (try simp only [Act.put, List.setIfInBounds_toArray, List.set_cons_zero, List.set_cons_succ])
        refine wpAnyH_take (i := 11) (oi := { dst := some 37, op := _, type := _, pos := _, after := _, guard := some (2, true) }) (v := undef) rfl (by kernel_rfl) (by kernel_rfl) (by kernel_rfl) (fun _ _ _ h => h) (Or.inr ⟨by rfl, rfl⟩) (by assumption) ?_
        (try simp only [Act.put, List.setIfInBounds_toArray, List.set_cons_zero, List.set_cons_succ])
        refine wpAnyH_take (i := 12) (oi := { dst := some 38, op := _, type := _, pos := _, after := _, guard := some (2, true) }) (v := undef) rfl (by kernel_rfl) (by kernel_rfl) (by kernel_rfl) (fun _ _ _ h => h) (Or.inr ⟨by rfl, rfl⟩) (by assumption) ?_
        (try simp only [Act.put, List.setIfInBounds_toArray, List.set_cons_zero, List.set_cons_succ])
        refine wpAnyH_take (i := 13) (oi := { dst := some 39, op := _, type := _, pos := _, after := _, guard := none }) (v := ?vr2_13) rfl (by kernel_rfl) (by kernel_rfl) (by kernel_rfl) (fun _ _ _ h => h) (Or.inl ⟨by rfl, ?hyr2_13⟩) (by assumption) ?restr2_13
        case hyr2_13 => (intro w hSw; (try dsimp only at hSw); go_simp <;> with_reducible rfl)
        (try simp only [Act.put, List.setIfInBounds_toArray, List.set_cons_zero, List.set_cons_succ])
        refine wpAnyH_take (i := 14) (oi := { dst := some 40, op := _, type := _, pos := _, after := _, guard := none }) (v := ?vr2_14) rfl (by kernel_rfl) (by kernel_rfl) (by kernel_rfl) (fun _ _ _ h => h) (Or.inl ⟨by rfl, ?hyr2_14⟩) (by assumption) ?restr2_14
        case hyr2_14 => (intro w hSw; (try dsimp only at hSw); go_simp <;> with_reducible rfl)
        (try simp only [Act.put, List.setIfInBounds_toArray, List.set_cons_zero, List.set_cons_succ])
        refine wpAnyH_take (i := 15) (oi := { dst := some 41, op := _, type := _, pos := _, after := _, guard := some (14, false) }) (v := ?vr2_15) rfl (by kernel_rfl) (by kernel_rfl) (by kernel_rfl) (fun _ _ _ h => h) (Or.inl ⟨by rfl, ?hyr2_15⟩) (by assumption) ?restr2_15
        case hyr2_15 => (intro w hSw; (try dsimp only at hSw); go_simp <;> with_reducible rfl)
        (try simp only [Act.put, List.setIfInBounds_toArray, List.set_cons_zero, List.set_cons_succ])
        refine wpAnyH_take (i := 16) (oi := { dst := some 42, op := _, type := _, pos := _, after := _, guard := some (14, false) }) (v := ?vr2_16) rfl (by kernel_rfl) (by kernel_rfl) (by kernel_rfl) (fun _ _ _ h => h) (Or.inl ⟨by rfl, ?hyr2_16⟩) (by assumption) ?restr2_16
        case hyr2_16 => (intro w hSw; (try dsimp only at hSw); go_simp <;> with_reducible rfl)
        (try simp only [Act.put, List.setIfInBounds_toArray, List.set_cons_zero, List.set_cons_succ])
        refine wpAnyH_take (i := 17) (oi := { dst := some 43, op := _, type := _, pos := _, after := _, guard := some (14, false) }) (v := ?vr2_17) rfl (by kernel_rfl) (by kernel_rfl) (by kernel_rfl) (fun _ _ _ h => h) (Or.inl ⟨by rfl, ?hyr2_17⟩) (by assumption) ?restr2_17
        case hyr2_17 => (intro w hSw; (try dsimp only at hSw); go_simp <;> with_reducible rfl)
        (try simp only [Act.put, List.setIfInBounds_toArray, List.set_cons_zero, List.set_cons_succ])
        refine wpAnyH_take (i := 18) (oi := { dst := some 44, op := _, type := _, pos := _, after := _, guard := some (14, false) }) (v := ?vr2_18) rfl (by kernel_rfl) (by kernel_rfl) (by kernel_rfl) (fun _ _ _ h => h) (Or.inl ⟨by rfl, ?hyr2_18⟩) (by assumption) ?restr2_18
        case hyr2_18 => (intro w hSw; (try dsimp only at hSw); go_simp <;> with_reducible rfl)
        (try simp only [Act.put, List.setIfInBounds_toArray, List.set_cons_zero, List.set_cons_succ])
        refine wpAnyH_take (i := 19) (oi := { dst := some 45, op := _, type := _, pos := _, after := _, guard := some (14, false) }) (v := ?vr2_19) rfl (by kernel_rfl) (by kernel_rfl) (by kernel_rfl) (fun _ _ _ h => h) (Or.inl ⟨by rfl, ?hyr2_19⟩) (by assumption) ?restr2_19
        case hyr2_19 => (intro w hSw; (try dsimp only at hSw); go_simp <;> with_reducible rfl)
        (try simp only [Act.put, List.setIfInBounds_toArray, List.set_cons_zero, List.set_cons_succ])
        refine wpAnyH_ready (rs := [20]) (by kernel_rfl) (by simp) ?_
        refine AllReadyH.cons (o := { dst := some 46, op := _, type := _, pos := _, after := _, guard := some (14, false) }) rfl (fun K hK => ?_) AllReadyH.nil
        go_simp
        (refine hH.out.mono ?_; rintro e w4 ⟨rfl, b4⟩)
        (try go_wp2_with fail)
        refine hK.out _ _ (hk4.out w4 b4) (fun hHeld => ?_)
        clear hK K
        (try simp only [Act.put, List.setIfInBounds_toArray, List.set_cons_zero, List.set_cons_succ])
        refine wpAnyH_take (i := 21) (oi := { dst := some 47, op := _, type := _, pos := _, after := _, guard := some (14, false) }) (v := ?vr2_20) rfl (by kernel_rfl) (by kernel_rfl) (by kernel_rfl) (fun _ _ _ h => h) (Or.inl ⟨by rfl, ?hyr2_20⟩) (by assumption) ?restr2_20
        case hyr2_20 => (intro w hSw; (try dsimp only at hSw); go_simp <;> with_reducible rfl)
        (try simp only [Act.put, List.setIfInBounds_toArray, List.set_cons_zero, List.set_cons_succ])
        refine wpAnyH_take (i := 22) (oi := { dst := some 48, op := _, type := _, pos := _, after := _, guard := none }) (v := ?vr2_21) rfl (by kernel_rfl) (by kernel_rfl) (by kernel_rfl) (fun _ _ _ h => h) (Or.inl ⟨by rfl, ?hyr2_21⟩) (by assumption) ?restr2_21
        case hyr2_21 => (intro w hSw; (try dsimp only at hSw); go_simp <;> with_reducible rfl)
        (try simp only [Act.put, List.setIfInBounds_toArray, List.set_cons_zero, List.set_cons_succ])
        refine wpAnyH_done (by kernel_rfl) ?_ _
        have B4 := Lib.hid (b_then hbr b4)
        clear b4 hk4 hH hbr ci hHeld hB 
        go_wp2_with fail
        go_loopg [6, 7] na (fun gg s6 s7 W => ∃ (z : Bool) (k : Nat), s6 = .bool z ∧ s7 = .int .i64 (k : Int) ∧ k ≤ na ∧ na - k ≤ gg ∧ Hid (Among M y k z) ∧ Hid (Below w3.heap.size w3 W))
        case atStart => exact ⟨false, 0, rfl, rfl, by omega, by omega, Lib.hid (among_none M y), B4⟩
        case round =>
          clear B4
          obtain ⟨z, k, rfl, rfl, hk, hkg, hz, hB⟩ := hrel
          by_cases hlt : k < na
          · have q1 : (k : Int) < na := by omega
            have q2 : (0 : Int) ≤ k := by omega
            have hmt : Hid (na - (k + 1) < gk) := Lib.hid (by omega)
            have htn : Hid (k + 1 ≤ na) := Lib.hid (by omega)
            have hw2 : IntKind.i64.wrap ((k : Int) + 1) = ((k + 1 : Nat) : Int) := wrap_nat (k + 1) (by have := hm.out; omega)
            obtain ⟨g2, o2, hs1, c1'⟩ := hT.out wr (b_then b3.out hB.out) k hlt
            have c2' := hL.out wr hB.out i hlt3.out
            rw [hy.out] at c2'
            have hB2 := Lib.hid fun m => b_then hB.out (b_drewN wr m)
            have hzy := Lib.hid fun (h : M[k]?.getD default = y) => among_yes h
            have hzn := Lib.hid fun (e : z = false) (h : M[k]?.getD default ≠ y) => among_no (e ▸ hz.out) h
            have hzk := Lib.hid fun (e : z = true) => among_keep (e ▸ hz.out)
            clear hz hlt hk hkg hB
            generalize hMk : M[k]?.getD default = x at *
            replace hMk := Lib.hid hMk
            cases z
            · by_cases he : x = y
              · have hz2 := Lib.hid (hzy.out he)
                have q3 := text_eq he
                replace he := Lib.hid he
                clear hzy hzn hzk hT
                subst hs1
                go_wp2_with fail
                go_quiet (fail)
                go_wp2
                go_roundg (na - (k + 1))
                case measure => exact hmt.out
                case rel => exact ⟨true, k + 1, by simp [q3], by simp, htn.out, Nat.le_refl _, hz2, Lib.hid (hB2.out _)⟩
              · have hz2 := Lib.hid (hzn.out rfl he)
                have q3 := text_ne he
                replace he := Lib.hid he
                clear hzy hzn hzk hT
                subst hs1
                go_wp2_with fail
                go_quiet (fail)
                go_wp2
                go_roundg (na - (k + 1))
                case measure => exact hmt.out
                case rel => exact ⟨false, k + 1, by simp [q3], by simp, htn.out, Nat.le_refl _, hz2, Lib.hid (hB2.out _)⟩
            · have hz2 := Lib.hid (hzk.out rfl)
              clear hzy hzn hzk hT c1' c2'
              go_wp2_with fail
              go_quiet (fail)
              go_wp2
              go_roundg (na - (k + 1))
              case measure => exact hmt.out
              case rel => exact ⟨true, k + 1, by simp, by simp, htn.out, Nat.le_refl _, hz2, Lib.hid (hB2.out _)⟩
          · obtain rfl : na = k := by omega
            have q1 : ¬ (na : Int) < na := by omega
            obtain rfl : z = true := among_all (by rw [hna.out]; exact hz.out) ((mA.out y).1 hx.out)
            have hAt := Lib.hid (Ts.SetAt_calls wr _ A (i : Int) (hS.out wr hB.out) (by have := lA.out; omega) (by have := hlt3.out; have := hn9.out; omega) y true (Or.inr ⟨by
              have h5 : A[i]? = some y := by rw [← hy.out, List.getElem?_eq_getElem (by rw [hn.out]; exact hlt3.out)]; rfl
              simp [nth, h5], rfl⟩))
            have c2' := hL.out wr hB.out i hlt3.out
            rw [hy.out] at c2'
            have q3 := text_eq (rfl : y = y)
            clear hz hk hkg hlt
            go_wp2_with fail
            refine hAt.out.mono ?_
            rintro e w5 ⟨rfl, hq⟩
            obtain rfl := hq.symm
            clear hq hAt
            go_wp2
            go_roundg (n - (i + 1))
            case measure => exact hms.out
            case rel => exact ⟨i + 1, by simp, hkn.out, Nat.le_refl _, hB⟩
    · obtain rfl : n = i := by omega
      have l1 : ¬ (n : Int) < n := by omega
      have hB0 := Lib.hid hB.out
      clear hi hgg hlt
      go_wp2_with fail
      go_loopg [10] na (fun gg s10 W => ∃ (k : Nat), s10 = .int .i64 (k : Int) ∧ k ≤ na ∧ na - k ≤ gg ∧ Hid (Below w3.heap.size w3 W))
      case atStart => exact ⟨0, rfl, by omega, by omega, hB0⟩
      case round =>
        clear hB hB0
        obtain ⟨k, rfl, hk, hkg, hB⟩ := hrel
        by_cases hlt : k < na
        · have q1 : (k : Int) < na := by omega
          have q2 : (0 : Int) ≤ k := by omega
          have hmt : Hid (na - (k + 1) < gk) := Lib.hid (by omega)
          have htn : Hid (k + 1 ≤ na) := Lib.hid (by omega)
          have hw2 : IntKind.i64.wrap ((k : Int) + 1) = ((k + 1 : Nat) : Int) := wrap_nat (k + 1) (by have := hm.out; omega)
          obtain ⟨g2, o2, rfl, c1'⟩ := hT.out wr (b_then b3.out hB.out) k hlt
          have hH := Lib.hid (hHas.out wr hB.out (M[k]?.getD default) ((mA.out _).2 (by rw [List.getElem?_eq_getElem (by rw [hna.out]; exact hlt)]; exact List.getElem_mem _)))
          clear hlt hk hkg hT
          generalize M[k]?.getD default = x at *
          go_wp2_with fail
          refine hH.out.mono ?_
          rintro e w5 ⟨rfl, b5⟩
          have B5 := Lib.hid (b_then hB.out b5)
          clear hH c1' b5
          go_wp2
          go_roundg (na - (k + 1))
          case measure => exact hmt.out
          case rel => exact ⟨k + 1, by simp, htn.out, Nat.le_refl _, B5⟩
        · obtain rfl : na = k := by omega
          have q1 : ¬ (na : Int) < na := by omega
          have hLe := Ts.SetLen_calls wr _ A (hS.out wr hB.out)
          rw [hn.out] at hLe
          replace hLe := Lib.hid hLe
          have hE := Lib.hid (b_then b3.out hB.out)
          clear hT hk hkg hlt
          go_wp2_with fail
          refine hLe.out.mono ?_
          rintro e w5 ⟨rfl, hq⟩
          obtain rfl := hq.symm
          clear hq hLe
          go_wp2
          go_ret
          exact ⟨rfl, hE.out⟩

theorem own : ownKnob Tryz.prog.godebug = none := by kernel_rfl
theorem laidOut : laidOutB Tryz.prog = true := by kernel_rfl
set_option maxRecDepth 100000 in
theorem lifted (os : Os) (started : os.Started) (H : Type) (enc : TypeId × Value → H) :
    ReturnsInHanded {} Tryz.checked os 4 .any (Rows.setRisesSpec.pre6 enc Tryz.prog Tryz.f4 Rows.setRisesRow.domain false) (Rows.setRisesSpec.post enc Tryz.prog Tryz.f4 false true false false) := by
  refine returnsInHanded_of_change_sized (C := Tryz.checked) own started (by kernel_rfl) Tryz.func4
    (ChangeSpec.witness6 (enc := enc) (C := Tryz.checked) false ⟨#[], #[.slice none 0 0], []⟩ 8 (by kernel_rfl) (by kernel_rfl) (by kernel_rfl) (by kernel_rfl)) ?_
  intro W base args ds gs before hval0 hW hcnd hsz0 _
  have hval : ∀ (j : Nat) t v, Tryz.f4.params[j]? = some t → args[j]? = some v → Value.okWide Tryz.prog W .any base t v := hval0
  have hsz : (DataW.weightsEach Tryz.prog (Tryz.f4.params.toList ++ Rows.setRisesSpec.plain.varTypes Tryz.prog) (ds ++ gs)).all (· ≤ reachBytes) = true := hsz0
  have hW' := hW
  obtain ⟨p, q, hA0, hV, rfl, hfz, hnd⟩ := hW
  have hA : DataW.TrodAll enc Tryz.prog W 0 (fun _ => true) true Tryz.f4.params.toList args.toList ds p := hA0
  rw [Tryz.params4] at hA hval hsz
  obtain ⟨v0, vs0, d0, ds0, p0, q0, hargs, rfl, rfl, h0, r0⟩ := trodAll_cons hA
  obtain ⟨rfl, rfl, rfl⟩ := trodAll_nil r0
  obtain rfl : args = #[v0] := by cases args; simp_all
  obtain ⟨rfl, rfl⟩ := trodVars_none hV
  have k0 := h0
  have lt0 : ∀ x ∈ p0, x.block < W.heap.size := by obtain ⟨m, hm⟩ := k0; exact DataW.trod_lt m _ _ _ hm
  have ok0 := hval 0 22 v0 rfl rfl
  clear hA0 hval0 hsz0
  obtain ⟨a0, n0, c0, x0, o0, T0, rfl, i0, -⟩ := Oct.open_texts Tryz.underlying22 Tryz.underlying9 (by kernel_rfl) (of_decide_eq_true (by kernel_rfl)) ok0 h0 (Oct.arg_weights hsz (j := 0) rfl rfl)
  refine (walk W a0 c0 n0 ((List.range n0).map T0) (by simp) (by have := reads_texts (cap := c0) i0; simpa using this)).mono fun e W' ⟨he, bel⟩ => ?_
  subst he
  exact ⟨_, rfl, _, _, _, [], _, [], hW', trodAll_mk1 (shut_bool Tryz.underlying4 _), (trodAll_cons_mk (Below.trod laidOut (by kernel_rfl) (of_decide_eq_true (by kernel_rfl)) k0 bel lt0) trodAll_mk0), rfl, bel.frame _, fun h => by cases h⟩

/-- the statement -/
theorem proved : Rows.SetRisesSaid :=
  OpenClaim.holds_of_wide 4 Tryz.f4 rfl rfl rfl rfl rfl rfl rfl ⟨rfl, rfl, rfl, rfl, rfl⟩ rfl rfl rfl rfl rfl (by kernel_rfl) Tryz.func4 (by kernel_rfl)
    (of_decide_eq_true (by kernel_rfl)) (by unfold Func.isWrapper; first | (rw [if_pos (by decide +kernel)]; kernel_rfl) | (rw [if_neg (by decide +kernel)]; exact ⟨rfl, rfl⟩))
    (fun os started H enc _ => lifted os started H enc)
end Go.Proofs.YtkdghmbglaghlaaGreat.setRises
