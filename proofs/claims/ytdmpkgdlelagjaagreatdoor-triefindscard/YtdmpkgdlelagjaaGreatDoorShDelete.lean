/-
  The library's slices.IndexFunc and DeleteFunc with the two function values that shelf hands them: a set's own Has, and Meet's. Conditions: a list is not too long.
-/
import Derived.Test.YtdmpkgdlelagjaaGreatDoorRows
import Derived.Test.YtdmpkgdlelagjaaGreatDoorShLib
import Derived.Deep.LoopGhost
import Derived.Lib.SliceRun
namespace Go.Proofs.YtdmpkgdlelagjaaGreatDoor.Ti
open Go.RowKit Sh
attribute [local go_sem] fold_none

/-- a row that is rewritten as it is gone over: what is kept of its first places, the rest as it was -/
structure Dl (W : World) (g n : Nat) (M A : List Int) (j : Nat) : Prop where
  any : ∀ t, t < n → ∃ y, W.cell? ⟨g, t, none⟩ = some (.int .i64 y) ∧ W.frozen? ⟨g, t, none⟩ = false
  low : ∀ t, t < A.length → W.cell? ⟨g, t, none⟩ = some (.int .i64 ((A[t]?.getD default)))
  high : ∀ t, j ≤ t → t < n → W.cell? ⟨g, t, none⟩ = some (.int .i64 ((M[t]?.getD default)))
theorem Dl.next {W W' : World} {g n j : Nat} {M A : List Int} (h : Dl W g n M A j) (hg : g < W.heap.size) (hb : Below W.heap.size W W') : Dl W' g n M A j :=
  ⟨fun t ht => by
    obtain ⟨y, h1, h2⟩ := h.any t ht
    exact ⟨y, (hb.cell (p := ⟨g, t, none⟩) hg).trans h1, (World.frozen?_of_block (hb.block g hg)).trans h2⟩,
   fun t ht => (hb.cell (p := ⟨g, t, none⟩) hg).trans (h.low t ht), fun t h1 h2 => (hb.cell (p := ⟨g, t, none⟩) hg).trans (h.high t h1 h2)⟩
theorem Dl.skip {W : World} {g n j : Nat} {M A : List Int} (h : Dl W g n M A j) : Dl W g n M A (j + 1) := ⟨h.any, h.low, fun t h1 h2 => h.high t (by omega) h2⟩
theorem Dl.keep {W : World} {g n j : Nat} {M A : List Int} (h : Dl W g n M A j) (hA : A.length ≤ j) (hj : j < n) (x : Int) : Dl (W.setCell ⟨g, A.length, none⟩ (.int .i64 x)) g n M (A ++ [x]) (j + 1) := by
  obtain ⟨y0, hy0, hf0⟩ := h.any A.length (by omega)
  have hoth : ∀ t, t ≠ A.length → (W.setCell ⟨g, A.length, none⟩ (.int .i64 x)).cell? ⟨g, t, none⟩ = W.cell? ⟨g, t, none⟩ := fun t ht => by
    rw [World.cell?_setCell_other]; exact fun e => ht (congrArg Addr.off e).symm
  have hsame : (W.setCell ⟨g, A.length, none⟩ (.int .i64 x)).cell? ⟨g, A.length, none⟩ = some (.int .i64 x) := World.cell?_setCell_same _ _ _ hy0
  refine ⟨fun t ht => ?_, fun t ht => ?_, fun t h1 h2 => ?_⟩
  · by_cases e : t = A.length
    · subst e; exact ⟨x, hsame, by rw [World.frozen?_setCell]; exact hf0⟩
    · obtain ⟨y, h1, h2⟩ := h.any t ht
      exact ⟨y, (hoth t e).trans h1, by rw [World.frozen?_setCell]; exact h2⟩
  · by_cases e : t = A.length
    · subst e; rw [hsame]; simp
    · rw [hoth t e]
      have ht2 : t < A.length := by simp at ht; omega
      rw [h.low t ht2, List.getElem?_append_left ht2]
  · rw [hoth t (by omega)]; exact h.high t (by omega) h2
theorem Dl.cut {W : World} {g n : Nat} {M A : List Int} (h : Dl W g n M A n) (vs : List Value) : ∀ t, t < A.length → (W.setCells g A.length vs).cell? ⟨g, t, none⟩ = some (.int .i64 ((A[t]?.getD default))) := fun t ht => by
  rw [World.cell?_setCells_out g vs A.length W ⟨g, t, none⟩ (fun _ _ => Or.inl ht)]
  exact h.low t ht
theorem kept_step (p : Int → Bool) (M : List Int) (k : Nat) (hk : k < M.length) : (M.take (k + 1)).filter (fun x => !p x) = (M.take k).filter (fun x => !p x) ++ (if p (M[k]?.getD default) then [] else [M[k]?.getD default]) := by
  have h : M.take (k + 1) = M.take k ++ [M[k]?.getD default] := by rw [List.take_add_one]; simp [List.getElem?_eq_getElem hk]
  rw [h, List.filter_append]
  generalize M[k]?.getD default = x
  cases hp : p x <;> simp [hp]
theorem grown_one {W W1 W2 : World} {g : Nat} (h : W.grownBy W1 (some g)) (hb : Below W1.heap.size W1 W2) : W.grownBy W2 (some g) :=
  ⟨hb.os.trans h.os, hb.tape.trans h.tape, hb.output.trans h.output, Nat.le_trans h.size hb.size, fun k hk hne => (hb.block k (Nat.lt_of_lt_of_le hk h.size)).trans (h.block k hk hne)⟩
theorem grown_cells (g : Nat) {W : World} : ∀ (vs : List Value) (o : Nat) (W1 : World), W.grownBy W1 (some g) → W.grownBy (W1.setCells g o vs) (some g)
  | [], _, _, h => h
  | v :: vs, o, W1, h => grown_cells g vs (o + 1) _ ⟨h.os, h.tape, h.output, Nat.le_trans h.size (by simp [World.setCell]), fun k hk hne => (Below.heap_setCell _ _ _ k (fun e => hne (by rw [e]))).trans (h.block k hk hne)⟩
theorem grown_cell (g : Nat) {W W1 : World} (h : W.grownBy W1 (some g)) (a : Nat) (v : Value) : W.grownBy (W1.setCell ⟨g, a, none⟩ v) (some g) := grown_cells g [v] a W1 h

end Go.Proofs.YtdmpkgdlelagjaaGreatDoor.Ti
namespace Go.Proofs.YtdmpkgdlelagjaaGreatDoor.Ts
open Go.RowKit Sh
attribute [local go_sem] fold_none

/-- a row that is rewritten as it is gone over: what is kept of its first places, the rest as it was -/
structure Dl (W : World) (g n : Nat) (M A : List ByteArray) (j : Nat) : Prop where
  any : ∀ t, t < n → ∃ y, W.cell? ⟨g, t, none⟩ = some (.string y) ∧ W.frozen? ⟨g, t, none⟩ = false
  low : ∀ t, t < A.length → W.cell? ⟨g, t, none⟩ = some (.string ((A[t]?.getD default)))
  high : ∀ t, j ≤ t → t < n → W.cell? ⟨g, t, none⟩ = some (.string ((M[t]?.getD default)))
theorem Dl.next {W W' : World} {g n j : Nat} {M A : List ByteArray} (h : Dl W g n M A j) (hg : g < W.heap.size) (hb : Below W.heap.size W W') : Dl W' g n M A j :=
  ⟨fun t ht => by
    obtain ⟨y, h1, h2⟩ := h.any t ht
    exact ⟨y, (hb.cell (p := ⟨g, t, none⟩) hg).trans h1, (World.frozen?_of_block (hb.block g hg)).trans h2⟩,
   fun t ht => (hb.cell (p := ⟨g, t, none⟩) hg).trans (h.low t ht), fun t h1 h2 => (hb.cell (p := ⟨g, t, none⟩) hg).trans (h.high t h1 h2)⟩
theorem Dl.skip {W : World} {g n j : Nat} {M A : List ByteArray} (h : Dl W g n M A j) : Dl W g n M A (j + 1) := ⟨h.any, h.low, fun t h1 h2 => h.high t (by omega) h2⟩
theorem Dl.keep {W : World} {g n j : Nat} {M A : List ByteArray} (h : Dl W g n M A j) (hA : A.length ≤ j) (hj : j < n) (x : ByteArray) : Dl (W.setCell ⟨g, A.length, none⟩ (.string x)) g n M (A ++ [x]) (j + 1) := by
  obtain ⟨y0, hy0, hf0⟩ := h.any A.length (by omega)
  have hoth : ∀ t, t ≠ A.length → (W.setCell ⟨g, A.length, none⟩ (.string x)).cell? ⟨g, t, none⟩ = W.cell? ⟨g, t, none⟩ := fun t ht => by
    rw [World.cell?_setCell_other]; exact fun e => ht (congrArg Addr.off e).symm
  have hsame : (W.setCell ⟨g, A.length, none⟩ (.string x)).cell? ⟨g, A.length, none⟩ = some (.string x) := World.cell?_setCell_same _ _ _ hy0
  refine ⟨fun t ht => ?_, fun t ht => ?_, fun t h1 h2 => ?_⟩
  · by_cases e : t = A.length
    · subst e; exact ⟨x, hsame, by rw [World.frozen?_setCell]; exact hf0⟩
    · obtain ⟨y, h1, h2⟩ := h.any t ht
      exact ⟨y, (hoth t e).trans h1, by rw [World.frozen?_setCell]; exact h2⟩
  · by_cases e : t = A.length
    · subst e; rw [hsame]; simp
    · rw [hoth t e]
      have ht2 : t < A.length := by simp at ht; omega
      rw [h.low t ht2, List.getElem?_append_left ht2]
  · rw [hoth t (by omega)]; exact h.high t (by omega) h2
theorem Dl.cut {W : World} {g n : Nat} {M A : List ByteArray} (h : Dl W g n M A n) (vs : List Value) : ∀ t, t < A.length → (W.setCells g A.length vs).cell? ⟨g, t, none⟩ = some (.string ((A[t]?.getD default))) := fun t ht => by
  rw [World.cell?_setCells_out g vs A.length W ⟨g, t, none⟩ (fun _ _ => Or.inl ht)]
  exact h.low t ht
theorem kept_step (p : ByteArray → Bool) (M : List ByteArray) (k : Nat) (hk : k < M.length) : (M.take (k + 1)).filter (fun x => !p x) = (M.take k).filter (fun x => !p x) ++ (if p (M[k]?.getD default) then [] else [M[k]?.getD default]) := by
  have h : M.take (k + 1) = M.take k ++ [M[k]?.getD default] := by rw [List.take_add_one]; simp [List.getElem?_eq_getElem hk]
  rw [h, List.filter_append]
  generalize M[k]?.getD default = x
  cases hp : p x <;> simp [hp]
theorem grown_one {W W1 W2 : World} {g : Nat} (h : W.grownBy W1 (some g)) (hb : Below W1.heap.size W1 W2) : W.grownBy W2 (some g) :=
  ⟨hb.os.trans h.os, hb.tape.trans h.tape, hb.output.trans h.output, Nat.le_trans h.size hb.size, fun k hk hne => (hb.block k (Nat.lt_of_lt_of_le hk h.size)).trans (h.block k hk hne)⟩
theorem grown_cells (g : Nat) {W : World} : ∀ (vs : List Value) (o : Nat) (W1 : World), W.grownBy W1 (some g) → W.grownBy (W1.setCells g o vs) (some g)
  | [], _, _, h => h
  | v :: vs, o, W1, h => grown_cells g vs (o + 1) _ ⟨h.os, h.tape, h.output, Nat.le_trans h.size (by simp [World.setCell]), fun k hk hne => (Below.heap_setCell _ _ _ k (fun e => hne (by rw [e]))).trans (h.block k hk hne)⟩
theorem grown_cell (g : Nat) {W W1 : World} (h : W.grownBy W1 (some g)) (a : Nat) (v : Value) : W.grownBy (W1.setCell ⟨g, a, none⟩ v) (some g) := grown_cells g [v] a W1 h

set_option maxHeartbeats 2000000 in
set_option maxRecDepth 100000 in
/-- the first place at which the function value says yes, or -1 -/
theorem IndexFuncH_calls (a : Option Addr) (p : ByteArray → Bool) (I : World → Prop) (hI1 : ∀ W W', I W → Below W.heap.size W W' → I W') (hp : ∀ W x, I W → Calls Tryz.prog 61 #[.pointer a, .string x] W fun e w' => e = .returned (.bool (p x)) ∧ Below W.heap.size W w') (w : World) (g cap : Nat) (M : List ByteArray) (hM : M.length ≤ 1000000) (hi : I w) (hg : g < w.heap.size) (hc : ∀ t, t < M.length → w.cell? ⟨g, t, none⟩ = some (.string ((M[t]?.getD default)))) :
    Calls Tryz.prog 87 #[.slice (some ⟨g, 0, none⟩) M.length cap, .func (.func 61) #[.pointer a] #[]] w fun e w' => (∃ k : Nat, (k < M.length ∧ e = .returned (.int .i64 (k : Int)) ∧ p (M[k]?.getD default) = true ∨ k = M.length ∧ e = .returned (.int .i64 (-1))) ∧ (∀ t, t < k → p (M[t]?.getD default) = false)) ∧ I w' ∧ Below w.heap.size w w' := by
  go_enter Tryz.func87, Tryz.ntmps87
  go_wp2
  go_loopg [8] M.length (fun gg s8 wr => ∃ k : Nat, s8 = .int .i64 (k : Int) ∧ k ≤ M.length ∧ M.length - k ≤ gg ∧ Hid (∀ t, t < k → p (M[t]?.getD default) = false) ∧ Hid (I wr) ∧ Hid (Below w.heap.size w wr))
  case atStart => exact ⟨0, rfl, by omega, by omega, Lib.hid (fun t ht => by omega), hi, Below.refl _ _⟩
  case round =>
    obtain ⟨k, rfl, hk, hgg, hpre, hiw, hB⟩ := hrel
    by_cases hlt : k < M.length
    · have ck : wr.cell? ⟨g, k, none⟩ = some (.string ((M[k]?.getD default))) := (hB.out.cell (p := ⟨g, k, none⟩) hg).trans (hc k hlt)
      have hP := Lib.hid (hp wr (M[k]?.getD default) hiw.out)
      have l1 : (k : Int) < M.length := by omega
      have l2 : (0 : Int) ≤ k := by omega
      have hk1 : k < 1000000 := by omega
      have hw1 : IntKind.i64.wrap ((k : Int) + 1) = ((k + 1 : Nat) : Int) := wrap_nat (k + 1) (by omega)
      have hnx : Hid (p (M[k]?.getD default) = false → ∀ t, t < k + 1 → p (M[t]?.getD default) = false) := Lib.hid fun h t ht => by
        by_cases e : t = k
        · rw [e]; exact h
        · exact hpre.out t (by omega)
      have hms : Hid (M.length - (k + 1) < gk) := Lib.hid (by omega)
      have hI3 := Lib.hid (fun W' (h : Below wr.heap.size wr W') => hI1 wr W' hiw.out h)
      have hk2 : Hid (k + 1 ≤ M.length) := Lib.hid (by omega)
      have hk3 : Hid (k < M.length) := Lib.hid hlt
      cases hpx : p (M[k]?.getD default) with
      | true =>
        have hpx2 : Hid (p (M[k]?.getD default) = true) := Lib.hid hpx
        rw [hpx] at hP
        generalize M[k]?.getD default = x at ck hP
        clear hc hp hI1 hi hpx
        go_wp2_with (go_at_call 61; refine hP.out.mono ?_; rintro e w1 ⟨rfl, b1⟩)
        go_ret
        exact ⟨⟨k, Or.inl ⟨hk3.out, rfl, hpx2.out⟩, hpre.out⟩, hI3.out _ b1, b_then hB.out b1⟩
      | false =>
        have hnx2 := Lib.hid (hnx.out hpx)
        rw [hpx] at hP
        generalize M[k]?.getD default = x at ck hP
        clear hc hp hI1 hi hpx hnx
        go_wp2_with (go_at_call 61; refine hP.out.mono ?_; rintro e w1 ⟨rfl, b1⟩)
        go_roundg (M.length - (k + 1))
        case measure => exact hms.out
        case rel => exact ⟨k + 1, by simp, hk2.out, Nat.le_refl _, hnx2, Lib.hid (hI3.out _ b1), Lib.hid (b_then hB.out b1)⟩
    · obtain rfl : k = M.length := by omega
      have l1 : ¬ (M.length : Int) < M.length := by omega
      clear hc hp
      go_wp2
      go_ret
      exact ⟨⟨M.length, Or.inr ⟨rfl, rfl⟩, hpre.out⟩, hiw.out, hB.out⟩

set_option maxHeartbeats 4000000 in
set_option maxRecDepth 100000 in
/-- what the function value says no to is kept, in its order -/
theorem DeleteFuncH_calls (a : Option Addr) (g : Nat) (p : ByteArray → Bool) (I : World → Prop) (hI1 : ∀ W W', I W → Below W.heap.size W W' → I W') (hp : ∀ W x, I W → Calls Tryz.prog 61 #[.pointer a, .string x] W fun e w' => e = .returned (.bool (p x)) ∧ Below W.heap.size W w') (hI2 : ∀ W t v, I W → I (W.setCell ⟨g, t, none⟩ v)) (_hI4 : ∀ W t vs, I W → I (W.setCells g t vs)) (w : World) (cap : Nat) (M : List ByteArray) (hM : M.length ≤ 1000000) (hcap : M.length ≤ cap) (hi : I w) (hg : g < w.heap.size) (hD : Dl w g M.length M [] 0) :
    Calls Tryz.prog 60 #[.slice (some ⟨g, 0, none⟩) M.length cap, .func (.func 61) #[.pointer a] #[]] w fun e w' => e = .returned (.slice (some ⟨g, 0, none⟩) (M.filter fun x => !p x).length cap) ∧ (∀ t, t < (M.filter fun x => !p x).length → w'.cell? ⟨g, t, none⟩ = some (.string (((M.filter fun x => !p x)[t]?.getD default)))) ∧ w.grownBy w' (some g) := by
  have hIF := Lib.hid (IndexFuncH_calls a p I hI1 hp w g cap M hM hi hg (fun t ht => hD.high t (by omega) ht))
  have g0 : w.grownBy w (some g) := ⟨rfl, rfl, rfl, Nat.le_refl _, fun _ _ _ => rfl⟩
  go_enter Tryz.func60, Tryz.ntmps60
  go_wp2_with fail
  refine hIF.out.mono ?_
  clear hIF
  rintro e w1 ⟨⟨k, hk, hall⟩, hi1, b1⟩
  have hD1 := hD.next hg b1
  have hg1 : g < w1.heap.size := Nat.lt_of_lt_of_le hg b1.size
  have hgr1 := grown_one g0 b1
  have htake : (M.take k).filter (fun x => !p x) = M.take k := List.filter_eq_self.2 fun x hx => by
    obtain ⟨t, ht, e⟩ := List.getElem_of_mem hx
    have ht2 : t < k ∧ t < M.length := by have h9 := ht; simp only [List.length_take] at h9; omega
    have := hall t ht2.1
    rw [List.getElem?_eq_getElem ht2.2] at this
    simp at e
    rw [← e]; simpa using this
  rcases hk with ⟨hkl, rfl, hpk⟩ | ⟨rfl, rfl⟩
  · have hne : ((k : Int) == -1) = false := beq_eq_false_iff_ne.2 (by omega)
    have hlenA : Hid (((M.take (k + 1)).filter (fun x => !p x)).length = k) := Lib.hid (by rw [kept_step p M k hkl, hpk, htake]; simp; omega)
    have hw0 : IntKind.i64.wrap ((k : Int) + 1) = ((k + 1 : Nat) : Int) := wrap_nat (k + 1) (by omega)
    have hDs : Hid (Dl w1 g M.length M ((M.take (k + 1)).filter (fun x => !p x)) (k + 1)) := Lib.hid ⟨hD1.any, fun t ht => by
        have hA : (M.take (k + 1)).filter (fun x => !p x) = M.take k := by rw [kept_step p M k hkl, hpk, htake]; simp
        rw [hA] at ht ⊢
        have ht2 : t < k := by simp at ht; omega
        rw [hD1.high t (by omega) (by omega), List.getElem?_take, if_pos ht2], fun t h1 h2 => hD1.high t (by omega) h2⟩
    replace htake := Lib.hid htake
    clear hall hD hD1 hi g0 hpk
    go_wp2_with fail
    go_loopg [5, 6, 7] M.length (fun gg s5 s6 _ wr => ∃ (j i : Nat), s5 = .int .i64 (i : Int) ∧ s6 = .int .i64 (j : Int) ∧ j ≤ M.length ∧ M.length - j ≤ gg ∧ Hid (((M.take j).filter (fun x => !p x)).length = i) ∧ Hid (i < j) ∧ Hid (Dl wr g M.length M ((M.take j).filter (fun x => !p x)) j) ∧ Hid (I wr) ∧ Hid (w.grownBy wr (some g)) ∧ Hid (g < wr.heap.size))
    case atStart => exact ⟨k + 1, k, rfl, by simp, by omega, by omega, hlenA, Lib.hid (by omega), hDs, hi1, hgr1, hg1⟩
    case round =>
      clear hlenA hDs hi1 hgr1 hg1 b1 hne hw0 htake hkl
      obtain ⟨j, i, rfl, rfl, hj, hgg, hlen, hij, hDw, hiw, hgr, hgw⟩ := hrel
      have hij2 := hij.out
      by_cases hlt : j < M.length
      · have cj := hDw.out.high j (Nat.le_refl _) hlt
        obtain ⟨y, cy, fy⟩ := hDw.out.any i (by omega)
        have hP := Lib.hid (hp wr (M[j]?.getD default) hiw.out)
        have hst := kept_step p M j hlt
        have l1 : (j : Int) < M.length := by omega
        have l2 : (0 : Int) ≤ j := by omega
        have l3 : (i : Int) < M.length := by omega
        have l4 : (0 : Int) ≤ i := by omega
        have hw1 : IntKind.i64.wrap ((j : Int) + 1) = ((j + 1 : Nat) : Int) := wrap_nat (j + 1) (by omega)
        have hw2 : IntKind.i64.wrap ((i : Int) + 1) = ((i + 1 : Nat) : Int) := wrap_nat (i + 1) (by omega)
        have hms : Hid (M.length - (j + 1) < gk) := Lib.hid (by omega)
        have hk2 : Hid (j + 1 ≤ M.length) := Lib.hid (by omega)
        have hi2 : Hid (i + 1 < j + 1) := Lib.hid (by omega)
        have hi3 : Hid (i < j + 1) := Lib.hid (by omega)
        cases hpx : p (M[j]?.getD default) with
        | true =>
          rw [hpx, if_pos rfl, List.append_nil] at hst
          have hE : Hid (∀ w2, Below wr.heap.size wr w2 → Dl w2 g M.length M ((M.take (j + 1)).filter (fun x => !p x)) (j + 1) ∧ I w2 ∧ w.grownBy w2 (some g) ∧ g < w2.heap.size) := Lib.hid fun w2 b => ⟨by rw [hst]; exact (hDw.out.next hgw.out b).skip, hI1 _ _ hiw.out b, grown_one hgr.out b, Nat.lt_of_lt_of_le hgw.out b.size⟩
          have hl2 : Hid (((M.take (j + 1)).filter (fun x => !p x)).length = i) := Lib.hid (by rw [hst]; exact hlen.out)
          rw [hpx] at hP
          generalize M[j]?.getD default = x at cj hP
          clear hp hI1 hI2 hpx hst hij2 hgg hlt hj
          go_wp2_with (go_at_call 61; refine hP.out.mono ?_; rintro e w2 ⟨rfl, b2⟩)
          go_roundg (M.length - (j + 1))
          case measure => exact hms.out
          case rel => exact ⟨j + 1, i, rfl, by simp, hk2.out, Nat.le_refl _, hl2, hi3, Lib.hid (hE.out _ b2).1, Lib.hid (hE.out _ b2).2.1, Lib.hid (hE.out _ b2).2.2.1, Lib.hid (hE.out _ b2).2.2.2⟩
        | false =>
          rw [hpx] at hst
          simp only [Bool.false_eq_true, if_false] at hst
          have hE : Hid (∀ w2, Below wr.heap.size wr w2 → (∃ y, w2.cell? ⟨g, i, none⟩ = some (.string y) ∧ w2.frozen? ⟨g, i, none⟩ = false) ∧ Dl (w2.setCell ⟨g, i, none⟩ (.string ((M[j]?.getD default)))) g M.length M ((M.take (j + 1)).filter (fun x => !p x)) (j + 1) ∧ I (w2.setCell ⟨g, i, none⟩ (.string ((M[j]?.getD default)))) ∧ w.grownBy (w2.setCell ⟨g, i, none⟩ (.string ((M[j]?.getD default)))) (some g) ∧ g < (w2.setCell ⟨g, i, none⟩ (.string ((M[j]?.getD default)))).heap.size) := Lib.hid fun w2 b => by
            have hd2 := hDw.out.next hgw.out b
            refine ⟨hd2.any i (by omega), ?_, hI2 _ _ _ (hI1 _ _ hiw.out b), grown_cell g (grown_one hgr.out b) _ _, ?_⟩
            · rw [hst]
              have := hd2.keep (by rw [hlen.out]; omega) hlt (M[j]?.getD default)
              rw [hlen.out] at this; exact this
            · have := b.size; have := hgw.out; simp [World.setCell]; omega
          have hl2 : Hid (((M.take (j + 1)).filter (fun x => !p x)).length = i + 1) := Lib.hid (by rw [hst, List.length_append, hlen.out]; rfl)
          rw [hpx] at hP
          generalize M[j]?.getD default = x at cj hP hE
          clear hp hI1 hI2 hpx hst hij2 hgg hlt hj cy fy y
          go_wp2_with (go_at_call 61; refine hP.out.mono ?_; rintro e w2 ⟨rfl, b2⟩; obtain ⟨⟨y, cy, fy⟩, h9⟩ := hE.out _ b2; replace h9 := Lib.hid h9)
          go_roundg (M.length - (j + 1))
          case measure => exact hms.out
          case rel => exact ⟨j + 1, i + 1, by simp, by simp, hk2.out, Nat.le_refl _, hl2, hi2, Lib.hid h9.out.1, Lib.hid h9.out.2.1, Lib.hid h9.out.2.2.1, Lib.hid h9.out.2.2.2⟩
      · obtain rfl : j = M.length := by omega
        have l1 : ¬ (M.length : Int) < M.length := by omega
        have l3 : (i : Int) ≤ M.length := by omega
        have l4 : (0 : Int) ≤ i := by omega
        have l5 : (i : Int) ≤ cap := by omega
        have l6 : i ≤ M.length := by omega
        have l7 : (M.length : Int) ≤ cap := by omega
        have l8 : i < cap := by omega
        have l9 : ¬ cap - i = 0 := by omega
        have l10 : ¬ cap ≤ i := by omega
        have hfull : (M.take M.length).filter (fun x => !p x) = M.filter fun x => !p x := by rw [List.take_length]
        have hcl : ∀ ty, (Builtin.clear_ #[22] ty #[.slice (some ⟨g, 0 + i, none⟩) (M.length - i) (cap - i)]).run Tryz.prog wr = .ok (.tuple #[]) (wr.setCells g (0 + i) (List.replicate (M.length - i) (Value.string ByteArray.empty))) :=
          fun ty => Lib.run_clear_slice wr _ _ ty _ Tryz.underlying22 Tryz.zeroValue9 rfl rfl g (0 + i) _ _ (by omega) (fun t ht => by
            obtain ⟨y, h1, _⟩ := hDw.out.any (i + t) (by omega)
            rw [show 0 + i + t = i + t by omega, h1]; rfl) (fun t ht => by
            obtain ⟨y, _, h2⟩ := hDw.out.any (i + t) (by omega)
            rw [show 0 + i + t = i + t by omega]; exact h2)
        simp only [Nat.zero_add] at hcl
        have hE : Hid ((M.filter fun x => !p x).length = i ∧ (∀ t, t < (M.filter fun x => !p x).length → (wr.setCells g i (List.replicate (M.length - i) (Value.string ByteArray.empty))).cell? ⟨g, t, none⟩ = some (.string (((M.filter fun x => !p x)[t]?.getD default)))) ∧ w.grownBy (wr.setCells g i (List.replicate (M.length - i) (Value.string ByteArray.empty))) (some g)) := Lib.hid (by
          have hl := hlen.out
          have hd := hDw.out
          rw [hfull] at hl hd
          refine ⟨hl, ?_, grown_cells g _ _ _ hgr.out⟩
          rw [← hl]
          exact hd.cut _)
        clear hp hI1 hI2 hDw hfull hij2 hgg hj hlt hlen
        go_wp2
        go_ret
        exact ⟨by rw [hE.out.1]; rfl, hE.out.2.1, hE.out.2.2⟩
  · have hkeep : M.filter (fun x => !p x) = M := by rw [List.take_length] at htake; exact htake
    have hE : Hid ((∀ t, t < (M.filter fun x => !p x).length → w1.cell? ⟨g, t, none⟩ = some (.string (((M.filter fun x => !p x)[t]?.getD default)))) ∧ w.grownBy w1 (some g) ∧ (M.filter fun x => !p x).length = M.length) := Lib.hid ⟨by rw [hkeep]; exact fun t ht => hD1.high t (by omega) ht, hgr1, by rw [hkeep]⟩
    clear htake hall hkeep hD hD1 hi1
    go_wp2
    go_ret
    exact ⟨by rw [hE.out.2.2]; rfl, hE.out.1, hE.out.2.1⟩

end Go.Proofs.YtdmpkgdlelagjaaGreatDoor.Ts
