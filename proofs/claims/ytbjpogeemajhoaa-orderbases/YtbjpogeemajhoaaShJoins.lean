/-
  Sets joined: what one has and another one lacks, what both have, what either has. Conditions: sets are not too great.
-/
import Derived.Test.YtbjpogeemajhoaaRows
import Derived.Test.YtbjpogeemajhoaaShList
import Derived.Deep.LoopGhost
import Derived.Lib.SliceRun
import Derived.OwnWalk
namespace Go.Proofs.Ytbjpogeemajhoaa.Ti
open Go.RowKit Sh
attribute [local go_sem] fold_none

/-- a row that is rewritten as it is gone over: what is kept of its first places, the rest as it was -/
structure Dl (W : World) (g n : Nat) (M A : List Int) (j : Nat) : Prop where
  any : ∀ t, t < n → ∃ y, W.cell? ⟨g, t, none⟩ = some (.int .i64 y) ∧ W.frozen? ⟨g, t, none⟩ = false
  low : ∀ t, t < A.length → W.cell? ⟨g, t, none⟩ = some (.int .i64 ((A[t]?.getD default)))
  high : ∀ t, j ≤ t → t < n → W.cell? ⟨g, t, none⟩ = some (.int .i64 ((M[t]?.getD default)))
theorem Dl.next {W W' : World} {g n j : Nat} {M A : List Int} (h : Dl W g n M A j) (hg : g < W.heap.size) (hb : Below W.heap.size W W') : Dl W' g n M A j :=
  ⟨fun t ht => by
    obtain ⟨y, h1, h2⟩ := h.any t ht
    exact ⟨y, (hb.cell (p := ⟨g, t, none⟩) hg).trans h1, (World.frozen?_of_block (hb.block g hg)).trans h2⟩,
   fun t ht => (hb.cell (p := ⟨g, t, none⟩) hg).trans (h.low t ht), fun t h1 h2 => (hb.cell (p := ⟨g, t, none⟩) hg).trans (h.high t h1 h2)⟩
theorem Dl.skip {W : World} {g n j : Nat} {M A : List Int} (h : Dl W g n M A j) : Dl W g n M A (j + 1) := ⟨h.any, h.low, fun t h1 h2 => h.high t (by omega) h2⟩
theorem Dl.keep {W : World} {g n j : Nat} {M A : List Int} (h : Dl W g n M A j) (hA : A.length ≤ j) (hj : j < n) (x : Int) : Dl (W.setCell ⟨g, A.length, none⟩ (.int .i64 x)) g n M (A ++ [x]) (j + 1) := by
  obtain ⟨y0, hy0, hf0⟩ := h.any A.length (by omega)
  have hoth : ∀ t, t ≠ A.length → (W.setCell ⟨g, A.length, none⟩ (.int .i64 x)).cell? ⟨g, t, none⟩ = W.cell? ⟨g, t, none⟩ := fun t ht => by
    rw [World.cell?_setCell_other]; exact fun e => ht (congrArg Addr.off e).symm
  have hsame : (W.setCell ⟨g, A.length, none⟩ (.int .i64 x)).cell? ⟨g, A.length, none⟩ = some (.int .i64 x) := World.cell?_setCell_same _ _ _ hy0
  refine ⟨fun t ht => ?_, fun t ht => ?_, fun t h1 h2 => ?_⟩
  · by_cases e : t = A.length
    · subst e; exact ⟨x, hsame, by rw [World.frozen?_setCell]; exact hf0⟩
    · obtain ⟨y, h1, h2⟩ := h.any t ht
      exact ⟨y, (hoth t e).trans h1, by rw [World.frozen?_setCell]; exact h2⟩
  · by_cases e : t = A.length
    · subst e; rw [hsame]; simp
    · rw [hoth t e]
      have ht2 : t < A.length := by simp at ht; omega
      rw [h.low t ht2, List.getElem?_append_left ht2]
  · rw [hoth t (by omega)]; exact h.high t (by omega) h2
theorem Dl.cut {W : World} {g n : Nat} {M A : List Int} (h : Dl W g n M A n) (vs : List Value) : ∀ t, t < A.length → (W.setCells g A.length vs).cell? ⟨g, t, none⟩ = some (.int .i64 ((A[t]?.getD default))) := fun t ht => by
  rw [World.cell?_setCells_out g vs A.length W ⟨g, t, none⟩ (fun _ _ => Or.inl ht)]
  exact h.low t ht
theorem kept_step (p : Int → Bool) (M : List Int) (k : Nat) (hk : k < M.length) : (M.take (k + 1)).filter (fun x => !p x) = (M.take k).filter (fun x => !p x) ++ (if p (M[k]?.getD default) then [] else [M[k]?.getD default]) := by
  have h : M.take (k + 1) = M.take k ++ [M[k]?.getD default] := by rw [List.take_add_one]; simp [List.getElem?_eq_getElem hk]
  rw [h, List.filter_append]
  generalize M[k]?.getD default = x
  cases hp : p x <;> simp [hp]
theorem grown_one {W W1 W2 : World} {g : Nat} (h : W.grownBy W1 (some g)) (hb : Below W1.heap.size W1 W2) : W.grownBy W2 (some g) :=
  ⟨hb.os.trans h.os, hb.tape.trans h.tape, hb.output.trans h.output, Nat.le_trans h.size hb.size, fun k hk hne => (hb.block k (Nat.lt_of_lt_of_le hk h.size)).trans (h.block k hk hne)⟩
theorem grown_cells (g : Nat) {W : World} : ∀ (vs : List Value) (o : Nat) (W1 : World), W.grownBy W1 (some g) → W.grownBy (W1.setCells g o vs) (some g)
  | [], _, _, h => h
  | v :: vs, o, W1, h => grown_cells g vs (o + 1) _ ⟨h.os, h.tape, h.output, Nat.le_trans h.size (by simp [World.setCell]), fun k hk hne => (Below.heap_setCell _ _ _ k (fun e => hne (by rw [e]))).trans (h.block k hk hne)⟩
theorem grown_cell (g : Nat) {W W1 : World} (h : W.grownBy W1 (some g)) (a : Nat) (v : Value) : W.grownBy (W1.setCell ⟨g, a, none⟩ v) (some g) := grown_cells g [v] a W1 h

end Go.Proofs.Ytbjpogeemajhoaa.Ti
namespace Go.Proofs.Ytbjpogeemajhoaa.Ts
open Go.RowKit Sh
attribute [local go_sem] fold_none

/-- a row that is rewritten as it is gone over: what is kept of its first places, the rest as it was -/
structure Dl (W : World) (g n : Nat) (M A : List ByteArray) (j : Nat) : Prop where
  any : ∀ t, t < n → ∃ y, W.cell? ⟨g, t, none⟩ = some (.string y) ∧ W.frozen? ⟨g, t, none⟩ = false
  low : ∀ t, t < A.length → W.cell? ⟨g, t, none⟩ = some (.string ((A[t]?.getD default)))
  high : ∀ t, j ≤ t → t < n → W.cell? ⟨g, t, none⟩ = some (.string ((M[t]?.getD default)))
theorem Dl.next {W W' : World} {g n j : Nat} {M A : List ByteArray} (h : Dl W g n M A j) (hg : g < W.heap.size) (hb : Below W.heap.size W W') : Dl W' g n M A j :=
  ⟨fun t ht => by
    obtain ⟨y, h1, h2⟩ := h.any t ht
    exact ⟨y, (hb.cell (p := ⟨g, t, none⟩) hg).trans h1, (World.frozen?_of_block (hb.block g hg)).trans h2⟩,
   fun t ht => (hb.cell (p := ⟨g, t, none⟩) hg).trans (h.low t ht), fun t h1 h2 => (hb.cell (p := ⟨g, t, none⟩) hg).trans (h.high t h1 h2)⟩
theorem Dl.skip {W : World} {g n j : Nat} {M A : List ByteArray} (h : Dl W g n M A j) : Dl W g n M A (j + 1) := ⟨h.any, h.low, fun t h1 h2 => h.high t (by omega) h2⟩
theorem Dl.keep {W : World} {g n j : Nat} {M A : List ByteArray} (h : Dl W g n M A j) (hA : A.length ≤ j) (hj : j < n) (x : ByteArray) : Dl (W.setCell ⟨g, A.length, none⟩ (.string x)) g n M (A ++ [x]) (j + 1) := by
  obtain ⟨y0, hy0, hf0⟩ := h.any A.length (by omega)
  have hoth : ∀ t, t ≠ A.length → (W.setCell ⟨g, A.length, none⟩ (.string x)).cell? ⟨g, t, none⟩ = W.cell? ⟨g, t, none⟩ := fun t ht => by
    rw [World.cell?_setCell_other]; exact fun e => ht (congrArg Addr.off e).symm
  have hsame : (W.setCell ⟨g, A.length, none⟩ (.string x)).cell? ⟨g, A.length, none⟩ = some (.string x) := World.cell?_setCell_same _ _ _ hy0
  refine ⟨fun t ht => ?_, fun t ht => ?_, fun t h1 h2 => ?_⟩
  · by_cases e : t = A.length
    · subst e; exact ⟨x, hsame, by rw [World.frozen?_setCell]; exact hf0⟩
    · obtain ⟨y, h1, h2⟩ := h.any t ht
      exact ⟨y, (hoth t e).trans h1, by rw [World.frozen?_setCell]; exact h2⟩
  · by_cases e : t = A.length
    · subst e; rw [hsame]; simp
    · rw [hoth t e]
      have ht2 : t < A.length := by simp at ht; omega
      rw [h.low t ht2, List.getElem?_append_left ht2]
  · rw [hoth t (by omega)]; exact h.high t (by omega) h2
theorem Dl.cut {W : World} {g n : Nat} {M A : List ByteArray} (h : Dl W g n M A n) (vs : List Value) : ∀ t, t < A.length → (W.setCells g A.length vs).cell? ⟨g, t, none⟩ = some (.string ((A[t]?.getD default))) := fun t ht => by
  rw [World.cell?_setCells_out g vs A.length W ⟨g, t, none⟩ (fun _ _ => Or.inl ht)]
  exact h.low t ht
theorem kept_step (p : ByteArray → Bool) (M : List ByteArray) (k : Nat) (hk : k < M.length) : (M.take (k + 1)).filter (fun x => !p x) = (M.take k).filter (fun x => !p x) ++ (if p (M[k]?.getD default) then [] else [M[k]?.getD default]) := by
  have h : M.take (k + 1) = M.take k ++ [M[k]?.getD default] := by rw [List.take_add_one]; simp [List.getElem?_eq_getElem hk]
  rw [h, List.filter_append]
  generalize M[k]?.getD default = x
  cases hp : p x <;> simp [hp]
theorem grown_one {W W1 W2 : World} {g : Nat} (h : W.grownBy W1 (some g)) (hb : Below W1.heap.size W1 W2) : W.grownBy W2 (some g) :=
  ⟨hb.os.trans h.os, hb.tape.trans h.tape, hb.output.trans h.output, Nat.le_trans h.size hb.size, fun k hk hne => (hb.block k (Nat.lt_of_lt_of_le hk h.size)).trans (h.block k hk hne)⟩
theorem grown_cells (g : Nat) {W : World} : ∀ (vs : List Value) (o : Nat) (W1 : World), W.grownBy W1 (some g) → W.grownBy (W1.setCells g o vs) (some g)
  | [], _, _, h => h
  | v :: vs, o, W1, h => grown_cells g vs (o + 1) _ ⟨h.os, h.tape, h.output, Nat.le_trans h.size (by simp [World.setCell]), fun k hk hne => (Below.heap_setCell _ _ _ k (fun e => hne (by rw [e]))).trans (h.block k hk hne)⟩
theorem grown_cell (g : Nat) {W W1 : World} (h : W.grownBy W1 (some g)) (a : Nat) (v : Value) : W.grownBy (W1.setCell ⟨g, a, none⟩ v) (some g) := grown_cells g [v] a W1 h

set_option maxHeartbeats 2000000 in
set_option maxRecDepth 100000 in
/-- the first place at which the function value says yes, or -1 -/
theorem IndexFuncH_calls (a : Option Addr) (p : ByteArray → Bool) (I : World → Prop) (hI1 : ∀ W W', I W → Below W.heap.size W W' → I W') (hp : ∀ W x, I W → Calls Try.prog 27 #[.pointer a, .string x] W fun e w' => e = .returned (.bool (p x)) ∧ Below W.heap.size W w') (w : World) (g cap : Nat) (M : List ByteArray) (hM : M.length ≤ 1000000) (hi : I w) (hg : g < w.heap.size) (hc : ∀ t, t < M.length → w.cell? ⟨g, t, none⟩ = some (.string ((M[t]?.getD default)))) :
    Calls Try.prog 67 #[.slice (some ⟨g, 0, none⟩) M.length cap, .func (.func 27) #[.pointer a] #[]] w fun e w' => (∃ k : Nat, (k < M.length ∧ e = .returned (.int .i64 (k : Int)) ∧ p (M[k]?.getD default) = true ∨ k = M.length ∧ e = .returned (.int .i64 (-1))) ∧ (∀ t, t < k → p (M[t]?.getD default) = false)) ∧ I w' ∧ Below w.heap.size w w' := by
  go_enter Try.func67, Try.ntmps67
  go_wp2
  go_loopg [8] M.length (fun gg s8 wr => ∃ k : Nat, s8 = .int .i64 (k : Int) ∧ k ≤ M.length ∧ M.length - k ≤ gg ∧ Hid (∀ t, t < k → p (M[t]?.getD default) = false) ∧ Hid (I wr) ∧ Hid (Below w.heap.size w wr))
  case atStart => exact ⟨0, rfl, by omega, by omega, Lib.hid (fun t ht => by omega), hi, Below.refl _ _⟩
  case round =>
    obtain ⟨k, rfl, hk, hgg, hpre, hiw, hB⟩ := hrel
    by_cases hlt : k < M.length
    · have ck : wr.cell? ⟨g, k, none⟩ = some (.string ((M[k]?.getD default))) := (hB.out.cell (p := ⟨g, k, none⟩) hg).trans (hc k hlt)
      have hP := Lib.hid (hp wr (M[k]?.getD default) hiw.out)
      have l1 : (k : Int) < M.length := by omega
      have l2 : (0 : Int) ≤ k := by omega
      have hk1 : k < 1000000 := by omega
      have hw1 : IntKind.i64.wrap ((k : Int) + 1) = ((k + 1 : Nat) : Int) := wrap_nat (k + 1) (by omega)
      have hnx : Hid (p (M[k]?.getD default) = false → ∀ t, t < k + 1 → p (M[t]?.getD default) = false) := Lib.hid fun h t ht => by
        by_cases e : t = k
        · rw [e]; exact h
        · exact hpre.out t (by omega)
      have hms : Hid (M.length - (k + 1) < gk) := Lib.hid (by omega)
      have hI3 := Lib.hid (fun W' (h : Below wr.heap.size wr W') => hI1 wr W' hiw.out h)
      have hk2 : Hid (k + 1 ≤ M.length) := Lib.hid (by omega)
      have hk3 : Hid (k < M.length) := Lib.hid hlt
      cases hpx : p (M[k]?.getD default) with
      | true =>
        have hpx2 : Hid (p (M[k]?.getD default) = true) := Lib.hid hpx
        rw [hpx] at hP
        generalize M[k]?.getD default = x at ck hP
        clear hc hp hI1 hi hpx
        go_wp2_with (go_at_call 27; refine hP.out.mono ?_; rintro e w1 ⟨rfl, b1⟩)
        go_ret
        exact ⟨⟨k, Or.inl ⟨hk3.out, rfl, hpx2.out⟩, hpre.out⟩, hI3.out _ b1, b_then hB.out b1⟩
      | false =>
        have hnx2 := Lib.hid (hnx.out hpx)
        rw [hpx] at hP
        generalize M[k]?.getD default = x at ck hP
        clear hc hp hI1 hi hpx hnx
        go_wp2_with (go_at_call 27; refine hP.out.mono ?_; rintro e w1 ⟨rfl, b1⟩)
        go_roundg (M.length - (k + 1))
        case measure => exact hms.out
        case rel => exact ⟨k + 1, by simp, hk2.out, Nat.le_refl _, hnx2, Lib.hid (hI3.out _ b1), Lib.hid (b_then hB.out b1)⟩
    · obtain rfl : k = M.length := by omega
      have l1 : ¬ (M.length : Int) < M.length := by omega
      clear hc hp
      go_wp2
      go_ret
      exact ⟨⟨M.length, Or.inr ⟨rfl, rfl⟩, hpre.out⟩, hiw.out, hB.out⟩

set_option maxHeartbeats 4000000 in
set_option maxRecDepth 100000 in
/-- what the function value says no to is kept, in its order -/
theorem DeleteFuncH_calls (a : Option Addr) (g : Nat) (p : ByteArray → Bool) (I : World → Prop) (hI1 : ∀ W W', I W → Below W.heap.size W W' → I W') (hp : ∀ W x, I W → Calls Try.prog 27 #[.pointer a, .string x] W fun e w' => e = .returned (.bool (p x)) ∧ Below W.heap.size W w') (hI2 : ∀ W t v, I W → I (W.setCell ⟨g, t, none⟩ v)) (_hI4 : ∀ W t vs, I W → I (W.setCells g t vs)) (w : World) (cap : Nat) (M : List ByteArray) (hM : M.length ≤ 1000000) (hcap : M.length ≤ cap) (hi : I w) (hg : g < w.heap.size) (hD : Dl w g M.length M [] 0) :
    Calls Try.prog 45 #[.slice (some ⟨g, 0, none⟩) M.length cap, .func (.func 27) #[.pointer a] #[]] w fun e w' => e = .returned (.slice (some ⟨g, 0, none⟩) (M.filter fun x => !p x).length cap) ∧ (∀ t, t < (M.filter fun x => !p x).length → w'.cell? ⟨g, t, none⟩ = some (.string (((M.filter fun x => !p x)[t]?.getD default)))) ∧ w.grownBy w' (some g) := by
  have hIF := Lib.hid (IndexFuncH_calls a p I hI1 hp w g cap M hM hi hg (fun t ht => hD.high t (by omega) ht))
  have g0 : w.grownBy w (some g) := ⟨rfl, rfl, rfl, Nat.le_refl _, fun _ _ _ => rfl⟩
  go_enter Try.func45, Try.ntmps45
  go_wp2_with fail
  refine hIF.out.mono ?_
  clear hIF
  rintro e w1 ⟨⟨k, hk, hall⟩, hi1, b1⟩
  have hD1 := hD.next hg b1
  have hg1 : g < w1.heap.size := Nat.lt_of_lt_of_le hg b1.size
  have hgr1 := grown_one g0 b1
  have htake : (M.take k).filter (fun x => !p x) = M.take k := List.filter_eq_self.2 fun x hx => by
    obtain ⟨t, ht, e⟩ := List.getElem_of_mem hx
    have ht2 : t < k ∧ t < M.length := by have h9 := ht; simp only [List.length_take] at h9; omega
    have := hall t ht2.1
    rw [List.getElem?_eq_getElem ht2.2] at this
    simp at e
    rw [← e]; simpa using this
  rcases hk with ⟨hkl, rfl, hpk⟩ | ⟨rfl, rfl⟩
  · have hne : ((k : Int) == -1) = false := beq_eq_false_iff_ne.2 (by omega)
    have hlenA : Hid (((M.take (k + 1)).filter (fun x => !p x)).length = k) := Lib.hid (by rw [kept_step p M k hkl, hpk, htake]; simp; omega)
    have hw0 : IntKind.i64.wrap ((k : Int) + 1) = ((k + 1 : Nat) : Int) := wrap_nat (k + 1) (by omega)
    have hDs : Hid (Dl w1 g M.length M ((M.take (k + 1)).filter (fun x => !p x)) (k + 1)) := Lib.hid ⟨hD1.any, fun t ht => by
        have hA : (M.take (k + 1)).filter (fun x => !p x) = M.take k := by rw [kept_step p M k hkl, hpk, htake]; simp
        rw [hA] at ht ⊢
        have ht2 : t < k := by simp at ht; omega
        rw [hD1.high t (by omega) (by omega), List.getElem?_take, if_pos ht2], fun t h1 h2 => hD1.high t (by omega) h2⟩
    replace htake := Lib.hid htake
    clear hall hD hD1 hi g0 hpk
    go_wp2_with fail
    go_loopg [5, 6, 7] M.length (fun gg s5 s6 _ wr => ∃ (j i : Nat), s5 = .int .i64 (i : Int) ∧ s6 = .int .i64 (j : Int) ∧ j ≤ M.length ∧ M.length - j ≤ gg ∧ Hid (((M.take j).filter (fun x => !p x)).length = i) ∧ Hid (i < j) ∧ Hid (Dl wr g M.length M ((M.take j).filter (fun x => !p x)) j) ∧ Hid (I wr) ∧ Hid (w.grownBy wr (some g)) ∧ Hid (g < wr.heap.size))
    case atStart => exact ⟨k + 1, k, rfl, by simp, by omega, by omega, hlenA, Lib.hid (by omega), hDs, hi1, hgr1, hg1⟩
    case round =>
      clear hlenA hDs hi1 hgr1 hg1 b1 hne hw0 htake hkl
      obtain ⟨j, i, rfl, rfl, hj, hgg, hlen, hij, hDw, hiw, hgr, hgw⟩ := hrel
      have hij2 := hij.out
      by_cases hlt : j < M.length
      · have cj := hDw.out.high j (Nat.le_refl _) hlt
        obtain ⟨y, cy, fy⟩ := hDw.out.any i (by omega)
        have hP := Lib.hid (hp wr (M[j]?.getD default) hiw.out)
        have hst := kept_step p M j hlt
        have l1 : (j : Int) < M.length := by omega
        have l2 : (0 : Int) ≤ j := by omega
        have l3 : (i : Int) < M.length := by omega
        have l4 : (0 : Int) ≤ i := by omega
        have hw1 : IntKind.i64.wrap ((j : Int) + 1) = ((j + 1 : Nat) : Int) := wrap_nat (j + 1) (by omega)
        have hw2 : IntKind.i64.wrap ((i : Int) + 1) = ((i + 1 : Nat) : Int) := wrap_nat (i + 1) (by omega)
        have hms : Hid (M.length - (j + 1) < gk) := Lib.hid (by omega)
        have hk2 : Hid (j + 1 ≤ M.length) := Lib.hid (by omega)
        have hi2 : Hid (i + 1 < j + 1) := Lib.hid (by omega)
        have hi3 : Hid (i < j + 1) := Lib.hid (by omega)
        cases hpx : p (M[j]?.getD default) with
        | true =>
          rw [hpx, if_pos rfl, List.append_nil] at hst
          have hE : Hid (∀ w2, Below wr.heap.size wr w2 → Dl w2 g M.length M ((M.take (j + 1)).filter (fun x => !p x)) (j + 1) ∧ I w2 ∧ w.grownBy w2 (some g) ∧ g < w2.heap.size) := Lib.hid fun w2 b => ⟨by rw [hst]; exact (hDw.out.next hgw.out b).skip, hI1 _ _ hiw.out b, grown_one hgr.out b, Nat.lt_of_lt_of_le hgw.out b.size⟩
          have hl2 : Hid (((M.take (j + 1)).filter (fun x => !p x)).length = i) := Lib.hid (by rw [hst]; exact hlen.out)
          rw [hpx] at hP
          generalize M[j]?.getD default = x at cj hP
          clear hp hI1 hI2 hpx hst hij2 hgg hlt hj
          go_wp2_with (go_at_call 27; refine hP.out.mono ?_; rintro e w2 ⟨rfl, b2⟩)
          go_roundg (M.length - (j + 1))
          case measure => exact hms.out
          case rel => exact ⟨j + 1, i, rfl, by simp, hk2.out, Nat.le_refl _, hl2, hi3, Lib.hid (hE.out _ b2).1, Lib.hid (hE.out _ b2).2.1, Lib.hid (hE.out _ b2).2.2.1, Lib.hid (hE.out _ b2).2.2.2⟩
        | false =>
          rw [hpx] at hst
          simp only [Bool.false_eq_true, if_false] at hst
          have hE : Hid (∀ w2, Below wr.heap.size wr w2 → (∃ y, w2.cell? ⟨g, i, none⟩ = some (.string y) ∧ w2.frozen? ⟨g, i, none⟩ = false) ∧ Dl (w2.setCell ⟨g, i, none⟩ (.string ((M[j]?.getD default)))) g M.length M ((M.take (j + 1)).filter (fun x => !p x)) (j + 1) ∧ I (w2.setCell ⟨g, i, none⟩ (.string ((M[j]?.getD default)))) ∧ w.grownBy (w2.setCell ⟨g, i, none⟩ (.string ((M[j]?.getD default)))) (some g) ∧ g < (w2.setCell ⟨g, i, none⟩ (.string ((M[j]?.getD default)))).heap.size) := Lib.hid fun w2 b => by
            have hd2 := hDw.out.next hgw.out b
            refine ⟨hd2.any i (by omega), ?_, hI2 _ _ _ (hI1 _ _ hiw.out b), grown_cell g (grown_one hgr.out b) _ _, ?_⟩
            · rw [hst]
              have := hd2.keep (by rw [hlen.out]; omega) hlt (M[j]?.getD default)
              rw [hlen.out] at this; exact this
            · have := b.size; have := hgw.out; simp [World.setCell]; omega
          have hl2 : Hid (((M.take (j + 1)).filter (fun x => !p x)).length = i + 1) := Lib.hid (by rw [hst, List.length_append, hlen.out]; rfl)
          rw [hpx] at hP
          generalize M[j]?.getD default = x at cj hP hE
          clear hp hI1 hI2 hpx hst hij2 hgg hlt hj cy fy y
          go_wp2_with (go_at_call 27; refine hP.out.mono ?_; rintro e w2 ⟨rfl, b2⟩; obtain ⟨⟨y, cy, fy⟩, h9⟩ := hE.out _ b2; replace h9 := Lib.hid h9)
          go_roundg (M.length - (j + 1))
          case measure => exact hms.out
          case rel => exact ⟨j + 1, i + 1, by simp, by simp, hk2.out, Nat.le_refl _, hl2, hi2, Lib.hid h9.out.1, Lib.hid h9.out.2.1, Lib.hid h9.out.2.2.1, Lib.hid h9.out.2.2.2⟩
      · obtain rfl : j = M.length := by omega
        have l1 : ¬ (M.length : Int) < M.length := by omega
        have l3 : (i : Int) ≤ M.length := by omega
        have l4 : (0 : Int) ≤ i := by omega
        have l5 : (i : Int) ≤ cap := by omega
        have l6 : i ≤ M.length := by omega
        have l7 : (M.length : Int) ≤ cap := by omega
        have l8 : i < cap := by omega
        have l9 : ¬ cap - i = 0 := by omega
        have l10 : ¬ cap ≤ i := by omega
        have hfull : (M.take M.length).filter (fun x => !p x) = M.filter fun x => !p x := by rw [List.take_length]
        have hcl : ∀ ty, (Builtin.clear_ #[22] ty #[.slice (some ⟨g, 0 + i, none⟩) (M.length - i) (cap - i)]).run Try.prog wr = .ok (.tuple #[]) (wr.setCells g (0 + i) (List.replicate (M.length - i) (Value.string ByteArray.empty))) :=
          fun ty => Lib.run_clear_slice wr _ _ ty _ Try.underlying22 Try.zeroValue9 rfl rfl g (0 + i) _ _ (by omega) (fun t ht => by
            obtain ⟨y, h1, _⟩ := hDw.out.any (i + t) (by omega)
            rw [show 0 + i + t = i + t by omega, h1]; rfl) (fun t ht => by
            obtain ⟨y, _, h2⟩ := hDw.out.any (i + t) (by omega)
            rw [show 0 + i + t = i + t by omega]; exact h2)
        simp only [Nat.zero_add] at hcl
        have hE : Hid ((M.filter fun x => !p x).length = i ∧ (∀ t, t < (M.filter fun x => !p x).length → (wr.setCells g i (List.replicate (M.length - i) (Value.string ByteArray.empty))).cell? ⟨g, t, none⟩ = some (.string (((M.filter fun x => !p x)[t]?.getD default)))) ∧ w.grownBy (wr.setCells g i (List.replicate (M.length - i) (Value.string ByteArray.empty))) (some g)) := Lib.hid (by
          have hl := hlen.out
          have hd := hDw.out
          rw [hfull] at hl hd
          refine ⟨hl, ?_, grown_cells g _ _ _ hgr.out⟩
          rw [← hl]
          exact hd.cut _)
        clear hp hI1 hI2 hDw hfull hij2 hgg hj hlt hlen
        go_wp2
        go_ret
        exact ⟨by rw [hE.out.1]; rfl, hE.out.2.1, hE.out.2.2⟩
  · have hkeep : M.filter (fun x => !p x) = M := by rw [List.take_length] at htake; exact htake
    have hE : Hid ((∀ t, t < (M.filter fun x => !p x).length → w1.cell? ⟨g, t, none⟩ = some (.string (((M.filter fun x => !p x)[t]?.getD default)))) ∧ w.grownBy w1 (some g) ∧ (M.filter fun x => !p x).length = M.length) := Lib.hid ⟨by rw [hkeep]; exact fun t ht => hD1.high t (by omega) ht, hgr1, by rw [hkeep]⟩
    clear htake hall hkeep hD hD1 hi1
    go_wp2
    go_ret
    exact ⟨by rw [hE.out.2.2]; rfl, hE.out.1, hE.out.2.1⟩

set_option maxHeartbeats 2000000 in
set_option maxRecDepth 100000 in
/-- the first place at which the function value says yes, or -1 -/
theorem IndexFuncM_calls (B : Nat) (p : ByteArray → Bool) (I : World → Prop) (hI1 : ∀ W W', I W → Below W.heap.size W W' → I W') (hp : ∀ W x, I W → Calls Try.prog 43 #[.string x, .pointer (some ⟨B, 0, none⟩)] W fun e w' => e = .returned (.bool (p x)) ∧ Below W.heap.size W w') (w : World) (g cap : Nat) (M : List ByteArray) (hM : M.length ≤ 1000000) (hi : I w) (hg : g < w.heap.size) (hc : ∀ t, t < M.length → w.cell? ⟨g, t, none⟩ = some (.string ((M[t]?.getD default)))) :
    Calls Try.prog 67 #[.slice (some ⟨g, 0, none⟩) M.length cap, .func (.func 43) #[] #[.pointer (some ⟨B, 0, none⟩)]] w fun e w' => (∃ k : Nat, (k < M.length ∧ e = .returned (.int .i64 (k : Int)) ∧ p (M[k]?.getD default) = true ∨ k = M.length ∧ e = .returned (.int .i64 (-1))) ∧ (∀ t, t < k → p (M[t]?.getD default) = false)) ∧ I w' ∧ Below w.heap.size w w' := by
  go_enter Try.func67, Try.ntmps67
  go_wp2
  go_loopg [8] M.length (fun gg s8 wr => ∃ k : Nat, s8 = .int .i64 (k : Int) ∧ k ≤ M.length ∧ M.length - k ≤ gg ∧ Hid (∀ t, t < k → p (M[t]?.getD default) = false) ∧ Hid (I wr) ∧ Hid (Below w.heap.size w wr))
  case atStart => exact ⟨0, rfl, by omega, by omega, Lib.hid (fun t ht => by omega), hi, Below.refl _ _⟩
  case round =>
    obtain ⟨k, rfl, hk, hgg, hpre, hiw, hB⟩ := hrel
    by_cases hlt : k < M.length
    · have ck : wr.cell? ⟨g, k, none⟩ = some (.string ((M[k]?.getD default))) := (hB.out.cell (p := ⟨g, k, none⟩) hg).trans (hc k hlt)
      have hP := Lib.hid (hp wr (M[k]?.getD default) hiw.out)
      have l1 : (k : Int) < M.length := by omega
      have l2 : (0 : Int) ≤ k := by omega
      have hk1 : k < 1000000 := by omega
      have hw1 : IntKind.i64.wrap ((k : Int) + 1) = ((k + 1 : Nat) : Int) := wrap_nat (k + 1) (by omega)
      have hnx : Hid (p (M[k]?.getD default) = false → ∀ t, t < k + 1 → p (M[t]?.getD default) = false) := Lib.hid fun h t ht => by
        by_cases e : t = k
        · rw [e]; exact h
        · exact hpre.out t (by omega)
      have hms : Hid (M.length - (k + 1) < gk) := Lib.hid (by omega)
      have hI3 := Lib.hid (fun W' (h : Below wr.heap.size wr W') => hI1 wr W' hiw.out h)
      have hk2 : Hid (k + 1 ≤ M.length) := Lib.hid (by omega)
      have hk3 : Hid (k < M.length) := Lib.hid hlt
      cases hpx : p (M[k]?.getD default) with
      | true =>
        have hpx2 : Hid (p (M[k]?.getD default) = true) := Lib.hid hpx
        rw [hpx] at hP
        generalize M[k]?.getD default = x at ck hP
        clear hc hp hI1 hi hpx
        go_wp2_with (go_at_call 43; refine hP.out.mono ?_; rintro e w1 ⟨rfl, b1⟩)
        go_ret
        exact ⟨⟨k, Or.inl ⟨hk3.out, rfl, hpx2.out⟩, hpre.out⟩, hI3.out _ b1, b_then hB.out b1⟩
      | false =>
        have hnx2 := Lib.hid (hnx.out hpx)
        rw [hpx] at hP
        generalize M[k]?.getD default = x at ck hP
        clear hc hp hI1 hi hpx hnx
        go_wp2_with (go_at_call 43; refine hP.out.mono ?_; rintro e w1 ⟨rfl, b1⟩)
        go_roundg (M.length - (k + 1))
        case measure => exact hms.out
        case rel => exact ⟨k + 1, by simp, hk2.out, Nat.le_refl _, hnx2, Lib.hid (hI3.out _ b1), Lib.hid (b_then hB.out b1)⟩
    · obtain rfl : k = M.length := by omega
      have l1 : ¬ (M.length : Int) < M.length := by omega
      clear hc hp
      go_wp2
      go_ret
      exact ⟨⟨M.length, Or.inr ⟨rfl, rfl⟩, hpre.out⟩, hiw.out, hB.out⟩

set_option maxHeartbeats 4000000 in
set_option maxRecDepth 100000 in
/-- what the function value says no to is kept, in its order -/
theorem DeleteFuncM_calls (B : Nat) (g : Nat) (p : ByteArray → Bool) (I : World → Prop) (hI1 : ∀ W W', I W → Below W.heap.size W W' → I W') (hp : ∀ W x, I W → Calls Try.prog 43 #[.string x, .pointer (some ⟨B, 0, none⟩)] W fun e w' => e = .returned (.bool (p x)) ∧ Below W.heap.size W w') (hI2 : ∀ W t v, I W → I (W.setCell ⟨g, t, none⟩ v)) (_hI4 : ∀ W t vs, I W → I (W.setCells g t vs)) (w : World) (cap : Nat) (M : List ByteArray) (hM : M.length ≤ 1000000) (hcap : M.length ≤ cap) (hi : I w) (hg : g < w.heap.size) (hD : Dl w g M.length M [] 0) :
    Calls Try.prog 45 #[.slice (some ⟨g, 0, none⟩) M.length cap, .func (.func 43) #[] #[.pointer (some ⟨B, 0, none⟩)]] w fun e w' => e = .returned (.slice (some ⟨g, 0, none⟩) (M.filter fun x => !p x).length cap) ∧ (∀ t, t < (M.filter fun x => !p x).length → w'.cell? ⟨g, t, none⟩ = some (.string (((M.filter fun x => !p x)[t]?.getD default)))) ∧ w.grownBy w' (some g) := by
  have hIF := Lib.hid (IndexFuncM_calls B p I hI1 hp w g cap M hM hi hg (fun t ht => hD.high t (by omega) ht))
  have g0 : w.grownBy w (some g) := ⟨rfl, rfl, rfl, Nat.le_refl _, fun _ _ _ => rfl⟩
  go_enter Try.func45, Try.ntmps45
  go_wp2_with fail
  refine hIF.out.mono ?_
  clear hIF
  rintro e w1 ⟨⟨k, hk, hall⟩, hi1, b1⟩
  have hD1 := hD.next hg b1
  have hg1 : g < w1.heap.size := Nat.lt_of_lt_of_le hg b1.size
  have hgr1 := grown_one g0 b1
  have htake : (M.take k).filter (fun x => !p x) = M.take k := List.filter_eq_self.2 fun x hx => by
    obtain ⟨t, ht, e⟩ := List.getElem_of_mem hx
    have ht2 : t < k ∧ t < M.length := by have h9 := ht; simp only [List.length_take] at h9; omega
    have := hall t ht2.1
    rw [List.getElem?_eq_getElem ht2.2] at this
    simp at e
    rw [← e]; simpa using this
  rcases hk with ⟨hkl, rfl, hpk⟩ | ⟨rfl, rfl⟩
  · have hne : ((k : Int) == -1) = false := beq_eq_false_iff_ne.2 (by omega)
    have hlenA : Hid (((M.take (k + 1)).filter (fun x => !p x)).length = k) := Lib.hid (by rw [kept_step p M k hkl, hpk, htake]; simp; omega)
    have hw0 : IntKind.i64.wrap ((k : Int) + 1) = ((k + 1 : Nat) : Int) := wrap_nat (k + 1) (by omega)
    have hDs : Hid (Dl w1 g M.length M ((M.take (k + 1)).filter (fun x => !p x)) (k + 1)) := Lib.hid ⟨hD1.any, fun t ht => by
        have hA : (M.take (k + 1)).filter (fun x => !p x) = M.take k := by rw [kept_step p M k hkl, hpk, htake]; simp
        rw [hA] at ht ⊢
        have ht2 : t < k := by simp at ht; omega
        rw [hD1.high t (by omega) (by omega), List.getElem?_take, if_pos ht2], fun t h1 h2 => hD1.high t (by omega) h2⟩
    replace htake := Lib.hid htake
    clear hall hD hD1 hi g0 hpk
    go_wp2_with fail
    go_loopg [5, 6, 7] M.length (fun gg s5 s6 _ wr => ∃ (j i : Nat), s5 = .int .i64 (i : Int) ∧ s6 = .int .i64 (j : Int) ∧ j ≤ M.length ∧ M.length - j ≤ gg ∧ Hid (((M.take j).filter (fun x => !p x)).length = i) ∧ Hid (i < j) ∧ Hid (Dl wr g M.length M ((M.take j).filter (fun x => !p x)) j) ∧ Hid (I wr) ∧ Hid (w.grownBy wr (some g)) ∧ Hid (g < wr.heap.size))
    case atStart => exact ⟨k + 1, k, rfl, by simp, by omega, by omega, hlenA, Lib.hid (by omega), hDs, hi1, hgr1, hg1⟩
    case round =>
      clear hlenA hDs hi1 hgr1 hg1 b1 hne hw0 htake hkl
      obtain ⟨j, i, rfl, rfl, hj, hgg, hlen, hij, hDw, hiw, hgr, hgw⟩ := hrel
      have hij2 := hij.out
      by_cases hlt : j < M.length
      · have cj := hDw.out.high j (Nat.le_refl _) hlt
        obtain ⟨y, cy, fy⟩ := hDw.out.any i (by omega)
        have hP := Lib.hid (hp wr (M[j]?.getD default) hiw.out)
        have hst := kept_step p M j hlt
        have l1 : (j : Int) < M.length := by omega
        have l2 : (0 : Int) ≤ j := by omega
        have l3 : (i : Int) < M.length := by omega
        have l4 : (0 : Int) ≤ i := by omega
        have hw1 : IntKind.i64.wrap ((j : Int) + 1) = ((j + 1 : Nat) : Int) := wrap_nat (j + 1) (by omega)
        have hw2 : IntKind.i64.wrap ((i : Int) + 1) = ((i + 1 : Nat) : Int) := wrap_nat (i + 1) (by omega)
        have hms : Hid (M.length - (j + 1) < gk) := Lib.hid (by omega)
        have hk2 : Hid (j + 1 ≤ M.length) := Lib.hid (by omega)
        have hi2 : Hid (i + 1 < j + 1) := Lib.hid (by omega)
        have hi3 : Hid (i < j + 1) := Lib.hid (by omega)
        cases hpx : p (M[j]?.getD default) with
        | true =>
          rw [hpx, if_pos rfl, List.append_nil] at hst
          have hE : Hid (∀ w2, Below wr.heap.size wr w2 → Dl w2 g M.length M ((M.take (j + 1)).filter (fun x => !p x)) (j + 1) ∧ I w2 ∧ w.grownBy w2 (some g) ∧ g < w2.heap.size) := Lib.hid fun w2 b => ⟨by rw [hst]; exact (hDw.out.next hgw.out b).skip, hI1 _ _ hiw.out b, grown_one hgr.out b, Nat.lt_of_lt_of_le hgw.out b.size⟩
          have hl2 : Hid (((M.take (j + 1)).filter (fun x => !p x)).length = i) := Lib.hid (by rw [hst]; exact hlen.out)
          rw [hpx] at hP
          generalize M[j]?.getD default = x at cj hP
          clear hp hI1 hI2 hpx hst hij2 hgg hlt hj
          go_wp2_with (go_at_call 43; refine hP.out.mono ?_; rintro e w2 ⟨rfl, b2⟩)
          go_roundg (M.length - (j + 1))
          case measure => exact hms.out
          case rel => exact ⟨j + 1, i, rfl, by simp, hk2.out, Nat.le_refl _, hl2, hi3, Lib.hid (hE.out _ b2).1, Lib.hid (hE.out _ b2).2.1, Lib.hid (hE.out _ b2).2.2.1, Lib.hid (hE.out _ b2).2.2.2⟩
        | false =>
          rw [hpx] at hst
          simp only [Bool.false_eq_true, if_false] at hst
          have hE : Hid (∀ w2, Below wr.heap.size wr w2 → (∃ y, w2.cell? ⟨g, i, none⟩ = some (.string y) ∧ w2.frozen? ⟨g, i, none⟩ = false) ∧ Dl (w2.setCell ⟨g, i, none⟩ (.string ((M[j]?.getD default)))) g M.length M ((M.take (j + 1)).filter (fun x => !p x)) (j + 1) ∧ I (w2.setCell ⟨g, i, none⟩ (.string ((M[j]?.getD default)))) ∧ w.grownBy (w2.setCell ⟨g, i, none⟩ (.string ((M[j]?.getD default)))) (some g) ∧ g < (w2.setCell ⟨g, i, none⟩ (.string ((M[j]?.getD default)))).heap.size) := Lib.hid fun w2 b => by
            have hd2 := hDw.out.next hgw.out b
            refine ⟨hd2.any i (by omega), ?_, hI2 _ _ _ (hI1 _ _ hiw.out b), grown_cell g (grown_one hgr.out b) _ _, ?_⟩
            · rw [hst]
              have := hd2.keep (by rw [hlen.out]; omega) hlt (M[j]?.getD default)
              rw [hlen.out] at this; exact this
            · have := b.size; have := hgw.out; simp [World.setCell]; omega
          have hl2 : Hid (((M.take (j + 1)).filter (fun x => !p x)).length = i + 1) := Lib.hid (by rw [hst, List.length_append, hlen.out]; rfl)
          rw [hpx] at hP
          generalize M[j]?.getD default = x at cj hP hE
          clear hp hI1 hI2 hpx hst hij2 hgg hlt hj cy fy y
          go_wp2_with (go_at_call 43; refine hP.out.mono ?_; rintro e w2 ⟨rfl, b2⟩; obtain ⟨⟨y, cy, fy⟩, h9⟩ := hE.out _ b2; replace h9 := Lib.hid h9)
          go_roundg (M.length - (j + 1))
          case measure => exact hms.out
          case rel => exact ⟨j + 1, i + 1, by simp, by simp, hk2.out, Nat.le_refl _, hl2, hi2, Lib.hid h9.out.1, Lib.hid h9.out.2.1, Lib.hid h9.out.2.2.1, Lib.hid h9.out.2.2.2⟩
      · obtain rfl : j = M.length := by omega
        have l1 : ¬ (M.length : Int) < M.length := by omega
        have l3 : (i : Int) ≤ M.length := by omega
        have l4 : (0 : Int) ≤ i := by omega
        have l5 : (i : Int) ≤ cap := by omega
        have l6 : i ≤ M.length := by omega
        have l7 : (M.length : Int) ≤ cap := by omega
        have l8 : i < cap := by omega
        have l9 : ¬ cap - i = 0 := by omega
        have l10 : ¬ cap ≤ i := by omega
        have hfull : (M.take M.length).filter (fun x => !p x) = M.filter fun x => !p x := by rw [List.take_length]
        have hcl : ∀ ty, (Builtin.clear_ #[22] ty #[.slice (some ⟨g, 0 + i, none⟩) (M.length - i) (cap - i)]).run Try.prog wr = .ok (.tuple #[]) (wr.setCells g (0 + i) (List.replicate (M.length - i) (Value.string ByteArray.empty))) :=
          fun ty => Lib.run_clear_slice wr _ _ ty _ Try.underlying22 Try.zeroValue9 rfl rfl g (0 + i) _ _ (by omega) (fun t ht => by
            obtain ⟨y, h1, _⟩ := hDw.out.any (i + t) (by omega)
            rw [show 0 + i + t = i + t by omega, h1]; rfl) (fun t ht => by
            obtain ⟨y, _, h2⟩ := hDw.out.any (i + t) (by omega)
            rw [show 0 + i + t = i + t by omega]; exact h2)
        simp only [Nat.zero_add] at hcl
        have hE : Hid ((M.filter fun x => !p x).length = i ∧ (∀ t, t < (M.filter fun x => !p x).length → (wr.setCells g i (List.replicate (M.length - i) (Value.string ByteArray.empty))).cell? ⟨g, t, none⟩ = some (.string (((M.filter fun x => !p x)[t]?.getD default)))) ∧ w.grownBy (wr.setCells g i (List.replicate (M.length - i) (Value.string ByteArray.empty))) (some g)) := Lib.hid (by
          have hl := hlen.out
          have hd := hDw.out
          rw [hfull] at hl hd
          refine ⟨hl, ?_, grown_cells g _ _ _ hgr.out⟩
          rw [← hl]
          exact hd.cut _)
        clear hp hI1 hI2 hDw hfull hij2 hgg hj hlt hlen
        go_wp2
        go_ret
        exact ⟨by rw [hE.out.1]; rfl, hE.out.2.1, hE.out.2.2⟩
  · have hkeep : M.filter (fun x => !p x) = M := by rw [List.take_length] at htake; exact htake
    have hE : Hid ((∀ t, t < (M.filter fun x => !p x).length → w1.cell? ⟨g, t, none⟩ = some (.string (((M.filter fun x => !p x)[t]?.getD default)))) ∧ w.grownBy w1 (some g) ∧ (M.filter fun x => !p x).length = M.length) := Lib.hid ⟨by rw [hkeep]; exact fun t ht => hD1.high t (by omega) ht, hgr1, by rw [hkeep]⟩
    clear htake hall hkeep hD hD1 hi1
    go_wp2
    go_ret
    exact ⟨by rw [hE.out.2.2]; rfl, hE.out.1, hE.out.2.1⟩

end Go.Proofs.Ytbjpogeemajhoaa.Ts
namespace Go.Proofs.Ytbjpogeemajhoaa.Ti
open Go.RowKit Sh
open Key (lt)
open Ent (key)
attribute [local go_sem] fold_none

/-- a block of keys -/
def Keyed (W : World) (g : Nat) : Prop := ∃ cur z, W.heap[g]? = some (.cells cur 3 z)
theorem keyed_cell {W : World} {g : Nat} (h : Keyed W g) (a : Nat) (v : Value) : Keyed (W.setCell ⟨g, a, none⟩ v) g := by
  obtain ⟨cur, z, hg⟩ := h
  have hlt := (Array.getElem?_eq_some_iff.1 hg).1
  refine ⟨cur.setIfInBounds a v, z, ?_⟩
  show (W.heap.modify g _)[g]? = _
  rw [Array.getElem?_modify, if_pos rfl, hg]
  rfl
theorem dl_of_row {W : World} {g : Nat} {M : List Int} (h : Row W g M) : Dl W g M.length M [] 0 :=
  ⟨fun t ht => ⟨_, (h.2 t ht).1, (h.2 t ht).2⟩, fun t ht => by simp at ht, fun t _ h2 => (h.2 t h2).1⟩

theorem owns_none {W : World} {base : Nat} {u : Value} (h : W.ownsRow base 3 1 u (keysV ([] : List Int)).length (keysV [])) : ∃ s cap, u = .slice s 0 cap := by
  rcases h.2 with ⟨rfl, _⟩ | ⟨g, cap, cur, rfl, _⟩
  · exact ⟨_, _, rfl⟩
  · exact ⟨_, _, rfl⟩

theorem box_cell {W : World} {t : TypeId} {b g : Nat} {u : Value} (h : Boxed W b t u) (hg : Keyed W g) (ht : t ≠ 3) (o : Nat) (v : Value) : Boxed (W.setCell ⟨g, o, none⟩ v) b t u := by
  obtain ⟨cur, z, hg⟩ := hg
  refine (Below.heap_setCell _ _ _ b fun e => ?_).trans h
  subst e
  have := (show W.heap[b]? = _ from h).symm.trans hg
  simp at this
  exact ht this.2.1
end Go.Proofs.Ytbjpogeemajhoaa.Ti
namespace Go.Proofs.Ytbjpogeemajhoaa.Ts
open Go.RowKit Sh
open Key (lt)
open Ent (key)
attribute [local go_sem] fold_none

/-- a block of keys -/
def Keyed (W : World) (g : Nat) : Prop := ∃ cur z, W.heap[g]? = some (.cells cur 9 z)
theorem keyed_cell {W : World} {g : Nat} (h : Keyed W g) (a : Nat) (v : Value) : Keyed (W.setCell ⟨g, a, none⟩ v) g := by
  obtain ⟨cur, z, hg⟩ := h
  have hlt := (Array.getElem?_eq_some_iff.1 hg).1
  refine ⟨cur.setIfInBounds a v, z, ?_⟩
  show (W.heap.modify g _)[g]? = _
  rw [Array.getElem?_modify, if_pos rfl, hg]
  rfl
theorem at_cell {W : World} {t : TypeId} {a : Option Addr} {L : List ByteArray} (h : At W t a L) {g : Nat} (hg : Keyed W g) (ht : t ≠ 9) (o : Nat) (v : Value) : At (W.setCell ⟨g, o, none⟩ v) t a L := by
  obtain ⟨cur, z, hg⟩ := hg
  have hoth : ∀ (b : Nat) (c : Array Value) (T : TypeId) (y : Nat × Nat), T ≠ 9 → W.heap[b]? = some (.cells c T y) → (W.setCell ⟨g, o, none⟩ v).heap[b]? = some (.cells c T y) := fun b c T y hT hb => by
    refine (Below.heap_setCell _ _ _ b fun e => ?_).trans hb
    subst e
    have := hb.symm.trans hg
    simp at this
    exact hT this.2.1
  rcases h with h | ⟨b, p, T, rfl, h1, h2, h3⟩
  · exact Or.inl h
  · exact Or.inr ⟨b, p, T, rfl, hoth b _ _ _ ht h1, h2.kept (fun b c y hb => hoth b c _ y (by decide) hb), h3⟩
theorem both_cells {t : TypeId} {a : Option Addr} {L : List ByteArray} {g : Nat} (ht : t ≠ 9) : ∀ (vs : List Value) (o : Nat) (W : World), (At W t a L ∧ Keyed W g) → (At (W.setCells g o vs) t a L ∧ Keyed (W.setCells g o vs) g)
  | [], _, _, h => h
  | v :: vs, o, _, h => both_cells ht vs (o + 1) _ ⟨at_cell h.1 h.2 ht o v, keyed_cell h.2 o v⟩
theorem dl_of_row {W : World} {g : Nat} {M : List ByteArray} (h : Row W g M) : Dl W g M.length M [] 0 :=
  ⟨fun t ht => ⟨_, (h.2 t ht).1, (h.2 t ht).2⟩, fun t ht => by simp at ht, fun t _ h2 => (h.2 t h2).1⟩

theorem IndexFuncH_nil (b : Option Addr) (s : Option Addr) (cap : Nat) (w : World) :
    Calls Try.prog 67 #[.slice s 0 cap, .func (.func 27) #[.pointer b] #[]] w fun e w' => e = .returned (.int .i64 (-1)) ∧ w' = w := by
  go_enter Try.func67, Try.ntmps67
  go_wp2
  go_loopg [8] 0 (fun _ s8 wr => s8 = .int .i64 0 ∧ wr = w)
  case atStart => exact ⟨rfl, rfl⟩
  case round =>
    obtain ⟨rfl, rfl⟩ := hrel
    go_wp2
    go_ret
    exact ⟨rfl, rfl⟩
theorem DeleteFuncH_nil (b : Option Addr) (s : Option Addr) (cap : Nat) (w : World) :
    Calls Try.prog 45 #[.slice s 0 cap, .func (.func 27) #[.pointer b] #[]] w fun e w' => e = .returned (.slice s 0 cap) ∧ w' = w := by
  have h := Lib.hid (IndexFuncH_nil b s cap w)
  go_enter Try.func45, Try.ntmps45
  go_wp2_with (go_at_call 67; refine h.out.mono ?_; rintro e w' ⟨rfl, rfl⟩)
  go_ret
  exact ⟨rfl, rfl⟩

theorem IndexFuncM_nil (B : Nat) (s : Option Addr) (cap : Nat) (w : World) :
    Calls Try.prog 67 #[.slice s 0 cap, .func (.func 43) #[] #[.pointer (some ⟨B, 0, none⟩)]] w fun e w' => e = .returned (.int .i64 (-1)) ∧ w' = w := by
  go_enter Try.func67, Try.ntmps67
  go_wp2
  go_loopg [8] 0 (fun _ s8 wr => s8 = .int .i64 0 ∧ wr = w)
  case atStart => exact ⟨rfl, rfl⟩
  case round =>
    obtain ⟨rfl, rfl⟩ := hrel
    go_wp2
    go_ret
    exact ⟨rfl, rfl⟩
theorem DeleteFuncM_nil (B : Nat) (s : Option Addr) (cap : Nat) (w : World) :
    Calls Try.prog 45 #[.slice s 0 cap, .func (.func 43) #[] #[.pointer (some ⟨B, 0, none⟩)]] w fun e w' => e = .returned (.slice s 0 cap) ∧ w' = w := by
  have h := Lib.hid (IndexFuncM_nil B s cap w)
  go_enter Try.func45, Try.ntmps45
  go_wp2_with (go_at_call 67; refine h.out.mono ?_; rintro e w' ⟨rfl, rfl⟩)
  go_ret
  exact ⟨rfl, rfl⟩

theorem owns_none {W : World} {base : Nat} {u : Value} (h : W.ownsRow base 9 1 u (keysV ([] : List ByteArray)).length (keysV [])) : ∃ s cap, u = .slice s 0 cap := by
  rcases h.2 with ⟨rfl, _⟩ | ⟨g, cap, cur, rfl, _⟩
  · exact ⟨_, _, rfl⟩
  · exact ⟨_, _, rfl⟩

theorem box_cell {W : World} {t : TypeId} {b g : Nat} {u : Value} (h : Boxed W b t u) (hg : Keyed W g) (ht : t ≠ 9) (o : Nat) (v : Value) : Boxed (W.setCell ⟨g, o, none⟩ v) b t u := by
  obtain ⟨cur, z, hg⟩ := hg
  refine (Below.heap_setCell _ _ _ b fun e => ?_).trans h
  subst e
  have := (show W.heap[b]? = _ from h).symm.trans hg
  simp at this
  exact ht this.2.1
theorem box_cells {t t2 : TypeId} {a : Option Addr} {L : List ByteArray} {g b : Nat} {u : Value} (ht : t ≠ 9 ∧ t2 ≠ 9) : ∀ (vs : List Value) (o : Nat) (W : World), ((At W t a L ∧ Keyed W g) ∧ Boxed W b t2 u) → ((At (W.setCells g o vs) t a L ∧ Keyed (W.setCells g o vs) g) ∧ Boxed (W.setCells g o vs) b t2 u)
  | [], _, _, h => h
  | v :: vs, o, _, h => box_cells ht vs (o + 1) _ ⟨⟨at_cell h.1.1 h.1.2 ht.1 o v, keyed_cell h.1.2 o v⟩, box_cell h.2 h.1.2 ht.2 o v⟩
theorem Meet1_calls (w : World) (Bx : Nat) (b : Option Addr) (B : List ByteArray) (x : ByteArray) (hB : SetAt w b B) (rB : Rises B) (hbx : Boxed w Bx 45 (.pointer b)) :
    Calls Try.prog 43 #[.string x, .pointer (some ⟨Bx, 0, none⟩)] w fun e w' => e = .returned (.bool (!has x B)) ∧ Below w.heap.size w w' := by
  have hH := Lib.hid (Has_calls w b B x hB rB)
  have hc := hbx.cell
  clear hB rB hbx
  generalize has x B = z at *
  go_enter Try.func43, Try.ntmps43
  go_wp2_with (go_at_call 27; refine hH.out.mono ?_; rintro e w' ⟨rfl, b1⟩)
  go_ret
  exact ⟨rfl, b1⟩
set_option maxHeartbeats 2000000 in
theorem Meet_calls (w : World) (a b : Option Addr) (A B : List ByteArray) (hA : SetAt w a A) (hB : SetAt w b B) (rA : Rises A) (rB : Rises B) (lA : A.length < 900000) :
    Calls Try.prog 24 #[.pointer a, .pointer b] w (Makes w (A.filter fun x => has x B)) := by
  have bB := b_alloc w (.cells #[.pointer b] 45)
  have hBx := Boxed.new w 45 (.pointer b)
  have hL := Lib.hid (SetList_calls (w.alloc (.cells #[.pointer b] 45)) a A (hA.next bB) (by omega))
  clear hA
  go_enter Try.func24, Try.ntmps24
  go_wp2_with fail
  refine hL.out.mono ?_
  clear hL
  rintro e w1 ⟨u, rfl, ⟨hown, -⟩, b1⟩
  have hB1 := (hB.next bB).next b1
  have hBx1 : Boxed w1 w.heap.size 45 (.pointer b) := (b1.block _ hBx.lt).trans hBx
  have hsz : w.heap.size + 1 ≤ (w.alloc (.cells #[.pointer b] 45)).heap.size := by simp
  replace b1 := b_then bB b1
  by_cases h0 : A.length = 0
  · obtain rfl : A = [] := List.length_eq_zero_iff.1 h0
    obtain ⟨s, cap, rfl⟩ := owns_none hown
    have hD := Lib.hid fun w' => DeleteFuncM_nil w.heap.size s cap w'
    have hO := Lib.hid ((ofRising_calls ([] : List ByteArray) w1 s 0 0 cap 0 rfl (by omega) (by omega) (fun h => by omega) (fun j hj => by simp at hj)).mono (R' := Makes w []) fun e w' h => h.from b1 rfl)
    clear hown hB1 hB rA rB lA hBx hBx1 bB hsz
    go_wp2_with (first
      | (go_at_call 45; refine (hD.out _).mono ?_; rintro e w' ⟨rfl, hw'⟩; obtain rfl := hw'.symm; clear hw')
      | (go_at_call 44; refine hO.out.mono ?_; rintro e w3 h3; have h4 := Lib.hid h3; obtain ⟨bb, rfl, -⟩ := h3))
    go_ret
    exact h4.out
  · obtain ⟨g, cap, rfl, hle, hg, hrow⟩ := row_of_owns hown (by omega)
    have hD0 := DeleteFuncM_calls w.heap.size g (fun x => !has x B) (fun W => (At W 94 b B ∧ Keyed W g) ∧ Boxed W w.heap.size 45 (.pointer b))
      (fun W W' h hb => ⟨⟨h.1.1.next hb, by obtain ⟨cur, z, hk⟩ := h.1.2; exact ⟨cur, z, (hb.block g (Array.getElem?_eq_some_iff.1 hk).1).trans hk⟩⟩, (hb.block _ h.2.lt).trans h.2⟩)
      (fun W x h => Meet1_calls W w.heap.size b B x h.1.1 rB h.2)
      (fun W t v h => ⟨⟨at_cell h.1.1 h.1.2 (by decide) t v, keyed_cell h.1.2 t v⟩, box_cell h.2 h.1.2 (by decide) t v⟩)
      (fun W t vs h => box_cells (by decide) vs t W h) w1 cap A (by omega) hle ⟨⟨hB1, hrow.1⟩, hBx1⟩ hrow.lt (dl_of_row hrow)
    have hnn : (fun x => !(fun x => !has x B) x) = fun x => has x B := by funext x; simp
    simp only [Bool.not_not] at hD0
    have hD := Lib.hid hD0
    clear hD0 hnn
    have hO : Hid (∀ w2 n c, (∀ t, t < (A.filter fun x => has x B).length → w2.cell? ⟨g, t, none⟩ = some (.string (((A.filter fun x => has x B)[t]?.getD default)))) → w1.grownBy w2 (some g) → n = (A.filter fun x => has x B).length → c = cap → Calls Try.prog 44 #[.slice (some ⟨g, 0, none⟩) n c] w2 (Makes w (A.filter fun x => has x B))) := Lib.hid fun w2 n c hc hgr hn hcc => by
      subst hn hcc
      have hlf : (A.filter fun x => has x B).length ≤ A.length := List.length_filter_le _ _
      refine (ofRising_calls (A.filter fun x => has x B) w2 (some ⟨g, 0, none⟩) g 0 c _ rfl (by omega) (by omega) (fun _ => rfl) (fun j hj => by rw [Nat.zero_add]; exact hc j hj)).mono fun e w' h => h.from ?_ rfl
      exact b1.grown hgr b1.size (fun k e => by cases e; omega)
    clear hown hB1 hrow hB rA rB lA hg hle hBx hBx1 bB hsz
    obtain ⟨F, hF⟩ : ∃ F, Hid (F = A.filter fun x => has x B) := ⟨_, Lib.hid rfl⟩
    rw [← hF.out] at hD hO
    go_wp2_with fail
    refine hD.out.mono ?_
    rintro e w2 ⟨rfl, hc, hgr⟩
    have hO2 := Lib.hid (hO.out w2 _ _ hc hgr rfl rfl)
    clear hc hgr hO hD
    go_wp2_with fail
    refine hO2.out.mono ?_
    rintro e w3 h3
    have h4 := Lib.hid h3
    obtain ⟨bb, rfl, -⟩ := h3
    go_wp2
    go_ret
    rw [← hF.out]
    exact h4.out
end Go.Proofs.Ytbjpogeemajhoaa.Ts
namespace Go.Proofs.Ytbjpogeemajhoaa.Sh
open Go.RowKit
theorem zero_size (z : Value) (n : Nat) (hz : z.cells = #[z]) : (Builtin.zeroCells z.cells n).size = n := by
  rw [hz]; simp [Builtin.zeroCells]
end Go.Proofs.Ytbjpogeemajhoaa.Sh
namespace Go.Proofs.Ytbjpogeemajhoaa.Ti
open Go.RowKit Go.Shelf Sh
/-- a slice's cells, read one by one -/
def Src (w : World) (g : Nat) (M : List Int) : Prop := g < w.heap.size ∧ ∀ j u, (keysV M)[j]? = some u → w.cell? ((⟨g, 0, none⟩ : Addr).add j) = some u
theorem Src.next {w w' : World} {g : Nat} {M : List Int} (h : Src w g M) {B : Nat} (hb : Below B w w') (hB : g < B) : Src w' g M :=
  ⟨Nat.lt_of_lt_of_le h.1 hb.size, fun j u hu => (hb.cell (p := (⟨g, 0, none⟩ : Addr).add j) (by unfold Addr.add; split <;> exact hB)).trans (h.2 j u hu)⟩
theorem keysV_one (M : List Int) : ∀ u ∈ keysV M, u.oneCell' = true := fun u hu => by
  obtain ⟨x, _, rfl⟩ := List.mem_map.1 hu; rfl

theorem reads_of_owns {W : World} {base : Nat} {u : Value} {M : List Int} (h : W.ownsRow base 3 1 u (keysV M).length (keysV M)) : ∃ s cap, u = .slice s M.length cap ∧ Reads W.heap.size W (.slice s M.length cap) M := by
  by_cases h0 : 0 < M.length
  · obtain ⟨g, cap, rfl, _, _, hrow⟩ := row_of_owns h h0
    exact ⟨_, cap, rfl, _, _, rfl, fun _ => ⟨g, 0, rfl, hrow.lt, fun j hj => by rw [Nat.zero_add]; exact (hrow.2 j hj).1⟩⟩
  · obtain rfl : M = [] := List.length_eq_zero_iff.1 (by omega)
    obtain ⟨s, cap, hu⟩ : ∃ s cap, u = .slice s 0 cap := by
      rcases h.2 with ⟨rfl, _⟩ | ⟨g, cap, cur, rfl, _⟩
      · exact ⟨_, _, rfl⟩
      · exact ⟨_, _, rfl⟩
    subst hu
    exact ⟨s, cap, rfl, _, _, rfl, fun h => by simp at h⟩
theorem src_of_owns {W : World} {base : Nat} {M : List Int} {g n c : Nat} (h : W.ownsRow base 3 1 (.slice (some ⟨g, 0, none⟩) n c) (keysV M).length (keysV M)) : Src W g M := by
  rcases h.2 with ⟨h, _⟩ | ⟨g', cap, cur, hv, hb, hg, hle, _, hs, ht⟩
  · cases h
  · obtain ⟨rfl, _, _⟩ : g = g' ∧ n = (keysV M).length ∧ c = cap := by simpa using hv
    refine ⟨(Array.getElem?_eq_some_iff.1 hg).1, fun j u hu => ?_⟩
    have hj : j < (keysV M).length := (List.getElem?_eq_some_iff.1 hu).1
    have h1 : (cur.toList.take ((keysV M).length * 1))[j]? = (keysV M)[j]? := by rw [ht]
    rw [List.getElem?_take, if_pos (by omega), hu, Array.getElem?_toList] at h1
    have e : (⟨g, 0, none⟩ : Addr).add j = ⟨g, j, none⟩ := by
      unfold Addr.add; split
      · next h => subst h; rfl
      · simp
    rw [e]
    simp [World.cell?, hg, h1]

end Go.Proofs.Ytbjpogeemajhoaa.Ti
namespace Go.Proofs.Ytbjpogeemajhoaa.Ts
open Go.RowKit Go.Shelf Sh
/-- a slice's cells, read one by one -/
def Src (w : World) (g : Nat) (M : List ByteArray) : Prop := g < w.heap.size ∧ ∀ j u, (keysV M)[j]? = some u → w.cell? ((⟨g, 0, none⟩ : Addr).add j) = some u
theorem Src.next {w w' : World} {g : Nat} {M : List ByteArray} (h : Src w g M) {B : Nat} (hb : Below B w w') (hB : g < B) : Src w' g M :=
  ⟨Nat.lt_of_lt_of_le h.1 hb.size, fun j u hu => (hb.cell (p := (⟨g, 0, none⟩ : Addr).add j) (by unfold Addr.add; split <;> exact hB)).trans (h.2 j u hu)⟩
theorem keysV_one (M : List ByteArray) : ∀ u ∈ keysV M, u.oneCell' = true := fun u hu => by
  obtain ⟨x, _, rfl⟩ := List.mem_map.1 hu; rfl

theorem reads_of_owns {W : World} {base : Nat} {u : Value} {M : List ByteArray} (h : W.ownsRow base 9 1 u (keysV M).length (keysV M)) : ∃ s cap, u = .slice s M.length cap ∧ Reads W.heap.size W (.slice s M.length cap) M := by
  by_cases h0 : 0 < M.length
  · obtain ⟨g, cap, rfl, _, _, hrow⟩ := row_of_owns h h0
    exact ⟨_, cap, rfl, _, _, rfl, fun _ => ⟨g, 0, rfl, hrow.lt, fun j hj => by rw [Nat.zero_add]; exact (hrow.2 j hj).1⟩⟩
  · obtain rfl : M = [] := List.length_eq_zero_iff.1 (by omega)
    obtain ⟨s, cap, hu⟩ : ∃ s cap, u = .slice s 0 cap := by
      rcases h.2 with ⟨rfl, _⟩ | ⟨g, cap, cur, rfl, _⟩
      · exact ⟨_, _, rfl⟩
      · exact ⟨_, _, rfl⟩
    subst hu
    exact ⟨s, cap, rfl, _, _, rfl, fun h => by simp at h⟩
theorem src_of_owns {W : World} {base : Nat} {M : List ByteArray} {g n c : Nat} (h : W.ownsRow base 9 1 (.slice (some ⟨g, 0, none⟩) n c) (keysV M).length (keysV M)) : Src W g M := by
  rcases h.2 with ⟨h, _⟩ | ⟨g', cap, cur, hv, hb, hg, hle, _, hs, ht⟩
  · cases h
  · obtain ⟨rfl, _, _⟩ : g = g' ∧ n = (keysV M).length ∧ c = cap := by simpa using hv
    refine ⟨(Array.getElem?_eq_some_iff.1 hg).1, fun j u hu => ?_⟩
    have hj : j < (keysV M).length := (List.getElem?_eq_some_iff.1 hu).1
    have h1 : (cur.toList.take ((keysV M).length * 1))[j]? = (keysV M)[j]? := by rw [ht]
    rw [List.getElem?_take, if_pos (by omega), hu, Array.getElem?_toList] at h1
    have e : (⟨g, 0, none⟩ : Addr).add j = ⟨g, j, none⟩ := by
      unfold Addr.add; split
      · next h => subst h; rfl
      · simp
    rw [e]
    simp [World.cell?, hg, h1]

end Go.Proofs.Ytbjpogeemajhoaa.Ts
