/-
  Of every list of numbers and every stop: what is gone over is what there was when the going began, whatever is done in it; stopped and begun again it gives the same; a nil set has nothing (SetGoes). Conditions: none.
-/
import Derived.Test.YtkdghmbglaghlaaRows
import Derived.Test.YtkdghmbglaghlaaOctKit
import Derived.Test.YtkdghmbglaghlaaShAwake
import Derived.Test.YtkdghmbglaghlaaShUnion
import Derived.Test.YtkdghmbglaghlaaShOpen
import Derived.Test.YtkdghmbglaghlaaShWithin
import Derived.Test.YtkdghmbglaghlaaShGone
import Derived.ProofKit
import Derived.OpenShut
import Derived.Stop.Joined
import Derived.Deep.AppendLies
namespace Go.Proofs.Ytkdghmbglaghlaa.setGoes
open Go Go.ChangeShapes Go.WideShapes Go.ChangeAt Go.RowKit Go.Shelf Sh
open Ti (SetAt Makes IsOf keysV Turns Keeps keeps_put keeps_below)
open Rf (Sl reads_sl sl_open)
theorem eql_seq (w : World) (f : Fn) (a b : Array Value) : (binOp .eql 62 (.func f a b) .nilFunc).run Try.prog w = .ok (.bool false) w := Ti.run_eql_func_nil w Try.underlying62 f a b
attribute [local go_sem] Oper.semAt_some fold_none eql_seq

/-- cells as they were when the goings began, but for two blocks -/
def Near (W0 : World) (p b : Nat) (W : World) : Prop := ∀ (k : Nat) (c : Array Value) (t : TypeId) (z : Nat × Nat), k ≠ p → k ≠ b → W0.heap[k]? = some (.cells c t z) → W.heap[k]? = some (.cells c t z)
theorem Near.refl (W0 : World) (p b : Nat) : Near W0 p b W0 := fun _ _ _ _ _ _ h => h
theorem near_own (W0 : World) (p b : Nat) {β : Type} : Own (fun (_ : β) W => Near W0 p b W) := fun _ X Y row hs hg hr k c t z h1 h2 h => by
  have hx := hs k c t z h1 h2 h
  refine (hg.block k (Array.getElem?_eq_some_iff.1 hx).1 fun e => ?_).trans hx
  obtain ⟨o, ho, hc⟩ := hr k e.symm
  rw [hx] at ho
  cases ho
  cases hc
theorem Near.next {W0 W W' : World} {p b : Nat} (h : Near W0 p b W) (hb : Below W.heap.size W W') : Near W0 p b W' := fun k c t z h1 h2 h3 => by
  have hx := h k c t z h1 h2 h3
  exact (hb.block k (Array.getElem?_eq_some_iff.1 hx).1).trans hx
theorem Near.turn {W0 W W' : World} {p b : Nat} (h : Near W0 p b W) (hg : W.grownBy W' (some p)) : Near W0 p b W' := fun k c t z h1 h2 h3 => by
  have hx := h k c t z h1 h2 h3
  exact (hg.block k (Array.getElem?_eq_some_iff.1 hx).1 (by simpa using h1)).trans hx
theorem Near.set {W0 W : World} {p b : Nat} (h : Near W0 p b W) (v : Value) : Near W0 p b (W.setCell ⟨b, 0, none⟩ v) := fun k c t z h1 h2 h3 =>
  (Below.heap_setCell _ _ _ k (by simpa using h2)).trans (h k c t z h1 h2 h3)
theorem Near.box {W0 W : World} {p b k : Nat} {t : TypeId} {v : Value} (h : Near W0 p b W) (hb : Boxed W0 k t v) (h1 : k ≠ p) (h2 : k ≠ b) : Boxed W k t v := h k _ _ _ h1 h2 hb
theorem Near.cell {W0 W : World} {p b k o : Nat} {v : Value} (h : Near W0 p b W) (hc : W0.cell? ⟨k, o, none⟩ = some v) (h1 : k ≠ p) (h2 : k ≠ b) : W.cell? ⟨k, o, none⟩ = some v := by
  unfold World.cell? at hc ⊢
  cases ho : W0.heap[k]? with
  | none => simp [ho] at hc
  | some x =>
    cases x with
    | cells c t z => rw [show W.heap[k]? = _ from h k c t z h1 h2 ho]; simpa [ho] using hc
    | _ => simp [ho] at hc
/-- a set lies where only blocks without cells have changed -/
theorem set_own (a : Option Addr) {β : Type} (f : β → List Int) : Own (fun (s : β) W => SetAt W a (f s)) := fun s X Y row hs hg hr => by
  have hst : ∀ T, Stays T X Y := fun T k c z hk => by
    refine (hg.block k (Array.getElem?_eq_some_iff.1 hk).1 fun e => ?_).trans hk
    obtain ⟨o, ho, hc⟩ := hr k e.symm
    rw [hk] at ho
    cases ho
    cases hc
  exact hs.stays (hst _) (hst _)

theorem next_is {L pre : List Int} {x : Int} (hp : pre <+: L) (hlt : pre.length < L.length) : pre ++ [x] <+: L ↔ L[pre.length]?.getD 0 = x := by
  obtain ⟨r, rfl⟩ := hp
  obtain ⟨y, r', rfl⟩ : ∃ y r', r = y :: r' := by
    cases r with
    | nil => simp at hlt
    | cons y r' => exact ⟨y, r', rfl⟩
  rw [List.getElem?_append_right (Nat.le_refl _), Nat.sub_self, List.prefix_append_right_inj]
  constructor
  · intro h; obtain ⟨t, ht⟩ := h; simp at ht; simp [ht.1]
  · intro h; exact ⟨r', by simp at h; simp [h]⟩
theorem set_box {W : World} {p b : Nat} {L : List Int} {u v : Value} (h : SetAt W (some ⟨p, 0, none⟩) L) (hb : Boxed W b 3 u) : SetAt (W.setCell ⟨b, 0, none⟩ v) (some ⟨p, 0, none⟩) L :=
  h.stays (stays_box (by decide) hb) (stays_box (by decide) hb)
theorem block_own (B D : Nat) (o : Obj) (hD : D < B) {β : Type} : OwnFrom B (fun (_ : β) W => W.heap[D]? = some o) := fun _ X Y row hs hg hr =>
  (hg.block D (Array.getElem?_eq_some_iff.1 hs).1 fun e => by have := (hr D e.symm).1; omega).trans hs
theorem len_after (x y : Int) (M : List Int) : (ins y (del x M)).length ≤ M.length + 1 := by
  have h1 := ins_len_le y (del x M)
  have h2 := del_len_le x M
  omega
/-- the goings' own numbers: the set's box, the list's, the count's -/
structure Env (w W : World) (p b4 b5 b6 b9 b3 g : Nat) (n uc : Nat) (stop : Int) (L : List Int) : Prop where
  x3 : Boxed W b3 3 (.int .i64 stop)
  x4 : Boxed W b4 4 (.bool false)
  x5 : Boxed W b5 25 (.pointer (some ⟨p, 0, none⟩))
  x6 : Boxed W b6 22 (.slice (some ⟨g, 0, none⟩) n uc)
  row : ∀ j, j < n → W.cell? ⟨g, j, none⟩ = some (.int .i64 (L[j]?.getD 0))
  h3 : w.heap.size ≤ b3 ∧ b3 < b4 ∧ b4 < p ∧ p < b5 ∧ b5 < g ∧ g < b6 ∧ b6 < b9 ∧ b9 < W.heap.size

set_option maxHeartbeats 16000000 in
set_option maxRecDepth 100000 in
theorem walk (w : World) (s1 : Option Addr) (c1 na : Nat) (M : List Int) (stop : Int) (hna : M.length = na) (hv : Sl w (.slice s1 na c1) M) :
    Calls Try.prog 6 #[.slice s1 na c1, .int .i64 stop] w fun e w' => e = .returned (.bool true) ∧ Below w.heap.size w w' := by
  obtain ⟨W0, hW0⟩ : ∃ W0, W0 = (w.alloc (.cells #[.int .i64 stop] 3)).alloc (.cells #[.bool false] 4) := ⟨_, rfl⟩
  have hAw := Lib.hid (Law.awake_calls W0)
  have b0 : Below w.heap.size w W0 := by rw [hW0]; exact b_then (b_alloc _ _) (b_alloc _ _)
  have e3 : Boxed W0 w.heap.size 3 (.int .i64 stop) := by rw [hW0]; exact (Boxed.new _ _ _).alloc _
  have e4 : Boxed W0 (w.heap.size + 1) 4 (.bool false) := by rw [hW0]; have := Boxed.new (w.alloc (.cells #[.int .i64 stop] 3)) 4 (.bool false); rwa [World.size_alloc] at this
  have hs0 : W0.heap.size = w.heap.size + 2 := by rw [hW0]; simp
  by_cases g1 : 200 < na
  · have d1 : (200 : Int) < na := by omega
    have x4 := Lib.hid fun W (h : Below W0.heap.size W0 W) => Ti.box_next e4 h
    have bb := Lib.hid fun W (h : Below W0.heap.size W0 W) => (b_then b0 h).setCell (p := ⟨w.heap.size + 1, 0, none⟩) (by simp) (.bool true)
    replace hW0 := Lib.hid hW0
    clear e3 e4 b0 hv hna g1
    refine (callsIn_wide (n := 3)).1 ?_
    refine callsIn_of_wp_marks Try.func6 rfl trivial ?_ rfl
    simp only [Try.ntmps6, List.size_toArray, List.length_cons, List.length_nil, Nat.reduceAdd, Nat.reduceSub, Array.replicate_succ, Array.replicate_zero, List.push_toArray, List.append_toArray, List.nil_append, List.cons_append]
    gi_wp2_with (refine ⟨trivial, ?_⟩; rw [← hW0.out]; gi_at_call 8; refine (callsIn_wide.2 hAw.out).mono ?_; rintro e w1 ⟨rfl, b1⟩; have c4 := (x4.out _ b1).cell; have f4 := (x4.out _ b1).frozen)
    have hc := ((x4.out _ b1).set (.bool true)).cell
    refine ⟨.bool true, ?_, rfl, bb.out _ b1⟩
    simp [results, Try.f6, go_sem, hc]
  have d1 : decide ((200 : Int) < na) = false := decide_eq_false (by omega)
  have d2 : (na : Int) ≤ 200 := by omega
  have hm : Hid (na ≤ 200) := Lib.hid (by omega)
  replace hna := Lib.hid hna
  have hv1 := hv.next b0
  clear g1 hv
  replace hW0 := Lib.hid hW0
  refine (callsIn_wide (n := 3)).1 ?_
  refine callsIn_of_wp_marks Try.func6 rfl trivial ?_ rfl
  simp only [Try.ntmps6, List.size_toArray, List.length_cons, List.length_nil, Nat.reduceAdd, Nat.reduceSub, Array.replicate_succ, Array.replicate_zero, List.push_toArray, List.append_toArray, List.nil_append, List.cons_append]
  gi_wp2_with (refine ⟨trivial, ?_⟩; rw [← hW0.out]; gi_at_call 8; refine (callsIn_wide.2 hAw.out).mono ?_; rintro e w1 ⟨rfl, b1⟩)
  have e3' := Ti.box_next e3 b1
  have e4' := Ti.box_next e4 b1
  have b01 := b_then b0 b1
  have hs1 := b1.size
  have hv2 := hv1.next b1
  have hOf := Ti.Of_calls w1 s1 c1 M (by have := hna.out; have := hm.out; omega) (reads_sl hna.out hv2)
  rw [hna.out] at hOf
  replace hOf := Lib.hid hOf
  clear hAw hv1 hv2 b0 e3 e4 hW0
  refine ⟨trivial, ?_⟩
  gi_at_call 9
  refine (callsIn_wide.2 hOf.out).mono ?_
  rintro e w2 ⟨L, hA, p, rfl, hp, hS, b2⟩
  have hpl : p < w2.heap.size := by obtain ⟨q, hq⟩ := hS.box; exact hq.lt
  obtain ⟨W2, hW2⟩ : ∃ W2, W2 = w2.alloc (.cells #[.pointer (some ⟨p, 0, none⟩)] 25) := ⟨_, rfl⟩
  have bb2 : Below w2.heap.size w2 W2 := by rw [hW2]; exact b_alloc _ _
  have e5 : Boxed W2 w2.heap.size 25 (.pointer (some ⟨p, 0, none⟩)) := by rw [hW2]; exact Boxed.new _ _ _
  have hs2 : W2.heap.size = w2.heap.size + 1 := by rw [hW2]; simp
  have lA : Hid (L.length ≤ 200) := Lib.hid (by have := hA.2.2; have := hna.out; have := hm.out; omega)
  have rA := Lib.hid hA.1
  have b02 := b_then b01 (b_then b2 bb2)
  have e3'' := Ti.box_next (Ti.box_next e3' b2) bb2
  have e4'' := Ti.box_next (Ti.box_next e4' b2) bb2
  have hsz2 := b2.size
  have hS2 := hS.next bb2
  have hLi := Lib.hid (Ti.SetList_calls W2 _ L hS2 (by have := lA.out; omega))
  replace hW2 := Lib.hid hW2
  clear hOf hA hS e3' e4' b01 b2 b1 bb2
  gi_wp2_with fail
  rw [← hW2.out]
  refine ⟨trivial, ?_⟩
  gi_at_call 22
  refine (callsIn_wide.2 hLi.out).mono ?_
  rintro e w3 ⟨v4, rfl, ⟨ho, g, uc, rfl⟩, b3⟩
  obtain ⟨n, hn⟩ : ∃ n, L.length = n := ⟨_, rfl⟩
  have hkl : (keysV L).length = n := by rw [Ti.keysV_len]; exact hn
  rw [hkl] at ho ⊢
  have hgl := ho.lt g rfl
  have hrow : ∀ j, j < n → w3.cell? ⟨g, j, none⟩ = some (.int .i64 (L[j]?.getD 0)) := fun j hj => by
    have := World.ownsRow.cells ho (g := g) rfl j (.int .i64 (L[j]?.getD 0)) (by simp [keysV, List.getElem?_eq_getElem (hn ▸ hj : j < L.length)])
    rwa [Addr.add_mid, Nat.zero_add] at this
  have f3 := Ti.box_next e3'' b3
  have f4 := Ti.box_next e4'' b3
  have f5 := Ti.box_next e5 b3
  have hsz3 := b3.size
  have hS3 := hS2.next b3
  obtain ⟨b5, hb5⟩ : ∃ b5, w2.heap.size = b5 := ⟨_, rfl⟩
  obtain ⟨b6, hb6⟩ : ∃ b6, w3.heap.size = b6 := ⟨_, rfl⟩
  rw [hb5] at f5 ⊢
  have c5a := (f5.alloc (.cells #[.slice (some ⟨g, 0, none⟩) n uc] 22)).cell
  have c5b := ((f5.alloc (.cells #[.slice (some ⟨g, 0, none⟩) n uc] 22)).alloc (.cells #[.pointer (some ⟨p, 0, none⟩)] 25)).cell
  obtain ⟨W9, hW9⟩ : ∃ W9, W9 = ((((w3.alloc (.cells #[.slice (some ⟨g, 0, none⟩) n uc] 22)).alloc (.cells #[.pointer (some ⟨p, 0, none⟩)] 25)).alloc (.cells #[.pointer (some ⟨p, 0, none⟩)] 25)).alloc (.cells #[.int .i64 0] 3)) := ⟨_, rfl⟩
  have x3 : Boxed W9 w.heap.size 3 (.int .i64 stop) := by rw [hW9]; exact (((f3.alloc _).alloc _).alloc _).alloc _
  have x4 : Boxed W9 (w.heap.size + 1) 4 (.bool false) := by rw [hW9]; exact (((f4.alloc _).alloc _).alloc _).alloc _
  have x5 : Boxed W9 b5 25 (.pointer (some ⟨p, 0, none⟩)) := by rw [hW9]; exact (((f5.alloc _).alloc _).alloc _).alloc _
  have y1 : Boxed W9 (b6 + 1) 25 (.pointer (some ⟨p, 0, none⟩)) := by
    have := Boxed.new (w3.alloc (.cells #[.slice (some ⟨g, 0, none⟩) n uc] 22)) 25 (.pointer (some ⟨p, 0, none⟩))
    rw [World.size_alloc, hb6] at this
    rw [hW9]; exact (this.alloc _).alloc _
  have y2 : Boxed W9 (b6 + 1 + 1) 25 (.pointer (some ⟨p, 0, none⟩)) := by
    have := Boxed.new ((w3.alloc (.cells #[.slice (some ⟨g, 0, none⟩) n uc] 22)).alloc (.cells #[.pointer (some ⟨p, 0, none⟩)] 25)) 25 (.pointer (some ⟨p, 0, none⟩))
    rw [World.size_alloc, World.size_alloc, hb6] at this
    rw [hW9]; exact this.alloc _
  have y9 : Boxed W9 (b6 + 1 + 1 + 1) 3 (.int .i64 0) := by
    have := Boxed.new (((w3.alloc (.cells #[.slice (some ⟨g, 0, none⟩) n uc] 22)).alloc (.cells #[.pointer (some ⟨p, 0, none⟩)] 25)).alloc (.cells #[.pointer (some ⟨p, 0, none⟩)] 25)) 3 (.int .i64 0)
    rw [World.size_alloc, World.size_alloc, World.size_alloc, hb6] at this
    rw [hW9]; exact this
  have x6 : Boxed W9 b6 22 (.slice (some ⟨g, 0, none⟩) n uc) := by
    have := Boxed.new w3 22 (.slice (some ⟨g, 0, none⟩) n uc)
    rw [hb6] at this
    rw [hW9]; exact ((this.alloc _).alloc _).alloc _
  have b39 : Below w3.heap.size w3 W9 := by rw [hW9]; exact b_then (b_alloc _ _) (b_then (b_alloc _ _) (b_then (b_alloc _ _) (b_alloc _ _)))
  have hs9 : W9.heap.size = b6 + 4 := by rw [hW9, ← hb6]; simp
  have hE : Hid (Env w W9 p (w.heap.size + 1) b5 b6 (b6 + 1 + 1 + 1) w.heap.size g n uc stop L) := Lib.hid
    ⟨x3, x4, x5, x6, fun j hj => (b39.cell (p := ⟨g, j, none⟩) hgl.2).trans (hrow j hj), by omega⟩
  have hS9 := Lib.hid (hS3.next b39)
  have b09 := Lib.hid (b_then b02 (b_then b3 b39))
  have hM := Lib.hid fun w' => Ti.SetAll_calls w' (some ⟨p, 0, none⟩)
  replace hW9 := Lib.hid hW9
  replace y1 := Lib.hid y1
  replace y2 := Lib.hid y2
  replace y9 := Lib.hid y9
  replace hb6 := Lib.hid hb6
  clear hLi ho x3 x4 x5 x6 b39 hS3 hS2 b02 b3 f3 f4 e3'' e4'' e5 hrow hgl hs2 hs1 hp hpl hb5 hW2 hsz2 hsz3
  gi_wp2_with (refine ⟨trivial, ?_⟩; gi_at_call 40; refine (callsIn_wide.2 (hM.out _)).mono ?_; rintro e w' ⟨rfl, rfl⟩)
  rw [hb6.out, ← hW9.out]
  clear hM hW9 hb6 c5a c5b f5 hkl hm hna d1 d2 hs0
  rename_i Kr hKr
  obtain ⟨b9, hb9⟩ : ∃ b9, b6 + 1 + 1 + 1 = b9 := ⟨_, rfl⟩
  rw [hb9] at y9 hE ⊢
  obtain ⟨b4, hb4⟩ : ∃ b4, w.heap.size + 1 = b4 := ⟨_, rfl⟩
  rw [hb4] at hE ⊢
  generalize hA : Act.mk _ _ = A
  have hrest : ∀ (D : Nat) (W : World) (v : Value), W9.heap.size ≤ D → Near W9 p b9 W → Boxed W b9 3 v → SetAt W (some ⟨p, 0, none⟩) L → Below w.heap.size w W → W.heap[D]? = some (.deferred (some [])) → Kr { A with defers := [{ target := .collected D, args := #[] }] } W := by
    intro D W v hD hN hv hS hB hK
    subst hA
    have x4 := (hN.box hE.out.x4 (by have := hE.out.h3; omega) (by have := hE.out.h3; omega)).cell
    have x5 := (hN.box hE.out.x5 (by have := hE.out.h3; omega) (by have := hE.out.h3; omega)).cell
    have x9 := hv.cell
    have x9f := hv.frozen
    gi_wp2_with fail
    rename_i K2 hK2
    obtain ⟨W5, hW5⟩ : ∃ W5, W5 = W.setCell ⟨b9, 0, none⟩ (.int .i64 0) := ⟨_, rfl⟩
    have hb9w : w.heap.size ≤ b9 := by have := hE.out.h3; omega
    have k1 : D ≠ p := by have := hE.out.h3; omega
    have k2 : D ≠ b9 := by have := hE.out.h3; omega
    have k3 : D ≠ b4 := by have := hE.out.h3; omega
    have hD5 : W5.heap[D]? = some (.deferred (some [])) := by rw [hW5]; exact (Below.heap_setCell _ _ _ D (by simpa using k2)).trans hK
    have hDl : D < W5.heap.size := (Array.getElem?_eq_some_iff.1 hD5).1
    have hN5 : Near W9 p b9 W5 := by rw [hW5]; exact hN.set _
    have hv5 : Boxed W5 b9 3 (.int .i64 0) := by rw [hW5]; exact hv.set _
    have hS5 : SetAt W5 (some ⟨p, 0, none⟩) L := by rw [hW5]; exact set_box hS hv
    have hB5 : Below w.heap.size w W5 := by rw [hW5]; exact hB.setCell (p := ⟨b9, 0, none⟩) (by simpa using hb9w) _
    have y25 := (hN5.box y2.out (by have := hE.out.h3; omega) (by have := hE.out.h3; omega)).cell
    have hwW5 := hB5.size
    rw [← hW5]
    clear hN hv hS hB hK x4 x5 x9 x9f y1 y9 hS9 b09 hW5
    generalize hA2 : Act.mk _ _ = A2
    refine wpIn_rangeFunc_ownG rfl (by omega) (gf := 63) (lb := #[.pointer (some ⟨b6 + 1 + 1, 0, none⟩)]) (by rw [← hA2]; rfl) trivial (enters_of Try.func63 (by kernel_rfl) rfl)
      (Ti.setAll1_stops 2 W5 (b6 + 1 + 1) (some ⟨p, 0, none⟩) L y25 hS5) (fun h k => Keeps.trans h k) keeps_put (Below.refl _ _) (fun _ => rfl)
      (fun pre W => ((pre <+: L ∧ Boxed W b9 3 (.int .i64 (pre.length : Int))) ∧ Near W9 p b9 W ∧ (∃ M, SetAt W (some ⟨p, 0, none⟩) M ∧ Rises M ∧ M.length ≤ 200 + pre.length)) ∧ Below w.heap.size w W ∧ W.heap[D]? = some (.deferred (some [])))
      (fun c pre _ => c = .ret ∧ ¬ pre <+: L)
      (OwnFrom.and (Own.from (fun s X Y row hs hg hr => ⟨⟨hs.1.1, boxed_own _ _ (fun _ => _) s X Y row hs.1.2 hg hr⟩, near_own _ _ _ s X Y row hs.2.1 hg hr, by obtain ⟨M, h1, h2⟩ := hs.2.2; exact ⟨M, set_own _ (fun _ => M) s X Y row h1 hg hr, h2⟩⟩) _) (OwnFrom.and (ownFrom_below (by omega) (by omega)) (block_own _ D _ hDl)))
      (fun c s X Y row hs hg hr => hs)
      ⟨⟨⟨List.nil_prefix, hv5⟩, hN5, L, hS5, rA.out, by have := lA.out; omega⟩, hB5, hD5⟩
      ?a2 ?assign2 ?body2 ?done2 ?stop2
    case assign2 =>
      intro l x W K hK
      subst hA2
      gi_wp2
      exact hK
    case body2 =>
      rintro l pre x W' ⟨⟨⟨hp, hv⟩, hN, M', hS, hR, hM⟩, hB, hK⟩ hlt
      clear hK2
      subst hA2
      have x4 := hN.box hE.out.x4 (by have := hE.out.h3; omega) (by have := hE.out.h3; omega)
      have c4 := x4.cell
      have f4 := x4.frozen
      have c6 := (hN.box hE.out.x6 (by have := hE.out.h3; omega) (by have := hE.out.h3; omega)).cell
      have c9 := hv.cell
      have f9 := hv.frozen
      have hlt2 : pre.length < n := by omega
      have cr := hN.cell (hE.out.row pre.length hlt2) (by have := hE.out.h3; omega) (by have := hE.out.h3; omega)
      have hnx := Lib.hid (next_is (x := x) hp hlt)
      have l1 : (0 : Int) ≤ pre.length := by omega
      have l2 : (pre.length : Int) < n := by omega
      have l3 : decide ((n : Int) ≤ pre.length) = false := decide_eq_false (by omega)
      have l4 : decide (n ≤ pre.length) = false := decide_eq_false (by omega)
      have l5 : ¬ n ≤ pre.length := by omega
      have hw1 : IntKind.i64.wrap ((pre.length : Int) + 1) = (pre.length : Int) + 1 := wrap_nat (pre.length + 1) (by have := lA.out; omega)
      have hpl : Hid ((pre ++ [x]).length = pre.length + 1) := Lib.hid (by simp)
      have hend : Hid (KeepsFrom W5.heap.size W' (W'.setCell ⟨b4, 0, none⟩ (.bool false))) := Lib.hid ((KeepsOthers.setCell _ _ _).from _)
      obtain ⟨Wc, hWc⟩ : ∃ Wc, Wc = W'.setCell ⟨b9, 0, none⟩ (.int .i64 ((pre.length : Int) + 1)) := ⟨_, rfl⟩
      have hKc : KeepsFrom W5.heap.size W' Wc := by rw [hWc]; exact (KeepsOthers.setCell _ _ _).from _
      have hkc : Keeps W' Wc := by rw [hWc]; exact ⟨stays_box (by decide) hv, stays_box (by decide) hv⟩
      have hvc : Boxed Wc b9 3 (.int .i64 ((pre.length : Int) + 1)) := by rw [hWc]; exact hv.set _
      have hNc : Near W9 p b9 Wc := by rw [hWc]; exact hN.set _
      have hSc : SetAt Wc (some ⟨p, 0, none⟩) M' := by rw [hWc]; exact set_box hS hv
      have hBc : Below w.heap.size w Wc := by rw [hWc]; exact hB.setCell (p := ⟨b9, 0, none⟩) (by simpa using hb9w) _
      have hDc : Wc.heap[D]? = some (.deferred (some [])) := by rw [hWc]; exact (Below.heap_setCell _ _ _ D (by simpa using k2)).trans hK
      have c5 := ((hN.set (.int .i64 ((pre.length : Int) + 1))).box hE.out.x5 (by have := hE.out.h3; omega) (by have := hE.out.h3; omega)).cell
      have hDe := Lib.hid (Ti.SetDel_calls Wc p M' x hSc hR (by have := lA.out; omega))
      have hAd := Lib.hid fun W1 (h : Turns Wc 98 p (del x M') W1) y => Ti.Add_calls W1 p (del x M') y h.1 (rises_del x hR) (by have := lA.out; have := del_len_le x M'; omega)
      have hpw : w.heap.size ≤ p := by have := hE.out.h3; omega
      have hp5 : p < W5.heap.size := by obtain ⟨q, hq⟩ := hS5.box; exact hq.lt
      have hfin : Hid (∀ W1 W2 y, Turns Wc 98 p (del x M') W1 → Turns W1 98 p (ins y (del x M')) W2 → KeepsFrom W5.heap.size W' W2 ∧ Keeps W' W2 ∧ Boxed W2 b9 3 (.int .i64 ((pre.length : Int) + 1)) ∧ Near W9 p b9 W2 ∧ (∃ M, SetAt W2 (some ⟨p, 0, none⟩) M ∧ Rises M ∧ M.length ≤ 200 + (pre.length + 1)) ∧ Below w.heap.size w W2 ∧ W2.heap[D]? = some (.deferred (some []))) := Lib.hid fun W1 W2 y h1 h2 => by
        obtain ⟨q1, z1⟩ := hSc.box
        obtain ⟨q2, z2⟩ := h1.1.box
        have hbp : b9 ≠ p := by have := hE.out.h3; omega
        refine ⟨hKc.trans ((KeepsFrom.of_grownBy h1.2 (fun j e => by cases e; exact hp5)).trans (KeepsFrom.of_grownBy h2.2 (fun j e => by cases e; exact hp5))),
          hkc.trans (Keeps.trans ⟨stays_grown (by decide) z1 h1.2, stays_grown (by decide) z1 h1.2⟩ ⟨stays_grown (by decide) z2 h2.2, stays_grown (by decide) z2 h2.2⟩),
          (hvc.kept h1.2 (by simpa using hbp)).kept h2.2 (by simpa using hbp), (hNc.turn h1.2).turn h2.2,
          ⟨_, h2.1, rises_ins y (rises_del x hR), by have := len_after x y M'; omega⟩, h2.below (h1.below hBc hpw) hpw, ?_⟩
        have e1 := (h1.2.block D (Array.getElem?_eq_some_iff.1 hDc).1 (by simpa using k1)).trans hDc
        exact (h2.2.block D (Array.getElem?_eq_some_iff.1 e1).1 (by simpa using k1)).trans e1
      have h5b : Hid (∀ W1, Turns Wc 98 p (del x M') W1 → W1.cell? ⟨b5, 0, none⟩ = some (.pointer (some ⟨p, 0, none⟩))) := Lib.hid fun W1 h1 =>
        ((hNc.turn h1.2).box hE.out.x5 (by have := hE.out.h3; omega) (by have := hE.out.h3; omega)).cell
      replace hWc := Lib.hid hWc
      clear hlt hp hN hS hB hK hKc hkc hvc hNc hSc hBc hDc hR hM hv
      generalize L[pre.length]?.getD 0 = y at *
      by_cases e1 : y = x
      · have hpp := Lib.hid (hnx.out.2 e1)
        have q1 : (y == x) = true := by simpa using e1
        have q2 : (y != x) = false := by simpa using e1
        replace e1 := Lib.hid e1
        clear hnx
        gi_wp2_with fail
        rw [← hWc.out]
        refine ⟨trivial, ?_⟩
        gi_at_call 14
        refine (CallsIn.inRound l (callsIn_wide.2 hDe.out)).mono ?_
        rintro e W1 ⟨rfl, h1⟩
        have c5' := h5b.out W1 h1
        gi_wp2_with fail
        refine ⟨trivial, ?_⟩
        gi_at_call 11
        refine (CallsIn.inRound l (callsIn_wide.2 (hAd.out W1 h1 _))).mono ?_
        rintro e W2 ⟨rfl, h2⟩
        obtain ⟨u1, u2, u3, u4, u5, u6, u7⟩ := hfin.out W1 W2 _ h1 h2
        gi_wp2
        refine ⟨u1, u2, ⟨⟨hpp.out, ?_⟩, u4, ?_⟩, u6, u7⟩
        · rw [hpl.out]; exact u3
        · rw [hpl.out]; exact u5
      · have hnp := Lib.hid (fun h => e1 (hnx.out.1 h))
        have q1 : (y == x) = false := by simpa using e1
        have q2 : (y != x) = true := by simpa using e1
        clear hnx
        gi_wp2
        exact ⟨hend.out, ⟨rfl, hnp.out⟩⟩
    case done2 =>
      rintro D2 ys W' hD2 rfl ⟨⟨⟨hp, hv⟩, hN, M', hS, hR, hM⟩, hB, hK⟩ hKK
      subst hA2
      have c9 := hv.cell
      have x4 := hN.box hE.out.x4 (by have := hE.out.h3; omega) (by have := hE.out.h3; omega)
      have c6 := (hN.box hE.out.x6 (by have := hE.out.h3; omega) (by have := hE.out.h3; omega)).cell
      have hAN := Lib.hid (Ti.AddNil_calls W' 1)
      have hn1 := hn
      have e0 : ((ys.length : Int) == (n : Int)) = true := by rw [hn1]; exact beq_self_eq_true _
      have e1 : (ys.length == n) = true := by rw [hn1]; exact beq_self_eq_true _
      have hb4w : w.heap.size ≤ b4 := by have := hE.out.h3; omega
      have hne1 : D ≠ b4 := k3
      have hne2 : D2 ≠ b4 := by have := hE.out.h3; have := hb9w; omega
      have hu : ∀ W2, Below W'.heap.size W' W2 → W2.cell? ⟨b9, 0, none⟩ = some (.int .i64 (ys.length : Int)) ∧ Boxed W2 b4 4 (.bool false) ∧ W2.cell? ⟨b6, 0, none⟩ = some (.slice (some ⟨g, 0, none⟩) n uc) ∧ Below w.heap.size w W2 ∧ W2.heap[D]? = some (.deferred (some [])) ∧ W2.heap[D2]? = some (.deferred (some [])) := fun W2 hb =>
        ⟨(Ti.box_next hv hb).cell, Ti.box_next x4 hb, (Ti.box_next (hN.box hE.out.x6 (by have := hE.out.h3; omega) (by have := hE.out.h3; omega)) hb).cell, b_then hB hb, (hb.block D (Array.getElem?_eq_some_iff.1 hK).1).trans hK, (hb.block D2 (Array.getElem?_eq_some_iff.1 hKK).1).trans hKK⟩
      replace hu := Lib.hid hu
      have hnil : ∀ W2, SetAt W2 none [] := fun _ => Or.inl ⟨rfl, rfl⟩
      have r0 : Rises ([] : List Int) := List.Pairwise.nil
      clear hp hv hN hS hR hM hB hK hKK c9 x4 c6 hn1
      gi_wp2_with fail
      refine ⟨trivial, ?_⟩
      gi_at_call 11
      refine (callsIn_wide.2 hAN.out).mono ?_
      rintro e V1 ⟨rfl, v1⟩
      have hAt := Lib.hid (Ti.SetAt_calls V1 none [] 0 (hnil _) (by simp) (by omega) 0 false (Or.inl ⟨by simp [nth], rfl, rfl⟩))
      have hHa := Ti.Has_calls V1 none [] 1 (hnil _) r0
      rw [show has (1 : Int) ([] : List Int) = false from rfl] at hHa
      replace hHa := Lib.hid hHa
      obtain ⟨t9, t4, t6, -, -, -⟩ := hu.out V1 v1
      clear hAN
      gi_wp2_with fail
      refine ⟨trivial, ?_⟩
      gi_at_call 17
      refine (callsIn_wide.2 hAt.out).mono ?_
      rintro e V2 ⟨rfl, hq⟩
      obtain rfl := hq.symm
      clear hq hAt
      gi_wp2_with fail
      refine ⟨trivial, ?_⟩
      gi_at_call 16
      refine (callsIn_wide.2 hHa.out).mono ?_
      rintro e V3 ⟨rfl, v3⟩
      have v13 := b_then v1 v3
      have hLe := Lib.hid (Ti.SetLen_calls V3 none [] (hnil _))
      have hDe := Lib.hid (Ti.DelNil_calls V3 1)
      have hUn := Lib.hid (Ti.Union_calls V3 none none [] [] (hnil _) (hnil _) (by simp) (by simp))
      clear hHa t9 t4 t6
      gi_wp2_with fail
      refine ⟨trivial, ?_⟩
      gi_at_call 21
      refine (callsIn_wide.2 hLe.out).mono ?_
      rintro e V4 ⟨rfl, hq⟩
      obtain rfl := hq.symm
      clear hq hLe
      gi_wp2_with fail
      refine ⟨trivial, ?_⟩
      gi_at_call 14
      refine (callsIn_wide.2 hDe.out).mono ?_
      rintro e V5 ⟨rfl, hq⟩
      obtain rfl := hq.symm
      clear hq hDe
      gi_wp2_with fail
      refine ⟨trivial, ?_⟩
      gi_at_call 23
      refine (callsIn_wide.2 hUn.out).mono ?_
      rintro e V6 ⟨U, hU, q, rfl, hq, hSq, v6⟩
      obtain rfl : U = [] := List.eq_nil_of_length_eq_zero (by have := hU.2.2; simpa using this)
      have hLe2 := Lib.hid (Ti.SetLen_calls V6 _ [] hSq)
      obtain ⟨-, t4, -, tB, tD, tD2⟩ := hu.out V6 (b_then v13 v6)
      have t4c := t4.cell
      have t4f := t4.frozen
      clear hUn hU hSq hq
      gi_wp2_with fail
      refine ⟨trivial, ?_⟩
      gi_at_call 21
      refine (callsIn_wide.2 hLe2.out).mono ?_
      rintro e V7 ⟨rfl, hq⟩
      obtain rfl := hq.symm
      clear hq hLe2
      gi_wp2_with fail
      have hKa := (KeepsOthers.setCell V6 ⟨b4, 0, none⟩ (.bool true)).same D2 _ tD2 rfl
      have hKb := (KeepsOthers.setCell V6 ⟨b4, 0, none⟩ (.bool true)).same D _ tD rfl
      have hdd : D ≠ D2 := by omega
      have hKc := (World.putObj_heap_other (w := V6.setCell ⟨b4, 0, none⟩ (.bool true)) (o := .deferred none) hdd).trans hKb
      have hc5 := cell_kept (t4.set (.bool true)).cell (grownBy_putObj' _ D2 (.deferred none)) (fun r e => by cases e; exact ⟨_, hKa, rfl⟩)
      have hc6 := cell_kept hc5 (grownBy_putObj' _ D (.deferred none)) (fun r e => by cases e; exact ⟨_, hKc, rfl⟩)
      have tB2 := tB.setCell (p := ⟨b4, 0, none⟩) (by simpa using hb4w) (.bool true)
      have hD2w : w.heap.size ≤ D2 := by omega
      have hDw : w.heap.size ≤ D := by have := hE.out.h3; omega
      refine ⟨by simp, .inl ⟨_, _, rfl, run_takeDeferred hKa, ?_⟩⟩
      refine ⟨by simp, .inl ⟨_, _, rfl, run_takeDeferred hKc, ?_⟩⟩
      refine ⟨.bool true, ?_, rfl, (tB2.trans (belowK_b (w := w) (Nat.le_refl _) _ D2 _ _ hD2w hKa rfl rfl)).trans (belowK_b (w := w) (Nat.le_refl _) _ D _ _ hDw hKc rfl rfl)⟩
      simp [results, Try.f6, go_sem, hc6]
    case stop2 =>
      rintro D2 c pre W' hD2 hpre ⟨rfl, hn⟩ _
      exact (hn hpre).elim
  have hne : p ≠ b9 := by have := hE.out.h3; omega
  refine wpIn_rangeFunc_ownG rfl (by omega) (gf := 63) (lb := #[.pointer (some ⟨b6 + 1, 0, none⟩)]) (by rw [← hA]; rfl) trivial (enters_of Try.func63 (by kernel_rfl) rfl)
    (Ti.setAll1_stops 2 W9 (b6 + 1) (some ⟨p, 0, none⟩) L y1.out.cell hS9.out) (fun h k => Keeps.trans h k) keeps_put (Below.refl _ _) (fun _ => rfl)
    (fun pre W => ((pre <+: L ∧ Boxed W b9 3 (.int .i64 (pre.length : Int))) ∧ Near W9 p b9 W ∧ SetAt W (some ⟨p, 0, none⟩) L) ∧ Below w.heap.size w W)
    (fun c pre W => ((c = .exit 0 ∧ ∃ v, Boxed W b9 3 v) ∧ Near W9 p b9 W ∧ SetAt W (some ⟨p, 0, none⟩) L) ∧ Below w.heap.size w W ∨ (c = .ret ∧ ¬ pre <+: L))
    (OwnFrom.and (Own.from (fun s X Y row hs hg hr => ⟨⟨hs.1.1, boxed_own _ _ (fun _ => _) s X Y row hs.1.2 hg hr⟩, near_own _ _ _ s X Y row hs.2.1 hg hr, set_own _ (fun _ => L) s X Y row hs.2.2 hg hr⟩) _) (ownFrom_below (by have := b09.out.size; omega) (by have := b09.out.size; omega)))
    (fun c s X Y row hs hg hr => by
      rcases hs with ⟨⟨⟨h1, v, h2⟩, h3, h4⟩, h5⟩ | h
      · have hr2 : ∀ r, row = some r → ∃ o : Obj, X.heap[r]? = some o ∧ o.isCells = false := fun r e => (hr r e).2
        exact Or.inl ⟨⟨⟨h1, v, boxed_own _ _ (fun _ => _) s X Y row h2 hg hr2⟩, near_own _ _ _ s X Y row h3 hg hr2, set_own _ (fun _ => L) s X Y row h4 hg hr2⟩, ownFrom_below (by have := b09.out.size; omega) (by have := b09.out.size; omega) s X Y row h5 hg hr⟩
      · exact Or.inr h)
    ⟨⟨⟨List.nil_prefix, y9.out⟩, Near.refl _ _ _, hS9.out⟩, b09.out⟩
    ?a1 ?assign ?body ?done ?stop
  case assign =>
    intro l x W K hK
    subst hA
    gi_wp2
    exact hK
  case body =>
    rintro l pre x W ⟨⟨⟨hp, hv⟩, hN, hS⟩, hB⟩ hlt
    clear hrest hKr
    subst hA
    have c3 := (hN.box hE.out.x3 (by have := hE.out.h3; omega) (by have := hE.out.h3; omega)).cell
    have x4 := hN.box hE.out.x4 (by have := hE.out.h3; omega) (by have := hE.out.h3; omega)
    have c4 := x4.cell
    have f4 := x4.frozen
    have c6 := (hN.box hE.out.x6 (by have := hE.out.h3; omega) (by have := hE.out.h3; omega)).cell
    have c9 := hv.cell
    have f9 := hv.frozen
    have hlt2 : pre.length < n := by omega
    have cr := hN.cell (hE.out.row pre.length hlt2) (by have := hE.out.h3; omega) (by have := hE.out.h3; omega)
    have hnx := Lib.hid (next_is (x := x) hp hlt)
    have l1 : (0 : Int) ≤ pre.length := by omega
    have l2 : (pre.length : Int) < n := by omega
    have l3 : decide ((n : Int) ≤ pre.length) = false := decide_eq_false (by omega)
    have l4 : decide (n ≤ pre.length) = false := decide_eq_false (by omega)
    have l5 : ¬ n ≤ pre.length := by omega
    have hw1 : IntKind.i64.wrap ((pre.length : Int) + 1) = (pre.length : Int) + 1 := wrap_nat (pre.length + 1) (by have := lA.out; omega)
    have hpl : Hid ((pre ++ [x]).length = pre.length + 1) := Lib.hid (by simp)
    have hend : Hid (KeepsFrom W9.heap.size W (W.setCell ⟨b4, 0, none⟩ (.bool false))) := Lib.hid ((KeepsOthers.setCell _ _ _).from _)
    have hgo : Hid (∀ v, Keeps W (W.setCell ⟨b9, 0, none⟩ v) ∧ Boxed (W.setCell ⟨b9, 0, none⟩ v) b9 3 v ∧ Near W9 p b9 (W.setCell ⟨b9, 0, none⟩ v) ∧ SetAt (W.setCell ⟨b9, 0, none⟩ v) (some ⟨p, 0, none⟩) L ∧ Below w.heap.size w (W.setCell ⟨b9, 0, none⟩ v)) :=
      Lib.hid fun v => ⟨⟨stays_box (by decide) hv, stays_box (by decide) hv⟩, hv.set _, hN.set v, set_box hS hv, hB.setCell (p := ⟨b9, 0, none⟩) (by have := hE.out.h3; simp; omega) _⟩
    have c3b := ((hN.set (.int .i64 ((pre.length : Int) + 1))).box hE.out.x3 (by have := hE.out.h3; omega) (by have := hE.out.h3; omega)).cell
    clear hlt hp hN hS
    generalize L[pre.length]?.getD 0 = y at *
    by_cases e1 : y = x
    · have hpp := Lib.hid (hnx.out.2 e1)
      have q1 : (y == x) = true := by simpa using e1
      have q2 : (y != x) = false := by simpa using e1
      replace e1 := Lib.hid e1
      clear hnx
      by_cases e2 : stop < (pre.length : Int) + 1
      · gi_wp2
        obtain ⟨u1, u2, u3, u4, u5⟩ := hgo.out (.int .i64 ((pre.length : Int) + 1))
        exact ⟨(KeepsOthers.setCell _ _ _).from _, Or.inl ⟨⟨⟨rfl, _, u2⟩, u3, u4⟩, u5⟩⟩
      · have e3 : (pre.length : Int) + 1 ≤ stop := by omega
        have e4 : decide (stop < (pre.length : Int) + 1) = false := decide_eq_false e2
        gi_wp2
        obtain ⟨u1, u2, u3, u4, u5⟩ := hgo.out (.int .i64 ((pre.length : Int) + 1))
        refine ⟨(KeepsOthers.setCell _ _ _).from _, u1, ⟨⟨hpp.out, ?_⟩, u3, u4⟩, u5⟩
        rw [hpl.out]; exact u2
    · have hnp := Lib.hid (fun h => e1 (hnx.out.1 h))
      have q1 : (y == x) = false := by simpa using e1
      have q2 : (y != x) = true := by simpa using e1
      clear hnx
      gi_wp2
      exact ⟨hend.out, Or.inr ⟨rfl, hnp.out⟩⟩
  case done =>
    rintro D ys W hD rfl ⟨⟨⟨hp, hv⟩, hN, hS⟩, hB⟩ hK
    subst hA
    exact hrest D W _ hD hN hv hS hB hK
  case stop =>
    rintro D c pre W hD hpre h hK
    rcases h with ⟨⟨⟨rfl, v, hv⟩, hN, hS⟩, hB⟩ | ⟨rfl, hn⟩
    · subst hA
      have := hrest D W _ hD hN hv hS hB hK
      gi_wp2
      exact this
    · exact (hn hpre).elim

theorem own : ownKnob Try.prog.godebug = none := by kernel_rfl
theorem laidOut : laidOutB Try.prog = true := by kernel_rfl
set_option maxRecDepth 100000 in
theorem lifted (os : Os) (started : os.Started) (H : Type) (enc : TypeId × Value → H) :
    ReturnsInHanded {} Try.checked os 6 .any (Rows.setGoesSpec.pre6 enc Try.prog Try.f6 Rows.setGoesRow.domain false) (Rows.setGoesSpec.post enc Try.prog Try.f6 false true false false) := by
  refine returnsInHanded_of_change_sized (C := Try.checked) own started (by kernel_rfl) Try.func6
    (ChangeSpec.witness6 (enc := enc) (C := Try.checked) false ⟨#[], #[.slice none 0 0, .int .i64 0], []⟩ 8 (by kernel_rfl) (by kernel_rfl) (by kernel_rfl) (by kernel_rfl)) ?_
  intro W base args ds gs before hval0 hW hcnd hsz0 _
  have hval : ∀ (j : Nat) t v, Try.f6.params[j]? = some t → args[j]? = some v → Value.okWide Try.prog W .any base t v := hval0
  have hsz : (DataW.weightsEach Try.prog (Try.f6.params.toList ++ Rows.setGoesSpec.plain.varTypes Try.prog) (ds ++ gs)).all (· ≤ reachBytes) = true := hsz0
  have hW' := hW
  obtain ⟨p, q, hA0, hV, rfl, hfz, hnd⟩ := hW
  have hA : DataW.TrodAll enc Try.prog W 0 (fun _ => true) true Try.f6.params.toList args.toList ds p := hA0
  rw [Try.params6] at hA hval hsz
  obtain ⟨v0, vs0, d0, ds0, p0, q0, hargs, rfl, rfl, h0, r0⟩ := trodAll_cons hA
  obtain ⟨v1, vs1, d1, ds1, p1, q1, rfl, rfl, rfl, h1, r1⟩ := trodAll_cons r0
  obtain ⟨rfl, rfl, rfl⟩ := trodAll_nil r1
  obtain rfl : args = #[v0, v1] := by cases args; simp_all
  obtain ⟨rfl, rfl⟩ := trodVars_none hV
  have k0 := h0
  have lt0 : ∀ x ∈ p0, x.block < W.heap.size := by obtain ⟨m, hm⟩ := k0; exact DataW.trod_lt m _ _ _ hm
  have ok0 := hval 0 22 v0 rfl rfl
  have k1 := h1
  have lt1 : ∀ x ∈ p1, x.block < W.heap.size := by obtain ⟨m, hm⟩ := k1; exact DataW.trod_lt m _ _ _ hm
  have ok1 := hval 1 3 v1 rfl rfl
  clear hA0 hval0 hsz0
  obtain ⟨a0, n0, c0, x0, o0, N0, rfl, i0, -⟩ := Oct.open_nums Try.underlying22 Try.underlying3 (by kernel_rfl) (of_decide_eq_true (by kernel_rfl)) ok0 h0 (Oct.arg_weights hsz (j := 0) rfl rfl)
  obtain ⟨z, rfl, -⟩ := okWide_int Try.underlying3 ok1
  refine (walk W a0 c0 n0 _ z (sl_open (cap := c0) i0).2 (sl_open i0).1).mono fun e W' ⟨he, bel⟩ => ?_
  subst he
  exact ⟨_, rfl, _, _, _, [], _, [], hW', trodAll_mk1 (shut_bool Try.underlying4 _), (trodAll_cons_mk (Below.trod laidOut (by kernel_rfl) (of_decide_eq_true (by kernel_rfl)) k0 bel lt0) (trodAll_cons_mk (Below.trod laidOut (by kernel_rfl) (of_decide_eq_true (by kernel_rfl)) k1 bel lt1) trodAll_mk0)), rfl, bel.frame _, fun h => by cases h⟩

/-- the statement -/
theorem proved : Rows.SetGoesSaid :=
  OpenClaim.holds_of_wide 6 Try.f6 rfl rfl rfl rfl rfl rfl rfl ⟨rfl, rfl, rfl, rfl, rfl⟩ rfl rfl rfl rfl rfl (by kernel_rfl) Try.func6 (by kernel_rfl)
    (of_decide_eq_true (by kernel_rfl)) (by unfold Func.isWrapper; first | (rw [if_pos (by decide +kernel)]; kernel_rfl) | (rw [if_neg (by decide +kernel)]; exact ⟨rfl, rfl⟩))
    (fun os started H enc _ => lifted os started H enc)
end Go.Proofs.Ytkdghmbglaghlaa.setGoes
