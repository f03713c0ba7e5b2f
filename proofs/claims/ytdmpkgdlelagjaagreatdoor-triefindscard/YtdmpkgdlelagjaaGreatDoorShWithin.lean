/-
  shelf.Within: whether all of one set is in another. Conditions: the sets' things rise.
-/
import Derived.Test.YtdmpkgdlelagjaaGreatDoorRows
import Derived.Test.YtdmpkgdlelagjaaGreatDoorShFrom
namespace Go.Proofs.YtdmpkgdlelagjaaGreatDoor.Ti
open Go.RowKit Go.Shelf Sh
attribute [local go_sem] Oper.semAt_some fold_none
theorem keepsFrom_below {B : Nat} {W W' : World} (h : Below W.heap.size W W') : KeepsFrom B W W' := ⟨h.size, fun k _ _ hk _ => (h.block k (Array.getElem?_eq_some_iff.1 hk).1).trans hk⟩
theorem box_next {W W' : World} {b : Nat} {t : TypeId} {v : Value} (h : Boxed W b t v) (hb : Below W.heap.size W W') : Boxed W' b t v := (hb.block b h.lt).trans h

end Go.Proofs.YtdmpkgdlelagjaaGreatDoor.Ti
namespace Go.Proofs.YtdmpkgdlelagjaaGreatDoor.Ts
open Go.RowKit Go.Shelf Sh
attribute [local go_sem] Oper.semAt_some fold_none
theorem keepsFrom_below {B : Nat} {W W' : World} (h : Below W.heap.size W W') : KeepsFrom B W W' := ⟨h.size, fun k _ _ hk _ => (h.block k (Array.getElem?_eq_some_iff.1 hk).1).trans hk⟩
theorem box_next {W W' : World} {b : Nat} {t : TypeId} {v : Value} (h : Boxed W b t v) (hb : Below W.heap.size W W') : Boxed W' b t v := (hb.block b h.lt).trans h

set_option maxRecDepth 100000 in
set_option maxHeartbeats 4000000 in
theorem Within_calls (w : World) (a b : Option Addr) (A B : List ByteArray) (hA : SetAt w a A) (hB : SetAt w b B) (rB : Rises B) :
    Calls Tryz.prog 25 #[.pointer a, .pointer b] w fun e w' => e = .returned (.bool (A.all fun x => has x B)) ∧ Below w.heap.size w w' := by
  have b1 := b_then (b_alloc w (.cells #[.pointer b] 38)) (b_then (b_alloc _ (.cells #[.bool false] 4)) (b_alloc _ (.cells #[.pointer a] 38)))
  have x0 := ((Boxed.new w 38 (.pointer b)).alloc (.cells #[.bool false] 4)).alloc (.cells #[.pointer a] 38)
  have x1 := (Boxed.new (w.alloc (.cells #[.pointer b] 38)) 4 (.bool false)).alloc (.cells #[.pointer a] 38)
  have x2 := Boxed.new ((w.alloc (.cells #[.pointer b] 38)).alloc (.cells #[.bool false] 4)) 38 (.pointer a)
  rw [World.size_alloc] at x1
  rw [World.size_alloc, World.size_alloc] at x2
  have hst := Lib.hid (setAll1_stops 2 _ (w.heap.size + 1 + 1) a A x2.cell (hA.next b1))
  have hsz : Hid (w.heap.size + 3 = (((w.alloc (.cells #[.pointer b] 38)).alloc (.cells #[.bool false] 4)).alloc (.cells #[.pointer a] 38)).heap.size) := Lib.hid (by simp)
  have hM := Lib.hid fun w' => SetAll_calls w' a
  have hH := Lib.hid fun W x (h : Below w.heap.size w W) => Has_calls W b B x (hB.next h) rB
  clear hA hB x2
  replace b1 := Lib.hid b1
  replace x0 := Lib.hid x0
  replace x1 := Lib.hid x1
  refine (callsIn_wide (n := 3)).1 ?_
  refine callsIn_of_wp_marks Tryz.func25 rfl trivial ?_ rfl
  simp only [Tryz.ntmps25, List.size_toArray, List.length_cons, List.length_nil, Nat.reduceAdd, Nat.reduceSub, Array.replicate_succ, Array.replicate_zero, List.push_toArray, List.append_toArray, List.nil_append, List.cons_append]
  gi_wp2_with (refine ⟨trivial, ?_⟩; gi_at_call 62; refine (callsIn_wide.2 (hM.out _)).mono ?_; rintro e w' ⟨rfl, rfl⟩)
  clear hM
  generalize ((w.alloc (.cells #[.pointer b] 38)).alloc (.cells #[.bool false] 4)).alloc (.cells #[.pointer a] 38) = W1 at *
  have bW := b1.out
  have hsz1 := hsz.out
  refine wpIn_rangeFunc_ownG rfl (by omega) (gf := 89) (lb := #[.pointer (some ⟨w.heap.size + 1 + 1, 0, none⟩)]) rfl trivial (enters_of Tryz.func89 (by kernel_rfl) rfl)
    hst.out (fun h k => Keeps.trans h k) keeps_put (Below.refl _ _) (fun _ => rfl)
    (fun pre W => ((∀ y ∈ pre, has y B = true) ∧ Boxed W w.heap.size 38 (.pointer b) ∧ Boxed W (w.heap.size + 1) 4 (.bool false)) ∧ Below w.heap.size w W)
    (fun c pre W => (c = .ret ∧ (∃ y ∈ pre, has y B = false) ∧ Boxed W (w.heap.size + 1) 4 (.bool false)) ∧ Below w.heap.size w W)
    (OwnFrom.and (Own.from (fun s X Y row hs hg hr => ⟨hs.1, boxed_own _ _ (fun _ => _) s X Y row hs.2.1 hg hr, boxed_own _ _ (fun _ => _) s X Y row hs.2.2 hg hr⟩) _) (ownFrom_below (Nat.le_refl _) (by omega)))
    (fun c => OwnFrom.and (Own.from (fun s X Y row hs hg hr => ⟨hs.1, hs.2.1, boxed_own _ _ (fun _ => _) s X Y row hs.2.2 hg hr⟩) _) (ownFrom_below (Nat.le_refl _) (by omega)))
    ⟨⟨by simp, x0.out, x1.out⟩, bW⟩
    (fun x => { tmps := #[.pointer a, .pointer b, undef, .pointer (some ⟨w.heap.size, 0, none⟩), .pointer (some ⟨w.heap.size + 1, 0, none⟩), .string x, .pointer a, .func (.func 89) #[] #[.pointer (some ⟨w.heap.size + 1 + 1, 0, none⟩)], .string x, undef, undef, undef, undef], defers := [] }) ?assign ?body ?done ?stop
  case assign =>
    intro l x W K hK
    gi_wp2
    exact hK
  case body =>
    rintro l pre x W ⟨⟨hp, h0, h1⟩, hBw⟩ _
    have hc0 := h0.cell
    have hH2 := Lib.hid (hH.out W x hBw)
    have hfin : Hid (∀ W2, Below W.heap.size W W2 → Boxed W2 w.heap.size 38 (.pointer b) ∧ Boxed W2 (w.heap.size + 1) 4 (.bool false) ∧ Below w.heap.size w W2) := Lib.hid fun W2 h => ⟨box_next h0 h, box_next h1 h, b_next hBw h (Nat.le_refl _)⟩
    cases hz : has x B with
    | true =>
      have hpp : Hid (∀ y ∈ pre ++ [x], has y B = true) := Lib.hid fun y hy => (List.mem_append.1 hy).elim (hp y) (fun e => by simp at e; rw [e]; exact hz)
      rw [hz] at hH2
      clear hp hz
      gi_wp2_with (refine ⟨trivial, ?_⟩; gi_at_call 61; refine (CallsIn.inRound l (callsIn_wide.2 hH2.out)).mono ?_; rintro e W2 ⟨rfl, b2⟩)
      exact ⟨keepsFrom_below b2, keeps_below b2, ⟨hpp.out, (hfin.out _ b2).1, (hfin.out _ b2).2.1⟩, (hfin.out _ b2).2.2⟩
    | false =>
      have hpp : Hid (∃ y ∈ pre ++ [x], has y B = false) := Lib.hid ⟨x, by simp, hz⟩
      rw [hz] at hH2
      clear hp hz
      gi_wp2_with (refine ⟨trivial, ?_⟩; gi_at_call 61; refine (CallsIn.inRound l (callsIn_wide.2 hH2.out)).mono ?_; rintro e W2 ⟨rfl, b2⟩; have y1 := (hfin.out _ b2).2.1.cell; have y2 := (hfin.out _ b2).2.1.frozen)
      exact ⟨(keepsFrom_below b2).trans ((KeepsOthers.setCell _ _ _).from _), ⟨rfl, hpp.out, (hfin.out _ b2).2.1.set _⟩, (hfin.out _ b2).2.2.setCell (p := ⟨w.heap.size + 1, 0, none⟩) (by simp) _⟩
  case done =>
    rintro D ys W hD rfl ⟨⟨hp, _, h1⟩, hBw⟩ hK
    have y1 := h1.cell
    have y2 := h1.frozen
    gi_wp2
    have hK' := (KeepsOthers.setCell W ⟨w.heap.size + 1, 0, none⟩ (.bool true)).same D _ hK rfl
    refine ⟨by simp, .inl ⟨_, _, rfl, run_takeDeferred hK', ?_⟩⟩
    have hc5 := cell_kept (h1.set (.bool true)).cell (grownBy_putObj' _ D (.deferred none)) (fun r e => by cases e; exact ⟨_, hK', rfl⟩)
    refine ⟨.bool true, ?_, by rw [List.all_eq_true.2 hp], (hBw.setCell (p := ⟨w.heap.size + 1, 0, none⟩) (by simp) _).trans (belowK_b (w := w) (Nat.le_refl _) _ D _ _ (by omega) hK' rfl rfl)⟩
    simp [results, Tryz.f25, go_sem, hc5]
  case stop =>
    rintro D c pre W hD hpre ⟨⟨rfl, hin, h1⟩, hBw⟩ hK
    gi_wp2
    refine ⟨by simp, .inl ⟨_, _, rfl, run_takeDeferred hK, ?_⟩⟩
    have hc5 := cell_kept h1.cell (grownBy_putObj' _ D (.deferred none)) (fun r e => by cases e; exact ⟨_, hK, rfl⟩)
    refine ⟨.bool false, ?_, ?_, hBw.trans (belowK_b (w := w) (Nat.le_refl _) W D _ _ (by omega) hK rfl rfl)⟩
    · simp [results, Tryz.f25, go_sem, hc5]
    · obtain ⟨y, hy, hyf⟩ := hin
      have : (A.all fun x => has x B) = false := by
        cases hz : A.all fun x => has x B with
        | false => rfl
        | true => rw [List.all_eq_true.1 hz y (hpre.subset hy)] at hyf; cases hyf
      rw [this]
end Go.Proofs.YtdmpkgdlelagjaaGreatDoor.Ts
