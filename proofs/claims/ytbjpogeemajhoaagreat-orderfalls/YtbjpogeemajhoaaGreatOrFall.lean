/-
  A map's facts gone over as an iterator, put into a list, sorted falling, their Ids: order's falling; old memory stays. Conditions: the map has no more than a hundred thousand facts.
-/
import Derived.Test.YtbjpogeemajhoaaGreatRows
import Derived.Test.YtbjpogeemajhoaaGreatOrMap
import Derived.Test.YtbjpogeemajhoaaGreatOrRange
import Derived.Test.YtbjpogeemajhoaaGreatOrMet
import Derived.RangeFuncBound
import Derived.RangeFuncCalls
import Derived.Shelf.Abstract
import Derived.RangeFuncNested
import Derived.RangeFuncLeaves
import Derived.RangeFuncMany
import Derived.RangeFuncStops
import Derived.Shelf.RegionOpen
import Derived.OwnWalkIn
import Derived.TacticsInMore
import Derived.LoopNIn
import Derived.LoopIn
import Derived.BigRegionIn
namespace Go.Proofs.YtbjpogeemajhoaaGreat.Or
open Go Go.RowKit Go.Shelf
attribute [local go_sem] Oper.semAt_some
theorem room_any {F : Fence} (hd : F.depth = none) (k : Nat) : F.room k := fun d h => by rw [hd] at h; cases h
theorem YieldAt.any {m : Nat} (m' : Nat) {P : Program} {l : Nat} {args : Array Value} {W : World} {R : Ending → World → Prop} (h : YieldAt Fence.wide m P l args W R) : YieldAt Fence.wide m' P l args W R := by
  obtain ⟨fn, tmps, assign, body, hy, hR⟩ := h
  exact ⟨fn, tmps, assign, body, hy, hR.1, fun c cs _ => hR.2 c cs (room_any rfl _)⟩
theorem FxBlk.kept {W W' : World} {row : Option Nat} {g : Nat} {x : Fx} (h : FxBlk W g x) (hg : W.grownBy W' row) (hr : ∀ r, row = some r → ∃ o : Obj, W.heap[r]? = some o ∧ o.isCells = false) : FxBlk W' g x := by
  obtain ⟨z, e⟩ := h.all
  refine ⟨⟨z, (hg.block g h.lt fun q => ?_).trans e⟩⟩
  obtain ⟨o, ho, hc⟩ := hr g q.symm
  rw [e] at ho
  cases ho; cases hc
theorem deep (n : Nat) : Fence.wide.depth.isSome = true → 1 ≤ n := fun h => by cases h

/-! ### rows of facts -/
theorem infoFct : (Tryz.prog.info? 28).map (fun i => (i.zero, i.size, i.bytes)) = some (some (.agg #[.string ⟨#[]⟩, .int .i64 0, .slice none 0 0]), 3, 48) := by kernel_rfl
def rowF (L : List Fx) : List Value := L.flatMap Fx.cells
theorem rowF_snoc (L : List Fx) (x : Fx) : rowF L ++ x.cells = rowF (L ++ [x]) := by simp [rowF]
theorem rowF_len (L : List Fx) : (rowF L).length = L.length * 3 := by
  induction L with
  | nil => rfl
  | cons x L ih => simp only [rowF, List.flatMap_cons, List.length_append] at ih ⊢; rw [ih]; simp [Fx.cells]; omega
theorem rowF_at : ∀ (L : List Fx) (i : Nat) (x : Fx), L[i]? = some x → (rowF L)[i * 3]? = some (.string x.f.id) ∧ (rowF L)[i * 3 + 1]? = some (.int .i64 x.f.high) ∧ (rowF L)[i * 3 + 2]? = some (.slice x.pa x.f.pars.length x.pc)
  | [], i, e, h => by simp at h
  | y :: L, 0, e, h => by simp at h; subst h; simp [rowF, Fx.cells]
  | y :: L, i + 1, e, h => by
    have ih := rowF_at L i e (by simpa using h)
    have hc : rowF (y :: L) = y.cells ++ rowF L := by simp [rowF]
    have hl : y.cells.length = 3 := rfl
    rw [hc, show (i + 1) * 3 = i * 3 + 3 by omega]
    refine ⟨?_, ?_, ?_⟩
    · rw [List.getElem?_append_right (by omega), hl]; exact ih.1
    · rw [List.getElem?_append_right (by omega), hl, show i * 3 + 3 + 1 - 3 = i * 3 + 1 by omega]; exact ih.2.1
    · rw [List.getElem?_append_right (by omega), hl, show i * 3 + 3 + 2 - 3 = i * 3 + 2 by omega]; exact ih.2.2
/-- a slice of facts in a row of the call's own -/
def OwnX (B : Nat) (w : World) (v : Value) (L : List Fx) : Prop := w.ownsRow B 28 3 v L.length (rowF L)
theorem OwnX.nil (B : Nat) (w : World) : OwnX B w (.slice none 0 0) [] := World.ownsRow_nil _ _ _ _
theorem OwnX.new (w : World) (B : Nat) (hB : B ≤ w.heap.size) : OwnX B (w.alloc (.cells #[] 28)) (.slice (some ⟨w.heap.size, 0, none⟩) 0 0) [] := by
  refine ⟨by simp [rowF], Or.inr ⟨w.heap.size, 0, #[], rfl, hB, heap_new w _, by simp, by simp [maxLen], by simp, by simp [rowF]⟩⟩
theorem OwnX.next {B : Nat} {w w' : World} {v : Value} {L : List Fx} (h : OwnX B w v L) (b : Below w.heap.size w w') : OwnX B w' v L := owns_turn h fun g hg => b.block g (h.lt g hg).2
theorem OwnX.row {B : Nat} {w : World} {v : Value} {L : List Fx} (h : OwnX B w v L) (hL : 0 < L.length) : ∃ g cap, v = .slice (some ⟨g, 0, none⟩) L.length cap ∧ L.length ≤ cap ∧ B ≤ g ∧ g < w.heap.size ∧ (∀ i x, L[i]? = some x → w.cell? ⟨g, i * 3, none⟩ = some (.string x.f.id) ∧ w.cell? ⟨g, i * 3 + 1, none⟩ = some (.int .i64 x.f.high) ∧ w.cell? ⟨g, i * 3 + 2, none⟩ = some (.slice x.pa x.f.pars.length x.pc)) ∧ ∀ i, w.frozen? ⟨g, i, none⟩ = false := by
  rcases h.2 with ⟨hv, h0⟩ | ⟨g, cap, cur, hv, h1, h2, h3, _⟩
  · omega
  · have hb : v.ownBlock = some g := by rw [hv]; rfl
    refine ⟨g, cap, hv, h3, h1, (Array.getElem?_eq_some_iff.1 h2).1, fun i x he => ⟨?_, ?_, ?_⟩, fun i => Lib.frozen_of_heap h2 _⟩
    · have := World.ownsRow.cells h hb _ _ (rowF_at L i x he).1; rwa [Addr.add_mid, Nat.zero_add] at this
    · have := World.ownsRow.cells h hb _ _ (rowF_at L i x he).2.1; rwa [Addr.add_mid, Nat.zero_add] at this
    · have := World.ownsRow.cells h hb _ _ (rowF_at L i x he).2.2; rwa [Addr.add_mid, Nat.zero_add] at this
theorem OwnX.at_ {B : Nat} {w : World} {v : Value} {L : List Fx} (h : OwnX B w v L) : ∃ a cap b off, v = .slice a L.length cap ∧ FxsAt w a b off L ∧ L.length ≤ cap := by
  rcases h.2 with ⟨hv, h0⟩ | ⟨g, cap, cur, hv, h1, h2, h3, _⟩
  · have hn : ∀ i (x : Fx), L[i]? = some x → False := fun i x he => by have := (List.getElem?_eq_some_iff.1 he).1; omega
    exact ⟨none, 0, 0, 0, by rw [hv, h0], ⟨fun h => by omega, fun i e he => (hn i e he).elim, fun i e he => (hn i e he).elim, fun i e he => (hn i e he).elim⟩, by omega⟩
  · have hb : v.ownBlock = some g := by rw [hv]; rfl
    refine ⟨some ⟨g, 0, none⟩, cap, g, 0, hv, ⟨fun _ => rfl, fun i e he => ?_, fun i e he => ?_, fun i e he => ?_⟩, h3⟩
    · have := World.ownsRow.cells h hb _ _ (rowF_at L i e he).1; rwa [Addr.add_mid] at this
    · have := World.ownsRow.cells h hb _ _ (rowF_at L i e he).2.1; rw [Addr.add_mid] at this; rw [Nat.add_assoc]; exact this
    · have := World.ownsRow.cells h hb _ _ (rowF_at L i e he).2.2; rw [Addr.add_mid] at this; rw [Nat.add_assoc]; exact this

/-! ### the iterator over a map's facts -/
theorem one_of {F : List Fx} (hn : (F.map fun y => y.f.id).Nodup) {y z : Fx} (hy : y ∈ F) (hz : z ∈ F) (e : y.f.id = z.f.id) : y = z := by
  have h1 := fnd_mem hn hy
  have h2 := fnd_mem hn hz
  rw [e, h2] at h1
  exact (Option.some.inj h1).symm
theorem ids_nodup {F G : List Fx} (hn : (F.map fun y => y.f.id).Nodup) (hG : G.Nodup) (hs : ∀ y ∈ G, y ∈ F) : (G.map fun y => y.f.id).Nodup := by
  unfold List.Nodup at hG ⊢
  rw [List.pairwise_map]
  exact hG.imp_of_mem fun ha hb hne e => hne (one_of hn (hs _ ha) (hs _ hb) e)
theorem RangeOf.few {w : World} {b r : Nat} {F G : List Fx} {c : Nat} {x : Fx} (h : RangeOf w b r F (G ++ [x]) c) : G.length < F.length := by
  have := fxs_len (ids_nodup h.nodup h.once h.sub) h.sub
  rw [List.length_append, List.length_singleton] at this
  omega
theorem RangeOf.of_walks {w w' : World} {b r : Nat} {F G : List Fx} {c : Nat} (h : RangeOf w b r F G c) (k : KeepsWalks w w') : RangeOf w' b r F G c := by
  obtain ⟨D, left, h1, h2⟩ := h.own
  exact ⟨⟨D, left, h1.of_walks k, h2⟩, h.nodup, h.sub, h.once⟩
theorem RangeOf.iter_walk {w : World} {b r : Nat} {F G : List Fx} {c : Nat} (h : RangeOf w b r F G c) : ∃ o : Obj, w.heap[r]? = some o ∧ o.isWalk = true := by
  obtain ⟨D, left, h1, h2⟩ := h.own
  exact h1.iter_walk


set_option maxHeartbeats 1000000 in
theorem Values_calls (w : World) (m : Option Nat) :
    Calls Tryz.prog 51 #[.map m] w fun e w' => e = .returned (.func (.func 70) #[] #[.pointer (some ⟨w.heap.size, 0, none⟩)]) ∧ w' = w.alloc (.cells #[.map m] 58) := by
  go_enter Tryz.func51, Tryz.ntmps51
  go_wp2
  go_ret
  exact ⟨rfl, rfl⟩
set_option maxRecDepth 100000 in
set_option maxHeartbeats 2000000 in
theorem values1_stops (n : Nat) (w : World) (B mb : Nat) (F : List Fx) (hB : w.cell? ⟨B, 0, none⟩ = some (.map (some mb))) (hM : MapOf w mb F) :
    SeqStopsK Fence.wide n Tryz.prog 70 #[.pointer (some ⟨B, 0, none⟩)] (fun x : Fx => #[x.val]) KeepsWalks (fun G => G.Nodup ∧ (∀ y ∈ G, y ∈ F) ∧ ∀ y ∈ F, y ∈ G) (fun _ => True) F.length w := fun l J Jx W hW hJ _ hY h0 => by
  have hlt : B < w.heap.size := World.block_lt_of_cell? w _ hB
  have hB' : W.cell? ⟨B, 0, none⟩ = some (.map (some mb)) := (hW.cell (p := ⟨B, 0, none⟩) hlt).trans hB
  have hMW := hM.next hW
  clear hB hM hW hlt
  replace hY := Lib.hid hY
  replace hJ := Lib.hid hJ
  show CallsIn Fence.wide n Tryz.prog 70 #[.func (.yield l) #[] #[], .pointer (some ⟨B, 0, none⟩)] W _
  refine callsIn_of_wp Tryz.func70 rfl trivial ?_ rfl
  rw [Tryz.ntmps70]
  simp only [List.size_toArray, List.length_cons, List.length_nil, Nat.reduceAdd, Nat.reduceSub]
  simp only [Array.replicate_succ, Array.replicate_zero]
  simp only [List.push_toArray, List.append_toArray, List.nil_append, List.cons_append]
  gi_wp2_with (first
    | (gi_at_range; refine wpi_range rfl _ rfl mb F rfl hMW ?_; intro w0 hrg0 hg0 hs0)
    | gi_in)
  have hJ0 := hJ.out [] W w0 none h0 hg0 (fun r e => by cases e)
  gi_loopw [] (fun wr => ∃ G c, RangeOf wr mb W.heap.size F G c ∧ J G wr) (fun wr => wr.rangeLeft mb W.heap.size)
  case atStart => exact ⟨[], _, hrg0, hJ0⟩
  case round =>
    obtain ⟨G, c, hrg, hJs⟩ := hrel
    clear hrg0 hg0 hs0 hJ0 h0 hMW hB'
    gi_wp2_with (first
      | (gi_at_next; refine wpi_next rfl _ rfl mb W.heap.size F G c rfl hrg ?_ ?_)
      | gi_in)
    · intro hall
      gi_wp2
      go_end0
      exact ⟨⟨_, rfl⟩, .inl ⟨G, ⟨hrg.once, hrg.sub, hall⟩, hJs⟩⟩
    · intro x w1 c1 hx hxG hrg1 hlt hg1 hs1 hen
      have hJ1 : J G w1 := hJ.out G wr w1 (some W.heap.size) hJs hg1 (fun r e => by cases e; exact ⟨Nat.le_refl _, hrg.iter_walk⟩)
      have hA := b_alloc w1 (.cells #[.string x.f.id, .int .i64 x.f.high, .slice x.pa x.f.pars.length x.pc] 28)
      have hJ2 := hJ.out G w1 _ none hJ1 (World.grownBy_alloc w1 (.cells #[.string x.f.id, .int .i64 x.f.high, .slice x.pa x.f.pars.length x.pc] 28) none) (fun r e => by cases e)
      obtain ⟨fn, tmps, assign, body, hy, hR⟩ := Or.YieldAt.any (n - 1) (hY.out G x _ hJ2 hrg1.few)
      have hrg2 := Lib.hid (hrg1.next hA)
      have hX := FxBlk.new w1 x
      have hle := Lib.hid hrg.left_eq
      replace hlt := Lib.hid hlt
      dsimp only [Fx.val] at hen hy hR ⊢
      clear hrg1 hJ1 hJ2 hA hg1 hs1 hxG hx hrg hJs
      gi_wp2_with fail
      refine ⟨deep _, ?_⟩
      refine hR.mono ?_
      rintro e W3 (⟨rfl, hJ3, hk3⟩ | ⟨rfl, hJx3⟩)
      · have hrg3 := hrg2.out.of_walks hk3
        gi_wp2
        go_roundw
        case measure => rw [hrg3.left_eq, hle.out]; exact hlt.out
        case rel => exact ⟨_, _, hrg3, hJ3⟩
      · gi_wp2
        refine bodyPost_ret (results_none rfl _ _ _) rfl ?_
        exact ⟨⟨_, rfl⟩, .inr ⟨_, trivial, hJx3⟩⟩

set_option maxRecDepth 100000 in
set_option maxHeartbeats 2000000 in
theorem values1_nil (n : Nat) (w : World) (B : Nat) (hB : w.cell? ⟨B, 0, none⟩ = some (.map none)) :
    SeqStopsK Fence.wide n Tryz.prog 70 #[.pointer (some ⟨B, 0, none⟩)] (fun x : Fx => #[x.val]) KeepsWalks (fun G => G.Nodup ∧ (∀ y ∈ G, y ∈ ([] : List Fx)) ∧ ∀ y ∈ ([] : List Fx), y ∈ G) (fun _ => True) 0 w := fun l J Jx W hW hJ _ hY h0 => by
  have hlt : B < w.heap.size := World.block_lt_of_cell? w _ hB
  have hB' : W.cell? ⟨B, 0, none⟩ = some (.map none) := (hW.cell (p := ⟨B, 0, none⟩) hlt).trans hB
  have hrg := run_range_nilMap (P := Tryz.prog) W 58 9 28 underF
  have hnx : ∀ ty, (Instr.next (.pointer (some ⟨W.heap.size, 0, none⟩)) false ty).run Tryz.prog (W.alloc (.mapIter none 0 #[] 0)) = _ := fun ty => run_next_nilMap W ty 0 0 #[]
  have hJ1 := hJ [] W _ none h0 (World.grownBy_alloc W (.mapIter none 0 #[] 0) none) (fun r e => by cases e)
  clear hB hW hlt hY hJ h0
  show CallsIn Fence.wide n Tryz.prog 70 #[.func (.yield l) #[] #[], .pointer (some ⟨B, 0, none⟩)] W _
  refine callsIn_of_wp Tryz.func70 rfl trivial ?_ rfl
  rw [Tryz.ntmps70]
  simp only [List.size_toArray, List.length_cons, List.length_nil, Nat.reduceAdd, Nat.reduceSub]
  simp only [Array.replicate_succ, Array.replicate_zero]
  simp only [List.push_toArray, List.append_toArray, List.nil_append, List.cons_append]
  gi_wp2
  gi_loopw [] (fun wr => wr = W.alloc (.mapIter none 0 #[] 0)) (fun _ => 0)
  case atStart => rfl
  case round =>
    subst hrel
    gi_wp2
    go_end0
    exact ⟨⟨_, rfl⟩, .inl ⟨[], ⟨List.nodup_nil, fun y hy => by simp at hy, fun y hy => by simp at hy⟩, hJ1⟩⟩
theorem values1_any (n : Nat) (w : World) (B : Nat) (m : Option Nat) (F : List Fx) (hB : w.cell? ⟨B, 0, none⟩ = some (.map m)) (hM : IsMap w m F) :
    SeqStopsK Fence.wide n Tryz.prog 70 #[.pointer (some ⟨B, 0, none⟩)] (fun x : Fx => #[x.val]) KeepsWalks (fun G => G.Nodup ∧ (∀ y ∈ G, y ∈ F) ∧ ∀ y ∈ F, y ∈ G) (fun _ => True) F.length w := by
  rcases hM with ⟨rfl, rfl⟩ | ⟨b, rfl, hM⟩
  · exact values1_nil n w B hB
  · exact values1_stops n w B b F hB hM
theorem IsMap.nodup {w : World} {m : Option Nat} {F : List Fx} (h : IsMap w m F) : (F.map fun y => y.f.id).Nodup := by
  rcases h with ⟨_, rfl⟩ | ⟨b, _, h⟩
  · exact List.nodup_nil
  · exact h.nodup

set_option maxRecDepth 100000 in
set_option maxHeartbeats 4000000 in
/-- a map's facts, appended to nothing -/
theorem AppendSeq_calls (w : World) (B : Nat) (m : Option Nat) (F : List Fx) (hF : F.length ≤ 1000000) (hB : w.cell? ⟨B, 0, none⟩ = some (.map m)) (hM : IsMap w m F) :
    Calls Tryz.prog 89 #[.slice none 0 0, .func (.func 70) #[] #[.pointer (some ⟨B, 0, none⟩)]] w fun e w' => ∃ u G, e = .returned u ∧ OwnX w.heap.size w' u G ∧ G.Perm F ∧ Below w.heap.size w w' := by
  obtain ⟨i0, hi, hz0, hz1, hz2⟩ := info_parts infoFct
  have hlt : B < w.heap.size := World.block_lt_of_cell? w _ hB
  have b1 := b_alloc w (.cells #[.slice none 0 0] 24)
  have bO := Boxed.new w 24 (.slice none 0 0)
  have hst := values1_any 2 (w.alloc (.cells #[.slice none 0 0] 24)) B m F ((b1.cell (p := ⟨B, 0, none⟩) hlt).trans hB) (hM.next b1)
  have hsz : (w.alloc (.cells #[.slice none 0 0] 24)).heap.size = w.heap.size + 1 := by simp
  have hnod := Lib.hid hM.nodup
  clear hB hM hlt
  replace hst := Lib.hid hst
  replace b1 := Lib.hid b1
  replace bO := Lib.hid bO
  replace hsz := Lib.hid hsz
  refine (callsIn_wide (n := 3)).1 ?_
  refine callsIn_of_wp_marks Tryz.func89 rfl trivial ?_ rfl
  simp only [Tryz.ntmps89, List.size_toArray, List.length_cons, List.length_nil, Nat.reduceAdd, Nat.reduceSub, Array.replicate_succ, Array.replicate_zero, List.push_toArray, List.append_toArray, List.nil_append, List.cons_append]
  gi_wp2_with fail
  generalize w.alloc (.cells #[.slice none 0 0] 24) = W1 at *
  have bW := b1.out
  have hsz1 := hsz.out
  refine wpIn_rangeFunc_ownH rfl (by omega) (gf := 70) (lb := #[.pointer (some ⟨B, 0, none⟩)]) rfl trivial (enters_of Tryz.func70 (by kernel_rfl) rfl)
    hst.out walksK_t walksK_b (Below.refl _ _) (fun _ => rfl)
    (fun pre W => (∃ v, Boxed W w.heap.size 24 v ∧ W.ownsRow w.heap.size 28 3 v pre.length (rowF pre) ∧ True) ∧ Below w.heap.size w W)
    (fun _ _ _ => False)
    (OwnFrom.and (Own.from (holdsRow_own w.heap.size w.heap.size 24 28 3 (fun pre => pre.length) rowF (fun _ _ => True)) _) (ownFrom_below (Nat.le_refl _) (by omega)))
    (fun _ _ _ _ _ hs _ _ => hs)
    ⟨⟨_, bO.out, World.ownsRow_nil _ _ _ _, trivial⟩, bW⟩
    (fun x a' W => ∃ b, FxBlk W b x ∧ a' = { tmps := #[.slice none 0 0, .func (.func 70) #[] #[.pointer (some ⟨B, 0, none⟩)], .pointer (some ⟨w.heap.size, 0, none⟩), undef, .slice none 0 0, .pointer (some ⟨b, 0, none⟩), .func (.func 70) #[] #[.pointer (some ⟨B, 0, none⟩)], x.val, undef, undef, undef, undef, undef], defers := [] })
    (fun x a' s W W' row ⟨b, h, e⟩ hg hr => ⟨b, h.kept hg fun r e' => (hr r e').2, e⟩) ?assign ?body ?done ?stop
  case assign =>
    intro l pre x W K hi hK
    have hA := b_alloc W (.cells #[.string x.f.id, .int .i64 x.f.high, .slice x.pa x.f.pars.length x.pc] 28)
    have hk1 := hK { tmps := #[.slice none 0 0, .func (.func 70) #[] #[.pointer (some ⟨B, 0, none⟩)], .pointer (some ⟨w.heap.size, 0, none⟩), undef, .slice none 0 0, .pointer (some ⟨W.heap.size, 0, none⟩), .func (.func 70) #[] #[.pointer (some ⟨B, 0, none⟩)], x.val, undef, undef, undef, undef, undef], defers := [] } (W.alloc (.cells #[.string x.f.id, .int .i64 x.f.high, .slice x.pa x.f.pars.length x.pc] 28))
      ((KeepsOthers.alloc W _).from _) (KeepsOthers.alloc W _).walks ⟨⟨_, hi.1.choose_spec.1.alloc _, hi.1.choose_spec.2.1.alloc _, trivial⟩, hi.2.alloc hi.2.size _⟩ ⟨W.heap.size, FxBlk.new W x, rfl⟩
    clear hi hA hK
    gi_wp2
    exact hk1
  case body =>
    rintro l pre x a' W _ _ ⟨⟨v, hv, hrow, -⟩, hB⟩ ⟨b, hX, rfl⟩ hlt
    have hc := hv.cell
    obtain ⟨x0, x1, x2⟩ := hX.cell
    have hp2 := Lib.hid (rowF_snoc pre x)
    have hl1 := Lib.hid (show pre.length < F.length from hlt)
    have hnews : Hid (∀ (j : Nat) (u : Value), x.cells[j]? = some u → (W.alloc (.cells #[.string x.f.id, .int .i64 x.f.high, .slice x.pa x.f.pars.length x.pc] 28)).cell? ((⟨W.heap.size, 0, none⟩ : Addr).add j) = some u) := Lib.hid fun j u hj => by
      match j, hj with
      | 0, hj => simp [Fx.cells] at hj; subst hj; simp [Addr.add]
      | 1, hj => simp [Fx.cells] at hj; subst hj; simp [Addr.add]
      | 2, hj => simp [Fx.cells] at hj; subst hj; simp [Addr.add]
      | j + 3, hj => simp [Fx.cells] at hj
    have hone : Hid (∀ u ∈ x.cells, u.oneCell' = true) := Lib.hid fun u hu => by simp [Fx.cells] at hu; rcases hu with rfl | rfl | rfl <;> rfl
    clear hlt hX
    gi_wp2_with (gi_at_builtin; refine wpListIn_append_own _ rfl _ _ 24 rfl w.heap.size 28 i0 (.agg #[.string ⟨#[]⟩, .int .i64 0, .slice none 0 0]) 3 48 Tryz.underlying24 hi hz0 hz1 hz2 rfl (by decide) _ _ _ rfl (hrow.alloc _) ⟨W.heap.size, 0, none⟩ 1 1 x.cells rfl rfl hnews.out hone.out (by have := hl1.out; simp [maxLen]; omega) (by have := hl1.out; omega) (by have := hB.size; simp; omega) ?_; intro v' w1 hown' hgrow _; obtain ⟨g', cap', rfl⟩ := ownsRow_succ hown'; obtain ⟨hv1, hv2, hr2, hk2, hb2⟩ := hv.appended (by decide) hrow hB.size (Nat.le_refl _) hown' hgrow; have hc1 := hv1.cell; have hf1 := hv1.frozen)
    exact ⟨hk2.from _, hk2.walks, ⟨⟨_, hv2, by rw [List.length_append, ← hp2.out]; exact hr2, trivial⟩, hB.trans hb2⟩⟩
  case done =>
    rintro D ys W hD ⟨h1, h2, h3⟩ ⟨⟨v, hv, hrow, -⟩, hB⟩ hK
    have hc := hv.cell
    have hP := Lib.hid (perm_of hnod.out h1 h2 h3)
    clear h1 h2 h3
    gi_wp2
    refine ⟨by simp, .inl ⟨_, _, rfl, run_takeDeferred hK, ?_⟩⟩
    exact ⟨_, results_tmp rfl _ _ _, v, ys, rfl, ownsRow_putObj hrow _ hK rfl, hP.out, hB.trans (belowK_b (w := w) (Nat.le_refl _) W D _ _ (by omega) hK rfl rfl)⟩
  case stop =>
    rintro D c pre W _ _ h _
    exact h.elim
end Go.Proofs.YtbjpogeemajhoaaGreat.Or
