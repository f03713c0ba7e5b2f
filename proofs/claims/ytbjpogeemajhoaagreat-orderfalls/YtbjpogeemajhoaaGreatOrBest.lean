/-
  The best of a list: slices.MaxFunc over Compare, order's Best with its parents in new memory, and the document's Best; old memory stays. Conditions: lists of no more than a hundred thousand.
-/
import Derived.Test.YtbjpogeemajhoaaGreatRows
import Derived.Test.YtbjpogeemajhoaaGreatOrMap
import Derived.Test.YtbjpogeemajhoaaGreatOrCmp
import Derived.Test.YtbjpogeemajhoaaGreatOrHigh
import Derived.Test.YtbjpogeemajhoaaGreatOrMet
import Derived.Test.YtbjpogeemajhoaaGreatOrShelf
import Derived.Deep.Cut
import Derived.Deep.LoopGhost
import Derived.Deep.RegionHeld3
import Derived.RangeFuncBox
import Derived.Deep.MidRow
namespace Go.Proofs.YtbjpogeemajhoaaGreat.Or
open Go Go.RowKit

/-- a variable that holds a fact -/
def FxVar (w : World) (g : Nat) (x : Fx) : Prop := w.heap[g]? = some (.cells #[.string x.f.id, .int .i64 x.f.high, .slice x.pa x.f.pars.length x.pc] 28 (0, 0))
theorem FxVar.lt {w : World} {g : Nat} {x : Fx} (h : FxVar w g x) : g < w.heap.size := (Array.getElem?_eq_some_iff.1 h).1
theorem FxVar.new (w : World) (x : Fx) : FxVar (w.alloc (.cells #[.string x.f.id, .int .i64 x.f.high, .slice x.pa x.f.pars.length x.pc] 28)) w.heap.size x := heap_new w _
theorem FxVar.next {w w' : World} {g : Nat} {x : Fx} (h : FxVar w g x) (b : Below w.heap.size w w') : FxVar w' g x := (b.block g h.lt).trans h
theorem FxVar.cell {w : World} {g : Nat} {x : Fx} (h : FxVar w g x) : w.cell? ⟨g, 0, none⟩ = some (.string x.f.id) ∧ w.cell? ⟨g, 1, none⟩ = some (.int .i64 x.f.high) ∧ w.cell? ⟨g, 2, none⟩ = some (.slice x.pa x.f.pars.length x.pc) := by
  refine ⟨?_, ?_, ?_⟩ <;> simp [World.cell?, show w.heap[g]? = _ from h]
theorem FxVar.free {w : World} {g : Nat} {x : Fx} (h : FxVar w g x) : w.frozen? ⟨g, 0, none⟩ = false ∧ w.frozen? ⟨g, 1, none⟩ = false ∧ w.frozen? ⟨g, 2, none⟩ = false := by
  refine ⟨?_, ?_, ?_⟩ <;> simp [World.frozen?, show w.heap[g]? = _ from h]
theorem set_at {w : World} {g i : Nat} {cs : Array Value} {t : TypeId} (h : w.heap[g]? = some (.cells cs t (0, 0))) (v : Value) (hi : i < cs.size) : (w.setCell ⟨g, i, none⟩ v).heap[g]? = some (.cells (cs.set i v) t (0, 0)) := by
  obtain ⟨hlt, hk⟩ := Array.getElem?_eq_some_iff.1 h
  show (w.heap.modify g _)[g]? = _
  rw [Array.getElem?_eq_getElem (by rw [Array.size_modify]; exact hlt), Array.getElem_modify_self, hk]
  simp [Array.setIfInBounds, hi]
theorem FxVar.set {w : World} {g : Nat} {x : Fx} (h : FxVar w g x) (y : Fx) : FxVar (((w.setCell ⟨g, 0, none⟩ (.string y.f.id)).setCell ⟨g, 1, none⟩ (.int .i64 y.f.high)).setCell ⟨g, 2, none⟩ (.slice y.pa y.f.pars.length y.pc)) g y := by
  have h1 := set_at h (.string y.f.id) (i := 0) (by simp)
  have h2 := set_at h1 (.int .i64 y.f.high) (i := 1) (by simp)
  have h3 := set_at h2 (.slice y.pa y.f.pars.length y.pc) (i := 2) (by simp)
  exact h3
theorem below_set3 {u w : World} {B g : Nat} (h : Below B u w) (hg : B ≤ g) (v0 v1 v2 : Value) : Below B u (((w.setCell ⟨g, 0, none⟩ v0).setCell ⟨g, 1, none⟩ v1).setCell ⟨g, 2, none⟩ v2) :=
  ((h.setCell (p := ⟨g, 0, none⟩) hg v0).setCell (p := ⟨g, 1, none⟩) hg v1).setCell (p := ⟨g, 2, none⟩) hg v2
theorem FxVar.range {w : World} {g : Nat} {x : Fx} (h : FxVar w g x) : w.rangeAt g 0 x.cells := fun j v hj => by
  obtain ⟨h0, h1, h2⟩ := h.cell
  match j, hj with
  | 0, hj => simp [Fx.cells] at hj; subst hj; exact h0
  | 1, hj => simp [Fx.cells] at hj; subst hj; exact h1
  | 2, hj => simp [Fx.cells] at hj; subst hj; exact h2
  | j + 3, hj => simp [Fx.cells] at hj
theorem results_one {P : Program} {fn : Func} {a : Nat} {t : TypeId} {tmps : Array Value} {w : World} {b o : Nat} {cs : List Value} {d : TypeDesc} (h : fn.results = #[.cell a t])
    (hx : tmps.getD a undef = .pointer (some ⟨b, o, none⟩)) (hc : w.rangeAt b o cs) (hu : P.underlying t = some d) (hd : d.isRow = true) (hi : (P.info? t).map (·.size) = some cs.length) :
    (results fn tmps).run P w = .ok (.agg cs.toArray) w := by
  have e : (loadVar t ⟨b, o, none⟩).run P w = _ := run_loadVar_mid w b o t cs d hc hu hd hi
  simp only [results, h]
  simp [asAddr, -Array.getD_eq_getD_getElem?, hx, e]
theorem results_two {P : Program} {fn : Func} {a u : Nat} {t : TypeId} {tmps : Array Value} {w : World} {b o : Nat} {cs : List Value} {d : TypeDesc} (h : fn.results = #[.cell a t, .tmp u])
    (hx : tmps.getD a undef = .pointer (some ⟨b, o, none⟩)) (hc : w.rangeAt b o cs) (hu : P.underlying t = some d) (hd : d.isRow = true) (hi : (P.info? t).map (·.size) = some cs.length) :
    (results fn tmps).run P w = .ok (.tuple #[.agg cs.toArray, tmps.getD u undef]) w := by
  have e : (loadVar t ⟨b, o, none⟩).run P w = _ := run_loadVar_mid w b o t cs d hc hu hd hi
  simp only [results, h]
  simp [asAddr, -Array.getD_eq_getD_getElem?, hx, e]
set_option maxRecDepth 100000 in
set_option maxHeartbeats 2000000 in
theorem MaxFunc_calls (w : World) (a : Option Addr) (cap b off : Nat) (L : List Fx) (hL : FxsAt w a b off L) (h0 : 0 < L.length) (hl : L.length ≤ 100000) :
    Calls Tryz.prog 35 #[.slice a L.length cap, .func (.func 12) #[] #[]] w fun e w' => ∃ i x, L[i]? = some x ∧ e = .returned x.val ∧ IsBest (plain L) i x.f ∧ Below w.heap.size w w' := by
  obtain ⟨n, hn⟩ : ∃ n : Nat, n = L.length := ⟨_, rfl⟩
  rw [← hn] at hl h0 ⊢
  replace hn := Lib.hid hn
  obtain rfl := hL.addr (by have := hn.out; omega)
  replace hL := Lib.hid hL
  have hcell : Hid (∀ k, k < n → ∃ y, L[k]? = some y) := Lib.hid fun k hk => by
    have := hn.out
    exact ⟨L[k], List.getElem?_eq_getElem (by omega)⟩
  obtain ⟨x0, hx0⟩ := hcell.out 0 h0
  have c0 := hL.out.id 0 x0 hx0
  have c1 := hL.out.high 0 x0 hx0
  have c2 := hL.out.pars 0 x0 hx0
  rw [Nat.zero_mul, Nat.add_zero] at c0 c1 c2
  have hlb : b < w.heap.size := hL.out.where_ (by have := hn.out; omega)
  have b1 := b_alloc w (.cells #[.string ⟨#[]⟩, .int .i64 0, .slice none 0 0] 28)
  have d0 := (b1.cell (p := ⟨b, off, none⟩) hlb).trans c0
  have d1 := (b1.cell (p := ⟨b, off + 1, none⟩) hlb).trans c1
  have d2 := (b1.cell (p := ⟨b, off + 2, none⟩) hlb).trans c2
  have l0 : ¬ (n : Int) < 1 := by omega
  have l1 : (0 : Int) < n := by omega
  have hV0 := Lib.hid ((FxVar.new w noFact))
  have hst : Hid (IsBest ((plain L).take 1) 0 x0.f) := Lib.hid (by
    have : (plain L).take 1 = [x0.f] := by
      unfold plain
      rw [← List.map_take, show (1 : Nat) = 0 + 1 from rfl, List.take_add_one, hx0]; rfl
    rw [this]; exact .one _)
  replace hx0 := Lib.hid hx0
  go_enter Tryz.func35, Tryz.ntmps35
  go_wp2_with fail
  have hV1 := Lib.hid (hV0.out.next (b_alloc _ (.cells #[.string x0.f.id, .int .i64 x0.f.high, .slice x0.pa x0.f.pars.length x0.pc] 28)))
  have hX1 := Lib.hid (FxVar.new (w.alloc (.cells #[.string ⟨#[]⟩, .int .i64 0, .slice none 0 0] 28)) x0)
  have hsz : (w.alloc (.cells #[.string ⟨#[]⟩, .int .i64 0, .slice none 0 0] 28)).heap.size = w.heap.size + 1 := by simp
  rw [hsz] at hX1
  have hb1 := Lib.hid (b_then b1 (b_alloc _ (.cells #[.string x0.f.id, .int .i64 x0.f.high, .slice x0.pa x0.f.pars.length x0.pc] 28)))
  dsimp only [noFact, List.length_nil] at hV1
  generalize (w.alloc (.cells #[.string ⟨#[]⟩, .int .i64 0, .slice none 0 0] 28)).alloc (.cells #[.string x0.f.id, .int .i64 x0.f.high, .slice x0.pa x0.f.pars.length x0.pc] 28) = w1 at *
  replace hlb := Lib.hid hlb
  clear c0 c1 c2 d0 d1 d2 l0 l1 b1 hV0 hsz
  go_loopw [6] (fun i wr => ∃ (k j : Nat) (x : Fx), 1 ≤ k ∧ k ≤ n ∧ i = .int .i64 (k : Int) ∧ IsBest ((plain L).take k) j x.f ∧ L[j]? = some x ∧ FxVar wr (w.heap.size + 1) x ∧ FxVar wr w.heap.size noFact ∧ Below w.heap.size w wr) (fun i _ => n - (intOf i).toNat)
  case atStart => exact ⟨1, 0, x0, Nat.le_refl _, h0, rfl, hst.out, hx0.out, hX1.out, hV1.out, hb1.out⟩
  case round =>
    obtain ⟨k, j, x, hk1, hk, rfl, hB, hj, hX, hV, hb⟩ := hrel
    clear hb1 hX1 hV1 hst hx0
    by_cases hlt : k < n
    · obtain ⟨y, hy⟩ := hcell.out k hlt
      have hL2 := hL.out.below hb (fun _ => hlb.out)
      have hlt1 : (k : Int) < n := by omega
      have hlt0 : 0 ≤ (k : Int) := by omega
      have hwk : wrap64 ((k : Int) + 1) = ((k + 1 : Nat) : Int) := wrap_next k (by omega)
      have hwk2 : IntKind.i64.wrap ((k : Int) + 1) = ((k + 1 : Nat) : Int) := by simp [IntKind.wrap, IntKind.bits, IntKind.signed]; omega
      have hms : Hid (n - (k + 1) < n - k) := Lib.hid (by omega)
      have hkl : Hid (1 ≤ k + 1 ∧ k + 1 ≤ n) := Lib.hid ⟨by omega, hlt⟩
      have htk : Hid ((plain L).take (k + 1) = (plain L).take k ++ [y.f]) := Lib.hid (by unfold plain; rw [List.take_add_one, List.getElem?_map, hy]; rfl)
      have hlen : Hid (((plain L).take k).length = k) := Lib.hid (by unfold plain; rw [List.length_take, List.length_map]; have := hn.out; omega)
      obtain ⟨r, hr⟩ : ∃ r, r = cmp y.f x.f := ⟨_, rfl⟩
      have hC := Lib.hid (Compare_calls y x wr.drew)
      rw [← hr] at hC
      have bd := b_drew1 wr
      have hkeep : Hid (∀ w', Below wr.heap.size wr w' → (w'.cell? ⟨b, off + k * 3, none⟩ = some (.string y.f.id) ∧ w'.cell? ⟨b, off + k * 3 + 1, none⟩ = some (.int .i64 y.f.high) ∧ w'.cell? ⟨b, off + k * 3 + 2, none⟩ = some (.slice y.pa y.f.pars.length y.pc)
          ∧ w'.cell? ⟨w.heap.size + 1, 0, none⟩ = some (.string x.f.id) ∧ w'.cell? ⟨w.heap.size + 1, 1, none⟩ = some (.int .i64 x.f.high) ∧ w'.cell? ⟨w.heap.size + 1, 2, none⟩ = some (.slice x.pa x.f.pars.length x.pc))) :=
        Lib.hid fun w' bb => ⟨(hL2.next bb).id k y hy, (hL2.next bb).high k y hy, (hL2.next bb).pars k y hy, (hX.next bb).cell.1, (hX.next bb).cell.2.1, (hX.next bb).cell.2.2⟩
      have hk0 := hkeep.out _ bd
      replace hr := Lib.hid hr
      replace hB := Lib.hid hB
      replace hX := Lib.hid hX
      replace hV := Lib.hid hV
      replace hb := Lib.hid hb
      replace hj := Lib.hid hj
      replace hy := Lib.hid hy
      clear hL2 hlt hk hk1
      go_wp2_with fail
      go_region_held3 (fun w' => w'.cell? ⟨b, off + k * 3, none⟩ = some (.string y.f.id) ∧ w'.cell? ⟨b, off + k * 3 + 1, none⟩ = some (.int .i64 y.f.high) ∧ w'.cell? ⟨b, off + k * 3 + 2, none⟩ = some (.slice y.pa y.f.pars.length y.pc)
          ∧ w'.cell? ⟨w.heap.size + 1, 0, none⟩ = some (.string x.f.id) ∧ w'.cell? ⟨w.heap.size + 1, 1, none⟩ = some (.int .i64 x.f.high) ∧ w'.cell? ⟨w.heap.size + 1, 2, none⟩ = some (.slice x.pa x.f.pars.length x.pc)) (first | exact hk0 | exact hkeep.out _ b2)
        (first | (go_at_call 12; refine hC.out.mono ?_; rintro e w2 ⟨rfl, q, os, hw2⟩; have b2 : Below wr.heap.size wr w2 := (by rw [hw2]; exact b_then bd (below_grow _ _ _)); clear hw2))
      all_goals
        have hX2 := hX.out.next b2
        have hV2 := Lib.hid (hV.out.next b2)
        have hb2 := Lib.hid (b_next hb.out b2 (Nat.le_refl _))
        have hk2 := hkeep.out _ b2
        by_cases hq : 0 < r
        · have hB2 : Hid (IsBest ((plain L).take (k + 1)) k y.f) := Lib.hid (by
            rw [htk.out]
            have := hB.out.over y.f (cmp_pos.1 (by rw [← hr.out]; exact hq))
            rw [hlen.out] at this; exact this)
          obtain ⟨e0, e1, e2, -⟩ := hk2
          obtain ⟨f0, f1, f2⟩ := hX2.cell
          obtain ⟨g0, g1, g2⟩ := hX2.free
          have hX3 := Lib.hid (hX2.set y)
          have hV3 : Hid (FxVar (((w2.setCell ⟨w.heap.size + 1, 0, none⟩ (.string y.f.id)).setCell ⟨w.heap.size + 1, 1, none⟩ (.int .i64 y.f.high)).setCell ⟨w.heap.size + 1, 2, none⟩ (.slice y.pa y.f.pars.length y.pc)) w.heap.size noFact) :=
            Lib.hid (((below_set3 (Below.refl (w.heap.size + 1) w2) (Nat.le_refl _) _ _ _).block _ (Nat.lt_succ_self _)).trans hV2.out)
          have hb3 := Lib.hid (below_set3 hb2.out (Nat.le_succ _) (g := w.heap.size + 1) (.string y.f.id) (.int .i64 y.f.high) (.slice y.pa y.f.pars.length y.pc))
          clear hX2 hk0
          go_wp2
          go_roundw
          case measure => simp [intOf]; exact hms.out
          case rel => exact ⟨k + 1, k, y, hkl.out.1, hkl.out.2, by simp, hB2.out, hy.out, hX3.out, hV3.out, hb3.out⟩
        · have hB2 : Hid (IsBest ((plain L).take (k + 1)) j x.f) := Lib.hid (by
            rw [htk.out]
            exact hB.out.more y.f (fun h => hq (by rw [hr.out]; exact cmp_pos.2 h)))
          have dq : decide (0 < r) = false := decide_eq_false hq
          clear hk0 hk2
          go_wp2
          go_roundw
          case measure => simp [intOf]; exact hms.out
          case rel => exact ⟨k + 1, j, x, hkl.out.1, hkl.out.2, by simp, hB2.out, hj.out, hX2, hV2.out, hb2.out⟩
    · obtain rfl : k = n := by omega
      have d0 : ¬ (k : Int) < k := by omega
      have hfin : Hid (IsBest (plain L) j x.f) := Lib.hid (by
        have e : (plain L).take k = plain L := by rw [show k = (plain L).length by unfold plain; rw [List.length_map]; exact hn.out, List.take_length]
        rw [e] at hB; exact hB)
      obtain ⟨f0, f1, f2⟩ := hX.cell
      obtain ⟨g0, g1, g2⟩ := hV.free
      obtain ⟨q0, q1, q2⟩ := hV.cell
      have hR := Lib.hid (hV.set x).range
      have hb3 := Lib.hid (below_set3 hb (Nat.le_refl _) (g := w.heap.size) (.string x.f.id) (.int .i64 x.f.high) (.slice x.pa x.f.pars.length x.pc))
      dsimp only [noFact] at q0 q1 q2
      clear hlt hB
      go_wp2
      refine bodyPost_ret (results_one Tryz.results35 rfl hR.out Tryz.underlying28 rfl (by kernel_rfl)) rfl ?_
      exact ⟨j, x, hj, rfl, hfin.out, hb3.out⟩
theorem Clone_calls (w : World) (a : Option Addr) (cap b off : Nat) (L : List ByteArray) (hT : TxAt w a b off L) (hl : L.length ≤ 100000) :
    Calls Tryz.prog 36 #[.slice a L.length cap] w fun e w' => ∃ v, e = .returned v ∧ OwnT w.heap.size w' v L ∧ Below w.heap.size w w' := by
  by_cases h0 : L.length = 0
  · obtain rfl : L = [] := List.length_eq_zero_iff.1 h0
    cases a with
    | none =>
      refine (show Calls Tryz.prog 36 _ _ _ from Any.slices_Clone_string_nil Tryz.cloneString 0 cap w).mono ?_
      rintro e w' ⟨rfl, rfl⟩
      exact ⟨_, rfl, OwnT.nil _ _, Below.refl _ _⟩
    | some ad =>
      refine (show Calls Tryz.prog 36 _ _ _ from Any.slices_Clone_string_zero Tryz.cloneString ad cap w).mono ?_
      rintro e w' ⟨v, rfl, h1, _, h2⟩
      exact ⟨v, rfl, h1, h2⟩
  · obtain rfl := hT.addr (by omega)
    refine (show Calls Tryz.prog 36 _ _ _ from Any.slices_Clone_string Tryz.cloneString b off L.length cap L w (Nat.le_refl _) (by omega) (fun j hj => by
      rw [List.getD_eq_getElem?_getD, List.getElem?_eq_getElem hj]; exact hT.cell j _ (List.getElem?_eq_getElem hj))).mono ?_
    rintro e w' ⟨v, rfl, h1, _, h2⟩
    rw [List.take_length] at h1
    exact ⟨v, rfl, h1, h2⟩
set_option maxRecDepth 100000 in
set_option maxHeartbeats 2000000 in
/-- Best of no facts -/
theorem Best_none (w : World) (a : Option Addr) (cap : Nat) :
    Calls Tryz.prog 16 #[.slice a 0 cap] w fun e w' => e = .returned (.tuple #[noFact.val, .bool false]) ∧ Below w.heap.size w w' := by
  have hV := FxVar.new w noFact
  have hb := Lib.hid (b_alloc w (.cells #[.string ⟨#[]⟩, .int .i64 0, .slice none 0 0] 28))
  obtain ⟨g0, g1, g2⟩ := hV.free
  obtain ⟨q0, q1, q2⟩ := hV.cell
  have hR := Lib.hid hV.range
  dsimp only [noFact, List.length_nil] at q0 q1 q2 g0 g1 g2 hR
  clear hV
  go_enter Tryz.func16, Tryz.ntmps16
  go_wp2
  refine bodyPost_ret (results_two Tryz.results16 rfl hR.out Tryz.underlying28 rfl (by kernel_rfl)) rfl ?_
  exact ⟨rfl, hb.out⟩
set_option maxRecDepth 100000 in
set_option maxHeartbeats 2000000 in
/-- Best -/
theorem Best_calls (w : World) (a : Option Addr) (cap b off : Nat) (L : List Fx) (hL : FxsAt w a b off L) (hF : Facts w L) (hP : ∀ x ∈ L, x.f.pars.length ≤ 100000) (h0 : 0 < L.length) (hl : L.length ≤ 100000) :
    Calls Tryz.prog 16 #[.slice a L.length cap] w fun e w' => ∃ i x, L[i]? = some x ∧ IsBest (plain L) i x.f ∧ ∃ pa pc, e = .returned (.tuple #[Fx.val ⟨x.f, pa, pc⟩, .bool true]) ∧ Pars w' ⟨x.f, pa, pc⟩ ∧ Below w.heap.size w w' := by
  have hV := Lib.hid (FxVar.new w noFact)
  have hb := Lib.hid (b_alloc w (.cells #[.string ⟨#[]⟩, .int .i64 0, .slice none 0 0] 28))
  have hM := Lib.hid (MaxFunc_calls (w.alloc (.cells #[.string ⟨#[]⟩, .int .i64 0, .slice none 0 0] 28)) a cap b off L (hL.next hb.out) h0 hl)
  have e0 : ((L.length : Int) == 0) = false := by simp only [beq_eq_false_iff_ne]; omega
  replace hF := Lib.hid hF
  replace hP := Lib.hid hP
  dsimp only [noFact, List.length_nil] at hV
  generalize L.length = nL at *
  clear hL
  go_enter Tryz.func16, Tryz.ntmps16
  go_wp2_with fail
  have hsz1 : Hid (w.heap.size < (w.alloc (.cells #[.string ⟨#[]⟩, .int .i64 0, .slice none 0 0] 28)).heap.size) := Lib.hid (by simp)
  generalize w.alloc (.cells #[.string ⟨#[]⟩, .int .i64 0, .slice none 0 0] 28) = w1 at *
  refine hM.out.mono ?_
  rintro e w2 ⟨i, x, hx, rfl, hB, b2⟩
  have hw2 : Hid (w.heap.size < w2.heap.size) := Lib.hid (Nat.lt_of_lt_of_le hsz1.out b2.size)
  have hxL := List.mem_of_getElem? hx
  replace hx := Lib.hid hx
  replace hB := Lib.hid hB
  replace hV := Lib.hid (hV.out.next b2)
  replace hb := Lib.hid (b_then hb.out b2)
  clear hM b2
  go_upto_region 4 with (fail)
  have hX := Lib.hid (FxVar.new w2 x)
  have bA := b_alloc w2 (.cells #[.string x.f.id, .int .i64 x.f.high, .slice x.pa x.f.pars.length x.pc] 28)
  replace hV := Lib.hid (hV.out.next bA)
  replace hb := Lib.hid (b_then hb.out bA)
  obtain ⟨hpl, pb, po, hT⟩ := hF.out.pars x hxL
  have hCl := Lib.hid (Clone_calls (w2.alloc (.cells #[.string x.f.id, .int .i64 x.f.high, .slice x.pa x.f.pars.length x.pc] 28)) x.pa x.pc pb po x.f.pars (hT.next hb.out) (hP.out x hxL))
  obtain ⟨wg, hwg⟩ : ∃ g, g = w2.heap.size := ⟨_, rfl⟩
  rw [← hwg] at hX hw2 ⊢
  replace hwg := Lib.hid hwg
  generalize w2.alloc (.cells #[.string x.f.id, .int .i64 x.f.high, .slice x.pa x.f.pars.length x.pc] 28) = w3 at *
  clear hpl hT bA
  obtain ⟨x0, x1, x2⟩ := hX.out.cell
  go_wp2_with fail
  refine hCl.out.mono ?_
  rintro e w4 ⟨v, rfl, hO, b4⟩
  obtain ⟨va, vc, vb, vo, rfl, hT4, hvc, hvb⟩ := hO.at_
  have hX4 := hX.out.next b4
  have hV4 := hV.out.next b4
  have hb4 := b_then hb.out b4
  have h3s := hX.out.lt
  obtain ⟨-, -, f2⟩ := hX4.free
  obtain ⟨-, -, y2⟩ := hX4.cell
  have hX5 : FxVar (w4.setCell ⟨wg, 2, none⟩ (.slice va x.f.pars.length vc)) wg ⟨x.f, va, vc⟩ := by
    have := set_at hX4 (.slice va x.f.pars.length vc) (i := 2) (by simp)
    exact this
  have b5 : Below wg w4 (w4.setCell ⟨wg, 2, none⟩ (.slice va x.f.pars.length vc)) := (Below.refl wg w4).setCell (p := ⟨wg, 2, none⟩) (Nat.le_refl _) _
  have hV5 : FxVar (w4.setCell ⟨wg, 2, none⟩ (.slice va x.f.pars.length vc)) w.heap.size noFact := (b5.block _ hw2.out).trans hV4
  have hT5 : TxAt (w4.setCell ⟨wg, 2, none⟩ (.slice va x.f.pars.length vc)) va vb vo x.f.pars := hT4.turn fun h0 => Below.heap_setCell _ _ _ vb (fun e => by have := hvb h0; have e' : vb = wg := e; omega)
  have hb5 : Below w.heap.size w (w4.setCell ⟨wg, 2, none⟩ (.slice va x.f.pars.length vc)) := hb4.setCell (p := ⟨wg, 2, none⟩) (Nat.le_of_lt hw2.out) _
  have hvw : Hid (0 < x.f.pars.length → vb ≠ w.heap.size) := Lib.hid fun h0 e => by have := hvb h0; have := hw2.out; omega
  replace hT5 := Lib.hid hT5
  replace hb5 := Lib.hid hb5
  replace hvc := Lib.hid hvc
  clear hX4 hV4 hb4 hO hT4 hvb b5 hCl hX hV hb b4 x0 x1 x2
  go_upto_region 5 with (fail)
  clear f2 y2
  generalize w4.setCell ⟨wg, 2, none⟩ (.slice va x.f.pars.length vc) = w5 at *
  obtain ⟨x0, x1, x2⟩ := hX5.cell
  obtain ⟨g0, g1, g2⟩ := hV5.free
  obtain ⟨q0, q1, q2⟩ := hV5.cell
  dsimp only [noFact, List.length_nil] at q0 q1 q2
  have hR := Lib.hid (hV5.set ⟨x.f, va, vc⟩).range
  have hb6 := Lib.hid (below_set3 hb5.out (Nat.le_refl _) (g := w.heap.size) (.string x.f.id) (.int .i64 x.f.high) (.slice va x.f.pars.length vc))
  have hP6 : Hid (Pars (((w5.setCell ⟨w.heap.size, 0, none⟩ (.string x.f.id)).setCell ⟨w.heap.size, 1, none⟩ (.int .i64 x.f.high)).setCell ⟨w.heap.size, 2, none⟩ (.slice va x.f.pars.length vc)) ⟨x.f, va, vc⟩) :=
    Lib.hid ⟨hvc.out, vb, vo, ((hT5.out.turn fun h0 => Below.heap_setCell _ _ _ vb (hvw.out h0)).turn fun h0 => Below.heap_setCell _ _ _ vb (hvw.out h0)).turn fun h0 => Below.heap_setCell _ _ _ vb (hvw.out h0)⟩
  clear hX5 hV5
  go_wp2
  refine bodyPost_ret (results_two Tryz.results16 rfl hR.out Tryz.underlying28 rfl (by kernel_rfl)) rfl ?_
  exact ⟨i, x, hx.out, hB.out, va, vc, rfl, hP6.out, hb6.out⟩
end Go.Proofs.YtbjpogeemajhoaaGreat.Or
