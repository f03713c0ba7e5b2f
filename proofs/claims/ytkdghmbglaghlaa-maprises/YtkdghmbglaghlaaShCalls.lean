/-
  Rows of calls of a map handed in; the statements' own helper that goes over a map beside a list of pairs. Conditions: a list is not too long.
-/
import Derived.Test.YtkdghmbglaghlaaRows
import Derived.Test.YtkdghmbglaghlaaOctKit
import Derived.Test.YtkdghmbglaghlaaShAwake
import Derived.Test.YtkdghmbglaghlaaShWithin
import Derived.Test.YtkdghmbglaghlaaShGone
import Derived.Test.YtkdghmbglaghlaaShPair
import Derived.ProofKit
import Derived.OpenShut
import Derived.Deep.Draws
import Derived.Deep.SlicePairs
import Derived.Deep.Slices
import Derived.Deep.Strs
namespace Go.Proofs.Ytkdghmbglaghlaa.Rp
open Go Go.RowKit Go.WideShapes Go.ChangeShapes Sh

/-- calls of a map in memory -/
structure CallsAt (w : World) (a : Option Addr) (b off len : Nat) (X : Nat → Int) (K : Nat → ByteArray) (V : Nat → Int) : Prop where
  addr : 0 < len → a = some ⟨b, off, none⟩
  kind : ∀ i, i < len → w.cell? ⟨b, off + i * 3, none⟩ = some (.int .i64 (X i))
  key : ∀ i, i < len → w.cell? ⟨b, off + i * 3 + 1, none⟩ = some (.string (K i))
  val : ∀ i, i < len → w.cell? ⟨b, off + i * 3 + 2, none⟩ = some (.int .i64 (V i))
theorem cellsInt : Try.prog.cellsOf 3 = 1 := by kernel_rfl
theorem cellsStr : Try.prog.cellsOf 9 = 1 := by kernel_rfl
theorem cellsCall : Try.prog.cellsOf 48 = 3 := by kernel_rfl
theorem list3 {α : Type} {l : List α} (h : l.length = 3) : ∃ a b c, l = [a, b, c] := by
  match l, h with
  | [a, b, c], _ => exact ⟨a, b, c, rfl⟩
theorem add_plain (b o k : Nat) : (⟨b, o, none⟩ : Addr).add k = ⟨b, o + k, none⟩ := by simp [Addr.add]
set_option maxRecDepth 100000 in
theorem open_calls {H : Type} {enc : TypeId × Value → H} {w : World} {base b0 : Nat} {spare : Nat → Bool} {held : Bool} {r : Reach} {v : Value} {d : DataW H} {p : List MemPlace}
    (ok : Value.okWide Try.prog w r b0 43 v) (h : DataW.Trod enc Try.prog w base spare held 43 v d p) :
    ∃ (a : Option Addr) (len cap b off : Nat) (X : Nat → Int) (K : Nat → ByteArray) (V : Nat → Int), v = .slice a len cap ∧ CallsAt w a b off len X K V := by
  obtain ⟨a, len, cap, rfl⟩ := okWide_slice Try.underlying43 ok
  obtain ⟨fuel, hf⟩ := h
  rcases DataW.trod_slice Try.underlying43 hf with ⟨hcs, _⟩ | ⟨ad, l, c, elems, rest, n, _, hcs, _, hb, hl, hm, hlen, hel, _⟩
  · simp [Value.cells] at hcs
    obtain ⟨rfl, rfl, rfl⟩ := hcs
    exact ⟨none, 0, 0, 0, 0, fun _ => 0, fun _ => ByteArray.empty, fun _ => 0, rfl, ⟨fun h => by omega, fun i h => by omega, fun i h => by omega, fun i h => by omega⟩⟩
  · simp [Value.cells] at hcs
    obtain ⟨rfl, rfl, rfl⟩ := hcs
    have each : ∀ i, i < len → ∃ e : Int × ByteArray × Int, w.cell? (ad.add (i * 3)) = some (.int .i64 e.1) ∧ w.cell? (ad.add (i * 3 + 1)) = some (.string e.2.1) ∧ w.cell? (ad.add (i * 3 + 2)) = some (.int .i64 e.2.2) := fun i hi => by
      have g := hel i hi
      rw [List.getElem?_eq_getElem (by omega), Option.bind_eq_some_iff] at g
      obtain ⟨cs', h1, h2⟩ := g
      rw [cellsCall] at h1
      obtain ⟨_, hl3, hcell⟩ := World.cells?_some h1
      obtain ⟨y0, y1, y2, k, _, _, g0, g1, g2⟩ := Deep.trod_struct3 Try.underlying48 h2
      obtain ⟨v0, v1, v2, rfl⟩ := list3 hl3
      simp only [cellsInt, cellsStr] at g0 g1 g2
      obtain ⟨z0, q0, _, _⟩ := DataW.trod_int Try.underlying3 g0
      obtain ⟨s1, q1, _, _⟩ := DataW.trod_string Try.underlying9 g1
      obtain ⟨z2, q2, _, _⟩ := DataW.trod_int Try.underlying3 g2
      simp at q0 q1 q2
      have e0 := hcell 0 (by omega)
      have e1 := hcell 1 (by omega)
      have e2 := hcell 2 (by omega)
      rw [Deep.add_add] at e0 e1 e2
      exact ⟨⟨z0, s1, z2⟩, by simpa [q0] using e0, by simpa [q1] using e1, by simpa [q2] using e2⟩
    obtain ⟨z, hz⟩ := Deep.choose_lt each
    by_cases hp : 0 < len
    · obtain ⟨b, off, spot⟩ := ad
      have hspot : spot = none := by simpa [Addr.add] using World.cell?_spot (hz 0 hp).1
      subst hspot
      refine ⟨some ⟨b, off, none⟩, len, cap, b, off, fun i => (z i).1, fun i => (z i).2.1, fun i => (z i).2.2, rfl, ⟨fun _ => rfl, fun i hi => ?_, fun i hi => ?_, fun i hi => ?_⟩⟩
      · rw [← add_plain]; exact (hz i hi).1
      · rw [Nat.add_assoc, ← add_plain]; exact (hz i hi).2.1
      · rw [Nat.add_assoc, ← add_plain]; exact (hz i hi).2.2
    · obtain rfl : len = 0 := by omega
      exact ⟨_, 0, cap, 0, 0, fun _ => 0, fun _ => ByteArray.empty, fun _ => 0, rfl, ⟨fun h => by omega, fun i h => by omega, fun i h => by omega, fun i h => by omega⟩⟩
end Go.Proofs.Ytkdghmbglaghlaa.Rp
namespace Go.Proofs.Ytkdghmbglaghlaa.Tm
open Go.RowKit Go.Shelf Sh
open Rp (Pr pz Sl)
theorem eql_seq2 (w : World) (f : Fn) (a b : Array Value) : (binOp .eql 90 (.func f a b) .nilFunc).run Try.prog w = .ok (.bool false) w := Ti.run_eql_func_nil w Try.underlying90 f a b
attribute [local go_sem] Oper.semAt_some fold_none eql_seq2

set_option maxRecDepth 100000 in
set_option maxHeartbeats 4000000 in
theorem goes_calls (w : World) (a : Option Addr) (u : Value) (L : List Pr) (hA : MapAt w a L) (hu : Sl w u L) (hl : L.length ≤ 1000000) :
    Calls Try.prog 37 #[.pointer a, u] w fun e w' => e = .returned (.bool true) ∧ Below w.heap.size w w' := by
  obtain ⟨ua, uc, rfl, hr⟩ := hu
  obtain ⟨n, hn⟩ : ∃ n, L.length = n := ⟨_, rfl⟩
  rw [hn]
  have hM := Lib.hid fun w' => MapAll_calls w' a
  obtain ⟨W0, hW0⟩ : ∃ W0, W0 = (((w.alloc (.cells #[.slice ua n uc] 46)).alloc (.cells #[.bool false] 4)).alloc (.cells #[.int .i64 0] 3)).alloc (.cells #[.pointer a] 44) := ⟨_, rfl⟩
  have x0 := (((Boxed.new w 46 (.slice ua n uc)).alloc (.cells #[.bool false] 4)).alloc (.cells #[.int .i64 0] 3)).alloc (.cells #[.pointer a] 44)
  have x1 := ((Boxed.new (w.alloc (.cells #[.slice ua n uc] 46)) 4 (.bool false)).alloc (.cells #[.int .i64 0] 3)).alloc (.cells #[.pointer a] 44)
  have x2 := (Boxed.new ((w.alloc (.cells #[.slice ua n uc] 46)).alloc (.cells #[.bool false] 4)) 3 (.int .i64 0)).alloc (.cells #[.pointer a] 44)
  have x3 := Boxed.new (((w.alloc (.cells #[.slice ua n uc] 46)).alloc (.cells #[.bool false] 4)).alloc (.cells #[.int .i64 0] 3)) 44 (.pointer a)
  rw [← hW0] at x0
  rw [World.size_alloc, ← hW0] at x1
  rw [World.size_alloc, World.size_alloc, ← hW0] at x2
  rw [World.size_alloc, World.size_alloc, World.size_alloc, ← hW0] at x3
  have bW : Below w.heap.size w W0 := by rw [hW0]; exact b_then (b_alloc _ _) (b_then (b_alloc _ _) (b_then (b_alloc _ _) (b_alloc _ _)))
  have hszW : W0.heap.size = w.heap.size + 4 := by rw [hW0]; simp
  have hst := mapAll1_stops 2 W0 _ (w.heap.size + 1 + 1 + 1) a L x3.cell (hA.next bW)
  have hcl : Hid (∀ W, Below w.heap.size w W → ∀ j, j < n → ∃ g off, ua = some ⟨g, off, none⟩ ∧ W.cell? ⟨g, off + j * 2, none⟩ = some (.string (L[j]?.getD pz).1) ∧ W.cell? ⟨g, off + j * 2 + 1, none⟩ = some (.int .i64 (L[j]?.getD pz).2)) := Lib.hid fun W hW j hj => by
    obtain ⟨g, off, e, hg, hc⟩ := hr (by omega)
    obtain ⟨c0, c1⟩ := hc j (by omega)
    exact ⟨g, off, e, (hW.cell (p := ⟨g, off + j * 2, none⟩) hg).trans c0, (hW.cell (p := ⟨g, off + j * 2 + 1, none⟩) hg).trans c1⟩
  clear hA hr
  replace hW0 := Lib.hid hW0
  replace hst := Lib.hid hst
  replace bW := Lib.hid bW
  replace hszW := Lib.hid hszW
  replace hn := Lib.hid hn
  replace hl := Lib.hid hl
  replace x0 := Lib.hid x0
  replace x1 := Lib.hid x1
  replace x2 := Lib.hid x2
  clear x3
  refine (callsIn_wide (n := 3)).1 ?_
  refine callsIn_of_wp_marks Try.func37 rfl trivial ?_ rfl
  simp only [Try.ntmps37, List.size_toArray, List.length_cons, List.length_nil, Nat.reduceAdd, Nat.reduceSub, Array.replicate_succ, Array.replicate_zero, List.push_toArray, List.append_toArray, List.nil_append, List.cons_append]
  gi_wp2_with (refine ⟨trivial, ?_⟩; gi_at_call 61; refine (callsIn_wide.2 (hM.out _)).mono ?_; rintro e w' ⟨rfl, rfl⟩)
  rw [← hW0.out]
  have hszW1 := hszW.out
  refine wpIn_rangeFunc_ownG rfl (by omega) (gf := 82) (lb := #[.pointer (some ⟨w.heap.size + 1 + 1 + 1, 0, none⟩)]) rfl trivial (enters_of Try.func82 (by kernel_rfl) rfl)
    hst.out (fun h k => Nodes.trans h k) nodes_put (Below.refl _ _) (fun _ => rfl)
    (fun pre W => (pre <+: L ∧ Boxed W w.heap.size 46 (.slice ua n uc) ∧ Boxed W (w.heap.size + 1) 4 (.bool false) ∧ Boxed W (w.heap.size + 1 + 1) 3 (.int .i64 (pre.length : Int))) ∧ Below w.heap.size w W)
    (fun c pre W => (c = .ret ∧ ¬ pre <+: L) ∧ Below w.heap.size w W)
    (OwnFrom.and (Own.from (fun s X Y row hs hg hr => ⟨hs.1, boxed_own _ _ (fun _ => _) s X Y row hs.2.1 hg hr, boxed_own _ _ (fun _ => _) s X Y row hs.2.2.1 hg hr, boxed_own _ _ (fun pre => .int .i64 (pre.length : Int)) s X Y row hs.2.2.2 hg hr⟩) _) (ownFrom_below (Nat.le_refl _) (by omega)))
    (fun c => OwnFrom.and (Own.from (fun s X Y row hs hg hr => hs) _) (ownFrom_below (Nat.le_refl _) (by omega)))
    ⟨⟨List.nil_prefix, x0.out, x1.out, x2.out⟩, bW.out⟩
    ?a1 ?assign ?body ?done ?stop
  case assign =>
    intro l x W K hK
    gi_wp2
    exact hK
  case body =>
    rintro l pre x W ⟨⟨hp, h0, h1, h2⟩, hB⟩ hlt
    have c0 := h0.cell
    have c1 := h1.cell
    have c2 := h2.cell
    have f1 := h1.frozen
    have f2 := h2.frozen
    have hpn : pre.length < n := by have := hn.out; omega
    obtain ⟨g, off, rfl, d0, d1⟩ := hcl.out W hB pre.length hpn
    have hnext : Hid (pre ++ [x] <+: L ↔ L[pre.length]?.getD pz = x) := Lib.hid (by
      obtain ⟨r, rfl⟩ := hp
      have hlen : pre.length < (pre ++ r).length := hlt
      obtain ⟨y, r', rfl⟩ : ∃ y r', r = y :: r' := by
        cases r with
        | nil => simp at hlen
        | cons y r' => exact ⟨y, r', rfl⟩
      rw [List.getElem?_append_right (Nat.le_refl _), Nat.sub_self, List.prefix_append_right_inj]
      constructor
      · intro h; obtain ⟨t, ht⟩ := h; simp at ht; simp [ht.1]
      · intro h; exact ⟨r', by simp at h; simp [h]⟩)
    have l1 : (0 : Int) ≤ pre.length := by omega
    have l2 : (pre.length : Int) < n := by omega
    have l3 : decide ((n : Int) ≤ pre.length) = false := decide_eq_false (by omega)
    have l4 : decide (n ≤ pre.length) = false := decide_eq_false (by omega)
    have l5 : ¬ n ≤ pre.length := by omega
    have hw1 : IntKind.i64.wrap ((pre.length : Int) + 1) = (pre.length : Int) + 1 := wrap_nat (pre.length + 1) (by have := hl.out; have := hn.out; omega)
    have hpl : Hid ((pre ++ [x]).length = pre.length + 1) := Lib.hid (by simp)
    generalize L[pre.length]?.getD pz = y at d0 d1 hnext
    replace hlt := Lib.hid hlt
    replace hp := Lib.hid hp
    obtain ⟨y1, y2⟩ := y
    obtain ⟨k1, k2⟩ := x
    dsimp only at d0 d1
    have hend : ∀ W2, W2 = W.setCell ⟨w.heap.size + 1, 0, none⟩ (.bool false) → KeepsFrom W0.heap.size W W2 ∧ Below w.heap.size w W2 := fun W2 e => by rw [e]; exact ⟨(KeepsOthers.setCell _ _ _).from _, hB.setCell (p := ⟨w.heap.size + 1, 0, none⟩) (by simp) _⟩
    have hgo : Hid (∀ v, Nodes W (W.setCell ⟨w.heap.size + 1 + 1, 0, none⟩ v) ∧ Boxed (W.setCell ⟨w.heap.size + 1 + 1, 0, none⟩ v) w.heap.size 46 (.slice (some ⟨g, off, none⟩) n uc) ∧ Boxed (W.setCell ⟨w.heap.size + 1 + 1, 0, none⟩ v) (w.heap.size + 1) 4 (.bool false) ∧ Boxed (W.setCell ⟨w.heap.size + 1 + 1, 0, none⟩ v) (w.heap.size + 1 + 1) 3 v ∧ Below w.heap.size w (W.setCell ⟨w.heap.size + 1 + 1, 0, none⟩ v)) :=
      Lib.hid fun v => ⟨stays_box (by decide) h2, h0.other (by omega) _, h1.other (by omega) _, h2.set _, hB.setCell (p := ⟨w.heap.size + 1 + 1, 0, none⟩) (by simp; omega) _⟩
    replace hend := Lib.hid hend
    by_cases e1 : y1 = k1
    · have q1 := Rp.text_eq e1
      by_cases e2 : y2 = k2
      · have hpp := Lib.hid (hnext.out.2 (by rw [e1, e2]))
        have q2 : (y2 == k2) = true := by simpa using e2
        have q3 : (y2 != k2) = false := by simpa using e2
        replace e1 := Lib.hid e1
        replace e2 := Lib.hid e2
        clear hnext
        gi_wp2
        obtain ⟨u1, u2, u3, u4, u5⟩ := hgo.out (.int .i64 ((pre.length : Int) + 1))
        refine ⟨(KeepsOthers.setCell _ _ _).from _, u1, ⟨hpp.out, u2, u3, ?_⟩, u5⟩
        rw [hpl.out]; exact u4
      · have hnp := Lib.hid (fun h => e2 (congrArg Prod.snd (hnext.out.1 h)))
        have q2 : (y2 == k2) = false := by simpa using e2
        have q3 : (y2 != k2) = true := by simpa using e2
        replace e1 := Lib.hid e1
        replace e2 := Lib.hid e2
        clear hnext
        gi_wp2
        exact ⟨(hend.out _ rfl).1, ⟨rfl, hnp.out⟩, (hend.out _ rfl).2⟩
    · have hnp := Lib.hid (fun h => e1 (congrArg Prod.fst (hnext.out.1 h)))
      have q1 := Rp.text_ne e1
      replace e1 := Lib.hid e1
      clear hnext
      gi_wp2
      exact ⟨(hend.out _ rfl).1, ⟨rfl, hnp.out⟩, (hend.out _ rfl).2⟩
  case done =>
    rintro D ys W hD rfl ⟨⟨hp, h0, h1, h2⟩, hBw⟩ hK
    have y0 := h0.cell
    have y1 := h1.cell
    have y2 := h2.cell
    have y3 := h1.frozen
    have hn1 := hn.out
    have hq : ((ys.length : Int) == (n : Int)) = true := by rw [hn1]; exact beq_self_eq_true _
    gi_wp2
    have hK' := (KeepsOthers.setCell W ⟨w.heap.size + 1, 0, none⟩ (.bool true)).same D _ hK rfl
    refine ⟨by simp, .inl ⟨_, _, rfl, run_takeDeferred hK', ?_⟩⟩
    have hc5 := cell_kept (h1.set (.bool true)).cell (grownBy_putObj' _ D (.deferred none)) (fun r e => by cases e; exact ⟨_, hK', rfl⟩)
    refine ⟨.bool true, ?_, rfl, (hBw.setCell (p := ⟨w.heap.size + 1, 0, none⟩) (by simp) _).trans (belowK_b (w := w) (Nat.le_refl _) _ D _ _ (by omega) hK' rfl rfl)⟩
    simp [results, Try.f37, go_sem, hc5]
  case stop =>
    rintro D c pre W hD hpre ⟨⟨rfl, hn⟩, _⟩ hK
    exact (hn hpre).elim
end Go.Proofs.Ytkdghmbglaghlaa.Tm
