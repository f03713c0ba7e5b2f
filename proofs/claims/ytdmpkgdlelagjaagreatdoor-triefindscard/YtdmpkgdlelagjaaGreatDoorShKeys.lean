/-
  A map's keys as a list. Conditions: a map is not too great.
-/
import Derived.Test.YtdmpkgdlelagjaaGreatDoorRows
import Derived.Test.YtdmpkgdlelagjaaGreatDoorShWalk
import Derived.Maps.AppendAt
namespace Go.Proofs.YtdmpkgdlelagjaaGreatDoor.Sh
open Go.RowKit
/-- a slice of the call's own handed back -/
def Lists (w : World) (et : TypeId) (M : List Value) (e : Ending) (W' : World) : Prop := ∃ v, e = .returned v ∧ (W'.ownsRow w.heap.size et 1 v M.length M ∧ ∃ g c, v = .slice (some ⟨g, 0, none⟩) M.length c) ∧ Below w.heap.size w W'
/-- blocks of a type are as they were -/
def Stays (T : TypeId) (W W' : World) : Prop := ∀ (b : Nat) (c : Array Value) (z : Nat × Nat), W.heap[b]? = some (.cells c T z) → W'.heap[b]? = some (.cells c T z)
theorem Stays.trans {T : TypeId} {A B C : World} (h : Stays T A B) (g : Stays T B C) : Stays T A C := fun b c z hb => g b c z (h b c z hb)
theorem stays_box {T t : TypeId} {W : World} {B : Nat} {v u : Value} (hne : t ≠ T) (hv : Boxed W B t v) : Stays T W (W.setCell ⟨B, 0, none⟩ u) := fun b c z hb => by
  refine (Below.heap_setCell _ _ _ b fun e => ?_).trans hb
  subst e
  have h := hb.symm.trans hv
  simp at h
  exact hne h.2.1.symm
theorem stays_row {T e : TypeId} {W w1 : World} {base size k : Nat} {v : Value} {xs : List Value} (hne : e ≠ T) (hr : W.ownsRow base e size v k xs) (hg : W.grownBy w1 v.ownBlock) : Stays T W w1 := fun b c z hb => by
  refine (hg.block b (Array.getElem?_eq_some_iff.1 hb).1 fun e' => ?_).trans hb
  rcases hr.2 with ⟨rfl, _⟩ | ⟨g, cap, cur, rfl, _, hgb, _⟩
  · simp [Value.ownBlock] at e'
  · simp [Value.ownBlock] at e'
    subst e'
    have h := hb.symm.trans hgb
    simp at h
    exact hne h.2.1.symm
theorem stays_below {T : TypeId} {W W' : World} (h : Below W.heap.size W W') : Stays T W W' := fun b _ _ hb => (h.block b (Array.getElem?_eq_some_iff.1 hb).1).trans hb
/-- an append to a row of one's own, laid back into its box, leaves blocks of other types alone -/
theorem stays_append {T t e : TypeId} {W w1 : World} {base B size k : Nat} {v v' : Value} {xs : List Value} {tmp : Obj} (h1 : t ≠ T) (h2 : e ≠ T) (hr : W.ownsRow base e size v k xs) (hg : (W.alloc tmp).grownBy w1 v.ownBlock) (hv1 : Boxed w1 B t v) : Stays T W (w1.setCell ⟨B, 0, none⟩ v') :=
  (stays_below (b_alloc W tmp)).trans ((stays_row h2 (hr.alloc tmp) hg).trans (stays_box h1 hv1))
theorem make_of (t et : TypeId) (i : TypeInfo) (z : Value) (ht : Tryz.prog.underlying t = some (.slice et)) (hi : Tryz.prog.info? et = some i) (hz : i.zero = some z) (hs : i.size = 1) (hb : i.bytes ≤ 100) (n : Nat) (hn : n ≤ 1000000) (w : World) :
    (Instr.makeSlice t (.int .i64 0) (.int .i64 (n : Int))).run Tryz.prog w = .ok (.slice (some ⟨w.heap.size, 0, none⟩) 0 n) (w.alloc (.cells (madeCells z.cells n) et)) := by
  have h := run_makeSlice (P := Tryz.prog) w t et i z ht hi hz .i64 .i64 0 (n : Int) (by omega) (by omega) (by rw [hs]; omega) (by
    have : i.bytes * n ≤ 100 * 1000000 := Nat.mul_le_mul hb hn
    have h2 : ((i.bytes * n : Nat) : Int) ≤ 281474976710656 := by omega
    rwa [Int.natCast_mul] at h2) (by omega)
  simpa [hs] using h
theorem made_size (z : Array Value) (n : Nat) : (madeCells z n).size = n * 1 := by rw [size_madeCells]; omega
end Go.Proofs.YtdmpkgdlelagjaaGreatDoor.Sh
namespace Go.Proofs.YtdmpkgdlelagjaaGreatDoor.Ti
open Go.RowKit Go.Shelf Sh
attribute [local go_sem] Oper.semAt_some fold_none

/-- keys as the model's values -/
def keysV (l : List Int) : List Value := l.map fun x => .int .i64 x
theorem keysV_len (l : List Int) : (keysV l).length = l.length := by simp [keysV]
theorem keysV_snoc (l : List Int) (x : Int) : keysV (l ++ [x]) = keysV l ++ [.int .i64 x] := by simp [keysV]
theorem info_key : (Tryz.prog.info? 3).map (fun i => (i.zero, i.size, i.bytes)) = some (some (Value.int .i64 0), 1, 8) := by kernel_rfl

end Go.Proofs.YtdmpkgdlelagjaaGreatDoor.Ti
namespace Go.Proofs.YtdmpkgdlelagjaaGreatDoor.Ts
open Go.RowKit Go.Shelf Sh
attribute [local go_sem] Oper.semAt_some fold_none

theorem nodes_put {w : World} (W : World) (l : Nat) (o o' : Obj) (_ : w.heap.size ≤ l) (h : W.heap[l]? = some o) (hc : o.isCells = false) (_ : o.isWalk = false) : Nodes W (W.putObj l o') := fun b c z hb => by
  refine (World.putObj_heap_other fun e => ?_).trans hb
  subst e
  rw [hb] at h
  cases h
  cases hc

set_option maxHeartbeats 1000000 in
theorem MapAll_calls (w : World) (a : Option Addr) :
    Calls Tryz.prog 105 #[.pointer a] w fun e w' => e = .returned (.func (.func 122) #[] #[.pointer (some ⟨w.heap.size, 0, none⟩)]) ∧ w' = w.alloc (.cells #[.pointer a] 82) := by
  go_enter Tryz.func105, Tryz.ntmps105
  go_wp2
  go_ret
  exact ⟨rfl, rfl⟩

set_option maxHeartbeats 2000000 in
/-- what a map's iterator does: its entries, rising -/
theorem mapAll1_stops (n : Nat) (w : World) (t : TypeId) (B : Nat) (a : Option Addr) (L : List ByteArray) (hB : w.cell? ⟨B, 0, none⟩ = some (.pointer a)) (hA : At w t a L) :
    SeqStopsK Fence.wide n Tryz.prog 122 #[.pointer (some ⟨B, 0, none⟩)] (fun x : ByteArray => #[.string x, .agg #[]]) Nodes (fun ys => ys = L) (fun pre => pre <+: L) L.length w := fun l J Jx W hW hJ hJx hY h0 => by
  have hB' : W.cell? ⟨B, 0, none⟩ = some (.pointer a) := by
    have hlt : B < w.heap.size := World.block_lt_of_cell? w _ hB
    exact (hW.cell (p := ⟨B, 0, none⟩) hlt).trans hB
  have hT := Lib.hid (tree_calls W t a L (hA.next hW))
  have hw := Lib.hid fun p T (h2 : IsTree W p T) (h3 : T.flat = L) => walkY_in l L.length J Jx (fun s A B hs hg => hJ s A B none hs hg (fun r e => by cases e)) (fun m pre x W h1 h2 => YieldAt.any m (hY pre x W h1 h2)) T (n - 1) p [] W h2 h0 (by rw [h3]; simp)
  clear hY hJ hJx hW h0 hA hB
  show CallsIn Fence.wide n Tryz.prog 122 #[.func (.yield l) #[] #[], .pointer (some ⟨B, 0, none⟩)] W _
  refine callsIn_of_wp Tryz.func122 rfl trivial ?_ rfl
  simp only [Tryz.ntmps122, List.size_toArray, List.length_cons, List.length_nil, Nat.reduceAdd, Nat.reduceSub, Array.replicate_succ, Array.replicate_zero, List.push_toArray, List.append_toArray, List.nil_append, List.cons_append]
  gi_wp2_with (first
    | (refine ⟨trivial, deep _, ?_⟩; gi_at_call 90; refine (callsIn_wide.2 hT.out).mono ?_; rintro e w1 ⟨⟨p, T, rfl, h2, h3⟩, rfl⟩; have hw2 := Lib.hid (hw.out p T h2 h3); replace h3 := Lib.hid h3; clear hT hw h2)
    | (refine ⟨trivial, deep _, ?_⟩; gi_at_call 91; refine hw2.out.mono ?_; clear hw2; rintro e W1 (⟨rfl, hJ1, _⟩ | ⟨rfl, q, hq, hx⟩)))
  · go_end0
    exact ⟨⟨_, rfl⟩, .inl ⟨_, h3.out, by simpa using hJ1⟩⟩
  · go_end0
    exact ⟨⟨_, rfl⟩, .inr ⟨q, h3.out ▸ hq, by simpa using hx⟩⟩

/-- keys as the model's values -/
def keysV (l : List ByteArray) : List Value := l.map fun x => .string x
theorem keysV_len (l : List ByteArray) : (keysV l).length = l.length := by simp [keysV]
theorem keysV_snoc (l : List ByteArray) (x : ByteArray) : keysV (l ++ [x]) = keysV l ++ [.string x] := by simp [keysV]
theorem info_key : (Tryz.prog.info? 9).map (fun i => (i.zero, i.size, i.bytes)) = some (some (Value.string ByteArray.empty), 1, 16) := by kernel_rfl

set_option maxRecDepth 100000 in
set_option maxHeartbeats 4000000 in
theorem Keys_calls (w : World) (t : TypeId) (a : Option Addr) (L : List ByteArray) (hA : At w t a L) (hb : L.length ≤ 1000000) :
    Calls Tryz.prog 76 #[.pointer a] w (Lists w 9 (keysV L)) := by
  obtain ⟨i0, hi, hz0, hz1, hz2⟩ := info_parts info_key
  have hmk : (Instr.makeSlice 22 (.int .i64 0) (.int .i64 (L.length : Int))).run Tryz.prog w = .ok (.slice (some ⟨w.heap.size, 0, none⟩) 0 L.length) (w.alloc (.cells (madeCells #[Value.string ByteArray.empty] L.length) 9)) := make_of 22 9 i0 _ Tryz.underlying22 hi hz0 hz1 (by rw [hz2]; decide) L.length hb w
  have hL := Lib.hid (Len_calls w t a L hA)
  have hM := Lib.hid fun w' => MapAll_calls w' a
  have h1 := World.ownsRow_made (e := 9) (size := 1) w (madeCells #[Value.string ByteArray.empty] L.length) L.length (Nat.le_refl w.heap.size) (by simp [maxLen]; omega) (made_size _ _)
  have b1 := b_then (b_alloc w (.cells (madeCells #[Value.string ByteArray.empty] L.length) 9)) (b_then (b_alloc _ (.cells #[.slice (some ⟨w.heap.size, 0, none⟩) 0 L.length] 22)) (b_alloc _ (.cells #[.pointer a] 82)))
  have bO := (Boxed.new (w.alloc (.cells (madeCells #[Value.string ByteArray.empty] L.length) 9)) 22 (.slice (some ⟨w.heap.size, 0, none⟩) 0 L.length)).alloc (.cells #[.pointer a] 82)
  have bN := Boxed.new ((w.alloc (.cells (madeCells #[Value.string ByteArray.empty] L.length) 9)).alloc (.cells #[.slice (some ⟨w.heap.size, 0, none⟩) 0 L.length] 22)) 82 (.pointer a)
  rw [World.size_alloc] at bO
  rw [World.size_alloc, World.size_alloc] at bN
  have hown := (h1.alloc (.cells #[.slice (some ⟨w.heap.size, 0, none⟩) 0 L.length] 22)).alloc (.cells #[.pointer a] 82)
  have hst := mapAll1_stops 2 _ t (w.heap.size + 1 + 1) a L bN.cell (hA.next b1)
  have hsz : (((w.alloc (.cells (madeCells #[Value.string ByteArray.empty] L.length) 9)).alloc (.cells #[.slice (some ⟨w.heap.size, 0, none⟩) 0 L.length] 22)).alloc (.cells #[.pointer a] 82)).heap.size = w.heap.size + 3 := by simp
  clear hA h1 bN
  replace hst := Lib.hid hst
  replace hown := Lib.hid hown
  replace hsz := Lib.hid hsz
  replace b1 := Lib.hid b1
  replace bO := Lib.hid bO
  refine (callsIn_wide (n := 3)).1 ?_
  refine callsIn_of_wp_marks Tryz.func76 rfl trivial ?_ rfl
  simp only [Tryz.ntmps76, List.size_toArray, List.length_cons, List.length_nil, Nat.reduceAdd, Nat.reduceSub, Array.replicate_succ, Array.replicate_zero, List.push_toArray, List.append_toArray, List.nil_append, List.cons_append]
  gi_wp2_with (first
    | (refine ⟨trivial, ?_⟩; gi_at_call 64; refine (callsIn_wide.2 hL.out).mono ?_; rintro e w' ⟨rfl, hw'⟩; obtain rfl := hw'.symm; clear hw')
    | (refine ⟨trivial, ?_⟩; gi_at_call 105; refine (callsIn_wide.2 (hM.out _)).mono ?_; rintro e w' ⟨rfl, rfl⟩))
  clear hmk hL hM
  generalize ((w.alloc (.cells (madeCells #[Value.string ByteArray.empty] L.length) 9)).alloc (.cells #[.slice (some ⟨w.heap.size, 0, none⟩) 0 L.length] 22)).alloc (.cells #[.pointer a] 82) = W1 at *
  have bW := b1.out
  have hsz1 := hsz.out
  refine wpIn_rangeFunc_ownG rfl (by omega) (gf := 122) (lb := #[.pointer (some ⟨w.heap.size + 1 + 1, 0, none⟩)]) rfl trivial (enters_of Tryz.func122 (by kernel_rfl) rfl)
    hst.out (fun h k => Nodes.trans h k) nodes_put (Below.refl _ _) (fun _ => rfl)
    (fun pre W => (∃ v, Boxed W (w.heap.size + 1) 22 v ∧ W.ownsRow w.heap.size 9 1 v (keysV pre).length (keysV pre) ∧ ∃ g c, v = .slice (some ⟨g, 0, none⟩) (keysV pre).length c) ∧ Below w.heap.size w W)
    (fun _ _ _ => False)
    (OwnFrom.and (Own.from (holdsRow_own w.heap.size (w.heap.size + 1) 22 9 1 (fun pre => (keysV pre).length) keysV (fun pre v => ∃ g c, v = .slice (some ⟨g, 0, none⟩) (keysV pre).length c)) _) (ownFrom_below (Nat.le_refl _) (by omega)))
    (fun _ _ _ _ _ hs _ _ => hs)
    ⟨⟨_, bO.out, hown.out, _, _, rfl⟩, bW⟩
    (fun x => { tmps := #[.pointer a, undef, .slice none 0 0, .pointer (some ⟨w.heap.size + 1, 0, none⟩), .string x, .pointer a, .int .i64 (L.length : Int), .slice (some ⟨w.heap.size, 0, none⟩) 0 L.length, .pointer a, .func (.func 122) #[] #[.pointer (some ⟨w.heap.size + 1 + 1, 0, none⟩)], .string x, .agg #[], undef, undef, undef, undef, undef], defers := [] }) ?assign ?body ?done ?stop
  case assign =>
    intro l x W K hK
    gi_wp2
    exact hK
  case body =>
    rintro l pre x W ⟨⟨v, hv, hrow, -⟩, hB⟩ hlt
    have hc := hv.cell
    have hp1 : Hid ((keysV pre).length < L.length) := Lib.hid (by rw [keysV_len]; exact hlt)
    have hp2 := Lib.hid (keysV_snoc pre x)
    generalize keysV pre = M at *
    gi_wp2_with (gi_at_builtin; refine wpListIn_append_own _ rfl _ _ 22 rfl w.heap.size 9 i0 (Value.string ByteArray.empty) 1 16 Tryz.underlying22 hi hz0 hz1 hz2 rfl (by decide) _ _ _ rfl (hrow.alloc _) ⟨W.heap.size, 0, none⟩ 1 1 [.string x] rfl rfl (cell_one_new _ _ _) (by simp [Value.oneCell']) (by have := hp1.out; simp [maxLen]; omega) (by have := hp1.out; omega) (by have := hB.size; simp; omega) ?_; intro v' w1 hown' hgrow _; obtain ⟨g', cap', rfl⟩ := ownsRow_succ hown'; obtain ⟨hv1, hv2, hr2, hk2, hb2⟩ := hv.appended (by decide) hrow hB.size (by omega) hown' hgrow; have hc1 := hv1.cell; have hf1 := hv1.frozen)
    have hnd : Hid (Nodes W (w1.setCell ⟨w.heap.size + 1, 0, none⟩ (.slice (some ⟨g', 0, none⟩) (M.length + 1) cap'))) := Lib.hid (stays_append (by decide) (by decide) hrow hgrow hv1)
    have hl2 : Hid ((keysV (pre ++ [x])).length = M.length + 1) := Lib.hid (by rw [hp2.out]; simp)
    exact ⟨hk2.from _, hnd.out, ⟨_, hv2, by rw [hl2.out, hp2.out]; exact hr2, _, _, by rw [hl2.out]⟩, hB.trans hb2⟩
  case done =>
    rintro D ys W hD rfl ⟨⟨v, hv, hrow, hsome⟩, hB⟩ hK
    have hc := hv.cell
    gi_wp2
    refine ⟨by simp, .inl ⟨_, _, rfl, run_takeDeferred hK, ?_⟩⟩
    exact ⟨_, results_tmp rfl _ _ _, v, rfl, ⟨ownsRow_putObj hrow _ hK rfl, hsome⟩, hB.trans (belowK_b (w := w) (Nat.le_refl _) W D _ _ (by omega) hK rfl rfl)⟩
  case stop =>
    rintro D c pre W _ _ h _
    exact h.elim
end Go.Proofs.YtdmpkgdlelagjaaGreatDoor.Ts
namespace Go.Proofs.YtdmpkgdlelagjaaGreatDoor.Tm
open Go.RowKit Go.Shelf Sh
attribute [local go_sem] Oper.semAt_some fold_none

/-- keys as the model's values -/
def keysV (l : List (ByteArray × Int)) : List Value := l.map fun x => .string x.1
theorem keysV_len (l : List (ByteArray × Int)) : (keysV l).length = l.length := by simp [keysV]
theorem keysV_snoc (l : List (ByteArray × Int)) (x : (ByteArray × Int)) : keysV (l ++ [x]) = keysV l ++ [.string x.1] := by simp [keysV]
theorem info_key : (Tryz.prog.info? 9).map (fun i => (i.zero, i.size, i.bytes)) = some (some (Value.string ByteArray.empty), 1, 16) := by kernel_rfl

end Go.Proofs.YtdmpkgdlelagjaaGreatDoor.Tm
