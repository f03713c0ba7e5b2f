/-
  The library's slices.Values, AppendSeq, Collect, Sort, Sorted, Compact as shelf.Of uses them: of a list the rising list of its members. Conditions: a list is not too long.
-/
import Derived.Test.YtdmpkgdlelagjaaGreatDoorRows
import Derived.Test.YtdmpkgdlelagjaaGreatDoorShKeys
import Derived.Test.YtdmpkgdlelagjaaGreatDoorShShelf
import Derived.Lib.SlicesCompact
namespace Go.Proofs.YtdmpkgdlelagjaaGreatDoor.Sh
open Go.RowKit
open Key (lt)
open Ent (key)
section
variable {K : Type} [Key K]
/-- of a sorted list the list without its repetitions rises, and has the same members -/
theorem compact_rises [Ent K K] (hid : ∀ a : K, key a = a) {d : Array K} (hs : ∀ i j, i < j → j < d.size → lt d[j]! d[i]! = false) : Rises (Lib.compactUpTo d d.size) ∧ ∀ l, l ∈ Lib.compactUpTo d d.size ↔ l ∈ d.toList := by
  have key : ∀ m, m ≤ d.size → (Lib.compactUpTo d m).Pairwise (fun a b => lt a b = true) ∧ (∀ l, l ∈ Lib.compactUpTo d m ↔ ∃ i, i < m ∧ d[i]! = l) := by
    intro m
    induction m with
    | zero => intro _; refine ⟨by simp [Lib.compactUpTo], fun l => ?_⟩; simp [Lib.compactUpTo]
    | succ m ih =>
      intro hm
      obtain ⟨h1, h2⟩ := ih (by omega)
      rw [Lib.compactUpTo_succ]
      cases hk : Lib.keeps d m with
      | false =>
        have hk' : ¬ (m = 0 ∨ d[m]! ≠ d[m - 1]!) := by simpa [Lib.keeps] using hk
        have hm0 : m ≠ 0 := fun e => hk' (Or.inl e)
        have he : d[m]! = d[m - 1]! := Classical.byContradiction fun e => hk' (Or.inr e)
        simp only [Bool.false_eq_true, if_false, List.append_nil]
        refine ⟨h1, fun l => ⟨fun h => ?_, fun h => ?_⟩⟩
        · obtain ⟨i, hi, e⟩ := (h2 l).1 h; exact ⟨i, by omega, e⟩
        · obtain ⟨i, hi, e⟩ := h
          by_cases im : i = m
          · subst im; exact (h2 l).2 ⟨i - 1, by omega, by rw [← he]; exact e⟩
          · exact (h2 l).2 ⟨i, by omega, e⟩
      | true =>
        simp only [if_true]
        refine ⟨List.pairwise_append.2 ⟨h1, by simp, fun a ha b hb => ?_⟩, fun l => ⟨fun h => ?_, fun h => ?_⟩⟩
        · rw [List.mem_singleton] at hb
          subst hb
          obtain ⟨i, hi, e⟩ := (h2 a).1 ha
          subst e
          have hle := hs i m hi (by omega)
          rcases Key.tri d[i]! d[m]! with g | g | g
          · exact g
          · exfalso
            have hk' : m = 0 ∨ d[m]! ≠ d[m - 1]! := by simpa [Lib.keeps] using hk
            rcases hk' with e0 | e0
            · omega
            · by_cases im : i = m - 1
              · subst im; exact e0 g.symm
              · have l1 := hs i (m - 1) (by omega) (by omega)
                have l2 := hs (m - 1) m (by omega) (by omega)
                rw [g] at l1
                rcases Key.tri d[m - 1]! d[m]! with q | q | q
                · rw [l1] at q; cases q
                · exact e0 q.symm
                · rw [l2] at q; cases q
          · rw [hle] at g; cases g
        · rcases List.mem_append.1 h with g | g
          · obtain ⟨i, hi, e⟩ := (h2 l).1 g; exact ⟨i, by omega, e⟩
          · rw [List.mem_singleton] at g; exact ⟨m, by omega, g.symm⟩
        · obtain ⟨i, hi, e⟩ := h
          by_cases im : i = m
          · subst im; exact List.mem_append.2 (Or.inr (by simp [e]))
          · exact List.mem_append.2 (Or.inl ((h2 l).2 ⟨i, by omega, e⟩))
  obtain ⟨h1, h2⟩ := key d.size (Nat.le_refl _)
  refine ⟨?_, fun l => (h2 l).trans ⟨fun ⟨i, hi, e⟩ => ?_, fun h => ?_⟩⟩
  · unfold Rises
    refine h1.imp fun {a b} hab => ?_
    rw [hid, hid]; exact hab
  · subst e; rw [getElem!_pos d i hi]; simp
  · obtain ⟨i, hi, e⟩ := List.getElem_of_mem h
    have hi' : i < d.size := by simpa using hi
    exact ⟨i, hi', by rw [getElem!_pos d i hi', ← e]; simp⟩
end
theorem wrap64_succ (k : Nat) (h : k < 1000000) : wrap64 ((k : Int) + 1) = ((k + 1 : Nat) : Int) := IntWalk.wrap64_in _ ⟨by omega, by omega⟩
theorem measure_up (N k : Nat) (z : Int) (hz : z = ((k + 1 : Nat) : Int)) (h : k < N) : N - (intOf (.int .i64 z)).toNat < N - (intOf (.int .i64 (k : Int))).toNat := by
  subst hz
  show N - (((k + 1 : Nat) : Int)).toNat < N - ((k : Int)).toNat
  rw [Int.toNat_natCast, Int.toNat_natCast]
  omega
open Go.Sort in
/-- behind a row rewritten in place: it holds what was put there; no other block has changed -/
theorem row_turned {α : Type} [Inhabited α] (enc : α → Value) (w : World) (g off q : Nat) (d d' : Array α) (os : Array Obj) (hg : g < w.heap.size) (h : Holds enc w g off d) (hs : d'.size = d.size) :
    Holds enc (grow (putRow enc (Sort.ahead w q) g off d') os) g off d' ∧ w.grownBy (grow (putRow enc (Sort.ahead w q) g off d') os) (some g) := by
  have hsz : (putRow enc (Sort.ahead w q) g off d').heap.size = w.heap.size := by rw [Sort.size_putRow]; rfl
  refine ⟨holds_grow enc _ os g off d' (by rw [hsz]; exact hg) (holds_putRow enc _ g off d d' (holds_ahead enc w q g off d h) hs), ⟨rfl, rfl, rfl, ?_, fun k hk hne => ?_⟩⟩
  · rw [Sort.size_grow, hsz]; omega
  · rw [Sort.heap_grow_old _ _ (by rw [hsz]; exact hk)]
    simp only [Sort.putRow, Sort.mapBlock, Array.getElem?_modify]
    rw [if_neg (fun e => hne (by rw [e]))]
    rfl
end Go.Proofs.YtdmpkgdlelagjaaGreatDoor.Sh
namespace Go.Proofs.YtdmpkgdlelagjaaGreatDoor.Ti
open Go.RowKit Go.Shelf Sh
open Key (lt)
open Ent (key)
attribute [local go_sem] Oper.semAt_some fold_none

/-- a slice that can be read: its cells, below a bound -/
def Reads (n₀ : Nat) (W : World) (v : Value) (M : List Int) : Prop :=
  ∃ a cap, v = .slice a M.length cap ∧ (0 < M.length → ∃ g off, a = some ⟨g, off, none⟩ ∧ g < n₀ ∧ ∀ j, j < M.length → W.cell? ⟨g, off + j, none⟩ = some (.int .i64 ((M[j]?.getD default))))
theorem Reads.below {n₀ : Nat} {A B : World} (h : Below n₀ A B) {v : Value} {M : List Int} : Reads n₀ A v M → Reads n₀ B v M := fun ⟨a, cap, e, h1⟩ => ⟨a, cap, e, fun h0 => by
  obtain ⟨g, off, ea, hg, hc⟩ := h1 h0
  exact ⟨g, off, ea, hg, fun j hj => (h.cell (p := ⟨g, off + j, none⟩) hg).trans (hc j hj)⟩⟩

/-- a row of the call's own that holds a list -/
def Row (W : World) (g : Nat) (M : List Int) : Prop := (∃ cur z, W.heap[g]? = some (.cells cur 3 z)) ∧ ∀ j, j < M.length → W.cell? ⟨g, j, none⟩ = some (.int .i64 ((M[j]?.getD default))) ∧ W.frozen? ⟨g, j, none⟩ = false
theorem Row.lt {W : World} {g : Nat} {M : List Int} (h : Row W g M) : g < W.heap.size := by obtain ⟨⟨_, _, h1⟩, _⟩ := h; exact (Array.getElem?_eq_some_iff.1 h1).1
theorem Row.next {W W' : World} {g : Nat} {M : List Int} (h : Row W g M) (hb : Below W.heap.size W W') : Row W' g M := by
  have hlt := h.lt
  obtain ⟨⟨cur, z, h1⟩, h2⟩ := h
  exact ⟨⟨cur, z, (hb.block g hlt).trans h1⟩, fun j hj => ⟨(hb.cell (p := ⟨g, j, none⟩) hlt).trans (h2 j hj).1, (World.frozen?_of_block (hb.block g hlt)).trans (h2 j hj).2⟩⟩
theorem row_of_owns {W : World} {base : Nat} {u : Value} {M : List Int} (h : W.ownsRow base 3 1 u (keysV M).length (keysV M)) (hM : 0 < M.length) : ∃ g cap, u = .slice (some ⟨g, 0, none⟩) M.length cap ∧ M.length ≤ cap ∧ base ≤ g ∧ Row W g M := by
  have hlen := keysV_len M
  rcases h.2 with ⟨_, h0⟩ | ⟨g, cap, cur, rfl, hb, hg, hle, _, hs, ht⟩
  · omega
  · refine ⟨g, cap, by rw [hlen], by omega, hb, ⟨cur, _, hg⟩, fun j hj => ?_⟩
    have hj2 : cur[j]? = some (.int .i64 ((M[j]?.getD default))) := by
      have h1 : (cur.toList.take ((keysV M).length * 1))[j]? = (keysV M)[j]? := by rw [ht]
      rw [List.getElem?_take] at h1
      rw [if_pos (by omega)] at h1
      rw [← Array.getElem?_toList, h1]
      simp [keysV, List.getElem?_eq_getElem hj]
    constructor
    · simp [World.cell?, hg, hj2]
    · simp [World.frozen?, hg]
end Go.Proofs.YtdmpkgdlelagjaaGreatDoor.Ti
namespace Go.Proofs.YtdmpkgdlelagjaaGreatDoor.Ts
open Go.RowKit Go.Shelf Sh
open Key (lt)
open Ent (key)
attribute [local go_sem] Oper.semAt_some fold_none

/-- a slice that can be read: its cells, below a bound -/
def Reads (n₀ : Nat) (W : World) (v : Value) (M : List ByteArray) : Prop :=
  ∃ a cap, v = .slice a M.length cap ∧ (0 < M.length → ∃ g off, a = some ⟨g, off, none⟩ ∧ g < n₀ ∧ ∀ j, j < M.length → W.cell? ⟨g, off + j, none⟩ = some (.string ((M[j]?.getD default))))
theorem Reads.below {n₀ : Nat} {A B : World} (h : Below n₀ A B) {v : Value} {M : List ByteArray} : Reads n₀ A v M → Reads n₀ B v M := fun ⟨a, cap, e, h1⟩ => ⟨a, cap, e, fun h0 => by
  obtain ⟨g, off, ea, hg, hc⟩ := h1 h0
  exact ⟨g, off, ea, hg, fun j hj => (h.cell (p := ⟨g, off + j, none⟩) hg).trans (hc j hj)⟩⟩

set_option maxHeartbeats 1000000 in
theorem Values_calls (w : World) (a : Option Addr) (len cap : Nat) :
    Calls Tryz.prog 50 #[.slice a len cap] w fun e w' => e = .returned (.func (.func 80) #[] #[.pointer (some ⟨w.heap.size, 0, none⟩)]) ∧ w' = w.alloc (.cells #[.slice a len cap] 22) := by
  go_enter Tryz.func50, Tryz.ntmps50
  go_wp2
  go_ret
  exact ⟨rfl, rfl⟩

set_option maxRecDepth 100000 in
set_option maxHeartbeats 2000000 in
theorem values1_stops (n : Nat) (w : World) (B n₀ : Nat) (v : Value) (M : List ByteArray) (hM : M.length ≤ 1000000) (hn : n₀ ≤ w.heap.size) (hB : w.cell? ⟨B, 0, none⟩ = some v) (hv : Reads n₀ w v M) :
    SeqStopsK Fence.wide n Tryz.prog 80 #[.pointer (some ⟨B, 0, none⟩)] (fun x : ByteArray => #[.string x]) (Below n₀) (fun ys => ys = M) (fun pre => pre <+: M) M.length w := fun l J Jx W hW _ _ hY h0 => by
  have hlt : B < w.heap.size := World.block_lt_of_cell? w _ hB
  have hB' : W.cell? ⟨B, 0, none⟩ = some v := (hW.cell (p := ⟨B, 0, none⟩) hlt).trans hB
  obtain ⟨a, cap, rfl, hr⟩ := hv.below (hW.mono hn)
  clear hB hv hW hlt
  show CallsIn Fence.wide n Tryz.prog 80 #[.func (.yield l) #[] #[], .pointer (some ⟨B, 0, none⟩)] W _
  refine callsIn_of_wp Tryz.func80 rfl trivial ?_ rfl
  simp only [Tryz.ntmps80, List.size_toArray, List.length_cons, List.length_nil, Nat.reduceAdd, Nat.reduceSub, Array.replicate_succ, Array.replicate_zero, List.push_toArray, List.append_toArray, List.nil_append, List.cons_append]
  gi_wp2
  gi_loopw [7] (fun i wr => ∃ k : Nat, k ≤ M.length ∧ i = .int .i64 k ∧ J (M.take k) wr ∧ Below n₀ W wr) (fun i _ => M.length - (intOf i).toNat)
  case atStart => exact ⟨0, Nat.zero_le _, rfl, by simpa using h0, Below.refl _ _⟩
  case round =>
    obtain ⟨k, hk, rfl, hJs, hnx⟩ := hrel
    by_cases hlt : k < M.length
    · obtain ⟨g, off, rfl, hg, hc⟩ := hr (by omega)
      have hcx : wr.cell? ⟨g, off + k, none⟩ = some (.string ((M[k]?.getD default))) := (hnx.cell (p := ⟨g, off + k, none⟩) hg).trans (hc k hlt)
      obtain ⟨fn, tmps, assign, body, hy, hR⟩ := YieldAt.any (n - 1) (hY _ (M[k]?.getD default) wr hJs (by simp; omega))
      have htk : Hid (M.take k ++ [M[k]?.getD default] = M.take (k + 1)) := Lib.hid (by rw [List.take_add_one]; simp [List.getElem?_eq_getElem hlt])
      have hgo : Hid (∀ W3, J (M.take k ++ [M[k]?.getD default]) W3 → J (M.take (k + 1)) W3) := Lib.hid fun W3 h => by rw [← htk.out]; exact h
      have hgx : Hid (∀ W3, Jx (M.take k ++ [M[k]?.getD default]) W3 → Jx (M.take (k + 1)) W3) := Lib.hid fun W3 h => by rw [← htk.out]; exact h
      have hw1 : Hid (wrap64 ((k : Int) + 1) = ((k + 1 : Nat) : Int)) := Lib.hid (wrap64_succ k (by omega))
      have hlt0 : Hid (k < M.length) := Lib.hid hlt
      generalize M[k]?.getD default = x at *
      clear htk hc hr hY h0 hM
      gi_wp2
      refine ⟨deep _, ?_⟩
      refine hR.mono ?_
      rintro e W3 (⟨rfl, hJ3, hk3⟩ | ⟨rfl, hJx3⟩)
      · gi_wp2
        go_roundw
        case rel => exact ⟨k + 1, hlt0.out, by rw [hw1.out], hgo.out _ hJ3, hnx.trans hk3⟩
        case measure => exact measure_up M.length k _ hw1.out hlt0.out
      · gi_wp2
        refine bodyPost_ret (results_none rfl _ _ _) rfl ?_
        exact ⟨⟨_, rfl⟩, .inr ⟨_, List.take_prefix (k + 1) M, hgx.out _ hJx3⟩⟩
    · obtain rfl : k = M.length := by omega
      have g0 : ¬ (M.length : Int) < M.length := by omega
      clear hr hY
      gi_wp2
      go_end0
      exact ⟨⟨_, rfl⟩, .inl (by simpa using hJs)⟩

set_option maxRecDepth 100000 in
set_option maxHeartbeats 4000000 in
/-- what an iterator over a slice gives, appended to nothing: a slice of the call's own, nil where nothing came -/
theorem AppendSeq_calls (w : World) (B : Nat) (v : Value) (M : List ByteArray) (hM : M.length ≤ 1000000) (hB : w.cell? ⟨B, 0, none⟩ = some v) (hv : Reads w.heap.size w v M) :
    Calls Tryz.prog 107 #[.slice none 0 0, .func (.func 80) #[] #[.pointer (some ⟨B, 0, none⟩)]] w fun e w' => ∃ u, e = .returned u ∧ w'.ownsRow w.heap.size 9 1 u (keysV M).length (keysV M) ∧ (M = [] → u = .slice none 0 0) ∧ Below w.heap.size w w' := by
  obtain ⟨i0, hi, hz0, hz1, hz2⟩ := info_parts info_key
  have hlt : B < w.heap.size := World.block_lt_of_cell? w _ hB
  have b1 := b_alloc w (.cells #[.slice none 0 0] 22)
  have bO := Boxed.new w 22 (.slice none 0 0)
  have hst := values1_stops 2 (w.alloc (.cells #[.slice none 0 0] 22)) B w.heap.size v M hM b1.size ((b1.cell (p := ⟨B, 0, none⟩) hlt).trans hB) (hv.below b1)
  have hsz : (w.alloc (.cells #[.slice none 0 0] 22)).heap.size = w.heap.size + 1 := by simp
  clear hB hv hlt
  replace hst := Lib.hid hst
  replace b1 := Lib.hid b1
  replace bO := Lib.hid bO
  replace hsz := Lib.hid hsz
  refine (callsIn_wide (n := 3)).1 ?_
  refine callsIn_of_wp_marks Tryz.func107 rfl trivial ?_ rfl
  simp only [Tryz.ntmps107, List.size_toArray, List.length_cons, List.length_nil, Nat.reduceAdd, Nat.reduceSub, Array.replicate_succ, Array.replicate_zero, List.push_toArray, List.append_toArray, List.nil_append, List.cons_append]
  gi_wp2_with fail
  generalize w.alloc (.cells #[.slice none 0 0] 22) = W1 at *
  have bW := b1.out
  have hsz1 := hsz.out
  refine wpIn_rangeFunc_ownG rfl (by omega) (gf := 80) (lb := #[.pointer (some ⟨B, 0, none⟩)]) rfl trivial (enters_of Tryz.func80 (by kernel_rfl) rfl)
    hst.out belowK_t (belowK_b (by omega)) (Below.refl _ _) (fun _ => rfl)
    (fun pre W => (∃ v, Boxed W w.heap.size 22 v ∧ W.ownsRow w.heap.size 9 1 v (keysV pre).length (keysV pre) ∧ (pre = [] → v = .slice none 0 0)) ∧ Below w.heap.size w W)
    (fun _ _ _ => False)
    (OwnFrom.and (Own.from (holdsRow_own w.heap.size w.heap.size 22 9 1 (fun pre => (keysV pre).length) keysV (fun pre v => pre = [] → v = .slice none 0 0)) _) (ownFrom_below (Nat.le_refl _) (by omega)))
    (fun _ _ _ _ _ hs _ _ => hs)
    ⟨⟨_, bO.out, World.ownsRow_nil _ _ _ _, fun _ => rfl⟩, bW⟩
    (fun x => { tmps := #[.slice none 0 0, .func (.func 80) #[] #[.pointer (some ⟨B, 0, none⟩)], .pointer (some ⟨w.heap.size, 0, none⟩), undef, .slice none 0 0, .string x, .func (.func 80) #[] #[.pointer (some ⟨B, 0, none⟩)], .string x, undef, undef, undef, undef, undef], defers := [] }) ?assign ?body ?done ?stop
  case assign =>
    intro l x W K hK
    gi_wp2
    exact hK
  case body =>
    rintro l pre x W ⟨⟨v, hv, hrow, -⟩, hB⟩ hlt
    have hc := hv.cell
    have hp1 : Hid ((keysV pre).length < M.length) := Lib.hid (by rw [keysV_len]; exact hlt)
    have hp2 := Lib.hid (keysV_snoc pre x)
    generalize keysV pre = N at *
    gi_wp2_with (gi_at_builtin; refine wpListIn_append_own _ rfl _ _ 22 rfl w.heap.size 9 i0 (Value.string ByteArray.empty) 1 16 Tryz.underlying22 hi hz0 hz1 hz2 rfl (by decide) _ _ _ rfl (hrow.alloc _) ⟨W.heap.size, 0, none⟩ 1 1 [.string x] rfl rfl (cell_one_new _ _ _) (by simp [Value.oneCell']) (by have := hp1.out; simp [maxLen]; omega) (by have := hp1.out; omega) (by have := hB.size; simp; omega) ?_; intro v' w1 hown' hgrow _; obtain ⟨g', cap', rfl⟩ := ownsRow_succ hown'; obtain ⟨hv1, hv2, hr2, hk2, hb2⟩ := hv.appended (by decide) hrow hB.size (by omega) hown' hgrow; have hc1 := hv1.cell; have hf1 := hv1.frozen)
    have hl2 : Hid ((keysV (pre ++ [x])).length = N.length + 1) := Lib.hid (by rw [hp2.out]; simp)
    exact ⟨hk2.from _, hb2, ⟨_, hv2, by rw [hl2.out, hp2.out]; exact hr2, fun h => by simp at h⟩, hB.trans hb2⟩
  case done =>
    rintro D ys W hD rfl ⟨⟨v, hv, hrow, hnil⟩, hB⟩ hK
    have hc := hv.cell
    gi_wp2
    refine ⟨by simp, .inl ⟨_, _, rfl, run_takeDeferred hK, ?_⟩⟩
    exact ⟨_, results_tmp rfl _ _ _, v, rfl, ownsRow_putObj hrow _ hK rfl, hnil, hB.trans (belowK_b (w := w) (Nat.le_refl _) W D _ _ (by omega) hK rfl rfl)⟩
  case stop =>
    rintro D c pre W _ _ h _
    exact h.elim

/-- a row of the call's own that holds a list -/
def Row (W : World) (g : Nat) (M : List ByteArray) : Prop := (∃ cur z, W.heap[g]? = some (.cells cur 9 z)) ∧ ∀ j, j < M.length → W.cell? ⟨g, j, none⟩ = some (.string ((M[j]?.getD default))) ∧ W.frozen? ⟨g, j, none⟩ = false
theorem Row.lt {W : World} {g : Nat} {M : List ByteArray} (h : Row W g M) : g < W.heap.size := by obtain ⟨⟨_, _, h1⟩, _⟩ := h; exact (Array.getElem?_eq_some_iff.1 h1).1
theorem Row.next {W W' : World} {g : Nat} {M : List ByteArray} (h : Row W g M) (hb : Below W.heap.size W W') : Row W' g M := by
  have hlt := h.lt
  obtain ⟨⟨cur, z, h1⟩, h2⟩ := h
  exact ⟨⟨cur, z, (hb.block g hlt).trans h1⟩, fun j hj => ⟨(hb.cell (p := ⟨g, j, none⟩) hlt).trans (h2 j hj).1, (World.frozen?_of_block (hb.block g hlt)).trans (h2 j hj).2⟩⟩
theorem row_of_owns {W : World} {base : Nat} {u : Value} {M : List ByteArray} (h : W.ownsRow base 9 1 u (keysV M).length (keysV M)) (hM : 0 < M.length) : ∃ g cap, u = .slice (some ⟨g, 0, none⟩) M.length cap ∧ M.length ≤ cap ∧ base ≤ g ∧ Row W g M := by
  have hlen := keysV_len M
  rcases h.2 with ⟨_, h0⟩ | ⟨g, cap, cur, rfl, hb, hg, hle, _, hs, ht⟩
  · omega
  · refine ⟨g, cap, by rw [hlen], by omega, hb, ⟨cur, _, hg⟩, fun j hj => ?_⟩
    have hj2 : cur[j]? = some (.string ((M[j]?.getD default))) := by
      have h1 : (cur.toList.take ((keysV M).length * 1))[j]? = (keysV M)[j]? := by rw [ht]
      rw [List.getElem?_take] at h1
      rw [if_pos (by omega)] at h1
      rw [← Array.getElem?_toList, h1]
      simp [keysV, List.getElem?_eq_getElem hj]
    constructor
    · simp [World.cell?, hg, hj2]
    · simp [World.frozen?, hg]
end Go.Proofs.YtdmpkgdlelagjaaGreatDoor.Ts
