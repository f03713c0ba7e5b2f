/-
  Sets made of lists. Conditions: lists are not too long.
-/
import Derived.Test.YtbjpogeemajhoaaGreatRows
import Derived.Test.YtbjpogeemajhoaaGreatShIter
import Derived.Test.YtbjpogeemajhoaaGreatShShelf
import Derived.Lib.SlicesCompact
import Derived.Test.YtbjpogeemajhoaaGreatShCore
namespace Go.Proofs.YtbjpogeemajhoaaGreat.Sh
open Go.RowKit
open Key (lt)
open Ent (key)
section
variable {K : Type} [Key K]
/-- of a sorted list the list without its repetitions rises, and has the same members -/
theorem compact_rises [Ent K K] (hid : ∀ a : K, key a = a) {d : Array K} (hs : ∀ i j, i < j → j < d.size → lt d[j]! d[i]! = false) : Rises (Lib.compactUpTo d d.size) ∧ ∀ l, l ∈ Lib.compactUpTo d d.size ↔ l ∈ d.toList := by
  have key : ∀ m, m ≤ d.size → (Lib.compactUpTo d m).Pairwise (fun a b => lt a b = true) ∧ (∀ l, l ∈ Lib.compactUpTo d m ↔ ∃ i, i < m ∧ d[i]! = l) := by
    intro m
    induction m with
    | zero => intro _; refine ⟨by simp [Lib.compactUpTo], fun l => ?_⟩; simp [Lib.compactUpTo]
    | succ m ih =>
      intro hm
      obtain ⟨h1, h2⟩ := ih (by omega)
      rw [Lib.compactUpTo_succ]
      cases hk : Lib.keeps d m with
      | false =>
        have hk' : ¬ (m = 0 ∨ d[m]! ≠ d[m - 1]!) := by simpa [Lib.keeps] using hk
        have hm0 : m ≠ 0 := fun e => hk' (Or.inl e)
        have he : d[m]! = d[m - 1]! := Classical.byContradiction fun e => hk' (Or.inr e)
        simp only [Bool.false_eq_true, if_false, List.append_nil]
        refine ⟨h1, fun l => ⟨fun h => ?_, fun h => ?_⟩⟩
        · obtain ⟨i, hi, e⟩ := (h2 l).1 h; exact ⟨i, by omega, e⟩
        · obtain ⟨i, hi, e⟩ := h
          by_cases im : i = m
          · subst im; exact (h2 l).2 ⟨i - 1, by omega, by rw [← he]; exact e⟩
          · exact (h2 l).2 ⟨i, by omega, e⟩
      | true =>
        simp only [if_true]
        refine ⟨List.pairwise_append.2 ⟨h1, by simp, fun a ha b hb => ?_⟩, fun l => ⟨fun h => ?_, fun h => ?_⟩⟩
        · rw [List.mem_singleton] at hb
          subst hb
          obtain ⟨i, hi, e⟩ := (h2 a).1 ha
          subst e
          have hle := hs i m hi (by omega)
          rcases Key.tri d[i]! d[m]! with g | g | g
          · exact g
          · exfalso
            have hk' : m = 0 ∨ d[m]! ≠ d[m - 1]! := by simpa [Lib.keeps] using hk
            rcases hk' with e0 | e0
            · omega
            · by_cases im : i = m - 1
              · subst im; exact e0 g.symm
              · have l1 := hs i (m - 1) (by omega) (by omega)
                have l2 := hs (m - 1) m (by omega) (by omega)
                rw [g] at l1
                rcases Key.tri d[m - 1]! d[m]! with q | q | q
                · rw [l1] at q; cases q
                · exact e0 q.symm
                · rw [l2] at q; cases q
          · rw [hle] at g; cases g
        · rcases List.mem_append.1 h with g | g
          · obtain ⟨i, hi, e⟩ := (h2 l).1 g; exact ⟨i, by omega, e⟩
          · rw [List.mem_singleton] at g; exact ⟨m, by omega, g.symm⟩
        · obtain ⟨i, hi, e⟩ := h
          by_cases im : i = m
          · subst im; exact List.mem_append.2 (Or.inr (by simp [e]))
          · exact List.mem_append.2 (Or.inl ((h2 l).2 ⟨i, by omega, e⟩))
  obtain ⟨h1, h2⟩ := key d.size (Nat.le_refl _)
  refine ⟨?_, fun l => (h2 l).trans ⟨fun ⟨i, hi, e⟩ => ?_, fun h => ?_⟩⟩
  · unfold Rises
    refine h1.imp fun {a b} hab => ?_
    rw [hid, hid]; exact hab
  · subst e; rw [getElem!_pos d i hi]; simp
  · obtain ⟨i, hi, e⟩ := List.getElem_of_mem h
    have hi' : i < d.size := by simpa using hi
    exact ⟨i, hi', by rw [getElem!_pos d i hi', ← e]; simp⟩
end
theorem wrap64_succ (k : Nat) (h : k < 1000000) : wrap64 ((k : Int) + 1) = ((k + 1 : Nat) : Int) := IntWalk.wrap64_in _ ⟨by omega, by omega⟩
theorem measure_up (N k : Nat) (z : Int) (hz : z = ((k + 1 : Nat) : Int)) (h : k < N) : N - (intOf (.int .i64 z)).toNat < N - (intOf (.int .i64 (k : Int))).toNat := by
  subst hz
  show N - (((k + 1 : Nat) : Int)).toNat < N - ((k : Int)).toNat
  rw [Int.toNat_natCast, Int.toNat_natCast]
  omega
open Go.Sort in
/-- behind a row rewritten in place: it holds what was put there; no other block has changed -/
theorem row_turned {α : Type} [Inhabited α] (enc : α → Value) (w : World) (g off q : Nat) (d d' : Array α) (os : Array Obj) (hg : g < w.heap.size) (h : Holds enc w g off d) (hs : d'.size = d.size) :
    Holds enc (grow (putRow enc (Sort.ahead w q) g off d') os) g off d' ∧ w.grownBy (grow (putRow enc (Sort.ahead w q) g off d') os) (some g) := by
  have hsz : (putRow enc (Sort.ahead w q) g off d').heap.size = w.heap.size := by rw [Sort.size_putRow]; rfl
  refine ⟨holds_grow enc _ os g off d' (by rw [hsz]; exact hg) (holds_putRow enc _ g off d d' (holds_ahead enc w q g off d h) hs), ⟨rfl, rfl, rfl, ?_, fun k hk hne => ?_⟩⟩
  · rw [Sort.size_grow, hsz]; omega
  · rw [Sort.heap_grow_old _ _ (by rw [hsz]; exact hk)]
    simp only [Sort.putRow, Sort.mapBlock, Array.getElem?_modify]
    rw [if_neg (fun e => hne (by rw [e]))]
    rfl
end Go.Proofs.YtbjpogeemajhoaaGreat.Sh
namespace Go.Proofs.YtbjpogeemajhoaaGreat.Ti
open Go.RowKit Go.Shelf Sh
open Key (lt)
open Ent (key)
attribute [local go_sem] Oper.semAt_some fold_none

/-- a slice that can be read: its cells, below a bound -/
def Reads (n₀ : Nat) (W : World) (v : Value) (M : List Int) : Prop :=
  ∃ a cap, v = .slice a M.length cap ∧ (0 < M.length → ∃ g off, a = some ⟨g, off, none⟩ ∧ g < n₀ ∧ ∀ j, j < M.length → W.cell? ⟨g, off + j, none⟩ = some (.int .i64 ((M[j]?.getD default))))
theorem Reads.below {n₀ : Nat} {A B : World} (h : Below n₀ A B) {v : Value} {M : List Int} : Reads n₀ A v M → Reads n₀ B v M := fun ⟨a, cap, e, h1⟩ => ⟨a, cap, e, fun h0 => by
  obtain ⟨g, off, ea, hg, hc⟩ := h1 h0
  exact ⟨g, off, ea, hg, fun j hj => (h.cell (p := ⟨g, off + j, none⟩) hg).trans (hc j hj)⟩⟩

/-- a row of the call's own that holds a list -/
def Row (W : World) (g : Nat) (M : List Int) : Prop := (∃ cur z, W.heap[g]? = some (.cells cur 3 z)) ∧ ∀ j, j < M.length → W.cell? ⟨g, j, none⟩ = some (.int .i64 ((M[j]?.getD default))) ∧ W.frozen? ⟨g, j, none⟩ = false
theorem Row.lt {W : World} {g : Nat} {M : List Int} (h : Row W g M) : g < W.heap.size := by obtain ⟨⟨_, _, h1⟩, _⟩ := h; exact (Array.getElem?_eq_some_iff.1 h1).1
theorem Row.next {W W' : World} {g : Nat} {M : List Int} (h : Row W g M) (hb : Below W.heap.size W W') : Row W' g M := by
  have hlt := h.lt
  obtain ⟨⟨cur, z, h1⟩, h2⟩ := h
  exact ⟨⟨cur, z, (hb.block g hlt).trans h1⟩, fun j hj => ⟨(hb.cell (p := ⟨g, j, none⟩) hlt).trans (h2 j hj).1, (World.frozen?_of_block (hb.block g hlt)).trans (h2 j hj).2⟩⟩
theorem row_of_owns {W : World} {base : Nat} {u : Value} {M : List Int} (h : W.ownsRow base 3 1 u (keysV M).length (keysV M)) (hM : 0 < M.length) : ∃ g cap, u = .slice (some ⟨g, 0, none⟩) M.length cap ∧ M.length ≤ cap ∧ base ≤ g ∧ Row W g M := by
  have hlen := keysV_len M
  rcases h.2 with ⟨_, h0⟩ | ⟨g, cap, cur, rfl, hb, hg, hle, _, hs, ht⟩
  · omega
  · refine ⟨g, cap, by rw [hlen], by omega, hb, ⟨cur, _, hg⟩, fun j hj => ?_⟩
    have hj2 : cur[j]? = some (.int .i64 ((M[j]?.getD default))) := by
      have h1 : (cur.toList.take ((keysV M).length * 1))[j]? = (keysV M)[j]? := by rw [ht]
      rw [List.getElem?_take] at h1
      rw [if_pos (by omega)] at h1
      rw [← Array.getElem?_toList, h1]
      simp [keysV, List.getElem?_eq_getElem hj]
    constructor
    · simp [World.cell?, hg, hj2]
    · simp [World.frozen?, hg]
end Go.Proofs.YtbjpogeemajhoaaGreat.Ti
namespace Go.Proofs.YtbjpogeemajhoaaGreat.Ts
open Go.RowKit Go.Shelf Sh
open Key (lt)
open Ent (key)
attribute [local go_sem] Oper.semAt_some fold_none

/-- a slice that can be read: its cells, below a bound -/
def Reads (n₀ : Nat) (W : World) (v : Value) (M : List ByteArray) : Prop :=
  ∃ a cap, v = .slice a M.length cap ∧ (0 < M.length → ∃ g off, a = some ⟨g, off, none⟩ ∧ g < n₀ ∧ ∀ j, j < M.length → W.cell? ⟨g, off + j, none⟩ = some (.string ((M[j]?.getD default))))
theorem Reads.below {n₀ : Nat} {A B : World} (h : Below n₀ A B) {v : Value} {M : List ByteArray} : Reads n₀ A v M → Reads n₀ B v M := fun ⟨a, cap, e, h1⟩ => ⟨a, cap, e, fun h0 => by
  obtain ⟨g, off, ea, hg, hc⟩ := h1 h0
  exact ⟨g, off, ea, hg, fun j hj => (h.cell (p := ⟨g, off + j, none⟩) hg).trans (hc j hj)⟩⟩

set_option maxHeartbeats 1000000 in
theorem Values_calls (w : World) (a : Option Addr) (len cap : Nat) :
    Calls Tryz.prog 40 #[.slice a len cap] w fun e w' => e = .returned (.func (.func 62) #[] #[.pointer (some ⟨w.heap.size, 0, none⟩)]) ∧ w' = w.alloc (.cells #[.slice a len cap] 26) := by
  go_enter Tryz.func40, Tryz.ntmps40
  go_wp2
  go_ret
  exact ⟨rfl, rfl⟩

set_option maxRecDepth 100000 in
set_option maxHeartbeats 2000000 in
theorem values1_stops (n : Nat) (w : World) (B n₀ : Nat) (v : Value) (M : List ByteArray) (hM : M.length ≤ 1000000) (hn : n₀ ≤ w.heap.size) (hB : w.cell? ⟨B, 0, none⟩ = some v) (hv : Reads n₀ w v M) :
    SeqStopsK Fence.wide n Tryz.prog 62 #[.pointer (some ⟨B, 0, none⟩)] (fun x : ByteArray => #[.string x]) (Below n₀) (fun ys => ys = M) (fun pre => pre <+: M) M.length w := fun l J Jx W hW _ _ hY h0 => by
  have hlt : B < w.heap.size := World.block_lt_of_cell? w _ hB
  have hB' : W.cell? ⟨B, 0, none⟩ = some v := (hW.cell (p := ⟨B, 0, none⟩) hlt).trans hB
  obtain ⟨a, cap, rfl, hr⟩ := hv.below (hW.mono hn)
  clear hB hv hW hlt
  show CallsIn Fence.wide n Tryz.prog 62 #[.func (.yield l) #[] #[], .pointer (some ⟨B, 0, none⟩)] W _
  refine callsIn_of_wp Tryz.func62 rfl trivial ?_ rfl
  simp only [Tryz.ntmps62, List.size_toArray, List.length_cons, List.length_nil, Nat.reduceAdd, Nat.reduceSub, Array.replicate_succ, Array.replicate_zero, List.push_toArray, List.append_toArray, List.nil_append, List.cons_append]
  gi_wp2
  gi_loopw [7] (fun i wr => ∃ k : Nat, k ≤ M.length ∧ i = .int .i64 k ∧ J (M.take k) wr ∧ Below n₀ W wr) (fun i _ => M.length - (intOf i).toNat)
  case atStart => exact ⟨0, Nat.zero_le _, rfl, by simpa using h0, Below.refl _ _⟩
  case round =>
    obtain ⟨k, hk, rfl, hJs, hnx⟩ := hrel
    by_cases hlt : k < M.length
    · obtain ⟨g, off, rfl, hg, hc⟩ := hr (by omega)
      have hcx : wr.cell? ⟨g, off + k, none⟩ = some (.string ((M[k]?.getD default))) := (hnx.cell (p := ⟨g, off + k, none⟩) hg).trans (hc k hlt)
      obtain ⟨fn, tmps, assign, body, hy, hR⟩ := YieldAt.any (n - 1) (hY _ (M[k]?.getD default) wr hJs (by simp; omega))
      have htk : Hid (M.take k ++ [M[k]?.getD default] = M.take (k + 1)) := Lib.hid (by rw [List.take_add_one]; simp [List.getElem?_eq_getElem hlt])
      have hgo : Hid (∀ W3, J (M.take k ++ [M[k]?.getD default]) W3 → J (M.take (k + 1)) W3) := Lib.hid fun W3 h => by rw [← htk.out]; exact h
      have hgx : Hid (∀ W3, Jx (M.take k ++ [M[k]?.getD default]) W3 → Jx (M.take (k + 1)) W3) := Lib.hid fun W3 h => by rw [← htk.out]; exact h
      have hw1 : Hid (wrap64 ((k : Int) + 1) = ((k + 1 : Nat) : Int)) := Lib.hid (wrap64_succ k (by omega))
      have hlt0 : Hid (k < M.length) := Lib.hid hlt
      generalize M[k]?.getD default = x at *
      clear htk hc hr hY h0 hM
      gi_wp2
      refine ⟨deep _, ?_⟩
      refine hR.mono ?_
      rintro e W3 (⟨rfl, hJ3, hk3⟩ | ⟨rfl, hJx3⟩)
      · gi_wp2
        go_roundw
        case rel => exact ⟨k + 1, hlt0.out, by rw [hw1.out], hgo.out _ hJ3, hnx.trans hk3⟩
        case measure => exact measure_up M.length k _ hw1.out hlt0.out
      · gi_wp2
        refine bodyPost_ret (results_none rfl _ _ _) rfl ?_
        exact ⟨⟨_, rfl⟩, .inr ⟨_, List.take_prefix (k + 1) M, hgx.out _ hJx3⟩⟩
    · obtain rfl : k = M.length := by omega
      have g0 : ¬ (M.length : Int) < M.length := by omega
      clear hr hY
      gi_wp2
      go_end0
      exact ⟨⟨_, rfl⟩, .inl (by simpa using hJs)⟩

set_option maxRecDepth 100000 in
set_option maxHeartbeats 4000000 in
/-- what an iterator over a slice gives, appended to nothing: a slice of the call's own, nil where nothing came -/
theorem AppendSeq_calls (w : World) (B : Nat) (v : Value) (M : List ByteArray) (hM : M.length ≤ 1000000) (hB : w.cell? ⟨B, 0, none⟩ = some v) (hv : Reads w.heap.size w v M) :
    Calls Tryz.prog 80 #[.slice none 0 0, .func (.func 62) #[] #[.pointer (some ⟨B, 0, none⟩)]] w fun e w' => ∃ u, e = .returned u ∧ w'.ownsRow w.heap.size 9 1 u (keysV M).length (keysV M) ∧ (M = [] → u = .slice none 0 0) ∧ Below w.heap.size w w' := by
  obtain ⟨i0, hi, hz0, hz1, hz2⟩ := info_parts info_key
  have hlt : B < w.heap.size := World.block_lt_of_cell? w _ hB
  have b1 := b_alloc w (.cells #[.slice none 0 0] 26)
  have bO := Boxed.new w 26 (.slice none 0 0)
  have hst := values1_stops 2 (w.alloc (.cells #[.slice none 0 0] 26)) B w.heap.size v M hM b1.size ((b1.cell (p := ⟨B, 0, none⟩) hlt).trans hB) (hv.below b1)
  have hsz : (w.alloc (.cells #[.slice none 0 0] 26)).heap.size = w.heap.size + 1 := by simp
  clear hB hv hlt
  replace hst := Lib.hid hst
  replace b1 := Lib.hid b1
  replace bO := Lib.hid bO
  replace hsz := Lib.hid hsz
  refine (callsIn_wide (n := 3)).1 ?_
  refine callsIn_of_wp_marks Tryz.func80 rfl trivial ?_ rfl
  simp only [Tryz.ntmps80, List.size_toArray, List.length_cons, List.length_nil, Nat.reduceAdd, Nat.reduceSub, Array.replicate_succ, Array.replicate_zero, List.push_toArray, List.append_toArray, List.nil_append, List.cons_append]
  gi_wp2_with fail
  generalize w.alloc (.cells #[.slice none 0 0] 26) = W1 at *
  have bW := b1.out
  have hsz1 := hsz.out
  refine wpIn_rangeFunc_ownG rfl (by omega) (gf := 62) (lb := #[.pointer (some ⟨B, 0, none⟩)]) rfl trivial (enters_of Tryz.func62 (by kernel_rfl) rfl)
    hst.out belowK_t (belowK_b (by omega)) (Below.refl _ _) (fun _ => rfl)
    (fun pre W => (∃ v, Boxed W w.heap.size 26 v ∧ W.ownsRow w.heap.size 9 1 v (keysV pre).length (keysV pre) ∧ (pre = [] → v = .slice none 0 0)) ∧ Below w.heap.size w W)
    (fun _ _ _ => False)
    (OwnFrom.and (Own.from (holdsRow_own w.heap.size w.heap.size 26 9 1 (fun pre => (keysV pre).length) keysV (fun pre v => pre = [] → v = .slice none 0 0)) _) (ownFrom_below (Nat.le_refl _) (by omega)))
    (fun _ _ _ _ _ hs _ _ => hs)
    ⟨⟨_, bO.out, World.ownsRow_nil _ _ _ _, fun _ => rfl⟩, bW⟩
    (fun x => { tmps := #[.slice none 0 0, .func (.func 62) #[] #[.pointer (some ⟨B, 0, none⟩)], .pointer (some ⟨w.heap.size, 0, none⟩), undef, .slice none 0 0, .string x, .func (.func 62) #[] #[.pointer (some ⟨B, 0, none⟩)], .string x, undef, undef, undef, undef, undef], defers := [] }) ?assign ?body ?done ?stop
  case assign =>
    intro l x W K hK
    gi_wp2
    exact hK
  case body =>
    rintro l pre x W ⟨⟨v, hv, hrow, -⟩, hB⟩ hlt
    have hc := hv.cell
    have hp1 : Hid ((keysV pre).length < M.length) := Lib.hid (by rw [keysV_len]; exact hlt)
    have hp2 := Lib.hid (keysV_snoc pre x)
    generalize keysV pre = N at *
    gi_wp2_with (gi_at_builtin; refine wpListIn_append_own _ rfl _ _ 26 rfl w.heap.size 9 i0 (Value.string ByteArray.empty) 1 16 Tryz.underlying26 hi hz0 hz1 hz2 rfl (by decide) _ _ _ rfl (hrow.alloc _) ⟨W.heap.size, 0, none⟩ 1 1 [.string x] rfl rfl (cell_one_new _ _ _) (by simp [Value.oneCell']) (by have := hp1.out; simp [maxLen]; omega) (by have := hp1.out; omega) (by have := hB.size; simp; omega) ?_; intro v' w1 hown' hgrow _; obtain ⟨g', cap', rfl⟩ := ownsRow_succ hown'; obtain ⟨hv1, hv2, hr2, hk2, hb2⟩ := hv.appended (by decide) hrow hB.size (by omega) hown' hgrow; have hc1 := hv1.cell; have hf1 := hv1.frozen)
    have hl2 : Hid ((keysV (pre ++ [x])).length = N.length + 1) := Lib.hid (by rw [hp2.out]; simp)
    exact ⟨hk2.from _, hb2, ⟨_, hv2, by rw [hl2.out, hp2.out]; exact hr2, fun h => by simp at h⟩, hB.trans hb2⟩
  case done =>
    rintro D ys W hD rfl ⟨⟨v, hv, hrow, hnil⟩, hB⟩ hK
    have hc := hv.cell
    gi_wp2
    refine ⟨by simp, .inl ⟨_, _, rfl, run_takeDeferred hK, ?_⟩⟩
    exact ⟨_, results_tmp rfl _ _ _, v, rfl, ownsRow_putObj hrow _ hK rfl, hnil, hB.trans (belowK_b (w := w) (Nat.le_refl _) W D _ _ (by omega) hK rfl rfl)⟩
  case stop =>
    rintro D c pre W _ _ h _
    exact h.elim

/-- a row of the call's own that holds a list -/
def Row (W : World) (g : Nat) (M : List ByteArray) : Prop := (∃ cur z, W.heap[g]? = some (.cells cur 9 z)) ∧ ∀ j, j < M.length → W.cell? ⟨g, j, none⟩ = some (.string ((M[j]?.getD default))) ∧ W.frozen? ⟨g, j, none⟩ = false
theorem Row.lt {W : World} {g : Nat} {M : List ByteArray} (h : Row W g M) : g < W.heap.size := by obtain ⟨⟨_, _, h1⟩, _⟩ := h; exact (Array.getElem?_eq_some_iff.1 h1).1
theorem Row.next {W W' : World} {g : Nat} {M : List ByteArray} (h : Row W g M) (hb : Below W.heap.size W W') : Row W' g M := by
  have hlt := h.lt
  obtain ⟨⟨cur, z, h1⟩, h2⟩ := h
  exact ⟨⟨cur, z, (hb.block g hlt).trans h1⟩, fun j hj => ⟨(hb.cell (p := ⟨g, j, none⟩) hlt).trans (h2 j hj).1, (World.frozen?_of_block (hb.block g hlt)).trans (h2 j hj).2⟩⟩
theorem row_of_owns {W : World} {base : Nat} {u : Value} {M : List ByteArray} (h : W.ownsRow base 9 1 u (keysV M).length (keysV M)) (hM : 0 < M.length) : ∃ g cap, u = .slice (some ⟨g, 0, none⟩) M.length cap ∧ M.length ≤ cap ∧ base ≤ g ∧ Row W g M := by
  have hlen := keysV_len M
  rcases h.2 with ⟨_, h0⟩ | ⟨g, cap, cur, rfl, hb, hg, hle, _, hs, ht⟩
  · omega
  · refine ⟨g, cap, by rw [hlen], by omega, hb, ⟨cur, _, hg⟩, fun j hj => ?_⟩
    have hj2 : cur[j]? = some (.string ((M[j]?.getD default))) := by
      have h1 : (cur.toList.take ((keysV M).length * 1))[j]? = (keysV M)[j]? := by rw [ht]
      rw [List.getElem?_take] at h1
      rw [if_pos (by omega)] at h1
      rw [← Array.getElem?_toList, h1]
      simp [keysV, List.getElem?_eq_getElem hj]
    constructor
    · simp [World.cell?, hg, hj2]
    · simp [World.frozen?, hg]
end Go.Proofs.YtbjpogeemajhoaaGreat.Ts
namespace Go.Proofs.YtbjpogeemajhoaaGreat.Sh
open Go Go.RowKit
theorem wrap64_small (k : Nat) (h : k < 1000000) : wrap64 (k : Int) = (k : Int) := IntWalk.wrap64_in _ ⟨by omega, by omega⟩
end Go.Proofs.YtbjpogeemajhoaaGreat.Sh
namespace Go.Proofs.YtbjpogeemajhoaaGreat.Ti
open Go.RowKit Sh
attribute [local go_sem] fold_none

end Go.Proofs.YtbjpogeemajhoaaGreat.Ti
namespace Go.Proofs.YtbjpogeemajhoaaGreat.Ts
open Go.RowKit Sh
attribute [local go_sem] fold_none

set_option maxHeartbeats 4000000 in
set_option maxRecDepth 100000 in
theorem grown_calls : ∀ (n : Nat) (M : List ByteArray) (W : World) (a : Option Addr) (g off cap : Nat), M.length = n → n < 900000 → n ≤ cap → 0 ≤ cap → (0 < n → a = some ⟨g, off, none⟩) → (∀ j, j < M.length → W.cell? ⟨g, off + j, none⟩ = some (.string ((M[j]?.getD default)))) →
    Calls Tryz.prog 59 #[.slice a n cap] W (GivesL W M) := by
  intro n
  induction n using Nat.strongRecOn with
  | ind n ih =>
    intro M W a g off cap hlen hn hcap hbig ha hc
    by_cases h0 : n = 0
    · subst h0
      obtain rfl : M = [] := List.length_eq_zero_iff.1 hlen
      have hend : Hid (GivesL W ([] : List ByteArray) (.returned (.pointer none)) W) := Lib.hid (GivesL.mk (T := .nil) rfl rfl (Below.refl _ _))
      clear ih ha hc hcap
      go_enter Tryz.func59, Tryz.ntmps59
      go_wp2
      go_ret
      exact hend.out
    · obtain rfl := ha (by omega)
      obtain ⟨m, hm⟩ : ∃ m, m = n / 2 := ⟨_, rfl⟩
      have hmn : m < n := by omega
      obtain ⟨m1, hm1⟩ : ∃ m1, m1 = m + 1 := ⟨_, rfl⟩
      obtain ⟨x, hx⟩ : ∃ x, x = M[m]?.getD default := ⟨_, rfl⟩
      have cx : W.cell? ⟨g, off + m, none⟩ = some (.string x) := by rw [hx]; exact hc m (by omega)
      obtain ⟨M1, hM1⟩ : ∃ M1, M1 = M.take m := ⟨_, rfl⟩
      obtain ⟨M2, hM2⟩ : ∃ M2, M2 = M.drop (m + 1) := ⟨_, rfl⟩
      have hM : M = M1 ++ x :: M2 := by
        rw [hM1, hM2, hx, List.getElem?_eq_getElem (by omega)]
        simp
      have hl1 : M1.length = m := by rw [hM1]; simp; omega
      have hl2 : M2.length = n - (m + 1) := by rw [hM2]; simp; omega
      have hlt : g < W.heap.size := World.block_lt_of_cell? W _ cx
      have hB : Hid (∀ w' off' cap', Below W.heap.size W w' → ((cap = m1 ∧ off' = off ∧ cap' = 0) ∨ (cap ≠ m1 ∧ off' = off + m1 ∧ cap' = cap - m1)) → Calls Tryz.prog 59 #[.slice (some ⟨g, off', none⟩) (n - m1) cap'] w' (GivesL w' M2)) := by
        subst hm1
        refine Lib.hid fun w' off' cap' h hq => ?_
        rcases hq with ⟨hq, rfl, rfl⟩ | ⟨hq, rfl, rfl⟩
        · exact ih (n - (m + 1)) (by omega) M2 w' _ g off' 0 hl2 (by omega) (by omega) (by omega) (fun _ => rfl) (fun j hj => by omega)
        · exact ih (n - (m + 1)) (by omega) M2 w' (some ⟨g, off + (m + 1), none⟩) g (off + (m + 1)) (cap - (m + 1)) hl2 (by omega) (by omega) (by omega) (fun _ => rfl) (fun j hj => by
            rw [h.cell (p := ⟨g, off + (m + 1) + j, none⟩) hlt, show off + (m + 1) + j = off + (m + 1 + j) by omega, hc (m + 1 + j) (by omega), hM]
            rw [List.getElem?_append_right (by omega)]
            rw [show m + 1 + j - M1.length = j + 1 by omega, List.getElem?_cons_succ])
      have hA := Lib.hid fun w' (h : Below W.heap.size W w') => ih m (by omega) M1 w' (some ⟨g, off, none⟩) g off cap hl1 (by omega) (by omega) (Nat.zero_le _) (fun _ => rfl) (fun j hj => by
        rw [h.cell (p := ⟨g, off + j, none⟩) hlt, hc j (by omega), hM]
        rw [List.getElem?_append_left (by omega)])
      have hE : Hid (∀ w' b pA pB TA TB, Below W.heap.size W w' → Node w' b x none none 0 → IsTree w' pA TA → TA.flat = M1 → IsTree w' pB TB → TB.flat = M2 → Calls Tryz.prog 79 #[.pointer (some ⟨b, 0, none⟩), .pointer pA, .pointer pB] w' (GivesL W M)) := Lib.hid fun w' b pA pB TA TB hb hN tA fA tB fB => by
        have n1 : TA.num = m := by show TA.flat.length = m; rw [fA, hl1]
        have n2 : TB.num = n - (m + 1) := by show TB.flat.length = _; rw [fB, hl2]
        refine (over_calls w' b 0 x none none pA pB TA TB hN tA tB (by omega)).mono fun e w2 h => h.flat hb ?_
        rw [hM, ← fA, ← fB]; rfl
      have hN := Lib.hid fun w' (h : Below (W.heap.size + 1) (W.alloc (.cells #[.string x, .pointer none, .pointer none, .int .i64 0] 118)) w') => (show Node w' W.heap.size x none none 0 from (h.block W.heap.size (by omega)).trans (Node.new W x none none 0))
      have b0 := b_alloc W (.cells #[.string x, .pointer none, .pointer none, .int .i64 0] 118)
      have i0 : (n : Int) / 2 = (m : Int) := by omega
      have i2 : (m : Int) < n := by omega
      have i3 : (0 : Int) ≤ m := by omega
      have hm3 : m < 1000000 := by omega
      have i5 : (m1 : Int) ≤ n := by omega
      have i9 : m1 ≤ n := by omega
      have i10 : (n : Int) ≤ cap := by omega
      have i11 : (0 : Int) ≤ m1 := by omega
      have i6 : (m : Int) ≤ cap := by omega
      have i7 : ((n : Int) == 0) = false := by simp; omega
      have i12 : ¬ n = 0 := h0
      have i4 : IntKind.i64.wrap ((m : Int) + 1) = (m1 : Int) := by rw [hm1]; exact wrap_nat (m + 1) (Nat.le_trans hm3 (by decide))
      have i1 : wrap64 ((n : Int) / 2) = (m : Int) := by rw [i0]; exact wrap64_small m hm3
      clear ih hc hM hl1 hl2 hM1 hM2 hm hx hlen hlt hn hbig ha hm1 hm3 i0
      by_cases hce : cap = m1
      · subst hce
        have hzz : Hid (n - cap = 0) := Lib.hid (by omega)
        have hB2 : Hid (∀ w' k, Below W.heap.size W w' → k = 0 → Calls Tryz.prog 59 #[.slice (some ⟨g, off, none⟩) k 0] w' (GivesL w' M2)) := Lib.hid fun w' k h hk => by
          have := hB.out w' off 0 h (Or.inl ⟨rfl, rfl, rfl⟩)
          rw [hzz.out] at this; rw [hk]; exact this
        clear hB
        go_enter Tryz.func59, Tryz.ntmps59
        go_wp2_with fail
        have bc := b_then b0 (b_drew _)
        have bn : Below (W.heap.size + 1) (W.alloc (.cells #[.string x, .pointer none, .pointer none, .int .i64 0] 118)) (W.alloc (.cells #[.string x, .pointer none, .pointer none, .int .i64 0] 118)).drew := ⟨rfl, rfl, rfl, Nat.le_refl _, fun _ _ => rfl⟩
        have hsz : Hid (W.heap.size + 1 ≤ (W.alloc (.cells #[.string x, .pointer none, .pointer none, .int .i64 0] 118)).drew.heap.size) := Lib.hid (by simp)
        go_region_held3 (fun _ => True) (exact trivial)
          (first
            | (go_at_call 59; refine (hA.out _ bc).mono ?_; clear hA; rintro e w1 ⟨pA, TA, rfl, tA, fA, b1⟩; replace fA := Lib.hid fA; have b1n := bn.trans (b1.mono hsz.out); have hz1 : Hid (W.heap.size + 1 ≤ w1.heap.size) := Lib.hid (Nat.le_trans hsz.out b1.size); replace bc := b_then bc b1; clear b1)
            | (go_at_call 59; refine (hB2.out _ _ bc (by first | rfl | exact hzz.out)).mono ?_; clear hB2; rintro e w2 ⟨pB, TB, rfl, tB, fB, b2⟩; replace fB := Lib.hid fB; have b2n := b1n.trans (b2.mono hz1.out); replace tA := IsTree.next tA b2; replace bc := b_then bc b2; clear b2)
            | (go_at_call 79; refine (hE.out _ _ _ _ _ _ bc (hN.out _ b2n) tA fA.out tB fB.out).mono ?_; rintro e w3 h3; have h4 := Lib.hid h3; obtain ⟨p3, T3, rfl, -⟩ := h3))
        all_goals
          go_wp2
          go_ret
          exact h4.out
      · have hB2 := Lib.hid fun w' (h : Below W.heap.size W w') => hB.out w' (off + m1) (cap - m1) h (Or.inr ⟨hce, rfl, rfl⟩)
        clear hB
        have j1 : m1 < cap := by omega
        have j2 : ¬ cap ≤ m1 := by omega
        have j3 : ¬ cap - m1 = 0 := by omega
        go_enter Tryz.func59, Tryz.ntmps59
        go_wp2_with fail
        have bc := b_then b0 (b_drew _)
        have bn : Below (W.heap.size + 1) (W.alloc (.cells #[.string x, .pointer none, .pointer none, .int .i64 0] 118)) (W.alloc (.cells #[.string x, .pointer none, .pointer none, .int .i64 0] 118)).drew := ⟨rfl, rfl, rfl, Nat.le_refl _, fun _ _ => rfl⟩
        have hsz : Hid (W.heap.size + 1 ≤ (W.alloc (.cells #[.string x, .pointer none, .pointer none, .int .i64 0] 118)).drew.heap.size) := Lib.hid (by simp)
        go_region_held3 (fun _ => True) (exact trivial)
          (first
            | (go_at_call 59; refine (hA.out _ bc).mono ?_; clear hA; rintro e w1 ⟨pA, TA, rfl, tA, fA, b1⟩; replace fA := Lib.hid fA; have b1n := bn.trans (b1.mono hsz.out); have hz1 : Hid (W.heap.size + 1 ≤ w1.heap.size) := Lib.hid (Nat.le_trans hsz.out b1.size); replace bc := b_then bc b1; clear b1)
            | (go_at_call 59; refine (hB2.out _ bc).mono ?_; clear hB2; rintro e w2 ⟨pB, TB, rfl, tB, fB, b2⟩; replace fB := Lib.hid fB; have b2n := b1n.trans (b2.mono hz1.out); replace tA := IsTree.next tA b2; replace bc := b_then bc b2; clear b2)
            | (go_at_call 79; refine (hE.out _ _ _ _ _ _ bc (hN.out _ b2n) tA fA.out tB fB.out).mono ?_; rintro e w3 h3; have h4 := Lib.hid h3; obtain ⟨p3, T3, rfl, -⟩ := h3))
        all_goals
          go_wp2
          go_ret
          exact h4.out
end Go.Proofs.YtbjpogeemajhoaaGreat.Ts
namespace Go.Proofs.YtbjpogeemajhoaaGreat.Sh
open Go.RowKit
open Go.Sort
/-- the sort's own order is the keys' -/
theorem merge_sorted (zs : List Int) : ∀ i j, i < j → j < (zs.mergeSort fun x y => decide (x ≤ y)).toArray.size → Key.lt (zs.mergeSort fun x y => decide (x ≤ y)).toArray[j]! (zs.mergeSort fun x y => decide (x ≤ y)).toArray[i]! = false := by
  intro i j hij hj
  have h := List.pairwise_mergeSort (le := fun x y : Int => decide (x ≤ y)) (fun a b c h1 h2 => by simp at *; omega) (fun a b => by simp; omega) zs
  have hj' : j < (zs.mergeSort fun x y => decide (x ≤ y)).length := by simpa using hj
  have h2 := List.pairwise_iff_getElem.1 h i j (by omega) hj' hij
  rw [getElem!_pos _ j (by simpa using hj'), getElem!_pos _ i (by simp; simp at hj'; omega)]
  show decide (_ < _) = false
  simp at h2 ⊢
  omega
/-- a text as the library's sort has it -/
def raw (b : ByteArray) : List UInt8 := b.data.toList
def unraw (l : List UInt8) : ByteArray := ⟨l.toArray⟩
theorem unraw_raw (b : ByteArray) : unraw (raw b) = b := by cases b; simp [raw, unraw]
theorem raw_unraw (l : List UInt8) : raw (unraw l) = l := by simp [raw, unraw]
theorem toList_raw (b : ByteArray) : b.toList = raw b := by rw [ByteArray.toList_eq]; rfl
theorem raw_tri (a b : List UInt8) : Op.bytesLess a b = true ∨ a = b ∨ Op.bytesLess b a = true := by
  have := bytes_tri (unraw a) (unraw b)
  rw [toList_raw, toList_raw, raw_unraw, raw_unraw] at this
  exact this.imp id (Or.imp (fun e => by rw [← raw_unraw a, e, raw_unraw]) id)
theorem enc_raw (b : ByteArray) : encStr (raw b) = Value.string b := by cases b; simp [raw, encStr]
instance : Key (List UInt8) := { dec := inferInstance, default := [], lt := fun a b => Op.bytesLess a b, irr := fun _ => Pa.less_irrefl _, tri := raw_tri, tra := fun _ _ _ h g => Pa.less_trans _ _ _ h g }
instance : Ent (List UInt8) (List UInt8) := { default := [], key := fun a => a }
theorem lt_raw (a b : List UInt8) : Key.lt (unraw a) (unraw b) = Key.lt a b := by
  show Op.bytesLess _ _ = Op.bytesLess _ _
  rw [toList_raw, toList_raw, raw_unraw, raw_unraw]
theorem lt_raw' (a b : ByteArray) : Key.lt (raw a) (raw b) = Key.lt a b := by rw [← lt_raw, unraw_raw, unraw_raw]
theorem merge_texts (zs : List (List UInt8)) : (zs.mergeSort fun x y => decide (x ≤ y)).Pairwise fun x y => Key.lt y x = false := by
  have h := List.pairwise_mergeSort (le := fun x y : List UInt8 => decide (x ≤ y)) (fun a b c h1 h2 => by simp at *; exact List.le_trans h1 h2) (fun a b => by simp; exact List.le_total a b) zs
  refine h.imp fun {a b} hab => ?_
  show Op.bytesLess b a = false
  rw [Proofs.bytesLess_eq]
  simpa using hab
end Go.Proofs.YtbjpogeemajhoaaGreat.Sh
namespace Go.Proofs.YtbjpogeemajhoaaGreat.Ti
open Go.RowKit Go.Shelf Sh
open Key (lt)
open Ent (key)
attribute [local go_sem] fold_none

end Go.Proofs.YtbjpogeemajhoaaGreat.Ti
namespace Go.Proofs.YtbjpogeemajhoaaGreat.Ts
open Go.RowKit Go.Shelf Sh
open Key (lt)
open Ent (key)
attribute [local go_sem] fold_none

theorem Collect_calls (w : World) (B : Nat) (v : Value) (M : List ByteArray) (hM : M.length ≤ 1000000) (hB : w.cell? ⟨B, 0, none⟩ = some v) (hv : Reads w.heap.size w v M) :
    Calls Tryz.prog 60 #[.func (.func 62) #[] #[.pointer (some ⟨B, 0, none⟩)]] w fun e w' => ∃ u, e = .returned u ∧ w'.ownsRow w.heap.size 9 1 u (keysV M).length (keysV M) ∧ (M = [] → u = .slice none 0 0) ∧ Below w.heap.size w w' := by
  have hA := Lib.hid (AppendSeq_calls w B v M hM hB hv)
  clear hB hv hM
  go_enter Tryz.func60, Tryz.ntmps60
  go_wp2_with fail
  refine hA.out.mono ?_
  rintro e w' ⟨u, rfl, h1, h2, h3⟩
  have hu : ∃ a n c, u = .slice a n c := by
    rcases h1.2 with ⟨rfl, _⟩ | ⟨g, cap, cur, rfl, _⟩
    · exact ⟨_, _, _, rfl⟩
    · exact ⟨_, _, _, rfl⟩
  obtain ⟨a, n, c, rfl⟩ := hu
  replace h1 := Lib.hid h1
  replace h2 := Lib.hid h2
  go_wp2
  go_ret
  exact ⟨_, rfl, h1.out, h2.out, h3⟩

end Go.Proofs.YtbjpogeemajhoaaGreat.Ts
namespace Go.Proofs.YtbjpogeemajhoaaGreat.Ti
open Go.RowKit Go.Shelf Sh
open Go.Sort in
theorem holds_row {W : World} {g : Nat} {M : List Int} : Row W g M ↔ (∃ cur z, W.heap[g]? = some (.cells cur 3 z)) ∧ Holds (Value.int .i64) W g 0 M.toArray := by
  refine and_congr Iff.rfl ⟨fun h j hj => ?_, fun h j hj => ?_⟩
  · have hj' : j < M.length := by simpa using hj
    have := h j hj'
    rw [Nat.zero_add, getElem!_pos _ j hj]
    simpa [List.getElem?_eq_getElem hj'] using this
  · have hj' : j < M.toArray.size := by simpa using hj
    have := h j hj'
    rw [Nat.zero_add, getElem!_pos _ j hj'] at this
    simpa [List.getElem?_eq_getElem hj] using this

open Go.Sort in
theorem shape_turned {W : World} {g q : Nat} {cur : Array Value} {z : Nat × Nat} {d' : Array Int} {os : Array Obj} (h : W.heap[g]? = some (.cells cur 3 z)) : ∃ cur z, (grow (putRow (Value.int .i64) (Sort.ahead W q) g 0 d') os).heap[g]? = some (.cells cur 3 z) := by
  have hlt := (Array.getElem?_eq_some_iff.1 h).1
  rw [Sort.heap_grow_old _ _ (by rw [Sort.size_putRow]; exact hlt)]
  simp only [Sort.putRow, Sort.mapBlock, Array.getElem?_modify]
  rw [if_pos trivial]
  show ∃ cur z, Option.map _ W.heap[g]? = _
  rw [h]
  exact ⟨_, _, rfl⟩


end Go.Proofs.YtbjpogeemajhoaaGreat.Ti
namespace Go.Proofs.YtbjpogeemajhoaaGreat.Ts
open Go.RowKit Go.Shelf Sh
open Go.Sort in
theorem holds_row {W : World} {g : Nat} {M : List ByteArray} : Row W g M ↔ (∃ cur z, W.heap[g]? = some (.cells cur 9 z)) ∧ Holds encStr W g 0 (M.map raw).toArray := by
  refine and_congr Iff.rfl ⟨fun h j hj => ?_, fun h j hj => ?_⟩
  · have hj' : j < M.length := by simpa using hj
    have := h j hj'
    rw [Nat.zero_add, getElem!_pos _ j hj]
    simpa [List.getElem?_eq_getElem hj', enc_raw] using this
  · have hj' : j < (M.map raw).toArray.size := by simpa using hj
    have := h j hj'
    rw [Nat.zero_add, getElem!_pos _ j hj'] at this
    simpa [List.getElem?_eq_getElem hj, enc_raw] using this
open Go.Sort in
theorem shape_turned {W : World} {g q : Nat} {cur : Array Value} {z : Nat × Nat} {d' : Array (List UInt8)} {os : Array Obj} (h : W.heap[g]? = some (.cells cur 9 z)) : ∃ cur z, (grow (putRow encStr (Sort.ahead W q) g 0 d') os).heap[g]? = some (.cells cur 9 z) := by
  have hlt := (Array.getElem?_eq_some_iff.1 h).1
  rw [Sort.heap_grow_old _ _ (by rw [Sort.size_putRow]; exact hlt)]
  simp only [Sort.putRow, Sort.mapBlock, Array.getElem?_modify]
  rw [if_pos trivial]
  show ∃ cur z, Option.map _ W.heap[g]? = _
  rw [h]
  exact ⟨_, _, rfl⟩

open Go.Sort in
theorem SortRow_calls (w : World) (g cap : Nat) (M : List ByteArray) (hM : M.length ≤ 1000000) (hrow : Row w g M) :
    Calls Tryz.prog 61 #[.slice (some ⟨g, 0, none⟩) M.length cap] w fun e w' => e = .returned (.tuple #[]) ∧ ∃ D : List ByteArray, Row w' g D ∧ (∀ x, x ∈ D ↔ x ∈ M) ∧ D.length = M.length ∧ (∀ i j, i < j → j < D.toArray.size → Key.lt D.toArray[j]! D.toArray[i]! = false) ∧ w.grownBy w' (some g) := by
  obtain ⟨⟨cur, z, hsh⟩, hH⟩ := holds_row.1 hrow
  have hlt := hrow.lt
  have h := Any.slices_Sort_string Tryz.sortString g 0 cap (M.map raw) w hH hlt (by simp; omega)
  rw [List.length_map] at h
  refine h.mono ?_
  rintro e w2 ⟨rfl, n, os, rfl⟩
  obtain ⟨N, hN⟩ : ∃ N, N = (M.map raw).mergeSort fun x y => decide (x ≤ y) := ⟨_, rfl⟩
  have hp : N.Perm (M.map raw) := by rw [hN]; exact List.mergeSort_perm _ _
  have hN2 : (N.map unraw).map raw = N := by rw [List.map_map, show raw ∘ unraw = id from funext raw_unraw, List.map_id]
  rw [← hN]
  obtain ⟨t1, t2⟩ := row_turned encStr w g 0 n (M.map raw).toArray N.toArray os hlt hH (by rw [List.size_toArray, List.size_toArray]; exact hp.length_eq)
  have hsh2 := shape_turned (q := n) (d' := N.toArray) (os := os) hsh
  refine ⟨rfl, N.map unraw, holds_row.2 ⟨hsh2, by rw [hN2]; exact t1⟩, fun x => ?_, by rw [List.length_map, hp.length_eq, List.length_map], ?_, t2⟩
  · rw [List.mem_map]
    constructor
    · rintro ⟨l, h1, rfl⟩
      obtain ⟨y, h2, rfl⟩ := List.mem_map.1 (hp.mem_iff.1 h1)
      rw [unraw_raw]; exact h2
    · intro h1
      exact ⟨raw x, hp.mem_iff.2 (List.mem_map.2 ⟨x, h1, rfl⟩), unraw_raw x⟩
  · intro i j hij hj
    have hj' : j < N.length := by simpa using hj
    have h2 := List.pairwise_iff_getElem.1 (merge_texts (M.map raw)) i j (by rw [← hN]; omega) (by rw [← hN]; exact hj') hij
    have hi' : i < (N.map unraw).toArray.size := by simpa using Nat.lt_trans hij hj'
    rw [getElem!_pos _ j hj, getElem!_pos _ i hi']
    simp only [← hN] at h2
    simpa [lt_raw] using h2
theorem SortNone_calls (w : World) : Calls Tryz.prog 61 #[.slice none 0 0] w fun e w' => e = .returned (.tuple #[]) ∧ w' = w := Any.slices_Sort_string_none Tryz.sortString none 0 w
theorem CompactNone_calls (w : World) : Calls Tryz.prog 38 #[.slice none 0 0] w fun e w' => e = .returned (.slice none 0 0) ∧ w' = w := Any.slices_Compact_string_empty Tryz.compactString none 0 w
open Go.Sort in
theorem CompactRow_calls (w : World) (g cap : Nat) (D : List ByteArray) (hD : D.length ≤ 1000000) (hle : D.length ≤ cap) (hrow : Row w g D) (hsort : ∀ i j, i < j → j < D.toArray.size → Key.lt D.toArray[j]! D.toArray[i]! = false) :
    Calls Tryz.prog 38 #[.slice (some ⟨g, 0, none⟩) D.length cap] w fun e w' => ∃ L : List ByteArray, e = .returned (.slice (some ⟨g, 0, none⟩) L.length cap) ∧ Rises L ∧ (∀ x, x ∈ L ↔ x ∈ D) ∧ L.length ≤ D.length ∧ (∀ j, j < L.length → w'.cell? ⟨g, 0 + j, none⟩ = some (.string (L[j]?.getD default))) ∧ w.grownBy w' (some g) := by
  obtain ⟨⟨cur, z, hsh⟩, hH⟩ := holds_row.1 hrow
  obtain ⟨N, hN⟩ : ∃ N, D.map raw = N := ⟨_, rfl⟩
  have hND : N.length = D.length := by rw [← hN]; simp
  have hsN : ∀ i j, i < j → j < N.toArray.size → Key.lt N.toArray[j]! N.toArray[i]! = false := fun i j hij hj => by
    have hj' : j < D.length := by rw [← hND]; simpa using hj
    have := hsort i j hij (by simpa using hj')
    rw [getElem!_pos _ j (by simpa using hj'), getElem!_pos _ i (by simp; omega)] at this
    rw [getElem!_pos _ j hj, getElem!_pos _ i (by simp at hj ⊢; omega)]
    subst hN
    simpa [lt_raw'] using this
  have hcm := compact_rises (K := List UInt8) (fun a => rfl) hsN
  have hce : Lib.compact N = Lib.compactUpTo N.toArray N.toArray.size := by simp [Lib.compact]
  have hlt := hrow.lt
  rw [hN] at hH
  have h := Any.slices_Compact_string Tryz.compactString g 0 cap N w hH (by omega) (by omega)
  rw [hND] at h
  refine h.mono ?_
  rintro e w3 ⟨rfl, q, rfl⟩
  have hll := Lib.compact_length_le N
  have hsz : (Lib.compact N ++ List.replicate (D.length - (Lib.compact N).length) []).toArray.size = N.toArray.size := by simp; omega
  obtain ⟨t1, t2⟩ := row_turned encStr w g 0 q N.toArray (Lib.compact N ++ List.replicate (D.length - (Lib.compact N).length) []).toArray #[] hlt hH hsz
  rw [Sort.grow_empty] at t1 t2
  refine ⟨(Lib.compact N).map unraw, by rw [List.length_map], ?_, fun x => ?_, by rw [List.length_map]; omega, fun j hj => ?_, t2⟩
  · rw [hce]
    exact List.pairwise_map.2 (hcm.1.imp fun {a b} h => by rw [← lt_raw] at h; exact h)
  · rw [List.mem_map]
    constructor
    · rintro ⟨l, h1, rfl⟩
      rw [hce, hcm.2] at h1
      rw [List.mem_toArray.symm.trans Array.mem_toList_iff.symm] at h1
      subst hN
      obtain ⟨y, h2, rfl⟩ := List.mem_map.1 (by simpa using h1)
      rw [unraw_raw]; exact h2
    · intro h1
      refine ⟨raw x, ?_, unraw_raw x⟩
      rw [hce, hcm.2]
      subst hN
      simpa using ⟨x, h1, rfl⟩
  · have hj2 : j < (Lib.compact N).length := by simpa using hj
    have := (t1 j (by rw [hsz]; simp; omega)).1
    rw [getElem!_pos _ j (by rw [hsz]; simp; omega)] at this
    simpa [List.getElem?_eq_getElem hj2, List.getElem_append_left hj2, unraw] using this
end Go.Proofs.YtbjpogeemajhoaaGreat.Ts
namespace Go.Proofs.YtbjpogeemajhoaaGreat.Ti
open Go.RowKit Go.Shelf Sh
open Key (lt)
open Ent (key)
attribute [local go_sem] fold_none
/-- a sorted row -/
def Srt (w : World) (M : List Int) (e : Ending) (w' : World) : Prop :=
  (M = [] ∧ e = .returned (.slice none 0 0) ∧ Below w.heap.size w w') ∨
  ∃ g cap D, e = .returned (.slice (some ⟨g, 0, none⟩) D.length cap) ∧ D.length ≤ cap ∧ w.heap.size ≤ g ∧ Row w' g D ∧ (∀ x, x ∈ D ↔ x ∈ M) ∧ D.length = M.length ∧ (∀ i j, i < j → j < D.toArray.size → lt D.toArray[j]! D.toArray[i]! = false) ∧ Below w.heap.size w w'

/-- the rising list of a list's members -/
def IsOf (M L : List Int) : Prop := Rises L ∧ (∀ x, x ∈ L ↔ x ∈ M) ∧ L.length ≤ M.length
end Go.Proofs.YtbjpogeemajhoaaGreat.Ti
namespace Go.Proofs.YtbjpogeemajhoaaGreat.Ts
open Go.RowKit Go.Shelf Sh
open Key (lt)
open Ent (key)
attribute [local go_sem] fold_none
/-- a sorted row -/
def Srt (w : World) (M : List ByteArray) (e : Ending) (w' : World) : Prop :=
  (M = [] ∧ e = .returned (.slice none 0 0) ∧ Below w.heap.size w w') ∨
  ∃ g cap D, e = .returned (.slice (some ⟨g, 0, none⟩) D.length cap) ∧ D.length ≤ cap ∧ w.heap.size ≤ g ∧ Row w' g D ∧ (∀ x, x ∈ D ↔ x ∈ M) ∧ D.length = M.length ∧ (∀ i j, i < j → j < D.toArray.size → lt D.toArray[j]! D.toArray[i]! = false) ∧ Below w.heap.size w w'

set_option maxHeartbeats 2000000 in
theorem Sorted_calls (w : World) (B : Nat) (v : Value) (M : List ByteArray) (hM : M.length ≤ 1000000) (hB : w.cell? ⟨B, 0, none⟩ = some v) (hv : Reads w.heap.size w v M) :
    Calls Tryz.prog 39 #[.func (.func 62) #[] #[.pointer (some ⟨B, 0, none⟩)]] w (Srt w M) := by
  have hC := Lib.hid (Collect_calls w B v M hM hB hv)
  clear hB hv
  by_cases h0 : M = []
  · have hS := Lib.hid fun w' => SortNone_calls w'
    go_enter Tryz.func39, Tryz.ntmps39
    go_wp2_with fail
    refine hC.out.mono ?_
    rintro e w' ⟨u, rfl, h1, h2, h3⟩
    obtain rfl := h2 h0
    clear h1 h2 hC
    go_wp2_with (go_at_call 61; refine (hS.out _).mono ?_; rintro e w2 ⟨rfl, rfl⟩)
    go_ret
    exact Or.inl ⟨h0, rfl, h3⟩
  · have hpos : 0 < M.length := by cases M with | nil => exact absurd rfl h0 | cons => simp
    go_enter Tryz.func39, Tryz.ntmps39
    go_wp2_with fail
    refine hC.out.mono ?_
    rintro e w' ⟨u, rfl, h1, h2, h3⟩
    obtain ⟨g, cap, rfl, hle, hg, hrow⟩ := row_of_owns h1 hpos
    clear h1 h2 hC
    have hS := Lib.hid (SortRow_calls w' g cap M hM hrow)
    have hE : Hid (∀ w2 (D : List ByteArray), Row w2 g D → (∀ x, x ∈ D ↔ x ∈ M) → D.length = M.length → (∀ i j, i < j → j < D.toArray.size → lt D.toArray[j]! D.toArray[i]! = false) → w'.grownBy w2 (some g) → Srt w M (.returned (.slice (some ⟨g, 0, none⟩) M.length cap)) w2) := Lib.hid fun w2 D a1 a2 a3 a4 a5 =>
      Or.inr ⟨g, cap, D, by rw [a3], by rw [a3]; exact hle, hg, a1, a2, a3, a4, h3.grown a5 h3.size (fun k e => by cases e; exact hg)⟩
    clear hrow h3 hle hg hpos h0 hM
    go_wp2_with (go_at_call 61; refine hS.out.mono ?_; rintro e w2 ⟨rfl, D, a1, a2, a3, a4, a5⟩; replace a5 := Lib.hid a5; replace a1 := Lib.hid a1)
    go_ret
    exact hE.out _ D a1.out a2 a3 a4 a5.out

/-- a new set handed back -/
def Makes (w : World) (L : List ByteArray) (e : Ending) (w' : World) : Prop := ∃ b, e = .returned (.pointer (some ⟨b, 0, none⟩)) ∧ w.heap.size ≤ b ∧ SetAt w' (some ⟨b, 0, none⟩) L ∧ Below w.heap.size w w'
theorem Makes.from {w w0 w' : World} {L M : List ByteArray} {e : Ending} (h : Makes w L e w') (hb : Below w0.heap.size w0 w) (hL : L = M) : Makes w0 M e w' := by
  obtain ⟨b, rfl, h1, h2, h3⟩ := h
  exact ⟨b, rfl, Nat.le_trans hb.size h1, hL ▸ h2, b_then hb h3⟩

theorem ofRising_calls (M : List ByteArray) (w : World) (a : Option Addr) (g off cap n : Nat) (hlen : M.length = n) (hn : n < 900000) (hcap : n ≤ cap) (ha : 0 < n → a = some ⟨g, off, none⟩) (hc : ∀ j, j < M.length → w.cell? ⟨g, off + j, none⟩ = some (.string ((M[j]?.getD default)))) :
    Calls Tryz.prog 37 #[.slice a n cap] w (Makes w M) := by
  have hG := Lib.hid (grown_calls n M w a g off cap hlen hn hcap (Nat.zero_le _) ha hc)
  clear hc ha hcap hn hlen
  go_enter Tryz.func37, Tryz.ntmps37
  go_wp2_with fail
  refine hG.out.mono ?_
  rintro e w1 ⟨p, T, rfl, hT, hf, hb⟩
  have hE : Hid (Makes w M (.returned (.pointer (some ⟨w1.heap.size, 0, none⟩))) (w1.alloc (.cells #[.pointer p] 106))) := Lib.hid
    ⟨w1.heap.size, rfl, hb.size, Or.inr ⟨w1.heap.size, p, T, rfl, Boxed.new w1 _ _, hT.next (b_alloc _ _), hf⟩, b_then hb (b_alloc _ _)⟩
  clear hT hf hb hG
  go_wp2
  go_ret
  exact hE.out

/-- the rising list of a list's members -/
def IsOf (M L : List ByteArray) : Prop := Rises L ∧ (∀ x, x ∈ L ↔ x ∈ M) ∧ L.length ≤ M.length
set_option maxHeartbeats 2000000 in
theorem Of_calls (w : World) (a : Option Addr) (cap : Nat) (M : List ByteArray) (hM : M.length < 900000) (hv : Reads w.heap.size w (.slice a M.length cap) M) :
    Calls Tryz.prog 17 #[.slice a M.length cap] w fun e w' => ∃ L, IsOf M L ∧ Makes w L e w' := by
  have b1 := b_alloc w (.cells #[.slice a M.length cap] 26)
  have hV := Lib.hid (Values_calls w a M.length cap)
  have hBx := Boxed.new w 26 (.slice a M.length cap)
  have hS := Lib.hid (Sorted_calls (w.alloc (.cells #[.slice a M.length cap] 26)) w.heap.size _ M (by omega) hBx.cell (by
    obtain ⟨a', c', e, h1⟩ := hv.below b1
    exact ⟨a', c', e, fun h0 => by
      obtain ⟨g, off, ea, hg, hc⟩ := h1 h0
      exact ⟨g, off, ea, Nat.lt_of_lt_of_le hg b1.size, hc⟩⟩))
  have hC0 := Lib.hid fun w' => CompactNone_calls w'
  have hO0 := Lib.hid fun w' => ofRising_calls ([] : List ByteArray) w' none 0 0 0 0 rfl (by omega) (by omega) (fun h => by omega) (fun j hj => by simp at hj)
  clear hBx hv
  go_enter Tryz.func17, Tryz.ntmps17
  go_wp2_with fail
  refine hV.out.mono ?_
  rintro e w1 ⟨rfl, rfl⟩
  go_wp2_with fail
  refine hS.out.mono ?_
  rintro e w2 h2
  rcases h2 with ⟨rfl, rfl, b2⟩ | ⟨g, c, D, rfl, hle, hg, hrow, hmem, hlen, hsort, b2⟩
  · have b02 := b_then b1 b2
    clear hS hV b2 b1
    go_wp2_with fail
    refine (hC0.out _).mono ?_
    rintro e w3 ⟨rfl, rfl⟩
    go_wp2_with fail
    refine (hO0.out _).mono ?_
    rintro e w4 h4
    have h5 := Lib.hid (h4.from b02 rfl)
    obtain ⟨b, rfl, -⟩ := h4
    go_wp2
    go_ret
    exact ⟨[], ⟨by simp [Rises], by simp, Nat.le_refl _⟩, h5.out⟩
  · have b02 := b_then b1 b2
    have hC := Lib.hid (CompactRow_calls w2 g c D (by omega) hle hrow hsort)
    have hO : Hid (∀ w3 (L : List ByteArray), L.length ≤ D.length → (∀ j, j < L.length → w3.cell? ⟨g, 0 + j, none⟩ = some (.string ((L[j]?.getD default)))) → w2.grownBy w3 (some g) → Calls Tryz.prog 37 #[.slice (some ⟨g, 0, none⟩) L.length c] w3 (Makes w L)) := Lib.hid fun w3 L a1 a2 a3 =>
      (ofRising_calls L _ (some ⟨g, 0, none⟩) g 0 c L.length rfl (by omega) (by omega) (fun _ => rfl) a2).mono fun e w' h => h.from (b02.grown a3 b02.size (fun k e => by cases e; exact Nat.le_trans b1.size hg)) rfl
    have hIs : Hid (∀ L : List ByteArray, Rises L → (∀ x, x ∈ L ↔ x ∈ D) → L.length ≤ D.length → IsOf M L) := Lib.hid fun L a1 a2 a3 => ⟨a1, fun x => (a2 x).trans (hmem x), by omega⟩
    clear hS hV b2 b1 hrow hmem hsort hle hg hlen b02
    go_wp2_with fail
    refine hC.out.mono ?_
    rintro e w3 ⟨L, rfl, a1, a2, a3, a4, a5⟩
    have hO2 := Lib.hid (hO.out w3 L a3 a4 a5)
    have hI2 := Lib.hid (hIs.out L a1 a2 a3)
    clear a1 a2 a4 a5 hO hIs hC
    go_wp2_with fail
    refine hO2.out.mono ?_
    rintro e w4 h4
    have h5 := Lib.hid h4
    obtain ⟨b, rfl, -⟩ := h4
    go_wp2
    go_ret
    exact ⟨L, hI2.out, h5.out⟩
end Go.Proofs.YtbjpogeemajhoaaGreat.Ts
