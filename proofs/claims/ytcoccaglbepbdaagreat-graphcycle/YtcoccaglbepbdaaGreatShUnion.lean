/-
  Sets put together: the library's slices.Concat of two lists, and shelf.Union. Conditions: the sets are not too great.
-/
import Derived.Test.YtcoccaglbepbdaaGreatRows
import Derived.Test.YtcoccaglbepbdaaGreatShOf
import Derived.Deep.LoopGhost
import Derived.OwnWalk
namespace Go.Proofs.YtcoccaglbepbdaaGreat.Sh
open Go.RowKit
theorem zero_size (z : Value) (n : Nat) (hz : z.cells = #[z]) : (Builtin.zeroCells z.cells n).size = n := by
  rw [hz]; simp [Builtin.zeroCells]
end Go.Proofs.YtcoccaglbepbdaaGreat.Sh
namespace Go.Proofs.YtcoccaglbepbdaaGreat.Ti
open Go.RowKit Go.Shelf Sh
attribute [local go_sem] fold_none
theorem Grow_calls (w : World) (n : Nat) (hn : n ≤ 1000000) :
    Calls Tryz.prog 94 #[.slice none 0 0, .int .i64 (n : Int)] w fun e w' => ∃ u, e = .returned u ∧ w'.ownsRow w.heap.size 3 1 u 0 [] ∧ Below w.heap.size w w' := by
  obtain ⟨i0, hi, hz0, hz1, hz2⟩ := info_parts info_key
  by_cases h0 : n = 0
  · subst h0
    refine (Any8.slices_Grow_room Tryz.growInt none 0 0 0 w (by omega) (by omega) (by omega) (by omega)).mono ?_
    rintro e w' ⟨rfl, rfl⟩
    exact ⟨_, rfl, World.ownsRow_nil _ _ _ _, Below.refl _ _⟩
  · refine (Any8.slices_Grow_grow Tryz.growInt i0 (Value.int .i64 0) hi hz0 (by rw [hz1]; decide) none 0 0 n [] w (by omega) (by omega) (by rw [hz2]; omega) (by omega) (by simp) (fun _ => rfl) (fun a h => by cases h)).mono ?_
    rintro e w' ⟨rfl, rfl⟩
    have hge := grownCap_ge w (0 + n) 0 3
    refine ⟨_, rfl, ?_, b_then (b_drew w) (b_alloc _ _)⟩
    exact World.ownsRow_made (e := 3) (size := 1) w.drew _ _ (Nat.le_refl _) (grownCap_le_maxLen w _ _ _ (by simp [maxLen]; omega)) (by
      simp only [Array.size_append, zero_size (Value.int .i64 0) _ rfl, List.size_toArray, List.length_nil]
      change 0 + (0 + n - 0) + (grownCap w (0 + n) 0 3 - (0 + n)) = grownCap w (0 + n) 0 3 * 1
      generalize grownCap w (0 + n) 0 3 = c at *
      omega)

/-- a slice's cells, read one by one -/
def Src (w : World) (g : Nat) (M : List Int) : Prop := g < w.heap.size ∧ ∀ j u, (keysV M)[j]? = some u → w.cell? ((⟨g, 0, none⟩ : Addr).add j) = some u
theorem Src.next {w w' : World} {g : Nat} {M : List Int} (h : Src w g M) {B : Nat} (hb : Below B w w') (hB : g < B) : Src w' g M :=
  ⟨Nat.lt_of_lt_of_le h.1 hb.size, fun j u hu => (hb.cell (p := (⟨g, 0, none⟩ : Addr).add j) (by unfold Addr.add; split <;> exact hB)).trans (h.2 j u hu)⟩
theorem keysV_one (M : List Int) : ∀ u ∈ keysV M, u.oneCell' = true := fun u hu => by
  obtain ⟨x, _, rfl⟩ := List.mem_map.1 hu; rfl

set_option maxHeartbeats 4000000 in
set_option maxRecDepth 100000 in
theorem Concat_calls (w : World) (q gA cA gB cB : Nat) (A B : List Int) (hA : A.length ≤ 400000) (hB : B.length ≤ 400000) (sA : Src w gA A) (sB : Src w gB B) (c0 : w.cell? ⟨q, 0, none⟩ = some (.slice (some ⟨gA, 0, none⟩) A.length cA)) (c1 : w.cell? ⟨q, 1, none⟩ = some (.slice (some ⟨gB, 0, none⟩) B.length cB)) :
    Calls Tryz.prog 67 #[.slice (some ⟨q, 0, none⟩) 2 2] w fun e w' => ∃ u, e = .returned u ∧ w'.ownsRow w.heap.size 3 1 u (keysV (A ++ B)).length (keysV (A ++ B)) ∧ Below w.heap.size w w' := by
  obtain ⟨i0, hi, hz0, hz1, hz2⟩ := info_parts info_key
  have hq : q < w.heap.size := World.block_lt_of_cell? w _ c0
  have hG := Lib.hid (Grow_calls w (A.length + B.length) (by omega))
  go_enter Tryz.func67, Tryz.ntmps67
  go_wp2
  go_loopg [3, 5, 11] 2 (fun gg s3 _ s11 wr => wr = w ∧ ((s3 = .int .i64 0 ∧ s11 = .int .i64 0 ∧ 2 ≤ gg) ∨ (s3 = .int .i64 (A.length : Int) ∧ s11 = .int .i64 1 ∧ 1 ≤ gg) ∨ (s3 = .int .i64 ((A.length + B.length : Nat) : Int) ∧ s11 = .int .i64 2)))
  case atStart => exact ⟨rfl, Or.inl ⟨rfl, rfl, Nat.le_refl _⟩⟩
  case round =>
    obtain ⟨hwr, h⟩ := hrel
    obtain rfl := hwr.symm
    rcases h with ⟨rfl, rfl, hgg⟩ | ⟨rfl, rfl, hgg⟩ | ⟨rfl, rfl⟩
    · have j1 : wrap64 (A.length : Int) = A.length := wrap64_small _ (by omega)
      have j2 : ¬ (A.length : Int) < 0 := by omega
      clear hG
      go_wp2
      go_roundg 1
      case measure => omega
      case rel => exact ⟨rfl, Or.inr (Or.inl ⟨by simp, rfl, Nat.le_refl _⟩)⟩
    · have j1 : IntKind.i64.wrap ((A.length : Int) + B.length) = ((A.length + B.length : Nat) : Int) := wrap_nat (A.length + B.length) (by omega)
      have j2 : ¬ (A.length : Int) + B.length < 0 := by omega
      clear hG
      go_wp2
      go_roundg 0
      case measure => omega
      case rel => exact ⟨rfl, Or.inr (Or.inr ⟨by simp, rfl⟩)⟩
    · go_wp2_with fail
      refine hG.out.mono ?_
      rintro e w1 ⟨u, rfl, hown, b1⟩
      have hu : ∃ a n c, u = .slice a n c := by
        rcases hown.2 with ⟨rfl, _⟩ | ⟨g, cap, cur, rfl, _⟩
        · exact ⟨_, _, _, rfl⟩
        · exact ⟨_, _, _, rfl⟩
      obtain ⟨ua, un, uc, rfl⟩ := hu
      replace hown := Lib.hid hown
      replace b1 := Lib.hid b1
      go_wp2_with fail
      have m0 : Hid (keysV ([] : List Int) = []) := Lib.hid rfl
      have m1 : Hid (keysV ([] : List Int) ++ keysV A = keysV A) := Lib.hid rfl
      have m2 : Hid (keysV A ++ keysV B = keysV (A ++ B)) := Lib.hid (by simp [keysV])
      have lA := keysV_len A
      have lB := keysV_len B
      have lAB := keysV_len (A ++ B)
      rw [List.length_append] at lAB
      replace lA := Lib.hid lA
      replace lB := Lib.hid lB
      replace lAB := Lib.hid lAB
      go_loopg [6, 8, 27] 2 (fun gg s6 _ s27 wr => ∃ (ua : Option Addr) (un uc : Nat) (D : List Value), s6 = .slice ua un uc ∧ Hid (wr.ownsRow w.heap.size 3 1 (.slice ua un uc) D.length D) ∧ Hid (Below w.heap.size w wr) ∧ ((s27 = .int .i64 0 ∧ 2 ≤ gg ∧ Hid (D = [])) ∨ (s27 = .int .i64 1 ∧ 1 ≤ gg ∧ Hid (D = keysV A)) ∨ (s27 = .int .i64 2 ∧ Hid (D = keysV (A ++ B)))))
      case atStart => exact ⟨ua, un, uc, [], rfl, hown, b1, Or.inl ⟨rfl, Nat.le_refl _, Lib.hid rfl⟩⟩
      case round =>
        clear hown b1 hG
        obtain ⟨xa, xn, xc, D, rfl, ho, hb, h⟩ := hrel
        rcases h with ⟨rfl, hgg, hD⟩ | ⟨rfl, hgg, hD⟩ | ⟨rfl, hD⟩
        · have d0 : wr.cell? ⟨q, 0, none⟩ = some (.slice (some ⟨gA, 0, none⟩) A.length cA) := (hb.out.cell (p := ⟨q, 0, none⟩) hq).trans c0
          have hs := Lib.hid (sA.next hb.out sA.1)
          go_wp2_with (at_builtin; refine wpList_append_own _ rfl _ _ 23 rfl w.heap.size 3 i0 (Value.int .i64 0) 1 8 Tryz.underlying23 hi hz0 hz1 hz2 rfl (by decide) _ _ _ rfl ho.out ⟨gA, 0, none⟩ A.length cA (keysV A) rfl (by rw [lA.out]; omega) hs.out.2 (keysV_one A) ?c3 ?c4 ?c5 ?_)
          case c3 => have := hD.out; subst this; simp [maxLen]; omega
          case c4 => have := hD.out; subst this; simp; omega
          case c5 => exact hb.out.size
          intro v' w2 ho' hgrow _
          have hb2 : Hid (Below w.heap.size w w2) := Lib.hid (hb.out.grown hgrow hb.out.size (fun k e => (ho.out.lt k e).1))
          obtain ⟨ya, yn, yc, rfl⟩ : ∃ ya yn yc, v' = .slice ya yn yc := by
            rcases ho'.2 with ⟨hv, _⟩ | ⟨g, cap, cur, hv, _⟩
            · exact ⟨_, _, _, hv⟩
            · exact ⟨_, _, _, hv⟩
          have ho2 : Hid (w2.ownsRow w.heap.size 3 1 (.slice ya yn yc) (keysV A).length (keysV A)) := Lib.hid (by
            have := hD.out; subst this
            rw [lA.out]; simpa using ho')
          clear ho' hgrow
          go_wp2
          go_roundg 1
          case measure => omega
          case rel => exact ⟨ya, yn, yc, keysV A, rfl, ho2, hb2, Or.inr (Or.inl ⟨rfl, Nat.le_refl _, Lib.hid rfl⟩)⟩
        · have d0 : wr.cell? ⟨q, 1, none⟩ = some (.slice (some ⟨gB, 0, none⟩) B.length cB) := (hb.out.cell (p := ⟨q, 1, none⟩) hq).trans c1
          have hs := Lib.hid (sB.next hb.out sB.1)
          go_wp2_with (at_builtin; refine wpList_append_own _ rfl _ _ 23 rfl w.heap.size 3 i0 (Value.int .i64 0) 1 8 Tryz.underlying23 hi hz0 hz1 hz2 rfl (by decide) _ _ _ rfl ho.out ⟨gB, 0, none⟩ B.length cB (keysV B) rfl (by rw [lB.out]; omega) hs.out.2 (keysV_one B) ?c3 ?c4 ?c5 ?_)
          case c3 => have := hD.out; subst this; rw [lA.out]; simp [maxLen]; omega
          case c4 => have := hD.out; subst this; rw [lA.out]; omega
          case c5 => exact hb.out.size
          intro v' w2 ho' hgrow _
          have hb2 : Hid (Below w.heap.size w w2) := Lib.hid (hb.out.grown hgrow hb.out.size (fun k e => (ho.out.lt k e).1))
          obtain ⟨ya, yn, yc, rfl⟩ : ∃ ya yn yc, v' = .slice ya yn yc := by
            rcases ho'.2 with ⟨hv, _⟩ | ⟨g, cap, cur, hv, _⟩
            · exact ⟨_, _, _, hv⟩
            · exact ⟨_, _, _, hv⟩
          have ho2 : Hid (w2.ownsRow w.heap.size 3 1 (.slice ya yn yc) (keysV (A ++ B)).length (keysV (A ++ B))) := Lib.hid (by
            have := hD.out; subst this
            rw [lA.out, m2.out] at ho'
            rw [lAB.out]; exact ho')
          clear ho' hgrow
          go_wp2
          go_roundg 0
          case measure => omega
          case rel => exact ⟨ya, yn, yc, keysV (A ++ B), rfl, ho2, hb2, Or.inr (Or.inr ⟨rfl, Lib.hid rfl⟩)⟩
        · have hD2 := hD.out
          have ho3 : Hid (wr.ownsRow w.heap.size 3 1 (.slice xa xn xc) (keysV (A ++ B)).length (keysV (A ++ B))) := Lib.hid (hD2 ▸ ho.out)
          clear hD2
          go_wp2
          go_ret
          exact ⟨_, rfl, ho3.out, hb.out⟩

theorem reads_of_owns {W : World} {base : Nat} {u : Value} {M : List Int} (h : W.ownsRow base 3 1 u (keysV M).length (keysV M)) : ∃ s cap, u = .slice s M.length cap ∧ Reads W.heap.size W (.slice s M.length cap) M := by
  by_cases h0 : 0 < M.length
  · obtain ⟨g, cap, rfl, _, _, hrow⟩ := row_of_owns h h0
    exact ⟨_, cap, rfl, _, _, rfl, fun _ => ⟨g, 0, rfl, hrow.lt, fun j hj => by rw [Nat.zero_add]; exact (hrow.2 j hj).1⟩⟩
  · obtain rfl : M = [] := List.length_eq_zero_iff.1 (by omega)
    obtain ⟨s, cap, hu⟩ : ∃ s cap, u = .slice s 0 cap := by
      rcases h.2 with ⟨rfl, _⟩ | ⟨g, cap, cur, rfl, _⟩
      · exact ⟨_, _, rfl⟩
      · exact ⟨_, _, rfl⟩
    subst hu
    exact ⟨s, cap, rfl, _, _, rfl, fun h => by simp at h⟩
theorem src_of_owns {W : World} {base : Nat} {M : List Int} {g n c : Nat} (h : W.ownsRow base 3 1 (.slice (some ⟨g, 0, none⟩) n c) (keysV M).length (keysV M)) : Src W g M := by
  rcases h.2 with ⟨h, _⟩ | ⟨g', cap, cur, hv, hb, hg, hle, _, hs, ht⟩
  · cases h
  · obtain ⟨rfl, _, _⟩ : g = g' ∧ n = (keysV M).length ∧ c = cap := by simpa using hv
    refine ⟨(Array.getElem?_eq_some_iff.1 hg).1, fun j u hu => ?_⟩
    have hj : j < (keysV M).length := (List.getElem?_eq_some_iff.1 hu).1
    have h1 : (cur.toList.take ((keysV M).length * 1))[j]? = (keysV M)[j]? := by rw [ht]
    rw [List.getElem?_take, if_pos (by omega), hu, Array.getElem?_toList] at h1
    have e : (⟨g, 0, none⟩ : Addr).add j = ⟨g, j, none⟩ := by
      unfold Addr.add; split
      · next h => subst h; rfl
      · simp
    rw [e]
    simp [World.cell?, hg, h1]

set_option maxHeartbeats 2000000 in
theorem Union_calls (w : World) (a b : Option Addr) (A B : List Int) (hA : SetAt w a A) (hB : SetAt w b B) (lA : A.length ≤ 400000) (lB : B.length ≤ 400000) :
    Calls Tryz.prog 32 #[.pointer a, .pointer b] w fun e w' => ∃ L, IsOf (A ++ B) L ∧ Makes w L e w' := by
  have hL := Lib.hid (SetList_calls w a A hA (by omega))
  go_enter Tryz.func32, Tryz.ntmps32
  go_wp2_with fail
  refine hL.out.mono ?_
  clear hL
  rintro e w1 ⟨u, rfl, ⟨hown, gA, cA, rfl⟩, b1⟩
  have hL2 := Lib.hid (SetList_calls w1 b B (hB.next b1) (by omega))
  have s1 := Lib.hid (src_of_owns hown)
  rw [keysV_len] at hown
  clear hA hB hown
  have e1 := keysV_len A
  have e2 := keysV_len B
  rw [e1]
  go_wp2_with fail
  refine hL2.out.mono ?_
  clear hL2
  rintro e w2 ⟨u, rfl, ⟨hown, gB, cB, rfl⟩, b2⟩
  have s2 := src_of_owns hown
  have b02 := b_then b1 b2
  have s12 := s1.out.next b2 s1.out.1
  rw [e2]
  clear hown s1
  have b3 := b_alloc w2 (.cells #[.slice (some ⟨gA, 0, none⟩) A.length cA, .slice (some ⟨gB, 0, none⟩) B.length cB] 23)
  have hq := World.alloc_heap_new w2 (.cells #[.slice (some ⟨gA, 0, none⟩) A.length cA, .slice (some ⟨gB, 0, none⟩) B.length cB] 23)
  have hC := Lib.hid (Concat_calls (w2.alloc (.cells #[.slice (some ⟨gA, 0, none⟩) A.length cA, .slice (some ⟨gB, 0, none⟩) B.length cB] 23)) w2.heap.size gA cA gB cB A B lA lB (s12.next b3 s12.1) (s2.next b3 s2.1) (by simp only [World.cell?, hq]; rfl) (by simp only [World.cell?, hq]; rfl))
  have b03 := Lib.hid (b_then b02 b3)
  clear hq s2 s12 b3 b2 b1 b02 e1 e2
  go_wp2_with fail
  refine hC.out.mono ?_
  clear hC
  rintro e w4 ⟨u, rfl, hown, b4⟩
  obtain ⟨s, cap, rfl, hr⟩ := reads_of_owns hown
  have b04 := Lib.hid (b_then b03.out b4)
  have hOf := Lib.hid (Of_calls w4 s cap (A ++ B) (by simp; omega) hr)
  obtain ⟨n, hn⟩ : ∃ n, (A ++ B).length = n := ⟨_, rfl⟩
  rw [hn] at hOf ⊢
  clear hn
  clear hown hr b03 b4
  go_wp2_with fail
  refine hOf.out.mono ?_
  rintro e w5 ⟨L, hL, h5⟩
  have h6 := Lib.hid (h5.from b04.out rfl)
  replace hL := Lib.hid hL
  obtain ⟨bb, rfl, -⟩ := h5
  go_wp2
  go_ret
  exact ⟨L, hL.out, h6.out⟩
end Go.Proofs.YtcoccaglbepbdaaGreat.Ti
namespace Go.Proofs.YtcoccaglbepbdaaGreat.Ts
open Go.RowKit Go.Shelf Sh
/-- a slice's cells, read one by one -/
def Src (w : World) (g : Nat) (M : List ByteArray) : Prop := g < w.heap.size ∧ ∀ j u, (keysV M)[j]? = some u → w.cell? ((⟨g, 0, none⟩ : Addr).add j) = some u
theorem Src.next {w w' : World} {g : Nat} {M : List ByteArray} (h : Src w g M) {B : Nat} (hb : Below B w w') (hB : g < B) : Src w' g M :=
  ⟨Nat.lt_of_lt_of_le h.1 hb.size, fun j u hu => (hb.cell (p := (⟨g, 0, none⟩ : Addr).add j) (by unfold Addr.add; split <;> exact hB)).trans (h.2 j u hu)⟩
theorem keysV_one (M : List ByteArray) : ∀ u ∈ keysV M, u.oneCell' = true := fun u hu => by
  obtain ⟨x, _, rfl⟩ := List.mem_map.1 hu; rfl

theorem reads_of_owns {W : World} {base : Nat} {u : Value} {M : List ByteArray} (h : W.ownsRow base 9 1 u (keysV M).length (keysV M)) : ∃ s cap, u = .slice s M.length cap ∧ Reads W.heap.size W (.slice s M.length cap) M := by
  by_cases h0 : 0 < M.length
  · obtain ⟨g, cap, rfl, _, _, hrow⟩ := row_of_owns h h0
    exact ⟨_, cap, rfl, _, _, rfl, fun _ => ⟨g, 0, rfl, hrow.lt, fun j hj => by rw [Nat.zero_add]; exact (hrow.2 j hj).1⟩⟩
  · obtain rfl : M = [] := List.length_eq_zero_iff.1 (by omega)
    obtain ⟨s, cap, hu⟩ : ∃ s cap, u = .slice s 0 cap := by
      rcases h.2 with ⟨rfl, _⟩ | ⟨g, cap, cur, rfl, _⟩
      · exact ⟨_, _, rfl⟩
      · exact ⟨_, _, rfl⟩
    subst hu
    exact ⟨s, cap, rfl, _, _, rfl, fun h => by simp at h⟩
theorem src_of_owns {W : World} {base : Nat} {M : List ByteArray} {g n c : Nat} (h : W.ownsRow base 9 1 (.slice (some ⟨g, 0, none⟩) n c) (keysV M).length (keysV M)) : Src W g M := by
  rcases h.2 with ⟨h, _⟩ | ⟨g', cap, cur, hv, hb, hg, hle, _, hs, ht⟩
  · cases h
  · obtain ⟨rfl, _, _⟩ : g = g' ∧ n = (keysV M).length ∧ c = cap := by simpa using hv
    refine ⟨(Array.getElem?_eq_some_iff.1 hg).1, fun j u hu => ?_⟩
    have hj : j < (keysV M).length := (List.getElem?_eq_some_iff.1 hu).1
    have h1 : (cur.toList.take ((keysV M).length * 1))[j]? = (keysV M)[j]? := by rw [ht]
    rw [List.getElem?_take, if_pos (by omega), hu, Array.getElem?_toList] at h1
    have e : (⟨g, 0, none⟩ : Addr).add j = ⟨g, j, none⟩ := by
      unfold Addr.add; split
      · next h => subst h; rfl
      · simp
    rw [e]
    simp [World.cell?, hg, h1]

end Go.Proofs.YtcoccaglbepbdaaGreat.Ts
