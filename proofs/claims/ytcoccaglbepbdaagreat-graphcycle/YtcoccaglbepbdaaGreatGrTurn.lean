/-
  graph's turned: which places point to each. Conditions: as many places, and pointings of each, as the statements ask of.
-/
import Derived.Test.YtcoccaglbepbdaaGreatRows
import Derived.Test.YtcoccaglbepbdaaGreatGrGrid
namespace Go.Proofs.YtcoccaglbepbdaaGreat.Gr
open Go.RowKit Sh
open Ti (keysV keysV_len keysV_snoc info_key)
open Rf (Sl sl_of_owns)
attribute [local go_sem] fold_none

/-- places that are places, few enough -/
structure Places (n : Nat) (rows : List (List Int)) : Prop where
  len : rows.length = n
  few : n ≤ 100
  each : ∀ r ∈ rows, r.length ≤ 100 ∧ ∀ y ∈ r, ∃ z : Nat, z < n ∧ y = (z : Int)
/-- the places before p that point to x, one for each pointing -/
def backTo (rows : List (List Int)) (p x : Nat) : List Int := (List.range p).flatMap fun (q : Nat) => List.replicate ((rows[q]?.getD []).count (x : Int)) (q : Int)
theorem backTo_succ (rows : List (List Int)) (p x : Nat) : backTo rows (p + 1) x = backTo rows p x ++ List.replicate ((rows[p]?.getD []).count (x : Int)) (p : Int) := by
  unfold backTo
  rw [List.range_succ, List.flatMap_append]
  simp
theorem backTo_len {n : Nat} {rows : List (List Int)} (h : Places n rows) (x : Nat) : ∀ p, p ≤ n → (backTo rows p x).length ≤ 100 * p
  | 0, _ => by simp [backTo]
  | p + 1, hp => by
    have ih := backTo_len h x p (by omega)
    rw [backTo_succ, List.length_append, List.length_replicate]
    have hr : rows[p]?.getD [] ∈ rows := by rw [List.getElem?_eq_getElem (by rw [h.len]; omega)]; simp
    have := (h.each _ hr).1
    have := List.count_le_length (a := (x : Int)) (l := rows[p]?.getD [])
    omega
/-- what has been turned so far: all of the places before p, and j pointings of p -/
def Turning (n : Nat) (rows : List (List Int)) (p j : Nat) (F : List (List Int)) : Prop :=
  F.length = n ∧ ∀ x, x < n → F[x]? = some (backTo rows p x ++ List.replicate (((rows[p]?.getD []).take j).count (x : Int)) (p : Int))
theorem turning_start (n : Nat) (rows : List (List Int)) : Turning n rows 0 0 (List.replicate n []) :=
  ⟨by simp, fun x hx => by simp [backTo, hx]⟩
theorem turning_next {n p : Nat} {rows F : List (List Int)} (h : Turning n rows p (rows[p]?.getD []).length F) : Turning n rows (p + 1) 0 F := by
  refine ⟨h.1, fun x hx => ?_⟩
  rw [h.2 x hx, backTo_succ]
  simp
theorem turning_on {n p j z : Nat} {rows F : List (List Int)} (h : Turning n rows p j F) (hj : j < (rows[p]?.getD []).length) (hz : z < n) (he : (rows[p]?.getD [])[j]?.getD 0 = (z : Int)) :
    ∃ r, F[z]? = some r ∧ r = backTo rows p z ++ List.replicate (((rows[p]?.getD []).take j).count (z : Int)) (p : Int) ∧ Turning n rows p (j + 1) (F.set z (r ++ [(p : Int)])) := by
  refine ⟨_, h.2 z hz, rfl, by simp [h.1], fun x hx => ?_⟩
  have ht : (rows[p]?.getD []).take (j + 1) = (rows[p]?.getD []).take j ++ [(z : Int)] := by
    rw [List.take_add_one, List.getElem?_eq_getElem hj]
    rw [List.getElem?_eq_getElem hj] at he
    simp at he
    simp [he]
  rw [ht, List.count_append]
  by_cases e : x = z
  · subst e
    rw [List.getElem?_set_self (by rw [h.1]; exact hx)]
    simp [List.replicate_succ']
  · rw [List.getElem?_set_ne (Ne.symm e), h.2 x hx]
    have : List.count (x : Int) [(z : Int)] = 0 := by
      rw [List.count_eq_zero]; simp; omega
    rw [this, Nat.add_zero]

/-- all turned -/
def Turned (w : World) (n : Nat) (rows : List (List Int)) (e : Ending) (w' : World) : Prop := ∃ u F, e = .returned u ∧ Turning n rows n 0 F ∧ Reads2 w' u F ∧ Below w.heap.size w w'
set_option maxRecDepth 100000 in
set_option maxHeartbeats 4000000 in
theorem turned_calls (w : World) (v : Value) (n : Nat) (rows : List (List Int)) (hP : Places n rows) (hv : Reads2 w v rows) :
    Calls Tryz.prog 79 #[v] w (Turned w n rows) := by
  obtain ⟨i0, hi, hz0, hz1, hz2⟩ := info_parts info_key
  obtain ⟨i1, hi1, hy0, hy1, hy2⟩ := info_parts (show (Tryz.prog.info? 23).map (fun i => (i.zero, i.size, i.bytes)) = some (some (.slice none 0 0), 1, 24) by kernel_rfl)
  obtain ⟨gi, cap, rfl, hgi, hrd⟩ := hv
  have hlen := hP.len
  have hfew := hP.few
  rw [hlen]
  have hmk : (Instr.makeSlice 70 (.int .i64 (n : Int)) (.int .i64 (n : Int))).run Tryz.prog w = .ok (.slice (some ⟨w.heap.size, 0, none⟩) n n) (w.alloc (.cells (madeCells #[.slice none 0 0] n) 23)) := by
    have h := run_makeSlice (P := Tryz.prog) w 70 23 i1 _ Tryz.underlying70 hi1 hy0 .i64 .i64 (n : Int) (n : Int) (by omega) (by omega) (by rw [hy1]; omega) (by rw [hy2]; omega) (by omega)
    simpa [hy1, Value.cells] using h
  have hG0 := Grid.new w w.heap.size n
  have b0 := b_alloc w (.cells (madeCells #[Value.slice none 0 0] n) 23)
  have hT0 := turning_start n rows
  replace hrd := Lib.hid hrd
  replace hP := Lib.hid hP
  go_enter Tryz.func79, Tryz.ntmps79
  go_wp2
  go_loopg [13] n (fun gg s13 wr => ∃ (p : Nat) (F : List (List Int)) (vs : List Value), s13 = .int .i64 (p : Int) ∧ p ≤ n ∧ n - p ≤ gg ∧ Hid (Grid wr w.heap.size w.heap.size F vs) ∧ Hid (Turning n rows p 0 F) ∧ Hid (Below w.heap.size w wr))
  case atStart => exact ⟨0, _, _, rfl, by omega, by omega, Lib.hid hG0, Lib.hid hT0, Lib.hid b0⟩
  case round =>
    obtain ⟨p, F, vs, rfl, hp, hgg, hG, hT, hb⟩ := hrel
    clear hG0 b0 hT0 hmk
    by_cases hlt : p < n
    · have hrp : rows[p]? = some (rows[p]?.getD []) := by rw [List.getElem?_eq_getElem (by omega)]; simp
      obtain ⟨u, hcu, hu⟩ := hrd.out p _ hrp
      have hPr := Lib.hid (hP.out.each _ (List.mem_of_getElem? hrp))
      have cu : wr.cell? ⟨gi, p, none⟩ = some u := (hb.out.cell (p := ⟨gi, p, none⟩) hgi).trans hcu
      obtain ⟨s, c, rfl, hr⟩ := hu
      have l1 : (p : Int) < n := by omega
      have l2 : (0 : Int) ≤ p := by omega
      have hms : Hid (n - (p + 1) < gk) := Lib.hid (by omega)
      have hp2 : Hid (p + 1 ≤ n) := Lib.hid (by omega)
      have hp3 : Hid (p < n) := Lib.hid hlt
      have hfew2 : Hid (n ≤ 100) := Lib.hid hfew
      have hw1 : IntKind.i64.wrap ((p : Int) + 1) = ((p + 1 : Nat) : Int) := wrap_nat (p + 1) (by omega)
      obtain ⟨r, hre⟩ : ∃ r, Hid (rows[p]?.getD [] = r) := ⟨_, Lib.hid rfl⟩
      rw [hre.out] at hPr hr cu
      have hr2 := Lib.hid hr
      clear hcu hrp hlt hgg hp hr
      go_wp2
      go_loopw [20] (fun i wr2 => ∃ (j : Nat) (F : List (List Int)) (vs : List Value), j ≤ r.length ∧ i = .int .i64 (j : Int) ∧ Hid (Grid wr2 w.heap.size w.heap.size F vs) ∧ Hid (Turning n rows p j F) ∧ Hid (Below w.heap.size w wr2)) (fun i _ => r.length - (intOf i).toNat)
      case atStart => exact ⟨0, F, vs, by omega, rfl, hG, hT, hb⟩
      case round =>
        clear hG hT hb cu F vs
        obtain ⟨j, F, vs, hj, rfl, hG, hT, hb⟩ := hrel
        by_cases hlt : j < r.length
        · obtain ⟨g, off, rfl, hg, hc⟩ := hr2.out (by omega)
          have ck : wr.cell? ⟨g, off + j, none⟩ = some (.int .i64 (r[j]?.getD 0)) := (hb.out.cell (p := ⟨g, off + j, none⟩) hg).trans (hc j hlt)
          obtain ⟨z, hz, hyz⟩ := hPr.out.2 (r[j]?.getD 0) (by rw [List.getElem?_eq_getElem hlt]; simp)
          rw [hyz] at ck
          have hto := turning_on hT.out (by rw [hre.out]; exact hlt) hz (by rw [hre.out]; exact hyz)
          obtain ⟨A, hA, hAe, hT2⟩ := hto
          obtain ⟨vz, hvz, cz, hoz⟩ := hG.out.at_ hA
          have fz := hG.out.frozen z
          have hAl : Hid ((keysV A).length ≤ 100000) := Lib.hid (by
            rw [keysV_len, hAe, List.length_append, List.length_replicate]
            have h1 := backTo_len hP.out z p (by have := hp2.out; omega)
            have h2 := List.count_le_length (a := (z : Int)) (l := (rows[p]?.getD []).take j)
            rw [List.length_take] at h2
            have := hp2.out
            have := hfew2.out
            have := hPr.out.1
            omega)
          obtain ⟨va, vn, vc, rfl⟩ : ∃ va vn vc, vz = .slice va vn vc := by
            obtain ⟨a1, c1, e⟩ := row_shape hoz
            exact ⟨_, _, _, e⟩
          have k1 : (j : Int) < r.length := by omega
          have k2 : (0 : Int) ≤ j := by omega
          have k3 : (z : Int) < n := by omega
          have k4 : (0 : Int) ≤ z := by omega
          have hw2 : IntKind.i64.wrap ((j : Int) + 1) = ((j + 1 : Nat) : Int) := wrap_nat (j + 1) (by have := hPr.out.1; omega)
          have hms2 : Hid (r.length - (j + 1) < r.length - j) := Lib.hid (by omega)
          have hj2 : Hid (j + 1 ≤ r.length) := Lib.hid (by omega)
          have hbs := Lib.hid hb.out.size
          have hsn := Lib.hid (keysV_snoc A (p : Int))
          replace hT2 := Lib.hid hT2
          have hoz2 := Lib.hid (hoz.alloc (.cells #[.int .i64 (p : Int)] 3))
          have hgw : Hid (w.heap.size < wr.heap.size) := Lib.hid hG.out.lt
          replace hoz := Lib.hid hoz
          clear hc hg hlt hAe hyz hT
          go_wp2_with (first
            | (fail)
            | (at_builtin; refine wpList_append_lies _ rfl _ _ 23 rfl w.heap.size 3 i0 (.int .i64 0) 1 8 Tryz.underlying23 hi hz0 hz1 hz2 rfl (by decide) _ _ _ rfl hoz2.out ⟨wr.heap.size, 0, none⟩ 1 1 [.int .i64 (p : Int)] rfl rfl (cell_one_new _ _ _) (by simp [Value.oneCell']) (by decide) ?c3 ?c4 ?c5 (wr.heap.size + 1) (by simp) ?_))
          case c3 => have := hAl.out; simp [maxLen]; omega
          case c4 => have := hAl.out; omega
          case c5 => have := hbs.out; simp; omega
          intro g' cap' w2 ho' hgrow hat hlt2
          have hln : (keysV A).length + 1 = (keysV (A ++ [(p : Int)])).length := by rw [hsn.out]; simp
          rw [← hsn.out, hln] at ho'
          obtain ⟨cg, fg, hG2, hb2⟩ := hG.out.appended (v' := .slice (some ⟨g', 0, none⟩) ((keysV A).length + 1) cap') (x := (p : Int)) hA hvz (b_alloc wr _) (by rw [hln]; exact ho') hgrow (by
            rcases hat with e | e
            · exact Or.inl e.symm
            · exact Or.inr ⟨g', rfl, by omega⟩) (Nat.le_refl _)
          have hb3 := Lib.hid (hb.out.trans hb2)
          replace hG2 := Lib.hid hG2
          clear ho' hgrow hat hlt2 hln hb2 hG hA hvz hoz hoz2 hb cz fz ck
          go_wp2
          exact ⟨⟨j + 1, _, _, hj2.out, by simp, hG2, hT2, hb3⟩, by have := hms2.out; simp [intOf]; omega⟩
        · obtain rfl : j = r.length := by omega
          have k1 : ¬ (r.length : Int) < r.length := by omega
          have hT2 := Lib.hid (turning_next (by rw [hre.out]; exact hT.out))
          clear hT hr2
          go_wp2
          go_roundg (n - (p + 1))
          case measure => exact hms.out
          case rel => exact ⟨p + 1, F, vs, by simp, hp2.out, Nat.le_refl _, hG, hT2, hb⟩
    · obtain rfl : p = n := by omega
      have l1 : ¬ (p : Int) < p := by omega
      have hR := Lib.hid (hG.out.reads (n := p) (cap := p) hT.out.1.symm)
      go_wp2
      go_ret
      exact ⟨_, F, rfl, hT.out, hR.out, hb.out⟩
end Go.Proofs.YtcoccaglbepbdaaGreat.Gr
