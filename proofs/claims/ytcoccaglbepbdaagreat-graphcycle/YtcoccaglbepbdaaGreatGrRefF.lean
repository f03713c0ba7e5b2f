/-
  The document's own answer to Height. Conditions: a graph, and keys, as the statements ask of.
-/
import Derived.Test.YtcoccaglbepbdaaGreatRows
import Derived.Test.YtcoccaglbepbdaaGreatGrRefE
import Derived.Test.YtcoccaglbepbdaaGreatGrOrder
import Derived.BigQuiet
namespace Go.Proofs.YtcoccaglbepbdaaGreat.Rg
open Go.RowKit Sh Gr
open Key (lt)
open Ent (key)
open Ti (keysV keysV_len keysV_snoc info_key)
open Rf (Sl sl_of_owns)
attribute [local go_sem] fold_none

/-- the height of what stands at i, over what stands ahead of j -/
def upTo (T : Int → List Int) (o : List Int) (H : Nat → Nat) (i j : Nat) : Nat := sup (((List.range j).filter fun s => decide ((o[s]?.getD 0) ∈ T (o[i]?.getD 0))).map fun s => H s + 1)
theorem upTo_zero (T : Int → List Int) (o : List Int) (H : Nat → Nat) (i : Nat) : upTo T o H i 0 = 0 := rfl
theorem upTo_succ (T : Int → List Int) (o : List Int) (H : Nat → Nat) (i j : Nat) : upTo T o H i (j + 1) = if (o[j]?.getD 0) ∈ T (o[i]?.getD 0) then max (upTo T o H i j) (H j + 1) else upTo T o H i j := by
  unfold upTo
  rw [List.range_succ, List.filter_append, List.map_append]
  by_cases h : (o[j]?.getD 0) ∈ T (o[i]?.getD 0)
  · rw [if_pos h, ← sup_snoc]; simp [h]
  · rw [if_neg h]; simp [h]
theorem upTo_same {T : Int → List Int} {o : List Int} {H K : Nat → Nat} {i j : Nat} (h : ∀ s, s < j → H s = K s) : upTo T o H i j = upTo T o K i j := by
  unfold upTo
  congr 1
  refine List.map_congr_left fun s hs => ?_
  rw [h s (List.mem_range.1 (List.mem_filter.1 hs).1)]
/-- all heights ahead of i are known, that of i over what is ahead of j -/
structure Climb (T : Int → List Int) (o : List Int) (i j : Nat) (H : Nat → Nat) : Prop where
  done : ∀ t, t < i → H t = upTo T o H t t ∧ H t ≤ t
  now : H i = upTo T o H i j ∧ H i ≤ j
  rest : ∀ t, i < t → H t = 0
theorem Climb.start (T : Int → List Int) (o : List Int) : Climb T o 0 0 fun _ => 0 := ⟨fun _ h => absurd h (Nat.not_lt_zero _), ⟨rfl, Nat.le_refl _⟩, fun _ _ => rfl⟩
theorem Climb.next {T : Int → List Int} {o : List Int} {i : Nat} {H : Nat → Nat} (h : Climb T o i i H) : Climb T o (i + 1) 0 H :=
  ⟨fun t ht => by
    by_cases e : t = i
    · subst e; exact h.now
    · exact h.done t (by omega), ⟨by rw [upTo_zero]; exact h.rest _ (by omega), by rw [h.rest _ (by omega)]; exact Nat.le_refl _⟩, fun t ht => h.rest t (by omega)⟩
theorem Climb.skip {T : Int → List Int} {o : List Int} {i j : Nat} {H : Nat → Nat} (h : Climb T o i j H) (hn : (o[j]?.getD 0) ∉ T (o[i]?.getD 0)) : Climb T o i (j + 1) H :=
  ⟨h.done, ⟨by rw [upTo_succ, if_neg hn]; exact h.now.1, by have := h.now.2; omega⟩, h.rest⟩
theorem Climb.keep {T : Int → List Int} {o : List Int} {i j : Nat} {H : Nat → Nat} (h : Climb T o i j H) (hl : H j < H i) : Climb T o i (j + 1) H :=
  ⟨h.done, ⟨by rw [upTo_succ]; have := h.now.1; split <;> omega, by have := h.now.2; omega⟩, h.rest⟩
theorem Climb.rise {T : Int → List Int} {o : List Int} {i j : Nat} {H : Nat → Nat} (h : Climb T o i j H) (hj : j < i) (hm : (o[j]?.getD 0) ∈ T (o[i]?.getD 0)) (hl : H i ≤ H j) : Climb T o i (j + 1) (fun p => if p = i then H j + 1 else H p) ∧ H j ≤ j := by
  have hd := (h.done j hj).2
  have same : ∀ n, n ≤ i → ∀ s, s < n → (fun p => if p = i then H j + 1 else H p) s = H s := fun n hn s hs => if_neg (by omega)
  refine ⟨⟨fun t ht => ?_, ⟨?_, by simpa using hd⟩, fun t ht => ?_⟩, hd⟩
  · rw [upTo_same (same t (by omega))]
    have e : (if t = i then H j + 1 else H t) = H t := if_neg (by omega)
    rw [e]; exact h.done t ht
  · rw [upTo_same (same (j + 1) (by omega)), upTo_succ, if_pos hm]
    have e : (if i = i then H j + 1 else H i) = H j + 1 := if_pos rfl
    rw [e]; have := h.now.1; omega
  · have e : (if t = i then H j + 1 else H t) = H t := if_neg (by omega)
    rw [e]; exact h.rest t ht
/-- at the end they are the heights -/
theorem Climb.hts {G : Gph} {k : Int} {M o : List Int} {H : Nat → Nat} (hM : IsMet G.T [k] M) (ho : order G.T (reach G.D M).length (reach G.D M) = some o) (h : Climb G.T o o.length 0 H) : Hts G k fun x => H (o.idxOf x) := by
  have S := order_stand _ rfl (reach_rises hM.1) ho
  have at_ : ∀ s, s < o.length → o.idxOf (o[s]?.getD 0) = s ∧ (o[s]?.getD 0) ∈ o := fun s hs => by
    rw [List.getElem?_eq_getElem hs]
    exact ⟨List.Nodup.idxOf_getElem S.nodup s hs, List.getElem_mem hs⟩
  refine hts_order hM ho fun x hx => ?_
  have hi := List.idxOf_lt_length_of_mem hx
  have hxe : o[o.idxOf x]? = some x := by rw [List.getElem?_eq_getElem hi, List.getElem_idxOf]
  have hxm := mem_reach.1 ((S.mem x).1 hx)
  show H (o.idxOf x) = _
  rw [(h.done _ hi).1]
  unfold upTo
  refine sup_same fun a => ?_
  rw [List.mem_map, List.mem_map, hxe]
  constructor
  · rintro ⟨s, hs, rfl⟩
    obtain ⟨h1, h2⟩ := List.mem_filter.1 hs
    have h1 := List.mem_range.1 h1
    obtain ⟨e1, e2⟩ := at_ s (by omega)
    refine ⟨o[s]?.getD 0, List.mem_filter.2 ⟨by simpa using h2, ?_⟩, by rw [e1]⟩
    simpa using (mem_reach.1 ((S.mem _).1 e2)).2
  · rintro ⟨y, hy, rfl⟩
    obtain ⟨h1, h2⟩ := List.mem_filter.1 hy
    have h2 : y ∈ G.D := by simpa using h2
    have hb := S.behind _ x hxe y h1 (mem_reach.2 ⟨(hM.2 y).2 (.on ((hM.2 x).1 hxm.1) h1), h2⟩)
    obtain ⟨q, hq⟩ := List.mem_iff_getElem?.1 hb
    have hql := (List.getElem?_eq_some_iff.1 hq).1
    rw [List.length_take] at hql
    rw [List.getElem?_take, if_pos (by omega)] at hq
    have e1 := (at_ q (by omega)).1
    rw [hq] at e1
    refine ⟨q, List.mem_filter.2 ⟨List.mem_range.2 (by omega), ?_⟩, ?_⟩
    · rw [hq]; simpa using h1
    · show H q + 1 = H (o.idxOf y) + 1
      have e1 : o.idxOf y = q := e1
      rw [e1]

/-- what a key's list is, whatever was drawn -/
theorem RTo_at (w : World) (b : Nat) (G : Gph) (k : Int) (h : RefAt w b G) (hD : G.D.length ≤ 1000) :
    ∃ v, Sl w v (G.T k) ∧ ∀ n, Calls Tryz.prog 15 #[.pointer (some ⟨b, 0, none⟩), .int .i64 k] (w.drewN n) fun e w' => e = .returned v ∧ w' = w.drewN n := by
  obtain ⟨s, cap, g, off, P, h1, h2, h3, h4⟩ := h.all
  have hp := fun n => place_calls (w.drewN n) b k s cap g off P (box_below h1 (b_drewN w n)) (h2.next (b_drewN w n)) (by rw [h3.len h.ok]; exact hD)
  have one : ∀ (i j : Nat) p q, P[i]? = some p → P[j]? = some q → p.1 = k → q.1 = k → i = j := fun i j p q hi hj e1 e2 => by
    have a1 : (P.map fun p => p.1)[i]? = some k := by rw [List.getElem?_map, hi]; simp [e1]
    have a2 : (P.map fun p => p.1)[j]? = some k := by rw [List.getElem?_map, hj]; simp [e2]
    obtain ⟨l1, e3⟩ := List.getElem?_eq_some_iff.1 a1
    obtain ⟨l2, e4⟩ := List.getElem?_eq_some_iff.1 a2
    exact (List.getElem_inj h3.nodup).1 (e3.trans e4.symm)
  by_cases hk : k ∈ P.map fun p => p.1
  · obtain ⟨p, hp1, hpk⟩ := List.mem_map.1 hk
    obtain ⟨i, hi⟩ := List.mem_iff_getElem?.1 hp1
    refine ⟨p.2, hpk ▸ h4 p hp1, fun n => ?_⟩
    have hst : Calls Tryz.prog 39 #[.pointer (some ⟨b, 0, none⟩), .int .i64 k] (w.drewN n) fun e w' => e = .returned (.int .i64 (i : Int)) ∧ w' = w.drewN n := (hp n).mono fun e w' ⟨hs, hw⟩ => by
      rcases hs with ⟨j, q, rfl, hj, hq⟩ | ⟨_, hn⟩
      · rw [one i j p q hi hj hpk hq]; exact ⟨rfl, hw⟩
      · exact absurd hk hn
    have hlt := (List.getElem?_eq_some_iff.1 hi).1
    have c0 : (w.drewN n).cell? ⟨b, 0, none⟩ = some (.slice s P.length cap) := h1.cell
    have c1 : (w.drewN n).cell? ⟨g, off + i * 2 + 1, none⟩ = some p.2 := h2.val i p hi
    obtain ⟨rfl, -⟩ := h2.addr (by omega)
    have l0 : ¬ (i : Int) < 0 := by omega
    have l1 : (i : Int) < P.length := by omega
    have l2 : (0 : Int) ≤ i := by omega
    replace hst := Lib.hid hst
    obtain ⟨W, hW⟩ : ∃ W, W = w.drewN n := ⟨_, rfl⟩
    rw [← hW] at hst c0 c1 ⊢
    clear hp one hk hp1 hpk hi h h1 h2 h3 h4 hW hlt
    go_enter Tryz.func15, Tryz.ntmps15
    go_wp2_with fail
    refine hst.out.mono ?_
    rintro e w' ⟨rfl, hw'⟩
    obtain rfl := hw'.symm
    clear hw' hst
    go_wp2
    go_ret
    exact ⟨rfl, rfl⟩
  · refine ⟨.slice none 0 0, ?_, fun n => ?_⟩
    · rw [h.ok.none k fun e => hk ((h3.mem k).1 e)]
      exact ⟨none, 0, rfl, fun h => by simp at h⟩
    · have hst : Calls Tryz.prog 39 #[.pointer (some ⟨b, 0, none⟩), .int .i64 k] (w.drewN n) fun e w' => e = .returned (.int .i64 (-1)) ∧ w' = w.drewN n := (hp n).mono fun e w' ⟨hs, hw⟩ => by
        rcases hs with ⟨j, q, rfl, hj, hq⟩ | ⟨e1, _⟩
        · exact absurd (List.mem_map.2 ⟨q, List.mem_of_getElem? hj, hq⟩) hk
        · exact ⟨e1, hw⟩
      replace hst := Lib.hid hst
      obtain ⟨W, hW⟩ : ∃ W, W = w.drewN n := ⟨_, rfl⟩
      rw [← hW] at hst ⊢
      clear hp one hk h h1 h2 h3 h4 hW
      go_enter Tryz.func15, Tryz.ntmps15
      go_wp2_with fail
      refine hst.out.mono ?_
      rintro e w' ⟨rfl, hw'⟩
      obtain rfl := hw'.symm
      clear hw' hst
      go_wp2
      go_ret
      exact ⟨rfl, rfl⟩

set_option maxRecDepth 100000 in
set_option maxHeartbeats 4000000 in
theorem RHeight_calls (w : World) (b : Nat) (G : Gph) (k : Int) (h : RefAt w b G) (hS : Small G) :
    Calls Tryz.prog 25 #[.pointer (some ⟨b, 0, none⟩), .int .i64 k] w (Heighted w G k) := by
  obtain ⟨i0, hi, hz0, hz1, hz2⟩ := info_parts info_key
  have hHas := Lib.hid (RHas_calls w b G k h (by have := hS.nodes; omega))
  have hok := Lib.hid h.ok
  have b0 := b_alloc w (.cells #[.int .i64 k] 3)
  have hRe := Lib.hid (RReach_calls _ b G _ [k] (h.next b0) hS (by simp) (sl_one w k))
  have hRf := Lib.hid fun w' (hb : Below w.heap.size w w') => h.next hb
  have hOr := Lib.hid fun w' v K (hb : Below w.heap.size w w') (hK : K.length ≤ 100) (hv : Sl w' v K) => ROrder_calls w' b G v K (h.next hb) hS hK hv
  have hb00 := Below.refl w.heap.size w
  clear h
  by_cases hk : k ∈ G.D
  · rw [show decide (k ∈ G.D) = true by simpa using hk] at hHas
    replace hk := Lib.hid hk
    go_enter Tryz.func25, Tryz.ntmps25
    go_wp2_with (go_at_call 12; refine hHas.out.mono ?_; rintro e w' ⟨rfl, hw'⟩; obtain rfl := hw'.symm; clear hw' hHas)
    refine hRe.out.mono ?_
    rintro e w1 ⟨M, hM, hMl, u, rfl, hu, b1⟩
    have b01 := Lib.hid (b_then b0 b1)
    obtain ⟨R, hR⟩ : ∃ R, Hid (R = reach G.D M) := ⟨_, Lib.hid rfl⟩
    rw [← hR.out] at hu
    have hRr : Rises R := by rw [hR.out]; exact reach_rises hM.1
    have hRl : R.length ≤ 100 := Nat.le_trans (nodup_len R G.D (rises_nodup hRr) fun x hx => by rw [hR.out] at hx; exact (mem_reach.1 hx).2) (Nat.le_trans hS.nodes (by omega))
    have hOr2 := Lib.hid (hOr.out w1 u R b01.out hRl hu)
    replace hM := Lib.hid hM
    replace hRr := Lib.hid hRr
    obtain ⟨su, cu, rfl, -⟩ := sl_box hu
    clear hRe b1 hu hOr
    go_wp2_with fail
    refine hOr2.out.mono ?_
    rintro e w2 ⟨v, o, c, rfl, hO, hv, b2⟩
    have b02 := Lib.hid (b_then b01.out b2)
    obtain ⟨ov, oc, rfl, -⟩ := sl_box hv
    have hO2 : Hid ((order G.T R.length R = none ∧ c = 23) ∨ (order G.T R.length R = some o ∧ c = 0)) := Lib.hid (by
      rcases hO with ⟨⟨x, hx, hn⟩, _⟩ | ⟨_, S, h2, h3, h4⟩
      · rw [hR.out] at hx; exact absurd (mem_reach.1 hx).2 hn
      · obtain rfl : S = R := rises_one h2 hRr.out h3
        rcases h4 with ⟨a1, _, a3⟩ | ⟨a1, a2⟩
        · exact Or.inl ⟨a1, a3⟩
        · exact Or.inr ⟨a1, a2⟩)
    clear hOr2 b2 hO
    rcases hO2.out with ⟨ho, rfl⟩ | ⟨ho, rfl⟩
    · have hend : Hid (Heighted w G k (.returned (.tuple #[.int .i64 0, .int .i64 23])) w2) := Lib.hid (Heighted.mk_ (Or.inr ⟨hk.out, M, hM.out, Or.inl ⟨by rw [← hR.out]; exact ho, rfl, rfl⟩⟩) b02.out)
      clear ho hO2 hv
      go_wp2
      go_ret2
      exact hend.out
    · have hol : o.length = R.length := (order_stand _ rfl hRr.out ho).len
      obtain ⟨n, hn⟩ : ∃ n, Hid (o.length = n) := ⟨_, Lib.hid rfl⟩
      have hn100 : n ≤ 100 := by have := hn.out; omega
      have hn0 : 0 < n := by
        have h1 : k ∈ R := by rw [hR.out]; exact mem_reach.2 ⟨(hM.out.2 k).2 (.here (by simp)), hk.out⟩
        have h2 := List.length_pos_of_mem h1
        have := hn.out
        omega
      have hlast : Hid (o[n - 1]? = some k) := Lib.hid (by rw [← hn.out]; exact last_order hok.out hM.out hk.out (by rw [← hR.out]; exact ho))
      rw [hR.out] at ho
      rw [hn.out] at hv ⊢
      have hmk : (Instr.makeSlice 23 (.int .i64 (n : Int)) (.int .i64 (n : Int))).run Tryz.prog w2 = .ok (.slice (some ⟨w2.heap.size, 0, none⟩) n n) (w2.alloc (.cells (madeCells #[.int .i64 0] n) 3)) := by
        have h := run_makeSlice (P := Tryz.prog) w2 23 3 i0 _ Tryz.underlying23 hi hz0 .i64 .i64 (n : Int) (n : Int) (by omega) (by omega) (by rw [hz1]; omega) (by rw [hz2]; omega) (by omega)
        simpa [hz1, Value.cells] using h
      have hN0 := NumAt.new w2 n
      rw [waits_zero] at hN0
      replace hN0 := Lib.hid hN0
      have b3 := Lib.hid (b_alloc w2 (.cells (madeCells #[Value.int .i64 0] n) 3))
      have hC0 := Lib.hid (Climb.start G.T o)
      replace ho := Lib.hid ho
      replace hv := Lib.hid hv
      clear hol hO2
      go_wp2
      go_loopg [9] n (fun gg s9 wr => ∃ (i : Nat) (H : Nat → Nat), s9 = .int .i64 (i : Int) ∧ i ≤ n ∧ n - i ≤ gg ∧ Hid (Climb G.T o i 0 H) ∧ Hid (NumAt wr w2.heap.size (waitsOf n H)) ∧ Hid (Below w2.heap.size w2 wr))
      case atStart => exact ⟨0, _, rfl, by omega, by omega, hC0, hN0, b3⟩
      case round =>
        obtain ⟨i, H, rfl, hi2, hgg, hC, hN, hb⟩ := hrel
        clear hC0 hN0 b3
        by_cases hlt : i < n
        · have hlo : i < o.length := by have := hn.out; omega
          have l1 : (i : Int) < n := by omega
          have l2 : (0 : Int) ≤ i := by omega
          have hw1 : IntKind.i64.wrap ((i : Int) + 1) = ((i + 1 : Nat) : Int) := wrap_nat (i + 1) (by omega)
          have hms : Hid (n - (i + 1) < gk) := Lib.hid (by omega)
          have hi3 : Hid (i + 1 ≤ n) := Lib.hid (by omega)
          have hlt2 := Lib.hid hlt
          clear hgg hlt hi2 hlo
          go_wp2
          go_loopw [10] (fun s10 wr2 => ∃ (j : Nat) (H : Nat → Nat), j ≤ i ∧ s10 = .int .i64 (j : Int) ∧ Hid (Climb G.T o i j H) ∧ Hid (NumAt wr2 w2.heap.size (waitsOf n H)) ∧ Hid (Below w2.heap.size w2 wr2)) (fun s10 _ => i - (intOf s10).toNat)
          case atStart => exact ⟨0, H, by omega, rfl, hC, hN, hb⟩
          case round =>
            clear hC hN hb H
            obtain ⟨j, H, hj, rfl, hC, hN, hb⟩ := hrel
            by_cases hlt : j < i
            · have hlo : i < o.length := by have := hn.out; have := hlt2.out; omega
              have hjo : j < o.length := by omega
              obtain ⟨g, off, rfl, co⟩ := sl_cell (by rw [← hn.out] at hv; exact hv.out) hb.out hlo
              obtain ⟨g2, off2, e2, co2⟩ := sl_cell (by rw [← hn.out] at hv; exact hv.out) hb.out hjo
              cases e2
              have cj := hN.out.cell (j := j) (by rw [waits_len]; have := hlt2.out; omega)
              rw [waits_at H (by have := hlt2.out; omega)] at cj
              have ci := hN.out.cell (j := i) (by rw [waits_len]; exact hlt2.out)
              rw [waits_at H hlt2.out] at ci
              obtain ⟨z, hz, hTo⟩ := RTo_at wr b G (o[i]?.getD 0) (hRf.out wr (b_next b02.out hb.out (Nat.le_refl _))) (by have := hS.nodes; omega)
              have hHs := Lib.hid fun n => Rf.RHas_calls (wr.drewN n) z (G.T (o[i]?.getD 0)) (o[j]?.getD 0) (by have := hS.to (o[i]?.getD 0); omega) (hz.next (b_drewN wr n))
              replace hTo := Lib.hid hTo
              have k1 : (j : Int) < i := by omega
              have k2 : (0 : Int) ≤ j := by omega
              have k3 : (j : Int) < n := by have := hlt2.out; omega
              have hw2 : IntKind.i64.wrap ((j : Int) + 1) = ((j + 1 : Nat) : Int) := wrap_nat (j + 1) (by omega)
              have hms2 : Hid (i - (j + 1) < i - j) := Lib.hid (by omega)
              have hj2 : Hid (j + 1 ≤ i) := Lib.hid (by omega)
              obtain ⟨su, cu, rfl, -⟩ := sl_box hz
              by_cases hm : (o[j]?.getD 0) ∈ G.T (o[i]?.getD 0)
              · have hmb : has (o[j]?.getD 0) (G.T (o[i]?.getD 0)) = true := by rw [has_mem]; simpa using hm
                rw [hmb] at hHs
                by_cases hge : H i ≤ H j
                · obtain ⟨hC2, hHj⟩ := hC.out.rise hlt hm hge
                  have hw3 : IntKind.i64.wrap ((H j : Int) + 1) = ((H j + 1 : Nat) : Int) := wrap_nat (H j + 1) (by have := hlt2.out; omega)
                  have fi := hN.out.frozen i
                  have hN2 := hN.out.set i ((H j + 1 : Nat) : Int)
                  rw [waits_set] at hN2
                  have d1 : decide ((H i : Int) ≤ (H j : Int)) = true := by simpa using hge
                  have d2 : (H i : Int) ≤ (H j : Int) := by omega
                  have d3 : decide ((H j : Int) < (H i : Int)) = false := by simpa using hge
                  have hb2 := Lib.hid (hb.out.setCell (p := ⟨w2.heap.size, i, none⟩) (Nat.le_refl _) (.int .i64 ((H j + 1 : Nat) : Int)))
                  replace hN2 := Lib.hid hN2
                  replace hC2 := Lib.hid hC2
                  clear hC hN hb hm hge hlt hz hHj hj hlo hjo
                  go_wp2_with fail
                  go_quiet (first
                    | (go_at_call 15; exact Calls.quiet_of_same (hTo.out _))
                    | (go_at_call 56; exact Calls.quiet_of_same (hHs.out _)))
                  go_wp2
                  exact ⟨⟨j + 1, _, hj2.out, by simp, hC2, Lib.hid hN2.out, Lib.hid ⟨hb2.out.os, hb2.out.tape, hb2.out.output, hb2.out.size, hb2.out.block⟩⟩, by have := hms2.out; simp [intOf]; omega⟩
                · have hC2 := Lib.hid (hC.out.keep (by omega))
                  have d1 : decide ((H i : Int) ≤ (H j : Int)) = false := by simpa using hge
                  have d2 : ¬ (H i : Int) ≤ (H j : Int) := by omega
                  have d3 : (H j : Int) < (H i : Int) := by omega
                  clear hC hm hge hlt hz hj hlo hjo
                  go_wp2_with fail
                  go_quiet (first
                    | (go_at_call 15; exact Calls.quiet_of_same (hTo.out _))
                    | (go_at_call 56; exact Calls.quiet_of_same (hHs.out _)))
                  go_wp2
                  exact ⟨⟨j + 1, H, hj2.out, by simp, hC2, Lib.hid hN.out, Lib.hid (b_next hb.out (b_drewN _ _) (Nat.le_refl _))⟩, by have := hms2.out; simp [intOf]; omega⟩
              · have hC2 := Lib.hid (hC.out.skip hm)
                have hmb : has (o[j]?.getD 0) (G.T (o[i]?.getD 0)) = false := by rw [has_mem]; simpa using hm
                rw [hmb] at hHs
                clear hC hm hlt hz hj hlo hjo
                go_wp2_with fail
                go_quiet (first
                  | (go_at_call 15; exact Calls.quiet_of_same (hTo.out _))
                  | (go_at_call 56; exact Calls.quiet_of_same (hHs.out _)))
                go_wp2
                exact ⟨⟨j + 1, H, hj2.out, by simp, hC2, Lib.hid hN.out, Lib.hid (b_next hb.out (b_drewN _ _) (Nat.le_refl _))⟩, by have := hms2.out; simp [intOf]; omega⟩
            · obtain rfl : j = i := by omega
              have k1 : ¬ (j : Int) < j := by omega
              have hC2 := Lib.hid hC.out.next
              clear hC
              go_wp2
              go_roundg (n - (j + 1))
              case measure => exact hms.out
              case rel => exact ⟨j + 1, H, by simp, hi3.out, Nat.le_refl _, hC2, hN, hb⟩
        · obtain rfl : i = n := by omega
          have l1 : ¬ (i : Int) < i := by omega
          have c0 := hN.out.cell (j := i - 1) (by rw [waits_len]; omega)
          rw [waits_at H (by omega)] at c0
          have hw1 : IntKind.i64.wrap ((i : Int) - 1) = ((i - 1 : Nat) : Int) := by rw [show (i : Int) - 1 = ((i - 1 : Nat) : Int) by omega]; exact wrap_nat (i - 1) (by omega)
          have l2 : ((i - 1 : Nat) : Int) < i := by omega
          have l3 : (0 : Int) ≤ ((i - 1 : Nat) : Int) := by omega
          have hx : Hid (Heighted w G k (.returned (.tuple #[.int .i64 (H (i - 1) : Int), .int .i64 0])) wr) := Lib.hid (by
            have hHt := Climb.hts hM.out ho.out (by rw [hn.out]; exact hC.out)
            have e1 : o.idxOf k = i - 1 := by
              have S := order_stand _ rfl (reach_rises hM.out.1) ho.out
              obtain ⟨l9, e9⟩ := List.getElem?_eq_some_iff.1 hlast.out
              rw [← e9]
              exact List.Nodup.idxOf_getElem S.nodup _ l9
            exact Heighted.mk_ (Or.inr ⟨hk.out, M, hM.out, Or.inr ⟨o, _, ho.out, hHt, by rw [e1], rfl⟩⟩) (b_next b02.out hb.out (Nat.le_refl _)))
          clear hN hC hgg hi2
          go_wp2
          go_ret2
          exact hx.out
  · rw [show decide (k ∈ G.D) = false by simpa using hk] at hHas
    have hend : Hid (Heighted w G k (.returned (.tuple #[.int .i64 0, .int .i64 12])) w) := Lib.hid (Heighted.mk_ (Or.inl ⟨hk, rfl, rfl⟩) hb00)
    clear hk hRe
    go_enter Tryz.func25, Tryz.ntmps25
    go_wp2_with (go_at_call 12; refine hHas.out.mono ?_; rintro e w' ⟨rfl, hw'⟩; obtain rfl := hw'.symm; clear hw' hHas)
    go_ret2
    exact hend.out
end Go.Proofs.YtcoccaglbepbdaaGreat.Rg
