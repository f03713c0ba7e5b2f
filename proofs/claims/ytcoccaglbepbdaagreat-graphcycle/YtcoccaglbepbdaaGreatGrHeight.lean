/-
  graph's heights: how long the longest way from each place is. Conditions: as many places as the statements ask of; an order in which each stands behind all that it points to.
-/
import Derived.Test.YtcoccaglbepbdaaGreatRows
import Derived.Test.YtcoccaglbepbdaaGreatGrSettle
import Derived.StillTailTactics
namespace Go.Proofs.YtcoccaglbepbdaaGreat.Gr
open Go.RowKit Sh
open Ti (keysV keysV_len info_key)
open Rf (Sl sl_of_owns)
attribute [local go_sem] fold_none

/-- heights of the first i in an order, and the first j pointings of the next -/
structure Rising (n : Nat) (rows : List (List Int)) (o : List Int) (i j : Nat) (h : Nat → Nat) : Prop where
  done : ∀ q : Nat, q < n → (q : Int) ∈ o.take i → h q = sup ((rows[q]?.getD []).map fun y => h y.toNat + 1) ∧ h q + 1 ≤ i
  now : ∀ q : Nat, o[i]? = some (q : Int) → h q = sup (((rows[q]?.getD []).take j).map fun y => h y.toNat + 1) ∧ h q ≤ i
  rest : ∀ q : Nat, q < n → (q : Int) ∉ o.take i → o[i]? ≠ some (q : Int) → h q = 0
theorem stand_in {T : Int → List Int} {left o : List Int} (S : Stand T left o) {i : Nat} {x : Int} (hx : o[i]? = some x) : x ∉ o.take i := fun e => by
  obtain ⟨t, ht⟩ := List.mem_iff_getElem?.1 e
  have hlt := (List.getElem?_eq_some_iff.1 ht).1
  rw [List.length_take] at hlt
  rw [List.getElem?_take, if_pos (by omega)] at ht
  obtain ⟨h1, e1⟩ := List.getElem?_eq_some_iff.1 hx
  obtain ⟨h2, e2⟩ := List.getElem?_eq_some_iff.1 ht
  have := (List.getElem_inj S.nodup).1 (e1.trans e2.symm)
  omega
theorem take_in {o : List Int} {i t : Nat} {x : Int} (h : t ≤ i) (hx : x ∈ o.take t) : x ∈ o.take i := by
  have : o.take t = (o.take i).take t := by rw [List.take_take]; congr 1; omega
  rw [this] at hx
  exact List.mem_of_mem_take hx
theorem take_mem {o : List Int} {i : Nat} {x : Int} (hx : x ∈ o.take i) : ∃ t, t < i ∧ o[t]? = some x := by
  obtain ⟨t, ht⟩ := List.mem_iff_getElem?.1 hx
  have hlt := (List.getElem?_eq_some_iff.1 ht).1
  rw [List.length_take] at hlt
  exact ⟨t, by omega, by rwa [List.getElem?_take, if_pos (by omega)] at ht⟩
theorem Rising.start (n : Nat) (rows : List (List Int)) (o : List Int) : Rising n rows o 0 0 (fun _ => 0) :=
  ⟨fun q _ h => by simp at h, fun q _ => by simp [sup], fun q _ _ _ => rfl⟩
section
variable {n : Nat} {rows : List (List Int)} {o : List Int} {i j : Nat} {h : Nat → Nat}
theorem Rising.next (S : Stand (ptr rows) (rng n) o) (H : Rising n rows o i j h) {p : Nat} (hp : o[i]? = some (p : Int)) (hj : j = (rows[p]?.getD []).length) : Rising n rows o (i + 1) 0 h := by
  have hlt := (List.getElem?_eq_some_iff.1 hp).1
  have ht : o.take (i + 1) = o.take i ++ [(p : Int)] := by rw [List.take_add_one, hp]; rfl
  have hs := H.now p hp
  rw [hj, List.take_length] at hs
  refine ⟨fun q hq hm => ?_, fun q hq => ?_, fun q hq hm hne => ?_⟩
  · rw [ht] at hm
    rcases List.mem_append.1 hm with hm | hm
    · have := H.done q hq hm
      exact ⟨this.1, by omega⟩
    · have : q = p := by simp at hm; omega
      subst this
      exact ⟨hs.1, by omega⟩
  · have hn := stand_in S hq
    have h1 : (q : Int) ∉ o.take i := fun e => hn (take_in (by omega) e)
    have h2 : o[i]? ≠ some (q : Int) := fun e => hn (by rw [ht, ← Option.some.inj (hp.symm.trans e)]; simp)
    have hq2 : q < n := by
      obtain ⟨z, h3, h4⟩ := mem_rng.1 ((S.mem _).1 (List.mem_of_getElem? hq))
      omega
    have := H.rest q hq2 h1 h2
    exact ⟨by rw [this]; simp [sup], by omega⟩
  · rw [ht] at hm
    exact H.rest q hq (fun e => hm (List.mem_append.2 (Or.inl e))) fun e => hm (List.mem_append.2 (Or.inr (by rw [Option.some.inj (hp.symm.trans e)]; simp)))
theorem Rising.step (hP : Places n rows) (S : Stand (ptr rows) (rng n) o) (H : Rising n rows o i j h) {p q : Nat} (hp : o[i]? = some (p : Int)) (hj : j < (rows[p]?.getD []).length) (hq : (rows[p]?.getD [])[j]?.getD 0 = (q : Int)) :
    q < n ∧ q ≠ p ∧ h q + 1 ≤ i ∧ h p ≤ i ∧ Rising n rows o i (j + 1) (fun x => if x = p then max (h p) (h q + 1) else h x) := by
  have hpn : p < n := by
    obtain ⟨z, h3, h4⟩ := mem_rng.1 ((S.mem _).1 (List.mem_of_getElem? hp))
    omega
  have hin : ∀ (t r : Nat), o[t]? = some (r : Int) → r < n → ∀ y ∈ rows[r]?.getD [], y ∈ o.take t := fun t r hr hrn y hy => by
    obtain ⟨z, h1, h2⟩ := (hP.each _ (by rw [List.getElem?_eq_getElem (show r < rows.length by rw [hP.len]; exact hrn)]; simp)).2 y hy
    exact S.behind t _ hr y (by rw [ptr_nat]; exact hy) (mem_rng.2 ⟨z, h1, h2⟩)
  have hqm : (q : Int) ∈ rows[p]?.getD [] := by
    rw [List.getElem?_eq_getElem hj] at hq
    simp only [Option.getD_some] at hq
    rw [← hq]; exact List.getElem_mem hj
  have hqt := hin i p hp hpn _ hqm
  have hpt := stand_in S hp
  have hqp : q ≠ p := fun e => hpt (e ▸ hqt)
  have hqn : q < n := by
    obtain ⟨z, h1, h2⟩ := (hP.each _ (by rw [List.getElem?_eq_getElem (show p < rows.length by rw [hP.len]; exact hpn)]; simp)).2 _ hqm
    omega
  have hq1 := (H.done q hqn hqt).2
  have hp1 := (H.now p hp)
  have same : ∀ y ∈ o.take i, (if y.toNat = p then max (h p) (h q + 1) else h y.toNat) = h y.toNat := fun y hy => by
    obtain ⟨t, h1, h2⟩ := take_mem hy
    obtain ⟨z, h3, h4⟩ := mem_rng.1 ((S.mem _).1 (List.mem_of_getElem? h2))
    have : y.toNat ≠ p := fun e => by
      have : z = p := by omega
      exact hpt (by rw [← this, ← h4]; exact hy)
    rw [if_neg this]
  refine ⟨hqn, hqp, hq1, hp1.2, fun r hr hm => ?_, fun r hr => ?_, fun r hr hm hne => ?_⟩
  · have hrp : r ≠ p := fun e => hpt (e ▸ hm)
    have := H.done r hr hm
    rw [if_neg hrp]
    refine ⟨?_, this.2⟩
    rw [this.1]
    congr 1
    refine List.map_congr_left fun y hy => ?_
    obtain ⟨t, h1, h2⟩ := take_mem hm
    rw [same y (take_in (by omega) (hin t r h2 hr y hy))]
  · have hrp : r = p := by have := Option.some.inj (hr.symm.trans hp); omega
    subst hrp
    have ht : (rows[r]?.getD []).take (j + 1) = (rows[r]?.getD []).take j ++ [(q : Int)] := by
      rw [List.take_add_one, List.getElem?_eq_getElem hj]
      rw [List.getElem?_eq_getElem hj] at hq
      simp only [Option.getD_some] at hq
      simp [hq]
    simp only [if_true]
    refine ⟨?_, by omega⟩
    have e2 : ((rows[r]?.getD []).take j).map (fun y => (if y.toNat = r then max (h r) (h q + 1) else h y.toNat) + 1) = ((rows[r]?.getD []).take j).map (fun y => h y.toNat + 1) :=
      List.map_congr_left fun y hy => by rw [same y (hin i r hp hpn y (List.mem_of_mem_take hy))]
    rw [ht, List.map_append, List.map_singleton, sup_snoc, Int.toNat_natCast, if_neg hqp, e2, ← hp1.1]
  · have hrp : r ≠ p := fun e => hne (by rw [e]; exact hp)
    rw [if_neg hrp]
    exact H.rest r hr hm hne
end

/-- all heights -/
def Heightened (w : World) (n : Nat) (rows : List (List Int)) (o : List Int) (e : Ending) (w' : World) : Prop := ∃ r h, e = .returned r ∧ Sl w' r (waitsOf n h) ∧ Rising n rows o n 0 h ∧ Below w.heap.size w w'
set_option maxRecDepth 100000 in
set_option maxHeartbeats 4000000 in
theorem heights_calls (w : World) (v u : Value) (n : Nat) (rows : List (List Int)) (o : List Int) (hP : Places n rows) (hv : Reads2 w v rows) (S : Stand (ptr rows) (rng n) o) (hu : Sl w u o) :
    Calls Tryz.prog 55 #[v, u] w (Heightened w n rows o) := by
  obtain ⟨i0, hi, hz0, hz1, hz2⟩ := info_parts info_key
  have hlen := hP.len
  have hfew := hP.few
  have hRd := Lib.hid hv
  have hol := S.len
  rw [rng_len] at hol
  obtain ⟨gi, cap, rfl, -, -⟩ := hv
  obtain ⟨su, cu, rfl, hu2⟩ := sl_box hu
  rw [hlen] at hRd ⊢
  rw [hol] at hu2 ⊢
  have hmk : (Instr.makeSlice 23 (.int .i64 (n : Int)) (.int .i64 (n : Int))).run Tryz.prog w = .ok (.slice (some ⟨w.heap.size, 0, none⟩) n n) (w.alloc (.cells (madeCells #[.int .i64 0] n) 3)) := by
    have h := run_makeSlice (P := Tryz.prog) w 23 3 i0 _ Tryz.underlying23 hi hz0 .i64 .i64 (n : Int) (n : Int) (by omega) (by omega) (by rw [hz1]; omega) (by rw [hz2]; omega) (by omega)
    simpa [hz1, Value.cells] using h
  have hN0 := NumAt.new w n
  rw [waits_zero] at hN0
  replace hN0 := Lib.hid hN0
  have b0 := Lib.hid (b_alloc w (.cells (madeCells #[Value.int .i64 0] n) 3))
  have hR0 := Lib.hid (Rising.start n rows o)
  replace S := Lib.hid S
  replace hP := Lib.hid hP
  clear hu
  go_enter Tryz.func55, Tryz.ntmps55
  go_wp2
  go_loopg [15] n (fun gg s15 wr => ∃ (i : Nat) (h : Nat → Nat), s15 = .int .i64 (i : Int) ∧ i ≤ n ∧ n - i ≤ gg ∧ Hid (Rising n rows o i 0 h) ∧ Hid (NumAt wr w.heap.size (waitsOf n h)) ∧ Hid (Below w.heap.size w wr))
  case atStart => exact ⟨0, _, rfl, by omega, by omega, hR0, hN0, b0⟩
  case round =>
    obtain ⟨i, h, rfl, hi2, hgg, hR, hN, hb⟩ := hrel
    clear hR0 hN0 b0
    by_cases hlt : i < n
    · have hlo : i < o.length := by omega
      obtain ⟨go, oo, rfl, co⟩ := sl_cell hu2.out hb.out hlo
      have hop : o[i]? = some (o[i]?.getD 0) := by rw [List.getElem?_eq_getElem hlo]; simp
      obtain ⟨p, hpn, hpe⟩ := mem_rng.1 ((S.out.mem _).1 (List.mem_of_getElem? hop))
      rw [hpe] at hop co
      have hrp : rows[p]? = some (rows[p]?.getD []) := by rw [List.getElem?_eq_getElem (by omega)]; simp
      obtain ⟨hgi, ur, hcu, hur⟩ := hRd.out.row hrp
      have cu2 : wr.cell? ⟨gi, p, none⟩ = some ur := (hb.out.cell (p := ⟨gi, p, none⟩) hgi).trans hcu
      obtain ⟨sr, cr, rfl, hur2⟩ := sl_box hur
      have hPr := Lib.hid (hP.out.each _ (List.mem_of_getElem? hrp))
      have l1 : (i : Int) < n := by omega
      have l2 : (0 : Int) ≤ i := by omega
      have l3 : (p : Int) < n := by omega
      have l4 : (0 : Int) ≤ p := by omega
      have hw1 : IntKind.i64.wrap ((i : Int) + 1) = ((i + 1 : Nat) : Int) := wrap_nat (i + 1) (by omega)
      have hms : Hid (n - (i + 1) < gk) := Lib.hid (by omega)
      have hi3 : Hid (i + 1 ≤ n) := Lib.hid (by omega)
      obtain ⟨r, hre⟩ : ∃ r, Hid (rows[p]?.getD [] = r) := ⟨_, Lib.hid rfl⟩
      rw [hre.out] at hPr hur2 cu2
      replace hop := Lib.hid hop
      have hpn2 := Lib.hid hpn
      clear hlo hrp hcu hur hgi hpe hgg hlt hpn hi2
      go_wp2
      go_loopw [24] (fun s24 wr2 => ∃ (j : Nat) (h : Nat → Nat), j ≤ r.length ∧ s24 = .int .i64 (j : Int) ∧ Hid (Rising n rows o i j h) ∧ Hid (NumAt wr2 w.heap.size (waitsOf n h)) ∧ Hid (Below w.heap.size w wr2)) (fun s24 _ => r.length - (intOf s24).toNat)
      case atStart => exact ⟨0, h, by omega, rfl, hR, hN, hb⟩
      case round =>
        clear hR hN hb h cu2 co
        obtain ⟨j, h, hj, rfl, hR, hN, hb⟩ := hrel
        by_cases hlt : j < r.length
        · obtain ⟨gl, off, rfl, cl⟩ := sl_cell hur2.out hb.out hlt
          obtain ⟨q, hqn, hqe⟩ := hPr.out.2 (r[j]?.getD 0) (by rw [List.getElem?_eq_getElem hlt]; simp)
          rw [hqe] at cl
          obtain ⟨-, hqp, hq1, hp1, hR2⟩ := hR.out.step hP.out S.out hop.out (by rw [hre.out]; exact hlt) (by rw [hre.out]; exact hqe)
          have cp := hN.out.cell (j := p) (by rw [waits_len]; exact hpn2.out)
          rw [waits_at h hpn2.out] at cp
          have cq := hN.out.cell (j := q) (by rw [waits_len]; exact hqn)
          rw [waits_at h hqn] at cq
          have fp := hN.out.frozen p
          have k1 : (j : Int) < r.length := by omega
          have k2 : (0 : Int) ≤ j := by omega
          have k3 : (q : Int) < n := by omega
          have k4 : (0 : Int) ≤ q := by omega
          have hi5 := hi3.out
          have hrl := hPr.out.1
          have hw2 : IntKind.i64.wrap ((j : Int) + 1) = ((j + 1 : Nat) : Int) := wrap_nat (j + 1) (by omega)
          have hw3 : IntKind.i64.wrap ((h q : Int) + 1) = ((h q + 1 : Nat) : Int) := wrap_nat (h q + 1) (by omega)
          have hN2 := hN.out.set p ((max (h p) (h q + 1) : Nat) : Int)
          rw [waits_set] at hN2
          have hb2 := Lib.hid (hb.out.setCell (p := ⟨w.heap.size, p, none⟩) (Nat.le_refl _) (.int .i64 ((max (h p) (h q + 1) : Nat) : Int)))
          have hms2 : Hid (r.length - (j + 1) < r.length - j) := Lib.hid (by omega)
          have hj2 : Hid (j + 1 ≤ r.length) := Lib.hid (by omega)
          replace hN2 := Lib.hid hN2
          replace hR2 := Lib.hid hR2
          clear hqe hlt hR hN hb hq1 hp1 hqn hi5 hrl hqp
          obtain ⟨a, ha⟩ : ∃ a, a = h p := ⟨_, rfl⟩
          obtain ⟨b, hb⟩ : ∃ b, b = h q + 1 := ⟨_, rfl⟩
          obtain ⟨c, hc⟩ : ∃ c, c = h q := ⟨_, rfl⟩
          obtain ⟨m, hm⟩ : ∃ m, m = max (h p) (h q + 1) := ⟨_, rfl⟩
          have hmx : max (a : Int) (b : Int) = (m : Int) := by omega
          rw [← ha] at cp
          rw [← hc] at cq
          rw [← hb, ← hc] at hw3
          rw [← hm] at hN2 hR2 hb2
          clear ha hb hc hm
          go_wp2_with fail
          go_still_tail 13, (by kernel_rfl)
          change wpList _ _ _ _ _ wr.drew
          go_wp2
          exact ⟨⟨j + 1, _, hj2.out, by simp, hR2, Lib.hid hN2.out, Lib.hid ⟨hb2.out.os, hb2.out.tape, hb2.out.output, hb2.out.size, hb2.out.block⟩⟩, by have := hms2.out; simp [intOf]; omega⟩
        · obtain rfl : j = r.length := by omega
          have k1 : ¬ (r.length : Int) < r.length := by omega
          have hR2 := Lib.hid (hR.out.next S.out hop.out (by rw [hre.out]))
          clear hR
          go_wp2
          go_roundg (n - (i + 1))
          case measure => exact hms.out
          case rel => exact ⟨i + 1, h, by simp, hi3.out, Nat.le_refl _, hR2, hN, hb⟩
    · obtain rfl : i = n := by omega
      have l1 : ¬ (i : Int) < i := by omega
      have hsl := Lib.hid (hN.out.sl (n := i) (cap := i) (waits_len i h).symm)
      clear hN
      go_wp2
      go_ret
      exact ⟨_, h, rfl, hsl.out, hR.out, hb.out⟩
end Go.Proofs.YtcoccaglbepbdaaGreat.Gr
