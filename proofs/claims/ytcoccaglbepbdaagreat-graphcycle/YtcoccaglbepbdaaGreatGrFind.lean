/-
  slices.ContainsFunc with a graph's lacks, slices.Max, slices.BinarySearch over numbers. Conditions: a list is not too long; for Max it has a number, for BinarySearch it rises.
-/
import Derived.Test.YtcoccaglbepbdaaGreatRows
import Derived.Test.YtcoccaglbepbdaaGreatGrReach
namespace Go.Proofs.YtcoccaglbepbdaaGreat.Gr
open Go.RowKit Sh
open Key (lt)
open Ent (key)
open Ti (keysV keysV_len)
open Rf (Sl sl_of_owns)
attribute [local go_sem] fold_none

set_option maxHeartbeats 2000000 in
theorem Contains_lacks (w : World) (b m g cap : Nat) (G : Gph) (M : List Int) (h : GraphAt w b m G) (hM : M.length ≤ 1000000) (hg : g < w.heap.size) (hc : ∀ t, t < M.length → w.cell? ⟨g, t, none⟩ = some (.int .i64 (M[t]?.getD 0))) :
    Calls Tryz.prog 49 #[.slice (some ⟨g, 0, none⟩) M.length cap, .func (.func 45) #[.pointer (some ⟨b, 0, none⟩)] #[]] w fun e w' => ∃ z, e = .returned (.bool z) ∧ (z = false ↔ ∀ x ∈ M, x ∈ G.D) ∧ Below w.heap.size w w' := by
  have hI := (IndexFunc_lacks (some ⟨b, 0, none⟩) (fun x => !decide (x ∈ G.D)) (fun W => GraphAt W b m G) (fun W W' h hb => h.next hb)
    (fun W x h => (lacks_calls W b m G x h).mono fun e w' ⟨h1, h2⟩ => ⟨h1, by rw [h2]; exact Below.refl _ _⟩) w g cap M hM h hg hc)
  replace hI := Lib.hid (hI.mono (R' := fun e w' => ∃ z : Int, e = .returned (.int .i64 z) ∧ (¬ 0 ≤ z ↔ ∀ x ∈ M, x ∈ G.D) ∧ Below w.heap.size w w') (by
    rintro e w' ⟨⟨k, hk, hpre⟩, -, hb⟩
    rcases hk with ⟨hlt, rfl, hp⟩ | ⟨rfl, rfl⟩
    · refine ⟨(k : Int), rfl, ⟨fun e => absurd (by omega) e, fun e => ?_⟩, hb⟩
      have hx := e (M[k]?.getD default) (by rw [List.getElem?_eq_getElem hlt]; simp)
      simp only [Bool.not_eq_true', decide_eq_false_iff_not] at hp
      exact absurd hx hp
    · refine ⟨-1, rfl, ⟨fun _ x hx => ?_, fun _ => by omega⟩, hb⟩
      obtain ⟨t, ht, e⟩ := List.getElem_of_mem hx
      have h2 := hpre t ht
      rw [List.getElem?_eq_getElem ht] at h2
      simp only [Option.getD_some, Bool.not_eq_false', decide_eq_true_eq] at h2
      exact e ▸ h2))
  clear h hc
  go_enter Tryz.func49, Tryz.ntmps49
  go_wp2_with (go_at_call 75; refine hI.out.mono ?_; rintro e w1 ⟨z, rfl, h1, h2⟩)
  go_ret
  refine ⟨_, rfl, ?_, h2⟩
  rw [← h1]
  simp

set_option maxHeartbeats 2000000 in
theorem Max_calls (w : World) (v : Value) (M : List Int) (hM : M.length ≤ 1000000) (h0 : 0 < M.length) (hv : Sl w v M) :
    Calls Tryz.prog 54 #[v] w fun e w' => (∃ x, e = .returned (.int .i64 x) ∧ x ∈ M ∧ ∀ y ∈ M, y ≤ x) ∧ w' = w := by
  obtain ⟨s, cap, rfl, hr⟩ := hv
  obtain ⟨g, off, rfl, hg, hc⟩ := hr h0
  have c0 := hc 0 h0
  have l0 : ¬ (M.length : Int) < 1 := by omega
  have l1 : (0 : Int) < M.length := by omega
  have hx0 : Hid (M[0]?.getD 0 ∈ M ∧ ∀ t, t < 1 → M[t]?.getD 0 ≤ M[0]?.getD 0) := Lib.hid ⟨by rw [List.getElem?_eq_getElem h0]; simp, fun t ht => by rw [show t = 0 by omega]; exact Int.le_refl _⟩
  rw [Nat.add_zero] at c0
  obtain ⟨n, hn⟩ : ∃ n, n = M.length := ⟨_, rfl⟩
  rw [← hn] at hM h0 l0 l1 ⊢
  replace hn := Lib.hid hn
  rw [← hn.out] at hc
  generalize M[0]?.getD 0 = x0 at c0 hx0
  clear hr
  replace hc := Lib.hid hc
  go_enter Tryz.func54, Tryz.ntmps54
  go_wp2
  go_loopg [3, 4] n (fun gg s3 s4 wr => ∃ (k : Nat) (x : Int), s3 = .int .i64 x ∧ s4 = .int .i64 (k : Int) ∧ 1 ≤ k ∧ k ≤ n ∧ n - k ≤ gg ∧ Hid (x ∈ M ∧ ∀ t, t < k → M[t]?.getD 0 ≤ x) ∧ wr = w)
  case atStart => exact ⟨1, x0, rfl, rfl, by omega, by omega, by omega, hx0, rfl⟩
  case round =>
    obtain ⟨k, x, rfl, rfl, hk1, hk, hgg, hx, rfl⟩ := hrel
    clear hx0 c0
    by_cases hlt : k < n
    · have ck := hc.out k hlt
      have l2 : (k : Int) < n := by omega
      have l3 : (0 : Int) ≤ k := by omega
      have hw1 : IntKind.i64.wrap ((k : Int) + 1) = ((k + 1 : Nat) : Int) := wrap_nat (k + 1) (by omega)
      have hnx : Hid (∀ z, z = max x (M[k]?.getD 0) → z ∈ M ∧ ∀ t, t < k + 1 → M[t]?.getD 0 ≤ z) := Lib.hid fun z hz => by
        have hm : M[k]?.getD 0 ∈ M := by rw [List.getElem?_eq_getElem (by have := hn.out; omega)]; simp
        refine ⟨?_, fun t ht => ?_⟩
        · by_cases h : x ≤ M[k]?.getD 0
          · rw [hz, Int.max_eq_right h]; exact hm
          · rw [hz, Int.max_eq_left (by omega)]; exact hx.out.1
        · by_cases e : t = k
          · subst e; omega
          · have := hx.out.2 t (by omega); omega
      have hms : Hid (n - (k + 1) < gk) := Lib.hid (by omega)
      have hk2 : Hid (1 ≤ k + 1 ∧ k + 1 ≤ n) := Lib.hid ⟨by omega, by omega⟩
      generalize M[k]?.getD 0 = y at *
      clear hx
      go_wp2
      go_roundg (n - (k + 1))
      case measure => exact hms.out
      case rel => exact ⟨k + 1, max x y, by first | rfl | simp, by simp, hk2.out.1, hk2.out.2, Nat.le_refl _, Lib.hid (hnx.out _ rfl), rfl⟩
    · obtain rfl : k = n := by omega
      have l2 : ¬ (k : Int) < k := by omega
      go_wp2
      go_ret
      refine ⟨⟨x, rfl, hx.out.1, fun y hy => ?_⟩, rfl⟩
      obtain ⟨t, ht, e⟩ := List.getElem_of_mem hy
      have h2 := hx.out.2 t (by have := hn.out; omega)
      rw [List.getElem?_eq_getElem ht] at h2
      rw [← e]; simpa using h2

theorem isNaN_calls (w : World) (x : Int) : Calls Tryz.prog 104 #[.int .i64 x] w fun e w' => e = .returned (.bool false) ∧ w' = w := by
  go_enter Tryz.func104, Tryz.ntmps104
  go_wp2
  go_ret
  exact ⟨by simp, rfl⟩
theorem nth_rise {M : List Int} (hR : Rises M) {i j : Nat} (hij : i < j) (hj : j < M.length) : M[i]?.getD 0 < M[j]?.getD 0 := by
  rw [List.getElem?_eq_getElem hj, List.getElem?_eq_getElem (Nat.lt_trans hij hj)]
  have := List.pairwise_iff_getElem.1 hR i j (Nat.lt_trans hij hj) hj hij
  simpa [lt_int, key_int] using this
/-- where a number is, if it is there -/
def Finds (M : List Int) (x : Int) (e : Ending) : Prop := ∃ (k : Nat) (z : Bool), e = .returned (.tuple #[.int .i64 (k : Int), .bool z]) ∧ ((z = true ∧ k < M.length ∧ M[k]?.getD 0 = x) ∨ (z = false ∧ x ∉ M))
theorem Finds.yes {M : List Int} {x : Int} {k : Nat} (h1 : k < M.length) (h2 : M[k]?.getD 0 = x) : Finds M x (.returned (.tuple #[.int .i64 (k : Int), .bool true])) := ⟨k, true, rfl, Or.inl ⟨rfl, h1, h2⟩⟩
theorem Finds.no {M : List Int} {x : Int} (k : Nat) (h : x ∉ M) : Finds M x (.returned (.tuple #[.int .i64 (k : Int), .bool false])) := ⟨k, false, rfl, Or.inr ⟨rfl, h⟩⟩
set_option maxRecDepth 100000 in
set_option maxHeartbeats 4000000 in
theorem Search_calls (w : World) (v : Value) (M : List Int) (x : Int) (hM : M.length ≤ 1000000) (hR : Rises M) (hv : Sl w v M) :
    Calls Tryz.prog 82 #[v, .int .i64 x] w fun e w' => Finds M x e ∧ w' = w := by
  obtain ⟨s, cap, rfl, hr⟩ := hv
  have hL := Lib.hid fun w' a => Ci.Less_calls a x w'
  have hN := Lib.hid fun w' a => isNaN_calls w' a
  go_enter Tryz.func82, Tryz.ntmps82
  go_wp2
  go_loopg [7, 8] M.length (fun gg s7 s8 wr => ∃ (i j : Nat), s7 = .int .i64 (i : Int) ∧ s8 = .int .i64 (j : Int) ∧ i ≤ j ∧ j ≤ M.length ∧ j - i ≤ gg ∧ Hid ((∀ t, t < i → M[t]?.getD 0 < x) ∧ (∀ t, j ≤ t → t < M.length → x ≤ M[t]?.getD 0)) ∧ wr = w)
  case atStart => exact ⟨0, M.length, rfl, rfl, by omega, by omega, by omega, Lib.hid ⟨fun t h => by omega, fun t h1 h2 => by omega⟩, rfl⟩
  case round =>
    obtain ⟨i, j, rfl, rfl, hij, hj, hgg, hpre, rfl⟩ := hrel
    by_cases hlt : i < j
    · obtain ⟨g, off, rfl, hg, hc⟩ := hr (by omega)
      have hcq := Lib.hid hc
      have hL2 := Lib.hid (hL.out wr (M[(i + j) / 2]?.getD 0))
      have hup : Hid (lt (M[(i + j) / 2]?.getD 0) x = true → ∀ t, t < (i + j) / 2 + 1 → M[t]?.getD 0 < x) := Lib.hid fun h t ht => by
        rw [lt_int] at h
        have h2 := of_decide_eq_true h
        by_cases e : t = (i + j) / 2
        · rw [e]; exact h2
        · have := nth_rise hR (i := t) (j := (i + j) / 2) (by omega) (by omega); omega
      have hdn : Hid (lt (M[(i + j) / 2]?.getD 0) x = false → ∀ t, (i + j) / 2 ≤ t → t < M.length → x ≤ M[t]?.getD 0) := Lib.hid fun h t h1 ht => by
        rw [lt_int] at h
        have h2 := of_decide_eq_false h
        by_cases e : t = (i + j) / 2
        · rw [e]; omega
        · have := nth_rise hR (i := (i + j) / 2) (j := t) (by omega) ht; omega
      have hsz : Hid (i + j ≤ 2000000) := Lib.hid (by omega)
      have hlt2 := Lib.hid hlt
      have ck := hc ((i + j) / 2) (by omega)
      cases hz : lt (M[(i + j) / 2]?.getD 0) x with
      | true =>
        rw [hz] at hL2
        have hpr2 := Lib.hid (And.intro (hup.out hz) hpre.out.2)
        generalize M[(i + j) / 2]?.getD 0 = y at *
        clear hr hc hup hdn hz hL
        go_wp2_with (go_at_call 103; refine hL2.out.mono ?_; rintro e w1 ⟨rfl, rfl⟩)
        go_roundg (j - ((i + j) / 2 + 1))
        case measure => have := hlt2.out; omega
        case rel => exact ⟨(i + j) / 2 + 1, j, by simp, rfl, by have := hlt2.out; omega, hj, Nat.le_refl _, hpr2, rfl⟩
      | false =>
        rw [hz] at hL2
        have hpr2 := Lib.hid (And.intro hpre.out.1 (hdn.out hz))
        generalize M[(i + j) / 2]?.getD 0 = y at *
        clear hr hc hup hdn hz hL
        go_wp2_with (go_at_call 103; refine hL2.out.mono ?_; rintro e w1 ⟨rfl, rfl⟩)
        go_roundg ((i + j) / 2 - i)
        case measure => have := hlt2.out; omega
        case rel => exact ⟨i, (i + j) / 2, rfl, by simp, by omega, by have := hlt2.out; omega, Nat.le_refl _, hpr2, rfl⟩
    · obtain rfl : i = j := by omega
      have l0 : ¬ (i : Int) < i := by omega
      clear hij hgg hlt hL
      by_cases hlt : i < M.length
      · obtain ⟨g, off, rfl, hg, hc⟩ := hr (by omega)
        have ck := hc i hlt
        have l1 : (i : Int) < M.length := by omega
        have l2 : (0 : Int) ≤ i := by omega
        have hlt2 := Lib.hid hlt
        have hxm : Hid (M[i]?.getD 0 ≠ x → x ∉ M) := Lib.hid fun hne hx => by
          obtain ⟨t, ht, e⟩ := List.getElem_of_mem hx
          have he : M[t]?.getD 0 = x := by rw [List.getElem?_eq_getElem ht]; simpa using e
          by_cases h1 : t < i
          · have := hpre.out.1 t h1; omega
          · have h2 := hpre.out.2 i (Nat.le_refl _) hlt
            by_cases h3 : t = i
            · subst h3; exact hne he
            · have := nth_rise hR (i := i) (j := t) (by omega) ht; omega
        have hN1 := Lib.hid (hN.out wr (M[i]?.getD 0))
        obtain ⟨y, hy⟩ : ∃ y, Hid (M[i]?.getD 0 = y) := ⟨_, Lib.hid rfl⟩
        rw [hy.out] at ck hxm hN1
        clear hc hr hpre
        by_cases hyx : y = x
        · subst hyx
          clear hxm
          go_wp2
          go_ret2
          exact ⟨Finds.yes hlt2.out hy.out, rfl⟩
        · have hbe : (y == x) = false := by simpa using hyx
          have hxm2 := Lib.hid (hxm.out hyx)
          clear hxm
          go_wp2_with (go_at_call 104; refine hN1.out.mono ?_; rintro e w1 ⟨rfl, rfl⟩)
          go_ret2
          exact ⟨Finds.no i hxm2.out, rfl⟩
      · obtain rfl : i = M.length := by omega
        have hxm : Hid (x ∉ M) := Lib.hid fun hx => by
          obtain ⟨t, ht, e⟩ := List.getElem_of_mem hx
          have he : M[t]?.getD 0 = x := by rw [List.getElem?_eq_getElem ht]; simpa using e
          have := hpre.out.1 t ht; omega
        clear hr hpre
        go_wp2
        go_ret2
        exact ⟨Finds.no M.length hxm.out, rfl⟩
end Go.Proofs.YtcoccaglbepbdaaGreat.Gr
