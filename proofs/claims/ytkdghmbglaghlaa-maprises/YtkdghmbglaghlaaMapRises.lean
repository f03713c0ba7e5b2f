/-
  Of every row of calls: a map's keys rise, each has the value that it was given last unless it was taken since, and there are just as many (MapRises). Conditions: none.
-/
import Derived.Test.YtkdghmbglaghlaaRows
import Derived.Test.YtkdghmbglaghlaaOctKit
import Derived.Test.YtkdghmbglaghlaaShAwake
import Derived.Test.YtkdghmbglaghlaaShCalls
import Derived.Test.YtkdghmbglaghlaaShLast
import Derived.ProofKit
import Derived.OpenShut
import Derived.Stop.Joined
import Derived.Deep.AppendLies
namespace Go.Proofs.Ytkdghmbglaghlaa.mapRises
open Go Go.ChangeShapes Go.WideShapes Go.ChangeAt Go.RowKit Sh
open Tm (MapAt keysV Turns)
open Rp (Pr pz CallsAt)
attribute [local go_sem] fold_none

/-- the map behind some of the calls -/
structure St (w wr : World) (b : Nat) (L : List Pr) : Prop where
  map : MapAt wr (some ⟨b, 0, none⟩) L
  below : Below w.heap.size w wr
  own : w.heap.size ≤ b
theorem St.next {w wr w' : World} {b : Nat} {L : List Pr} (h : St w wr b L) (hb : Below wr.heap.size wr w') : St w w' b L := ⟨h.map.next hb, b_then h.below hb, h.own⟩
theorem St.turn {w wr w1 : World} {b : Nat} {L L' : List Pr} (h : St w wr b L) (ht : Turns wr 83 b L' w1) : St w w1 b L' :=
  ⟨ht.1, h.below.grown ht.2 h.below.size (fun q e => by cases e; exact h.own), h.own⟩
theorem key_at {L : List Pr} {n i : Nat} (hn : L.length = n) (hi : i < n) : (keysV L)[i]? = some (.string (L[i]?.getD pz).1) := by
  simp [keysV, List.getElem?_eq_getElem (hn ▸ hi : i < L.length)]

/-- whether a call behind i and ahead of t has its key -/
def Later (K : Nat → ByteArray) (i t : Nat) (z : Bool) : Prop := z = true ↔ ∃ j, i < j ∧ j < t ∧ K j = K i
theorem later_none (K : Nat → ByteArray) (i : Nat) : Later K i (i + 1) false := ⟨fun h => (nomatch h), fun ⟨j, h1, h2, _⟩ => by omega⟩
theorem later_keep {K : Nat → ByteArray} {i t : Nat} (h : Later K i t true) : Later K i (t + 1) true := ⟨fun _ => by obtain ⟨j, h1, h2, h3⟩ := h.1 rfl; exact ⟨j, h1, by omega, h3⟩, fun _ => rfl⟩
theorem later_yes {K : Nat → ByteArray} {i t : Nat} (hi : i + 1 ≤ t) (he : K t = K i) : Later K i (t + 1) true := ⟨fun _ => ⟨t, by omega, by omega, he⟩, fun _ => rfl⟩
theorem later_no {K : Nat → ByteArray} {i t : Nat} (h : Later K i t false) (he : K t ≠ K i) : Later K i (t + 1) false := ⟨fun h => (nomatch h), fun ⟨j, h1, h2, h3⟩ => by
  by_cases e : j = t
  · rw [e] at h3; exact absurd h3 he
  · exact h.2 ⟨j, h1, by omega, h3⟩⟩
theorem later_last {K : Nat → ByteArray} {i N : Nat} (h : Later K i N false) : Last K N i := fun j h1 h2 h3 => by have := h.2 ⟨j, h1, h2, h3⟩; cases this
theorem later_not {K : Nat → ByteArray} {i N : Nat} (h : Later K i N true) : ¬ Last K N i := fun g => by obtain ⟨j, h1, h2, h3⟩ := h.1 rfl; exact g j h1 h2 h3

set_option maxHeartbeats 16000000 in
set_option maxRecDepth 100000 in
theorem walk (w : World) (a : Option Addr) (cap N b2 o2 : Nat) (X : Nat → Int) (K : Nat → ByteArray) (V : Nat → Int) (hP : CallsAt w a b2 o2 N X K V) :
    Calls Try.prog 7 #[.slice a N cap] w fun e w' => e = .returned (.bool true) ∧ Below w.heap.size w w' := by
  have hAw := Lib.hid (Law.awake_calls w)
  have hP0 := Lib.hid hP
  clear hP
  by_cases g1 : 200 < N
  · have d1 : (200 : Int) < N := by omega
    go_enter Try.func7, Try.ntmps7
    go_wp2_with (go_at_call 8; refine hAw.out.mono ?_; rintro e w1 ⟨rfl, b1⟩)
    go_ret
    exact ⟨rfl, b1⟩
  have d1 : decide ((200 : Int) < N) = false := decide_eq_false (by omega)
  have d2 : (N : Int) ≤ 200 := by omega
  have hN2 : Hid (N ≤ 200) := Lib.hid (by omega)
  clear g1
  go_enter Try.func7, Try.ntmps7
  go_wp2_with fail
  refine hAw.out.mono ?_
  rintro e w1 ⟨rfl, b1⟩
  have hN := Lib.hid (Tm.New_calls w1)
  replace b1 := Lib.hid b1
  clear hAw
  go_wp2_with fail
  refine hN.out.mono ?_
  rintro e w2 ⟨rfl, hM, b2'⟩
  have hsz := b1.out.size
  obtain ⟨p, hp⟩ : ∃ p, w1.heap.size = p := ⟨_, rfl⟩
  rw [hp] at hM hsz ⊢
  have st0 : Hid (St w w2 p []) := Lib.hid ⟨hM, b_then b1.out b2', hsz⟩
  clear hN hM b1 b2' hp hsz
  go_wp2_with fail
  go_loopg [4] N (fun gg s4 wr => ∃ (k : Nat), s4 = .int .i64 (k : Int) ∧ k ≤ N ∧ N - k ≤ gg ∧ Hid (St w wr p (run X K V k)))
  case atStart => exact ⟨0, rfl, by omega, by omega, st0⟩
  case round =>
    clear st0
    obtain ⟨k, rfl, hk, hgg, hst⟩ := hrel
    by_cases hlt : k < N
    · have l1 : (k : Int) < N := by omega
      have l2 : (0 : Int) ≤ k := by omega
      have ea := hP0.out.addr (by omega)
      have cx := hP0.out.kind k hlt
      have ck := hP0.out.key k hlt
      have cv := hP0.out.val k hlt
      have hb2 : b2 < w.heap.size := World.block_lt_of_cell? w _ ck
      have cx1 := (hst.out.below.cell (p := ⟨b2, o2 + k * 3, none⟩) hb2).trans cx
      have ck1 := (hst.out.below.cell (p := ⟨b2, o2 + k * 3 + 1, none⟩) hb2).trans ck
      have cv1 := (hst.out.below.cell (p := ⟨b2, o2 + k * 3 + 2, none⟩) hb2).trans cv
      have hms : Hid (N - (k + 1) < gk) := Lib.hid (by omega)
      have hkn : Hid (k + 1 ≤ N) := Lib.hid (by omega)
      have hw1 : IntKind.i64.wrap ((k : Int) + 1) = ((k + 1 : Nat) : Int) := wrap_nat (k + 1) (by have := hN2.out; omega)
      have hL1 : Hid ((run X K V k).length ≤ 200) := Lib.hid (by have := run_len X K V k; have := hN2.out; omega)
      have hR := Lib.hid (run_rises X K V k)
      have hD := Lib.hid fun (h : X k = 3) => (show run X K V (k + 1) = del (K k) (run X K V k) from if_pos h)
      have hI := Lib.hid fun (h : X k ≠ 3) => (show run X K V (k + 1) = ins (K k, V k) (run X K V k) from if_neg h)
      subst ea
      clear hb2 cx ck cv hlt hk hgg hP0
      by_cases e1 : X k = 3
      · have hE := Lib.hid (hD.out e1)
        rw [e1] at cx1
        have hp := Lib.hid (Tm.Del_calls wr 83 p (run X K V k) (K k) (by decide) hst.out.map hR.out (by have := hL1.out; omega))
        clear hD hI e1 cv1
        generalize K k = s at *
        go_wp2_with fail
        refine hp.out.mono ?_
        rintro e w4 ⟨rfl, ht⟩
        have hs4 : Hid (St w w4 p (run X K V (k + 1))) := Lib.hid (by rw [hE.out]; exact hst.out.turn ht)
        clear hp hst ht hE hR
        go_wp2
        go_roundg (N - (k + 1))
        case measure => exact hms.out
        case rel => exact ⟨k + 1, by simp, hkn.out, Nat.le_refl _, hs4⟩
      · have hE := Lib.hid (hI.out e1)
        have f1 : (X k == 3) = false := beq_eq_false_iff_ne.2 e1
        have hp := Lib.hid (Tm.Put_calls wr.drew 83 p (run X K V k) (K k, V k) (by decide) (hst.out.map.next (b_drew _)) hR.out (by have := hL1.out; omega))
        have hs9 := Lib.hid fun w4 (ht : Turns wr.drew 83 p (ins (K k, V k) (run X K V k)) w4) => (by rw [hE.out]; exact (hst.out.next (b_drew _)).turn ht : St w w4 p (run X K V (k + 1)))
        clear hD hI e1
        generalize X k = kd at *
        generalize K k = s at *
        generalize V k = x at *
        go_wp2_with fail
        go_region_law ((go_simp; go_at_call 32; refine hp.out.mono ?_; rintro e w4 ⟨rfl, ht⟩; have hs4 := Lib.hid (hs9.out _ ht); clear ht))
        all_goals
          go_wp2
          go_roundg (N - (k + 1))
          case measure => exact hms.out
          case rel => exact ⟨k + 1, by simp, hkn.out, Nat.le_refl _, hs4⟩
    · obtain rfl : N = k := by omega
      have l1 : ¬ (N : Int) < N := by omega
      clear hlt hk hgg
      go_wp2_with fail
      have st1 := Lib.hid hst.out
      go_loopg [5, 6] N (fun gg s5 s6 wr => ∃ (i : Nat), s5 = .int .i64 (cnt X K V N i : Int) ∧ s6 = .int .i64 (i : Int) ∧ i ≤ N ∧ N - i ≤ gg ∧ Hid (St w wr p (run X K V N)))
      case atStart => exact ⟨0, by rw [cnt_zero]; rfl, rfl, by omega, by omega, st1⟩
      case round =>
        clear hst st1
        obtain ⟨i, rfl, rfl, hi, hgg, hst⟩ := hrel
        by_cases hlt : i < N
        · have l2 : (0 : Int) ≤ i := by omega
          have l3 : (i : Int) < N := by omega
          have hms : Hid (N - (i + 1) < gk) := Lib.hid (by omega)
          have hkn : Hid (i + 1 ≤ N) := Lib.hid (by omega)
          have hw1 : IntKind.i64.wrap ((i : Int) + 1) = ((i + 1 : Nat) : Int) := wrap_nat (i + 1) (by have := hN2.out; omega)
          have ea := hP0.out.addr (by omega)
          subst ea
          have hlt2 := Lib.hid hlt
          have hb2 : Hid (b2 < w.heap.size) := Lib.hid (World.block_lt_of_cell? w _ (hP0.out.key i hlt))
          have hcn : Hid (∃ n0 : Nat, cnt X K V N i = n0 ∧ n0 ≤ 200) := Lib.hid ⟨_, rfl, by have := cnt_le X K V N i; have := hN2.out; omega⟩
          obtain ⟨n0, hn0, hn1⟩ := hcn.out
          rw [hn0]
          replace hn0 := Lib.hid hn0
          replace hn1 := Lib.hid hn1
          clear hcn hlt hi hgg
          go_wp2_with fail
          go_loopg [7, 8] N (fun gg s7 s8 wr => ∃ (z : Bool) (t : Nat), s7 = .bool z ∧ s8 = .int .i64 (t : Int) ∧ i + 1 ≤ t ∧ t ≤ N ∧ N - t ≤ gg ∧ Hid (Later K i t z) ∧ Hid (St w wr p (run X K V N)))
          case atStart => exact ⟨false, i + 1, rfl, by simp, by omega, hkn.out, by omega, Lib.hid (later_none K i), hst⟩
          case round =>
            clear hst
            obtain ⟨z, t, rfl, rfl, ht0, ht1, htg, hz, hst⟩ := hrel
            by_cases hlt : t < N
            · have m2 : (0 : Int) ≤ t := by omega
              have m3 : (t : Int) < N := by omega
              have hmt : Hid (N - (t + 1) < gk) := Lib.hid (by omega)
              have htn : Hid (i + 1 ≤ t + 1 ∧ t + 1 ≤ N) := Lib.hid (by omega)
              have hw2 : IntKind.i64.wrap ((t : Int) + 1) = ((t + 1 : Nat) : Int) := wrap_nat (t + 1) (by have := hN2.out; omega)
              have c1 := (hst.out.below.cell (p := ⟨b2, o2 + t * 3 + 1, none⟩) hb2.out).trans (hP0.out.key t hlt)
              have c2 := (hst.out.below.cell (p := ⟨b2, o2 + i * 3 + 1, none⟩) hb2.out).trans (hP0.out.key i hlt2.out)
              have hs2 : Hid (∀ m, St w (wr.drewN m) p (run X K V N)) := Lib.hid fun m => hst.out.next (b_drewN _ _)
              have hzt := Lib.hid (fun h : z = true => later_keep (h ▸ hz.out))
              have hzy := Lib.hid (fun h : K t = K i => later_yes ht0 h)
              have hzn := Lib.hid (fun (h : z = false) (g : K t ≠ K i) => later_no (h ▸ hz.out) g)
              clear hz ht0 ht1 htg hlt hst
              cases z
              · clear hzt
                by_cases he : K t = K i
                · have q1 := Rp.text_eq he
                  have hz2 := Lib.hid (hzy.out he)
                  clear hzy hzn
                  replace he := Lib.hid he
                  generalize K t = y1 at c1 q1
                  generalize hKi : K i = y2 at c2 q1
                  replace hKi := Lib.hid hKi
                  go_wp2_with fail
                  go_quiet (fail)
                  go_wp2
                  go_roundg (N - (t + 1))
                  case measure => exact hmt.out
                  case rel => exact ⟨true, t + 1, by simp [q1], by simp, htn.out.1, htn.out.2, Nat.le_refl _, hz2, Lib.hid (hs2.out _)⟩
                · have q1 := Rp.text_ne he
                  have hz2 := Lib.hid (hzn.out rfl he)
                  clear hzy hzn
                  replace he := Lib.hid he
                  generalize K t = y1 at c1 q1
                  generalize hKi : K i = y2 at c2 q1
                  replace hKi := Lib.hid hKi
                  go_wp2_with fail
                  go_quiet (fail)
                  go_wp2
                  go_roundg (N - (t + 1))
                  case measure => exact hmt.out
                  case rel => exact ⟨false, t + 1, by simp [q1], by simp, htn.out.1, htn.out.2, Nat.le_refl _, hz2, Lib.hid (hs2.out _)⟩
              · have hz2 := Lib.hid (hzt.out rfl)
                clear hzy hzn hzt c1 c2
                go_wp2_with fail
                go_quiet (fail)
                go_wp2
                go_roundg (N - (t + 1))
                case measure => exact hmt.out
                case rel => exact ⟨true, t + 1, by simp, by simp, htn.out.1, htn.out.2, Nat.le_refl _, hz2, Lib.hid (hs2.out _)⟩
            · obtain rfl : N = t := by omega
              have m1 : ¬ (N : Int) < N := by omega
              have hcx := (hst.out.below.cell (p := ⟨b2, o2 + i * 3, none⟩) hb2.out).trans (hP0.out.kind i hlt2.out)
              have hck := (hst.out.below.cell (p := ⟨b2, o2 + i * 3 + 1, none⟩) hb2.out).trans (hP0.out.key i hlt2.out)
              have hcv := (hst.out.below.cell (p := ⟨b2, o2 + i * 3 + 2, none⟩) hb2.out).trans (hP0.out.val i hlt2.out)
              clear ht0 ht1 htg hlt
              cases z
              · have hla := Lib.hid (later_last hz.out)
                have hfn := run_last X K V hlt2.out hla.out
                have hMs := hst.out.map
                have hR := run_rises X K V N
                by_cases e1 : X i = 3
                · rw [if_pos e1] at hfn
                  have hG := Lib.hid (Tm.Get_calls wr 83 _ _ (K i) hMs hR 0 false (Or.inl ⟨hfn, rfl, rfl⟩))
                  have hc2 : Hid (cnt X K V N (i + 1) = n0) := Lib.hid (by rw [← hn0.out]; exact cnt_none hlt2.out hla.out e1)
                  rw [e1] at hcx
                  clear hz hfn hMs hR hla e1
                  generalize hKi : K i = y2 at hck hG
                  replace hKi := Lib.hid hKi
                  go_wp2_with fail
                  refine hG.out.mono ?_
                  rintro e w4 ⟨rfl, hw4⟩
                  obtain rfl := hw4.symm
                  clear hw4 hG
                  go_wp2
                  go_roundg (N - (i + 1))
                  case measure => exact hms.out
                  case rel => exact ⟨i + 1, by rw [hc2.out], by simp, hkn.out, Nat.le_refl _, hst⟩
                · rw [if_neg e1] at hfn
                  have hG := Lib.hid (Tm.Get_calls wr 83 _ _ (K i) hMs hR (V i) true (Or.inr ⟨_, hfn, rfl, rfl⟩))
                  have hc2 : Hid (cnt X K V N (i + 1) = n0 + 1) := Lib.hid (by rw [← hn0.out]; exact cnt_more hlt2.out hla.out e1)
                  have f1 : (X i == 3) = false := beq_eq_false_iff_ne.2 e1
                  have f2 : (X i != 3) = true := by simp [bne, f1]
                  have hw3 : IntKind.i64.wrap ((n0 : Int) + 1) = ((n0 + 1 : Nat) : Int) := wrap_nat (n0 + 1) (by have := hn1.out; omega)
                  clear hz hfn hMs hR hla e1
                  generalize hKi : K i = y2 at hck hG
                  generalize hVi : V i = x2 at hcv hG
                  generalize hXi : X i = k2 at hcx f1 f2
                  have f3 : (x2 != x2) = false := by simp
                  replace hKi := Lib.hid hKi
                  replace hVi := Lib.hid hVi
                  replace hXi := Lib.hid hXi
                  go_wp2_with fail
                  refine hG.out.mono ?_
                  rintro e w4 ⟨rfl, hw4⟩
                  obtain rfl := hw4.symm
                  clear hw4 hG
                  go_wp2
                  go_roundg (N - (i + 1))
                  case measure => exact hms.out
                  case rel => exact ⟨i + 1, by rw [hc2.out]; simp, by simp, hkn.out, Nat.le_refl _, hst⟩
              · have hc2 : Hid (cnt X K V N (i + 1) = n0) := Lib.hid (by
                  rw [← hn0.out]
                  exact cnt_skip (later_not hz.out))
                clear hcx hck hcv hz
                go_wp2
                go_roundg (N - (i + 1))
                case measure => exact hms.out
                case rel => exact ⟨i + 1, by rw [hc2.out], by simp, hkn.out, Nat.le_refl _, hst⟩
        · obtain rfl : N = i := by omega
          have l1 : ¬ (N : Int) < N := by omega
          rw [cnt_all]
          obtain ⟨L, hL⟩ : ∃ L, run X K V N = L := ⟨_, rfl⟩
          have hR : Rises L := hL ▸ run_rises X K V N
          have hlL : L.length ≤ 200 := by rw [← hL]; have := run_len X K V N; have := hN2.out; omega
          rw [hL] at hst ⊢
          clear hL hlt hi hgg
          have hz := Lib.hid (Tm.Keys_calls wr 83 _ L hst.out.map (by omega))
          obtain ⟨n, hn⟩ : ∃ n, L.length = n := ⟨_, rfl⟩
          have hkl : Hid ((keysV L).length = n) := Lib.hid (by rw [Tm.keysV_len, hn])
          rw [hn] at hlL
          go_wp2_with fail
          refine hz.out.mono ?_
          rintro e w4 ⟨v4, rfl, ⟨ho4, g4, k4, rfl⟩, b4⟩
          have hs4 := Lib.hid (hst.out.next b4)
          rw [hkl.out] at ho4 ⊢
          have hcl : Hid (g4 < w4.heap.size ∧ ∀ j, j < n → w4.cell? ⟨g4, j, none⟩ = some (.string (L[j]?.getD pz).1)) := Lib.hid (by
            have hb : (Value.slice (some ⟨g4, 0, none⟩) n k4).ownBlock = some g4 := rfl
            refine ⟨(ho4.lt g4 hb).2, fun j hj => ?_⟩
            have := World.ownsRow.cells ho4 hb j _ (key_at hn hj)
            rwa [Addr.add_mid, Nat.zero_add] at this)
          have hup : Hid (∀ j, 0 < j → j < n → Op.bytesLess (L[j - 1]?.getD pz).1.toList (L[j]?.getD pz).1.toList = true) := Lib.hid fun j h1 h2 => by
            have := List.pairwise_iff_getElem.1 hR (j - 1) j (by omega) (by omega) (by omega)
            rw [List.getElem?_eq_getElem (by omega), List.getElem?_eq_getElem (by omega)]
            exact this
          have e0 : ((n : Int) == n) = true := by simp
          have hLn := Lib.hid (Tm.Len_calls w4 _ _ L hs4.out.map)
          rw [hn] at hLn
          replace hn := Lib.hid hn
          replace hlL := Lib.hid hlL
          clear hz hst ho4 b4 hkl hR
          go_wp2
          go_loopg [12] n (fun gg s12 W2 => ∃ i : Nat, s12 = .int .i64 (i : Int) ∧ 1 ≤ i ∧ n + 1 - i ≤ gg ∧ Hid (Below w4.heap.size w4 W2))
          case atStart => exact ⟨1, rfl, by omega, by omega, Lib.hid (Below.refl _ _)⟩
          case round =>
            obtain ⟨i, rfl, hi, hig, hbi⟩ := hrel
            by_cases hin : i < n
            · obtain ⟨q1, q2⟩ := hcl.out
              obtain ⟨m, rfl⟩ : ∃ m, i = m + 1 := ⟨i - 1, by omega⟩
              have c1 : wr.cell? ⟨g4, m + 1, none⟩ = some (.string (L[m + 1]?.getD pz).1) := (hbi.out.cell (p := ⟨g4, m + 1, none⟩) q1).trans (q2 (m + 1) hin)
              have c2 : wr.cell? ⟨g4, m, none⟩ = some (.string (L[m]?.getD pz).1) := (hbi.out.cell (p := ⟨g4, m, none⟩) q1).trans (q2 m (by omega))
              have hlt := hup.out (m + 1) (by omega) hin
              rw [Nat.add_sub_cancel] at hlt
              generalize (L[m + 1]?.getD pz).1 = y at c1 hlt
              generalize (L[m]?.getD pz).1 = x at c2 hlt
              have h2 : Op.bytesLess y.toList x.toList = false := lt_asym (K := ByteArray) hlt
              have h3 := Rp.text_ne (lt_ne (K := ByteArray) hlt)
              have l1 : ((m + 1 : Nat) : Int) < n := by omega
              have l2 : (0 : Int) ≤ ((m + 1 : Nat) : Int) := by omega
              have l3 : (m : Int) < n := by omega
              have l4 : (0 : Int) ≤ m := by omega
              have hms : Hid (n + 1 - (m + 1 + 1) < gk) := Lib.hid (by omega)
              have hw1 : IntKind.i64.wrap (((m + 1 : Nat) : Int) + 1) = ((m + 1 + 1 : Nat) : Int) := wrap_nat (m + 1 + 1) (by have := hlL.out; omega)
              have hw2 : IntKind.i64.wrap (((m + 1 : Nat) : Int) - 1) = (m : Int) := by
                have : (((m + 1 : Nat) : Int) - 1) = (m : Int) := by omega
                rw [this]; exact wrap_nat m (by have := hlL.out; omega)
              generalize hm1 : m + 1 = m1 at *
              replace hm1 := Lib.hid hm1
              clear q1 q2 hcl hs4 hin hi hig hup hLn
              go_wp2_with fail
              go_quiet (fail)
              have hb2 : Hid (Below w4.heap.size w4 (wr.drewN nq)) := Lib.hid (b_next hbi.out (b_drewN _ _) (Nat.le_refl _))
              go_wp2
              go_roundg (n + 1 - (m1 + 1))
              case measure => exact hms.out
              case rel => exact ⟨m1 + 1, by simp, by omega, Nat.le_refl _, hb2⟩
            · have l1 : ¬ (i : Int) < n := by omega
              have l2 : decide ((i : Int) < n) = false := decide_eq_false (by omega)
              have hLn := Lib.hid (Tm.Len_calls wr _ _ L (hs4.out.map.next hbi.out))
              rw [hn.out] at hLn
              have hs5 := Lib.hid (hs4.out.next hbi.out)
              clear hcl hs4 hi hig hin hup
              go_wp2_with fail
              refine hLn.out.mono ?_
              rintro e w6 ⟨rfl, hw6⟩
              obtain rfl := hw6.symm
              clear hw6 hLn
              go_wp2
              go_ret
              exact ⟨rfl, hs5.out.below⟩

theorem own : ownKnob Try.prog.godebug = none := by kernel_rfl
theorem laidOut : laidOutB Try.prog = true := by kernel_rfl
set_option maxRecDepth 100000 in
theorem lifted (os : Os) (started : os.Started) (H : Type) (enc : TypeId × Value → H) :
    ReturnsInHanded {} Try.checked os 7 .any (Rows.mapRisesSpec.pre6 enc Try.prog Try.f7 Rows.mapRisesRow.domain false) (Rows.mapRisesSpec.post enc Try.prog Try.f7 false true false false) := by
  refine returnsInHanded_of_change_sized (C := Try.checked) own started (by kernel_rfl) Try.func7
    (ChangeSpec.witness6 (enc := enc) (C := Try.checked) false ⟨#[], #[.slice none 0 0], []⟩ 8 (by kernel_rfl) (by kernel_rfl) (by kernel_rfl) (by kernel_rfl)) ?_
  intro W base args ds gs before hval0 hW hcnd hsz0 _
  have hval : ∀ (j : Nat) t v, Try.f7.params[j]? = some t → args[j]? = some v → Value.okWide Try.prog W .any base t v := hval0
  have hsz : (DataW.weightsEach Try.prog (Try.f7.params.toList ++ Rows.mapRisesSpec.plain.varTypes Try.prog) (ds ++ gs)).all (· ≤ reachBytes) = true := hsz0
  have hW' := hW
  obtain ⟨p, q, hA0, hV, rfl, hfz, hnd⟩ := hW
  have hA : DataW.TrodAll enc Try.prog W 0 (fun _ => true) true Try.f7.params.toList args.toList ds p := hA0
  rw [Try.params7] at hA hval hsz
  obtain ⟨v0, vs0, d0, ds0, p0, q0, hargs, rfl, rfl, h0, r0⟩ := trodAll_cons hA
  obtain ⟨rfl, rfl, rfl⟩ := trodAll_nil r0
  obtain rfl : args = #[v0] := by cases args; simp_all
  obtain ⟨rfl, rfl⟩ := trodVars_none hV
  have k0 := h0
  have lt0 : ∀ x ∈ p0, x.block < W.heap.size := by obtain ⟨m, hm⟩ := k0; exact DataW.trod_lt m _ _ _ hm
  have ok0 := hval 0 43 v0 rfl rfl
  clear hA0 hval0 hsz0
  obtain ⟨a0, n0, c0, b0, o0, X, K, V, rfl, hP⟩ := Rp.open_calls ok0 h0
  refine (walk W a0 c0 n0 b0 o0 X K V hP).mono fun e W' ⟨he, bel⟩ => ?_
  subst he
  exact ⟨_, rfl, _, _, _, [], _, [], hW', trodAll_mk1 (shut_bool Try.underlying4 _), (trodAll_cons_mk (Below.trod laidOut (by kernel_rfl) (of_decide_eq_true (by kernel_rfl)) k0 bel lt0) trodAll_mk0), rfl, bel.frame _, fun h => by cases h⟩

/-- the statement -/
theorem proved : Rows.MapRisesSaid :=
  OpenClaim.holds_of_wide 7 Try.f7 rfl rfl rfl rfl rfl rfl rfl ⟨rfl, rfl, rfl, rfl, rfl⟩ rfl rfl rfl rfl rfl (by kernel_rfl) Try.func7 (by kernel_rfl)
    (of_decide_eq_true (by kernel_rfl)) (by unfold Func.isWrapper; first | (rw [if_pos (by decide +kernel)]; kernel_rfl) | (rw [if_neg (by decide +kernel)]; exact ⟨rfl, rfl⟩))
    (fun os started H enc _ => lifted os started H enc)
end Go.Proofs.Ytkdghmbglaghlaa.mapRises
