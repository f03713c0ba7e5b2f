/-
  The document's Log, Above and Base; old memory stays. Conditions: lists of no more than a hundred thousand, heights below the greatest int.
-/
import Derived.Test.YtbjpogeemajhoaaRows
import Derived.Test.YtbjpogeemajhoaaOrLog
import Derived.Test.YtbjpogeemajhoaaOrSame
import Derived.Test.YtbjpogeemajhoaaOrRef
import Derived.Test.YtbjpogeemajhoaaOrRefB
import Derived.Deep.Cut
import Derived.Deep.LoopGhost
import Derived.Deep.RegionHeld3
namespace Go.Proofs.Ytbjpogeemajhoaa.Or
open Go Go.RowKit

theorem OwnX.mono {B C : Nat} {w : World} {v : Value} {L : List Fx} (h : OwnX B w v L) (hC : C ≤ B) : OwnX C w v L := by
  refine ⟨h.1, ?_⟩
  rcases h.2 with g | ⟨g, cap, cur, e1, e2, e3⟩
  · exact Or.inl g
  · exact Or.inr ⟨g, cap, cur, e1, Nat.le_trans hC e2, e3⟩
set_option maxRecDepth 100000 in
set_option maxHeartbeats 4000000 in
/-- the document's Log -/
theorem RLog_calls (w : World) (a : Option Addr) (cap b off : Nat) (L : List Fx) (x : ByteArray) (h : Fine w a b off L) :
    Calls Try.prog 17 #[.slice a L.length cap, .string x] w fun e w' => ∃ v n G, e = .returned (.tuple #[v, .int .i64 n]) ∧ IsLog (plain L) x n G ∧ Lst w' v (G.map Fct.id) ∧ Below w.heap.size w w' := by
  have hPl := Lib.hid fun w' (bb : Below w.heap.size w w') (s : ByteArray) => place_calls w' a cap b off L s (h.at_.next bb) h.few
  have hMt := Lib.hid fun w' (bb : Below w.heap.size w w') (fi : Nat) (y0 : Fx) (hy0 : L[fi]? = some y0) (ho : (L.map fun y => y.f.id).Nodup) => RMet_calls w' a cap b off L fi y0 hy0 (h.at_.next bb) (h.facts.next bb) ho h.pars h.few
  have hRt := Lib.hid fun w' (bb : Below w.heap.size w w') (y : Fx) (hy : y ∈ L) (ho : Once (plain L)) (hw : ∀ z ∈ y.f.pars, ∃ g ∈ L, g.f.id = z) => RRight_calls w' a cap b off L y (h.next bb) ((h.facts.pars y hy).next bb) (h.pars y hy) ho hw
  have hF := Lib.hid h
  obtain ⟨n, hn⟩ : ∃ n, Hid (n = L.length) := ⟨_, Lib.hid rfl⟩
  have hl := h.few
  have hcell : Hid (∀ i, i < n → ∃ y, L[i]? = some y) := Lib.hid fun i hi => ⟨L[i]'(by rw [← hn.out]; exact hi), List.getElem?_eq_getElem _⟩
  rw [← hn.out] at hPl hl hMt hRt ⊢
  clear h
  go_enter Try.func17, Try.ntmps17
  go_wp2_with fail
  go_loopw [6] (fun i wr => ∃ k : Nat, k ≤ n ∧ i = .int .i64 (k : Int) ∧ Hid (∀ i j y z, i < j → j < k → L[i]? = some y → L[j]? = some z → y.f.id ≠ z.f.id) ∧ wr = w) (fun i _ => n - (intOf i).toNat)
  case atStart => exact ⟨0, Nat.zero_le _, rfl, Lib.hid (fun i j y z _ hj => absurd hj (Nat.not_lt_zero _)), rfl⟩
  case round =>
    obtain ⟨k, hk, rfl, hI, rfl⟩ := hrel
    by_cases hlt : k < n
    · obtain ⟨y, hy⟩ := hcell.out k hlt
      have c0 := hF.out.at_.id k y hy
      obtain rfl := hF.out.at_.addr (by have := hn.out; omega)
      have k1 : (k : Int) < n := by omega
      have k0 : 0 ≤ (k : Int) := by omega
      have hwk : IntKind.i64.wrap ((k : Int) + 1) = ((k + 1 : Nat) : Int) := wrapN k (by omega)
      have hwk2 : wrap64 ((k : Int) + 1) = ((k + 1 : Nat) : Int) := wrap_next k (by omega)
      have hms : Hid (n - (k + 1) < n - k) := Lib.hid (by omega)
      have hkl : Hid (k + 1 ≤ n) := Lib.hid hlt
      have hP1 := Lib.hid (hPl.out wr (Below.refl _ _) y.f.id)
      replace hy := Lib.hid hy
      clear hlt hk hMt hRt
      go_wp2_with fail
      refine hP1.out.mono ?_
      rintro e w' ⟨⟨p, rfl, hp⟩, rfl⟩
      clear hP1
      rcases hp with ⟨_, hno⟩ | ⟨j, q, rfl, hj, hqy, hmin⟩
      · exact absurd rfl (hno y (List.mem_of_getElem? hy.out))
      · by_cases hjk : j = k
        · subst hjk
          have e1 : ((j : Int) != j) = false := by simp
          have hI2 : Hid (∀ i t y z, i < t → t < j + 1 → L[i]? = some y → L[t]? = some z → y.f.id ≠ z.f.id) := Lib.hid fun i t u v hit ht hu hv => by
            by_cases e : t = j
            · subst e; rw [hy.out] at hv; cases hv; exact hmin i u hit hu
            · exact hI.out i t u v hit (by omega) hu hv
          clear hj hqy hmin
          go_wp2
          go_roundw
          case measure => simp [intOf]; exact hms.out
          case rel => exact ⟨j + 1, hkl.out, by simp, hI2, by trivial⟩
        · have e1 : ((j : Int) != k) = true := by simp; omega
          have hno : Hid (¬ Once (plain L)) := Lib.hid fun ho => by
            obtain ⟨e, _⟩ := place_one (once_iff.1 ho) hj hy.out hqy
            exact hjk e
          clear hj hqy hmin hjk
          go_wp2
          go_ret2
          exact ⟨_, 31, [], rfl, .twice hno.out, Lst.nil _, Below.refl _ _⟩
    · obtain rfl : k = n := by omega
      have d0 : ¬ (k : Int) < k := by omega
      have ho : Hid ((L.map fun y => y.f.id).Nodup) := Lib.hid (by
        unfold List.Nodup
        rw [List.pairwise_iff_getElem]
        intro i j hi hj hij
        simp only [List.length_map] at hi hj
        simp only [List.getElem_map]
        exact hI.out i j _ _ hij (by rw [hn.out]; exact hj) (List.getElem?_eq_getElem hi) (List.getElem?_eq_getElem hj))
      have hoP := Lib.hid (once_iff.2 ho.out)
      have hP1 := Lib.hid (hPl.out wr (Below.refl _ _) x)
      clear hlt hI
      go_wp2_with fail
      refine hP1.out.mono ?_
      rintro e w' ⟨⟨p, rfl, hp⟩, rfl⟩
      clear hP1 hPl
      rcases hp with ⟨rfl, hno⟩ | ⟨fi, y0, rfl, hj, hqx, -⟩
      · have hno2 : Hid (∀ f ∈ plain L, f.id ≠ x) := Lib.hid fun f hf => by
          obtain ⟨y, hy, rfl⟩ := List.mem_map.1 hf
          exact hno y hy
        clear hno hMt hRt
        go_wp2
        go_ret2
        exact ⟨_, 12, [], rfl, .none hoP.out hno2.out, Lst.nil _, Below.refl _ _⟩
      · have j2 : ¬ (fi : Int) < 0 := by omega
        have hM1 := Lib.hid (hMt.out wr (Below.refl _ _) fi y0 hj ho.out)
        subst hqx
        have hy0 := Lib.hid (List.mem_of_getElem? hj)
        clear hMt hj
        go_wp2_with fail
        refine hM1.out.mono ?_
        rintro e wM ⟨g, B, wh, rfl, hFl, hB, hwh, bM⟩
        replace hB := Lib.hid hB
        replace hFl := Lib.hid hFl
        replace bM := Lib.hid bM
        clear hM1
        cases wh with
        | false =>
          have hnw : Hid (¬ Whole (plain L) y0.f.id) := Lib.hid fun hw => by have := hwh.2 hw; cases this
          clear hwh hRt
          go_wp2
          go_ret2
          exact ⟨_, 21, [], rfl, .open_ hoP.out (List.mem_map.2 ⟨y0, hy0.out, rfl⟩) rfl hnw.out, Lst.nil _, bM.out⟩
        | true =>
          have hW := Lib.hid (hwh.1 rfl)
          have hA := b_alloc wM (.cells #[] 24)
          have hO := Lib.hid (OwnX.new wM wM.heap.size (Nat.le_refl _))
          have hb0 := Lib.hid hA
          have hP0 := Lib.hid (Part.start L B)
          clear hwh hA
          go_wp2_with fail
          generalize hw1e : wM.alloc (.cells #[] 24) = w1 at *
          clear hw1e
          go_loopw [10, 11] (fun v i wq => ∃ (i' : Nat) (G : List Fx), i' ≤ k ∧ i = .int .i64 (i' : Int) ∧ OwnX wM.heap.size wq v G ∧ Hid (Part L B i' G) ∧ Below wM.heap.size wM wq) (fun _ i _ => k - (intOf i).toNat)
          case atStart => exact ⟨0, [], Nat.zero_le _, rfl, hO.out, hP0, hb0.out⟩
          case round =>
            obtain ⟨i, G, hi, rfl, hO1, hPa, hb1⟩ := hrel
            clear hO hb0 hP0
            have hbw := b_next bM.out (b_next (Below.refl wM.heap.size wM) (hb1.mono (Nat.le_refl _)) (Nat.le_refl _)) (Nat.le_refl _)
            by_cases hlt : i < k
            · obtain ⟨y, hy⟩ := hcell.out i hlt
              have hL2 := hF.out.at_.next hbw
              have c0 := hL2.id i y hy
              have c1 := hL2.high i y hy
              have c2 := hL2.pars i y hy
              have hFl2 := hFl.out.next hb1
              have m0 := hFl2.cell hlt
              obtain rfl := hF.out.at_.addr (by have := hn.out; omega)
              have i1 : (i : Int) < k := by omega
              have i0 : 0 ≤ (i : Int) := by omega
              have hwk : IntKind.i64.wrap ((i : Int) + 1) = ((i + 1 : Nat) : Int) := wrapN i (by omega)
              have hwk2 : wrap64 ((i : Int) + 1) = ((i + 1 : Nat) : Int) := wrap_next i (by omega)
              have hms : Hid (k - (i + 1) < k - i) := Lib.hid (by omega)
              have hkl : Hid (i + 1 ≤ k) := Lib.hid hlt
              obtain ⟨oa, oc, ob, oo, rfl, hG, -⟩ := hO1.at_
              have hyL : Hid (y ∈ L) := Lib.hid (List.mem_of_getElem? hy)
              replace hy := Lib.hid hy
              cases hBi : B i with
              | false =>
                rw [hBi] at m0
                have hP2 := Lib.hid (hPa.out.skip hBi)
                replace hO1 := Lib.hid hO1
                replace hb1 := Lib.hid hb1
                clear hL2 hFl2 hBi hPa hG hlt
                go_wp2
                go_roundw
                case measure => simp [intOf]; exact hms.out
                case rel => exact ⟨i + 1, G, hkl.out, by simp, hO1.out, hP2, hb1.out⟩
              | true =>
                rw [hBi] at m0
                have hmet : Hid (Met (plain L) y0.f.id y.f) := Lib.hid ((hB.out i y hy.out).1 hBi)
                have hRi := Lib.hid (hRt.out wr hbw y hyL.out hoP.out (fun z hz => by
                  obtain ⟨f, hf, e⟩ := hW.out y.f hmet.out z hz
                  obtain ⟨q, hq, rfl⟩ := List.mem_map.1 hf
                  exact ⟨q, hq, e⟩))
                have hBt := Lib.hid hBi
                have hGl := hPa.out.few ho.out
                rw [← hn.out] at hGl
                replace hO1 := Lib.hid hO1
                replace hb1 := Lib.hid hb1
                replace hG := Lib.hid hG
                dsimp only [Fx.val] at hRi
                clear hL2 hFl2 hBi hlt
                go_wp2_with fail
                refine hRi.out.mono ?_
                rintro e w5 ⟨rfl, b5⟩
                clear hRi c0 c1 c2 m0
                by_cases hright : Right (plain L) y.f
                · rw [decide_eq_true hright]
                  have hP2 := Lib.hid (hPa.out.put ho.out hBt.out hy.out hright)
                  have hA5 := b_alloc w5 (.cells #[] 24)
                  have hN0 := Lib.hid (OwnX.new w5 w5.heap.size (Nat.le_refl _))
                  have hb5 := Lib.hid (b_next hb1.out b5 (Nat.le_refl _))
                  have hbw5 := Lib.hid (b_next hbw b5 (Nat.le_refl _))
                  have hG5 := Lib.hid (hG.out.next b5)
                  have hb55 := Lib.hid hA5
                  clear hright hPa b5 hA5
                  go_wp2_with fail
                  generalize hw6e : w5.alloc (.cells #[] 24) = w6 at *
                  clear hw6e
                  go_loopw [12, 13, 14] (fun v pu j wq => ∃ (put : Bool) (j' : Nat) (N : List Fx), j' ≤ G.length ∧ j = .int .i64 (j' : Int) ∧ pu = .bool put ∧ OwnX w5.heap.size wq v N ∧ Hid (Mix y G N put j') ∧ Below w5.heap.size w5 wq) (fun _ _ j _ => G.length - (intOf j).toNat)
                  case atStart => exact ⟨false, 0, [], Nat.zero_le _, rfl, rfl, hN0.out, Lib.hid (Mix.start y G), hb55.out⟩
                  case round =>
                    obtain ⟨put, j, N, hj, rfl, rfl, hN, hMx, hb6⟩ := hrel
                    clear hN0 hb55 hO1 hb1 hG
                    have hNl := hMx.out.len
                    have hbw6 := b_next hbw5.out hb6 (Nat.le_refl _)
                    have hL6 := hF.out.at_.next hbw6
                    have c0 := hL6.id i y hy.out
                    have c1 := hL6.high i y hy.out
                    have c2 := hL6.pars i y hy.out
                    by_cases hjl : j < G.length
                    · obtain ⟨q, hq⟩ : ∃ q, G[j]? = some q := ⟨G[j], List.getElem?_eq_getElem hjl⟩
                      have hG6 := hG5.out.next hb6
                      have e0 := hG6.id j q hq
                      have e1 := hG6.high j q hq
                      have e2 := hG6.pars j q hq
                      obtain rfl := hG5.out.addr (by omega)
                      have j1 : (j : Int) < G.length := by omega
                      have j0 : 0 ≤ (j : Int) := by omega
                      have hwj : IntKind.i64.wrap ((j : Int) + 1) = ((j + 1 : Nat) : Int) := wrapN j (by omega)
                      have hwj2 : wrap64 ((j : Int) + 1) = ((j + 1 : Nat) : Int) := wrap_next j (by omega)
                      have hmj : Hid (G.length - (j + 1) < G.length - j) := Lib.hid (by omega)
                      have hjk : Hid (j + 1 ≤ G.length) := Lib.hid hjl
                      have hbs : Hid (w5.heap.size ≤ wr.heap.size) := Lib.hid hb6.size
                      obtain ⟨na, nc, rfl⟩ := hN.box
                      have hNl2 : N.length ≤ 1099511627776 := by omega
                      have bd := b_drew1 wr
                      cases put with
                      | true =>
                        have hM2 := Lib.hid (hMx.out.later hq)
                        have hN2 := hN.next bd
                        have hbd := Lib.hid (b_next hb6 bd (Nat.le_refl _))
                        have e0' : wr.drew.cell? ⟨ob, oo + j * 3, none⟩ = some (.string q.f.id) := e0
                        have e1' : wr.drew.cell? ⟨ob, oo + j * 3 + 1, none⟩ = some (.int .i64 q.f.high) := e1
                        have e2' : wr.drew.cell? ⟨ob, oo + j * 3 + 2, none⟩ = some (.slice q.pa q.f.pars.length q.pc) := e2
                        have hbs2 : Hid (w5.heap.size ≤ wr.drew.heap.size) := hbs
                        clear hMx hL6 hG6 hjl hj c0 c1 c2 hN hb6
                        go_wp2_with fail
                        refine wp_region_held_drew (S := (fun w' => w'.cell? ⟨ob, oo + j * 3, none⟩ = some (.string q.f.id))) (by kernel_rfl) (e0) (fun hHeld => ?_)
                        refine wpAnyH_take (i := 0) (oi := { dst := some 71, op := _, type := _, pos := _, after := _, guard := none }) (v := ?vr1_0) rfl (by kernel_rfl) (by kernel_rfl) (by kernel_rfl) (fun _ _ _ h => h) (Or.inl ⟨by rfl, ?hyr1_0⟩) (by assumption) ?restr1_0
                        case hyr1_0 => (intro w hSw; (try dsimp only at hSw); go_simp <;> with_reducible rfl)
                        (try simp only [Act.put, List.setIfInBounds_toArray, List.set_cons_zero, List.set_cons_succ])
                        refine wpAnyH_take (i := 1) (oi := { dst := some 72, op := _, type := _, pos := _, after := _, guard := none }) (v := ?vr1_1) rfl (by kernel_rfl) (by kernel_rfl) (by kernel_rfl) (fun _ _ _ h => h) (Or.inl ⟨by rfl, ?hyr1_1⟩) (by assumption) ?restr1_1
                        case hyr1_1 => (intro w hSw; (try dsimp only at hSw); go_simp <;> with_reducible rfl)
                        (try simp only [Act.put, List.setIfInBounds_toArray, List.set_cons_zero, List.set_cons_succ])
                        refine wpAnyH_take (i := 2) (oi := { dst := some 73, op := _, type := _, pos := _, after := _, guard := none }) (v := ?vr1_2) rfl (by kernel_rfl) (by kernel_rfl) (by kernel_rfl) (fun _ _ _ h => h) (Or.inl ⟨by rfl, ?hyr1_2⟩) (by assumption) ?restr1_2
                        case hyr1_2 => (intro w hSw; (try dsimp only at hSw); go_simp <;> with_reducible rfl)
                        (try simp only [Act.put, List.setIfInBounds_toArray, List.set_cons_zero, List.set_cons_succ])
                        refine wpAnyH_take (i := 3) (oi := { dst := some 74, op := _, type := _, pos := _, after := _, guard := some (2, true) }) (v := undef) rfl (by kernel_rfl) (by kernel_rfl) (by kernel_rfl) (fun _ _ _ h => h) (Or.inr ⟨by rfl, rfl⟩) (by assumption) ?_
                        (try simp only [Act.put, List.setIfInBounds_toArray, List.set_cons_zero, List.set_cons_succ])
                        refine wpAnyH_take (i := 4) (oi := { dst := some 75, op := _, type := _, pos := _, after := _, guard := some (2, true) }) (v := undef) rfl (by kernel_rfl) (by kernel_rfl) (by kernel_rfl) (fun _ _ _ h => h) (Or.inr ⟨by rfl, rfl⟩) (by assumption) ?_
                        (try simp only [Act.put, List.setIfInBounds_toArray, List.set_cons_zero, List.set_cons_succ])
                        refine wpAnyH_take (i := 5) (oi := { dst := some 76, op := _, type := _, pos := _, after := _, guard := some (2, true) }) (v := undef) rfl (by kernel_rfl) (by kernel_rfl) (by kernel_rfl) (fun _ _ _ h => h) (Or.inr ⟨by rfl, rfl⟩) (by assumption) ?_
                        (try simp only [Act.put, List.setIfInBounds_toArray, List.set_cons_zero, List.set_cons_succ])
                        refine wpAnyH_take (i := 6) (oi := { dst := some 77, op := _, type := _, pos := _, after := _, guard := some (2, true) }) (v := undef) rfl (by kernel_rfl) (by kernel_rfl) (by kernel_rfl) (fun _ _ _ h => h) (Or.inr ⟨by rfl, rfl⟩) (by assumption) ?_
                        (try simp only [Act.put, List.setIfInBounds_toArray, List.set_cons_zero, List.set_cons_succ])
                        refine wpAnyH_take (i := 7) (oi := { dst := some 78, op := _, type := _, pos := _, after := _, guard := some (2, true) }) (v := undef) rfl (by kernel_rfl) (by kernel_rfl) (by kernel_rfl) (fun _ _ _ h => h) (Or.inr ⟨by rfl, rfl⟩) (by assumption) ?_
                        (try simp only [Act.put, List.setIfInBounds_toArray, List.set_cons_zero, List.set_cons_succ])
                        refine wpAnyH_take (i := 8) (oi := { dst := some 79, op := _, type := _, pos := _, after := _, guard := some (2, true) }) (v := undef) rfl (by kernel_rfl) (by kernel_rfl) (by kernel_rfl) (fun _ _ _ h => h) (Or.inr ⟨by rfl, rfl⟩) (by assumption) ?_
                        (try simp only [Act.put, List.setIfInBounds_toArray, List.set_cons_zero, List.set_cons_succ])
                        refine wpAnyH_take (i := 9) (oi := { dst := some 80, op := _, type := _, pos := _, after := _, guard := some (2, true) }) (v := undef) rfl (by kernel_rfl) (by kernel_rfl) (by kernel_rfl) (fun _ _ _ h => h) (Or.inr ⟨by rfl, rfl⟩) (by assumption) ?_
                        (try simp only [Act.put, List.setIfInBounds_toArray, List.set_cons_zero, List.set_cons_succ])
                        refine wpAnyH_take (i := 10) (oi := { dst := some 81, op := _, type := _, pos := _, after := _, guard := some (2, true) }) (v := undef) rfl (by kernel_rfl) (by kernel_rfl) (by kernel_rfl) (fun _ _ _ h => h) (Or.inr ⟨by rfl, rfl⟩) (by assumption) ?_
                        (try simp only [Act.put, List.setIfInBounds_toArray, List.set_cons_zero, List.set_cons_succ])
                        refine wpAnyH_take (i := 11) (oi := { dst := some 82, op := _, type := _, pos := _, after := _, guard := some (2, true) }) (v := undef) rfl (by kernel_rfl) (by kernel_rfl) (by kernel_rfl) (fun _ _ _ h => h) (Or.inr ⟨by rfl, rfl⟩) (by assumption) ?_
                        (try simp only [Act.put, List.setIfInBounds_toArray, List.set_cons_zero, List.set_cons_succ])
                        refine wpAnyH_take (i := 12) (oi := { dst := some 83, op := _, type := _, pos := _, after := _, guard := some (2, true) }) (v := undef) rfl (by kernel_rfl) (by kernel_rfl) (by kernel_rfl) (fun _ _ _ h => h) (Or.inr ⟨by rfl, rfl⟩) (by assumption) ?_
                        (try simp only [Act.put, List.setIfInBounds_toArray, List.set_cons_zero, List.set_cons_succ])
                        refine wpAnyH_take (i := 13) (oi := { dst := some 84, op := _, type := _, pos := _, after := _, guard := none }) (v := ?vr1_13) rfl (by kernel_rfl) (by kernel_rfl) (by kernel_rfl) (fun _ _ _ h => h) (Or.inl ⟨by rfl, ?hyr1_13⟩) (by assumption) ?restr1_13
                        case hyr1_13 => (intro w hSw; (try dsimp only at hSw); go_simp <;> with_reducible rfl)
                        (try simp only [Act.put, List.setIfInBounds_toArray, List.set_cons_zero, List.set_cons_succ])
                        refine wpAnyH_done (by kernel_rfl) ?_ _
                        go_wp2_with (first
                          | (at_builtin; refine wp_append_fx rfl _ _ rfl w5.heap.size (.slice na N.length nc) N q rfl rfl hN2 hbs2.out hNl2 ?_; intro v' w' ho' hb')
                          | go_in)
                        have hbf := hb' _ hbd.out
                        go_roundw
                        case measure => simp [intOf]; exact hmj.out
                        case rel => exact ⟨true, j + 1, _, hjk.out, by simp, rfl, ho', hM2, hbf⟩
                      | false =>
                        have hC := Lib.hid (RCompare_calls y q wr.drew)
                        obtain ⟨r, hr⟩ : ∃ r, r = cmp y.f q.f := ⟨_, rfl⟩
                        rw [← hr] at hC
                        have hkeep : Hid (∀ w', Below wr.heap.size wr w' → (w'.cell? ⟨b, off + i * 3, none⟩ = some (.string y.f.id) ∧ w'.cell? ⟨b, off + i * 3 + 1, none⟩ = some (.int .i64 y.f.high) ∧ w'.cell? ⟨b, off + i * 3 + 2, none⟩ = some (.slice y.pa y.f.pars.length y.pc)
                            ∧ w'.cell? ⟨ob, oo + j * 3, none⟩ = some (.string q.f.id) ∧ w'.cell? ⟨ob, oo + j * 3 + 1, none⟩ = some (.int .i64 q.f.high) ∧ w'.cell? ⟨ob, oo + j * 3 + 2, none⟩ = some (.slice q.pa q.f.pars.length q.pc))) :=
                          Lib.hid fun w' bb => ⟨(hL6.next bb).id i y hy.out, (hL6.next bb).high i y hy.out, (hL6.next bb).pars i y hy.out, (hG6.next bb).id j q hq, (hG6.next bb).high j q hq, (hG6.next bb).pars j q hq⟩
                        have hk0 := hkeep.out _ bd
                        replace hr := Lib.hid hr
                        replace hq := Lib.hid hq
                        replace hN := Lib.hid hN
                        replace hb6 := Lib.hid hb6
                        clear hL6 hG6 hjl hj c0 c1 c2 e0 e1 e2
                        go_wp2_with fail
                        go_region_held3 (fun w' => w'.cell? ⟨b, off + i * 3, none⟩ = some (.string y.f.id) ∧ w'.cell? ⟨b, off + i * 3 + 1, none⟩ = some (.int .i64 y.f.high) ∧ w'.cell? ⟨b, off + i * 3 + 2, none⟩ = some (.slice y.pa y.f.pars.length y.pc)
                            ∧ w'.cell? ⟨ob, oo + j * 3, none⟩ = some (.string q.f.id) ∧ w'.cell? ⟨ob, oo + j * 3 + 1, none⟩ = some (.int .i64 q.f.high) ∧ w'.cell? ⟨ob, oo + j * 3 + 2, none⟩ = some (.slice q.pa q.f.pars.length q.pc)) (first | exact hk0 | exact hkeep.out _ b8)
                          (first | (go_at_call 13; refine hC.out.mono ?_; rintro e w8 ⟨rfl, qq, os, hw8⟩; have b8 : Below wr.heap.size wr w8 := (by rw [hw8]; exact b_then bd (below_grow _ _ _)); clear hw8))
                        all_goals
                          have hN8 := hN.out.next b8
                          have hb8 := b_next hb6.out b8 (Nat.le_refl _)
                          have hbs8 : Hid (w5.heap.size ≤ w8.heap.size) := Lib.hid hb8.size
                          obtain ⟨y0', y1', y2', q0', q1', q2'⟩ := hkeep.out _ b8
                          by_cases hq0 : 0 < r
                          · have hM2 := Lib.hid (hMx.out.here hq.out (cmp_pos.1 (by rw [← hr.out]; exact hq0)))
                            have hkeep9 : Hid (∀ w', Below w5.heap.size w8 w' → (w'.cell? ⟨ob, oo + j * 3, none⟩ = some (.string q.f.id) ∧ w'.cell? ⟨ob, oo + j * 3 + 1, none⟩ = some (.int .i64 q.f.high) ∧ w'.cell? ⟨ob, oo + j * 3 + 2, none⟩ = some (.slice q.pa q.f.pars.length q.pc))) := Lib.hid fun w' bb =>
                              have hG9 := hG5.out.next (hb8.trans bb)
                              ⟨hG9.id j q hq.out, hG9.high j q hq.out, hG9.pars j q hq.out⟩
                            have hb88 := Lib.hid hb8
                            clear hk0
                            go_upto_region 27 with (first
                              | (at_builtin; refine wp_append_fx rfl _ _ rfl w5.heap.size (.slice na N.length nc) N y rfl rfl hN8 hbs8.out hNl2 ?_; intro v9 w9 hN9 hb9)
                              | go_in)
                            obtain ⟨q9, q9', q9''⟩ := hkeep9.out w9 (hb9 _ (Below.refl _ _))
                            have hb99 := hb9 _ hb88.out
                            have hbs9 := Lib.hid hb99.size
                            obtain ⟨ma, mc, rfl⟩ := hN9.box
                            have hNl9 : (N ++ [y]).length ≤ 1099511627776 := by rw [List.length_append, List.length_singleton]; omega
                            go_wp2_with (first
                              | (at_builtin; refine wp_append_fx rfl _ _ rfl w5.heap.size (.slice ma (N ++ [y]).length mc) (N ++ [y]) q rfl rfl hN9 hbs9.out hNl9 ?_; intro v' w' ho' hb')
                              | go_in)
                            have hbf := hb' _ hb99
                            go_roundw
                            case measure => simp [intOf]; exact hmj.out
                            case rel => exact ⟨true, j + 1, _, hjk.out, by simp, rfl, ho', hM2, hbf⟩
                          · have hM2 := Lib.hid (hMx.out.on hq.out (fun h => hq0 (by rw [hr.out]; exact cmp_pos.2 h)))
                            have dq : decide (0 < r) = false := decide_eq_false hq0
                            have hb88 := Lib.hid hb8
                            clear hk0 y0' y1' y2'
                            go_wp2_with (first
                              | (at_builtin; refine wp_append_fx rfl _ _ rfl w5.heap.size (.slice na N.length nc) N q rfl rfl hN8 hbs8.out hNl2 ?_; intro v' w' ho' hb')
                              | go_in)
                            have hbf := hb' _ hb88.out
                            go_roundw
                            case measure => simp [intOf]; exact hmj.out
                            case rel => exact ⟨false, j + 1, _, hjk.out, by simp, rfl, ho', hM2, hbf⟩
                    · obtain rfl : j = G.length := by omega
                      have d0 : ¬ (G.length : Int) < G.length := by omega
                      have hbs : Hid (w5.heap.size ≤ wr.heap.size) := Lib.hid hb6.size
                      have hNl2 : N.length ≤ 1099511627776 := by omega
                      have hends := Lib.hid hMx.end_
                      have hb5m : Hid (∀ w', Below w5.heap.size w5 w' → Below wM.heap.size wM w') := Lib.hid fun w' bb => b_next hb5.out bb (Nat.le_refl _)
                      have hmo : Hid (wM.heap.size ≤ w5.heap.size) := Lib.hid hb5.out.size
                      obtain ⟨na, nc, rfl⟩ := hN.box
                      cases put with
                      | true =>
                        have hNe := hends.out.1 rfl
                        have hN2 : OwnX wM.heap.size wr (.slice na N.length nc) (insR y G) := by
                          have := hN; rw [hNe] at this ⊢
                          exact OwnX.mono this hmo.out
                        have hbf := hb5m.out _ hb6
                        clear hMx hL6 hjl hj c0 c1 c2 hN
                        go_wp2
                        go_roundw
                        case measure => simp [intOf]; exact hms.out
                        case rel => exact ⟨i + 1, _, hkl.out, by simp, hN2, hP2, hbf⟩
                      | false =>
                        have hNe := Lib.hid (hends.out.2 rfl)
                        have hb66 := Lib.hid hb6
                        clear hMx hL6 hjl hj hb6
                        go_wp2_with (first
                          | (at_builtin; refine wp_append_fx rfl _ _ rfl w5.heap.size (.slice na N.length nc) N y rfl rfl hN hbs.out hNl2 ?_; intro v' w' ho' hb')
                          | go_in)
                        have hbf := hb5m.out _ (hb' _ hb66.out)
                        have hN2 : OwnX wM.heap.size w' v' (insR y G) := by
                          rw [hNe.out] at ho'
                          exact OwnX.mono ho' hmo.out
                        go_roundw
                        case measure => simp [intOf]; exact hms.out
                        case rel => exact ⟨i + 1, _, hkl.out, by simp, hN2, hP2, hbf⟩
                · rw [decide_eq_false hright]
                  have hnr := Lib.hid hright
                  have bb := Lib.hid (b_next hbw b5 (Nat.le_refl _))
                  clear hright
                  go_wp2
                  go_ret2
                  exact ⟨_, 41, [], rfl, .order hoP.out (List.mem_map.2 ⟨y0, hy0.out, rfl⟩) rfl hW.out hmet.out hnr.out, Lst.nil _, bb.out⟩
            · obtain rfl : i = k := by omega
              have d0 : ¬ (i : Int) < i := by omega
              have hlog : Hid (IsLog (plain L) y0.f.id 0 (plain G)) := Lib.hid (by
                have := hPa.out
                rw [hn.out] at this
                exact this.log ho.out hy0.out rfl hW.out hB.out)
              have hGl := hPa.out.few ho.out
              rw [← hn.out] at hGl
              obtain ⟨oa, oc, ob, oo, rfl, hG, -⟩ := hO1.at_
              replace hG := Lib.hid hG
              have hA := b_alloc wr (.cells #[] 9)
              have hT0 := Lib.hid (OwnT.new wr wr.heap.size (Nat.le_refl _))
              have hbA := Lib.hid hA
              replace hbw := Lib.hid hbw
              clear hO1 hPa hb1 hlt hA
              go_wp2_with fail
              generalize hw7e : wr.alloc (.cells #[] 9) = w7 at *
              clear hw7e
              go_loopw [15, 16] (fun v j wq => ∃ (j' : Nat), j' ≤ G.length ∧ j = .int .i64 (j' : Int) ∧ OwnT wr.heap.size wq v ((G.take j').map fun y => y.f.id) ∧ Below wr.heap.size wr wq) (fun _ j _ => G.length - (intOf j).toNat)
              case atStart => exact ⟨0, Nat.zero_le _, rfl, hT0.out, hbA.out⟩
              case round =>
                rename_i wq
                obtain ⟨j, hj, rfl, hT, hbq⟩ := hrel
                clear hT0 hbA
                by_cases hjl : j < G.length
                · obtain ⟨q, hq⟩ : ∃ q, G[j]? = some q := ⟨G[j], List.getElem?_eq_getElem hjl⟩
                  have hG6 := hG.out.next hbq
                  have e0 := hG6.id j q hq
                  obtain rfl := hG.out.addr (by omega)
                  have j1 : (j : Int) < G.length := by omega
                  have j0 : 0 ≤ (j : Int) := by omega
                  have hwj : IntKind.i64.wrap ((j : Int) + 1) = ((j + 1 : Nat) : Int) := wrapN j (by omega)
                  have hwj2 : wrap64 ((j : Int) + 1) = ((j + 1 : Nat) : Int) := wrap_next j (by omega)
                  have hmj : Hid (G.length - (j + 1) < G.length - j) := Lib.hid (by omega)
                  have hjk : Hid (j + 1 ≤ G.length) := Lib.hid hjl
                  have hbs := Lib.hid hbq.size
                  have hns := Lib.hid (ids_snoc hq)
                  have hl2 : ((G.take j).map fun y => y.f.id).length ≤ 1099511627776 := by rw [List.length_map, List.length_take]; omega
                  have hbq2 := Lib.hid hbq
                  generalize (G.take j).map (fun y => y.f.id) = T at *
                  obtain ⟨ga, gc, rfl⟩ := hT.box
                  clear hG6 hjl hj hq hbq
                  go_wp2_with (first
                    | (at_builtin; refine wp_append_tx rfl _ _ rfl _ (.slice ga T.length gc) T q.f.id rfl rfl hT hbs.out hl2 ?_; intro v' w' ho' hb')
                    | go_in)
                  have hbf := hb' _ hbq2.out
                  go_roundw
                  case measure => simp [intOf]; exact hmj.out
                  case rel => exact ⟨j + 1, hjk.out, by simp, by rw [hns.out]; exact ho', hbf⟩
                · obtain rfl : j = G.length := by omega
                  have d1 : ¬ (G.length : Int) < G.length := by omega
                  rw [List.take_length] at hT
                  have hfin := Lib.hid hT.lst
                  have bb := Lib.hid (b_next hbw.out hbq (Nat.le_refl _))
                  obtain ⟨ga, gc, rfl⟩ := hT.box
                  rw [List.length_map] at hfin
                  clear hjl hj hT hbq
                  go_wp2
                  go_ret2
                  exact ⟨_, 0, rfl, plain G, hlog.out, by rw [plain_ids]; exact hfin.out, bb.out⟩
end Go.Proofs.Ytbjpogeemajhoaa.Or
