/-
  OrderFalls: in a log each commit is there once, and stands above all behind it; with each all its parents, further behind; it begins with the one asked. Conditions: none.
-/
import Derived.Test.YtbjpogeemajhoaaGreatRows
import Derived.Test.YtbjpogeemajhoaaGreatOrLog
import Derived.Test.YtbjpogeemajhoaaGreatOrMake
import Derived.Test.YtbjpogeemajhoaaGreatOrGrow
import Derived.Test.YtbjpogeemajhoaaGreatOrAwake
import Derived.Test.YtbjpogeemajhoaaGreatOrNums
import Derived.Test.YtbjpogeemajhoaaGreatOrFalls
import Derived.Test.YtbjpogeemajhoaaGreatOrBest
import Derived.Test.YtbjpogeemajhoaaGreatOrPut
import Derived.Test.YtbjpogeemajhoaaGreatShFacg
import Derived.Deep.QuietTactic
import Derived.BigQuiet
import Derived.Deep.RegionHeld3
import Derived.StillTailTactics
import Derived.Deep.CutRange
import Derived.ProofKit
import Derived.OpenShut
import Derived.Stop.Joined
import Derived.Carry
namespace Go.Proofs.YtbjpogeemajhoaaGreat.orderFalls
open Go Go.ChangeShapes Go.WideShapes Go.ChangeAt Go.RowKit Go.Proofs.YtbjpogeemajhoaaGreat.Or

theorem row_few {L : List Fct} {x : ByteArray} {G : List Fct} (h0 : Once L) (h5 : IsRow L x G) : G.length ≤ L.length := by
  have nd : (G.map Fct.id).Nodup := by
    unfold List.Nodup
    rw [List.pairwise_map]
    refine List.Pairwise.imp_of_mem ?_ h5.falls
    intro a b ha hb hu e
    rw [once_eq h0 ((h5.mem a).1 ha).mem ((h5.mem b).1 hb).mem e] at hu
    exact under_irr b hu
  have := ids_len nd (m := L.map Fct.id) fun s hs => by
    obtain ⟨f, hf, rfl⟩ := List.mem_map.1 hs
    exact List.mem_map.2 ⟨f, ((h5.mem f).1 hf).mem, rfl⟩
  simpa using this
/-- where each stands -/
def places (F : List Fct) : List (ByteArray × Int) := F.zipIdx.map fun p => (p.1.id, (p.2 : Int))
theorem places_at {F : List Fct} {k : Nat} {f : Fct} (h : F[k]? = some f) : (places F)[k]? = some (f.id, (k : Int)) := by
  unfold places
  rw [List.getElem?_map, List.getElem?_zipIdx, h]
  simp
theorem places_len (F : List Fct) : (places F).length = F.length := by unfold places; simp
theorem places_keys (F : List Fct) : (places F).map (fun e => e.1) = F.map Fct.id := by
  unfold places
  rw [List.map_map]
  show F.zipIdx.map (Fct.id ∘ Prod.fst) = _
  rw [← List.map_map, List.zipIdx_map_fst]
/-- each under its Id -/
def byId (G : List Fx) : List (ByteArray × Fx) := G.map fun y => (y.f.id, y)
theorem byId_at {G : List Fx} {k : Nat} {y : Fx} (h : G[k]? = some y) : (byId G)[k]? = some (y.f.id, y) := by
  unfold byId; rw [List.getElem?_map, h]; rfl
theorem byId_len (G : List Fx) : (byId G).length = G.length := by unfold byId; simp
theorem byId_keys (G : List Fx) : (byId G).map (fun e => e.1) = G.map fun y => y.f.id := by unfold byId; rw [List.map_map]; rfl

set_option maxRecDepth 100000 in
set_option maxHeartbeats 2000000 in
theorem walk (w : World) (a : Option Addr) (cap b off n : Nat) (A : Nat → Option Addr) (L C : Nat → Nat) (Z : Nat → Nat → Int) (at_ : Int) (h : NumsAt w a b off n A L C Z) (hn : n ≤ maxLen) :
    Calls Tryz.prog 3 #[.slice a n cap, .int .i64 at_] w fun e w' => e = .returned (.bool true) ∧ Below w.heap.size w w' := by
  have hAw := Lib.hid fun w => awake_calls w
  replace h := Lib.hid h
  go_enter Tryz.func3, Tryz.ntmps3
  go_wp2_with fail
  refine (hAw.out w).mono ?_
  rintro e w1 ⟨rfl, b1⟩
  have hMk := Lib.hid (grown_calls w1 a cap b off n A L C Z (h.out.next b1) (by unfold maxLen at hn; omega))
  clear hAw h hn
  go_wp2_with fail
  refine hMk.out.mono ?_
  rintro e w2 ⟨v, G, rfl, hO, hGr, hFa, b2⟩
  have b12 := Lib.hid (b_then b1 b2)
  obtain ⟨oa, oc, ob, oo, rfl, hG, hoc⟩ := hO.at_
  have hlen := hGr.len
  unfold plain at hlen
  rw [List.length_map] at hlen
  clear hMk b1 b2
  by_cases h0 : G.length = 0
  · have e0 : ((G.length : Int) == 0) = true := by rw [h0]; rfl
    clear hO
    go_wp2
    go_ret
    exact ⟨rfl, b12.out⟩
  · have e0 : ((G.length : Int) == 0) = false := by simp only [beq_eq_false_iff_ne]; omega
    obtain rfl := hG.addr (by omega)
    obtain ⟨nl, hnl⟩ : ∃ n : Nat, n = G.length := ⟨_, rfl⟩
    have k3 : (0 : Int) < nl := by omega
    obtain ⟨i, hi1, hi2⟩ := Oct.rem_small at_ nl k3 (by omega)
    have hul : IntKind.u64.wrap (nl : Int) = (nl : Int) := by rw [IntKind.wrap_u64]; omega
    have kz : ((nl : Int) == 0) = false := by simp only [beq_eq_false_iff_ne]; omega
    have i0 : 0 ≤ (i : Int) := by omega
    have i1 : (i : Int) < nl := by omega
    obtain ⟨x, hx⟩ : ∃ y, G[i]? = some y := ⟨G[i]'(by omega), List.getElem?_eq_getElem (by omega)⟩
    have c0 := hG.id i x hx
    have hxm : Hid (x.f ∈ plain G) := Lib.hid (List.mem_map.2 ⟨x, List.mem_of_getElem? hx, rfl⟩)
    have hFi : Fine w2 (some ⟨ob, oo, none⟩) ob oo G := fine_of hGr hG hFa
    have hxs := hFi.facts.id x (List.mem_of_getElem? hx)
    have hKeep : Hid (∀ w', Below w2.heap.size w2 w' → Fine w' (some ⟨ob, oo, none⟩) ob oo G) := Lib.hid fun w' bb => hFi.next bb
    have hLx := Log_calls w2 (some ⟨ob, oo, none⟩) oc ob oo G x.f.id hFi hxs
    have hAb := Lib.hid fun w' (bb : Below w2.heap.size w2 w') (y : ByteArray) (hy : Short y) => Above_calls w' (some ⟨ob, oo, none⟩) oc ob oo G x.f.id y (hKeep.out w' bb) hxs hy
    rw [← hnl] at e0 hLx hAb ⊢
    replace hLx := Lib.hid hLx
    replace hGr := Lib.hid hGr
    replace hnl := Lib.hid hnl
    clear hG hFa hFi hxs hO hx h0 hi2 hoc hlen
    go_wp2_with fail
    refine hLx.out.mono ?_
    rintro e w3 ⟨v, n1, F, rfl, hF, hOF, b3⟩
    obtain ⟨rfl, rF⟩ := hGr.out.log ⟨x.f, hxm.out, rfl⟩ hF
    obtain ⟨va, vc, vb, vo, rfl, hT, -⟩ := hOF.at_
    have hfirst := row_first hGr.out.once (fun f hf => hGr.out.all hf) hxm.out rF
    have hF0 : 0 < F.length := (List.getElem?_eq_some_iff.1 hfirst).1
    rw [List.length_map] at *
    obtain rfl := hT.addr (by rw [List.length_map]; exact hF0)
    have d0 := hT.cell 0 x.f.id (by rw [List.getElem?_map, hfirst]; rfl)
    rw [Nat.add_zero] at d0
    obtain ⟨nf, hnf⟩ : ∃ n : Nat, Hid (n = F.length) := ⟨_, Lib.hid rfl⟩
    have hf40 : nf ≤ 40 := by have h1 := row_few hGr.out.once rF; have h2 := hGr.out.len; have h3 := hnf.out; omega
    rw [← hnf.out] at hF0 ⊢
    have e1 : ((nf : Int) == 0) = false := by simp only [beq_eq_false_iff_ne]; omega
    have e2 : (x.f.id.toList == x.f.id.toList) = true := str_eq rfl
    have e3 : (x.f.id.toList != x.f.id.toList) = false := bne_self_eq_false _
    have e4 : (0 : Int) < nf := by omega
    have hTk := Lib.hid hT
    have b13 := Lib.hid (b_then b12.out b3)
    have b23 := Lib.hid b3
    replace rF := Lib.hid rF
    replace hfirst := Lib.hid hfirst
    replace hF := Lib.hid hF
    clear hLx hOF hT b12 b3 hi1 hul kz k3 i0 i1 c0
    go_wp2_with fail
    have hNw := Lib.hid (Tm.New_map w3)
    refine hNw.out.mono ?_
    rintro e w4 ⟨rfl, hM, b4⟩
    obtain ⟨q, hq⟩ : ∃ q, q = w3.heap.size := ⟨_, rfl⟩
    rw [← hq] at hM ⊢
    replace hq := Lib.hid hq
    replace hM := Lib.hid hM
    replace b4 := Lib.hid b4
    have hnd : Hid (((places F).map Sh.Ent.key).Nodup) := Lib.hid (by
      show ((places F).map fun e => e.1).Nodup
      rw [places_keys]
      unfold List.Nodup
      rw [List.pairwise_map]
      refine List.Pairwise.imp_of_mem ?_ rF.out.falls
      intro a b ha hb hu e
      rw [once_eq hGr.out.once ((rF.out.mem a).1 ha).mem ((rF.out.mem b).1 hb).mem e] at hu
      exact under_irr b hu)
    have hcell : Hid (∀ k, k < nf → ∃ g, F[k]? = some g) := Lib.hid fun k hk => by
      have := hnf.out
      exact ⟨F[k], List.getElem?_eq_getElem (by omega)⟩
    clear hNw d0 e0 e1 e2 e3
    go_wp2_with fail
    go_loopw [10] (fun i wr => ∃ k : Nat, k ≤ nf ∧ i = .int .i64 (k : Int) ∧ Below w3.heap.size w3 wr ∧ ∃ M, Sh.Filled ((places F).take k) M ∧ Tm.At wr 63 (some ⟨q, 0, none⟩) M) (fun i _ => nf - (intOf i).toNat)
    case atStart => exact ⟨0, Nat.zero_le _, rfl, b4.out, [], Sh.Filled.nil, hM.out⟩
    case round =>
      obtain ⟨k, hk, rfl, hb, M, hFM, hMA⟩ := hrel
      by_cases hlt : k < nf
      · obtain ⟨f, hf⟩ := hcell.out k hlt
        have c0 := (hTk.out.next hb).cell k f.id (by rw [List.getElem?_map, hf]; rfl)
        have k1 : (k : Int) < nf := by omega
        have k0 : 0 ≤ (k : Int) := by omega
        have hwk : wrap64 ((k : Int) + 1) = ((k + 1 : Nat) : Int) := wrap_next k (by omega)
        have hms : Hid (nf - (k + 1) < nf - k) := Lib.hid (Nat.sub_lt_sub_left hlt (Nat.lt_succ_self k))
        have hkl : Hid (k + 1 ≤ nf) := Lib.hid hlt
        obtain ⟨hno, hstep⟩ := hFM.step (k := k) (e := (f.id, (k : Int))) hnd.out (places_at hf)
        have hP := Tm.Put_calls wr 63 q M (f.id, (k : Int)) (by decide) hMA hFM.up (by have := hFM.len; rw [List.length_take, places_len] at this; have := hnf.out; omega)
        rw [hno] at hP
        replace hP := Lib.hid hP
        replace hstep := Lib.hid hstep
        replace hb := Lib.hid hb
        clear hlt hk hf hFM hMA hno
        go_wp2_with fail
        refine hP.out.mono ?_
        rintro e w5 ⟨rfl, hT5⟩
        have b5 := Lib.hid (hT5.below hb.out (by rw [hq.out]; exact Nat.le_refl _))
        have hM5 := Lib.hid hT5.1
        clear hP hT5
        go_wp2
        go_roundw
        case measure => simp [intOf]; exact hms.out
        case rel => exact ⟨k + 1, hkl.out, by simp, b5.out, _, hstep.out, hM5.out⟩
      · obtain rfl : nf = k := (Nat.le_antisymm hk (Nat.le_of_not_lt hlt)).symm
        obtain ⟨wA, eA⟩ : ∃ x : World, x = wr := ⟨_, rfl⟩
        subst eA
        have k1 : ¬ (nf : Int) < nf := Int.lt_irrefl _
        have hFw : Hid (Sh.Filled (places F) M) := Lib.hid (by
          have := hFM
          rwa [List.take_of_length_le (by rw [places_len]; have := hnf.out; omega)] at this)
        replace hMA := Lib.hid hMA
        have b3A := Lib.hid hb
        have b2A := Lib.hid (b_then b23.out hb)
        have bwA := Lib.hid (b_then b13.out hb)
        clear hlt hk hFM hM b4 hnd hb
        go_wp2_with fail
        have hNw := Lib.hid (Tf.New_map wA)
        refine hNw.out.mono ?_
        rintro e w4 ⟨rfl, hM, b4⟩
        obtain ⟨p, hp⟩ : ∃ p, p = wA.heap.size := ⟨_, rfl⟩
        rw [← hp] at hM ⊢
        replace hp := Lib.hid hp
        replace hM := Lib.hid hM
        replace b4 := Lib.hid b4
        have hnd : Hid (((byId G).map Sh.Ent.key).Nodup) := Lib.hid (by
          show ((byId G).map fun e => e.1).Nodup
          rw [byId_keys, ← plain_ids]
          exact hGr.out.once)
        have hcG : Hid (∀ k, k < nl → ∃ g, G[k]? = some g) := Lib.hid fun k hk => by
          have := hnl.out
          exact ⟨G[k], List.getElem?_eq_getElem (by omega)⟩
        have hl40 : nl ≤ 40 := by have h1 := hGr.out.len; unfold plain at h1; rw [List.length_map] at h1; have := hnl.out; omega
        clear hNw
        go_wp2_with fail
        go_loopw [12] (fun i wr => ∃ k : Nat, k ≤ nl ∧ i = .int .i64 (k : Int) ∧ Below wA.heap.size wA wr ∧ ∃ N, Sh.Filled ((byId G).take k) N ∧ Tf.At wr 68 (some ⟨p, 0, none⟩) N) (fun i _ => nl - (intOf i).toNat)
        case atStart => exact ⟨0, Nat.zero_le _, rfl, b4.out, [], Sh.Filled.nil, hM.out⟩
        case round =>
          obtain ⟨k, hk, rfl, hb, N, hFN, hNA⟩ := hrel
          by_cases hlt : k < nl
          · obtain ⟨y, hy⟩ := hcG.out k hlt
            have bd := b_then hb (b_drew1 wr)
            have hFr := (hKeep.out wr.drew (b_then b2A.out bd)).at_
            have c0 := hFr.id k y hy
            have c1 := hFr.high k y hy
            have c2 := hFr.pars k y hy
            have k1 : (k : Int) < nl := by omega
            have k0 : 0 ≤ (k : Int) := by omega
            have hwk : wrap64 ((k : Int) + 1) = ((k + 1 : Nat) : Int) := wrap_next k (by omega)
            have hms : Hid (nl - (k + 1) < nl - k) := Lib.hid (Nat.sub_lt_sub_left hlt (Nat.lt_succ_self k))
            have hkl : Hid (k + 1 ≤ nl) := Lib.hid hlt
            obtain ⟨hno, hstep⟩ := hFN.step (k := k) (e := (y.f.id, y)) hnd.out (byId_at hy)
            have hP := Tf.Put_calls wr.drew 68 p N (y.f.id, y) (by decide) (hNA.next (b_drew1 wr)) hFN.up (by have := hFN.len; rw [List.length_take, byId_len] at this; have := hnl.out; omega)
            rw [hno] at hP
            replace hP := Lib.hid hP
            replace hstep := Lib.hid hstep
            replace hb := Lib.hid bd
            clear hlt hk hy hFN hNA hno hFr bd
            go_wp2_with fail
            go_still_tail 10, (by kernel_rfl)
            change wpList _ _ _ _ _ wr.drew
            go_wp2_with fail
            refine hP.out.mono ?_
            rintro e w5 ⟨rfl, hT5⟩
            have b5 := Lib.hid (hT5.below hb.out (by rw [hp.out]; exact Nat.le_refl _))
            have hM5 := Lib.hid hT5.1
            clear hP hT5
            go_wp2
            go_roundw
            case measure => simp [intOf]; exact hms.out
            case rel => exact ⟨k + 1, hkl.out, by simp, b5.out, _, hstep.out, hM5.out⟩
          · obtain rfl : nl = k := (Nat.le_antisymm hk (Nat.le_of_not_lt hlt)).symm
            obtain ⟨wB, eB⟩ : ∃ x : World, x = wr := ⟨_, rfl⟩
            subst eB
            have l1 : ¬ (nl : Int) < nl := Int.lt_irrefl _
            have hGw : Hid (Sh.Filled (byId G) N) := Lib.hid (by
              have := hFN
              rwa [List.take_of_length_le (by rw [byId_len]; have := hnl.out; omega)] at this)
            replace hNA := Lib.hid hNA
            have hMB := Lib.hid (hMA.out.next hb)
            have b3B := Lib.hid (b_then b3A.out hb)
            have b2B := Lib.hid (b_then b2A.out hb)
            have bwB := Lib.hid (b_then bwA.out hb)
            clear hlt hk hFN hM b4 hnd hb hMA b3A b2A bwA hp hq b13 b23 hl40
            have hcF : Hid (∀ k, k < nf → ∃ f y, F[k]? = some f ∧ y ∈ G ∧ y.f = f) := Lib.hid fun k hk => by
              obtain ⟨f, hf⟩ := hcell.out k hk
              obtain ⟨y, hy, e⟩ := List.mem_map.1 ((rF.out.mem f).1 (List.mem_of_getElem? hf)).mem
              exact ⟨f, y, hf, hy, e⟩
            have hGet := Lib.hid fun w' (bb : Below wB.heap.size wB w') (y : Fx) (hy : y ∈ G) => Tf.Get_calls w' _ _ N y.f.id (y.f.id, y) (hNA.out.next bb) hGw.out.up (hGw.out.get (List.mem_map.2 ⟨y, hy, rfl⟩))
            go_wp2_with fail
            go_loopw [13] (fun i wr => ∃ k : Nat, k ≤ nf ∧ i = .int .i64 (k : Int) ∧ Below wB.heap.size wB wr) (fun i _ => nf - (intOf i).toNat)
            case atStart => exact ⟨0, Nat.zero_le _, rfl, Below.refl _ _⟩
            case round =>
              obtain ⟨k, hk, rfl, hb⟩ := hrel
              by_cases hlt : k < nf
              · obtain ⟨f, y, hf, hyG, rfl⟩ := hcF.out k hlt
                have hTr := Lib.hid fun w' (bb : Below wr.heap.size wr w') => hTk.out.next (b_then b3B.out (b_then hb bb))
                have c0 := (hTr.out wr (Below.refl _ _)).cell k y.f.id (by rw [List.getElem?_map, hf]; rfl)
                have k1 : (k : Int) < nf := by omega
                have k0 : 0 ≤ (k : Int) := by omega
                have hwk : wrap64 ((k : Int) + 1) = ((k + 1 : Nat) : Int) := wrap_next k (by omega)
                have hms : Hid (nf - (k + 1) < nf - k) := Lib.hid (Nat.sub_lt_sub_left hlt (Nat.lt_succ_self k))
                have hkl : Hid (k + 1 ≤ nf) := Lib.hid hlt
                have hG1 := Lib.hid (hGet.out wr hb y hyG)
                replace hb := Lib.hid hb
                replace hf := Lib.hid hf
                clear hlt hk
                go_wp2_with fail
                refine hG1.out.mono ?_
                rintro e w5 ⟨rfl, b5⟩
                have hV := Lib.hid (FxVar.new w5 y)
                have b6 := Lib.hid (b_then b5 (b_alloc w5 (.cells #[.string y.f.id, .int .i64 y.f.high, .slice y.pa y.f.pars.length y.pc] 28)))
                clear hG1 b5
                go_upto_if 110 with fail
                generalize w5.alloc (.cells #[.string y.f.id, .int .i64 y.f.high, .slice y.pa y.f.pars.length y.pc] 28) = w6 at *
                generalize w5.heap.size = g at *
                obtain ⟨np, hnp⟩ : ∃ n, n = y.f.pars.length := ⟨_, rfl⟩
                have hVc := Lib.hid fun w' (bb : Below w6.heap.size w6 w') => (hV.out.next bb).cell
                rw [← hnp] at hVc
                replace hnp := Lib.hid hnp
                go_cut [14] from 94 to 166 (fun u wx => u = .pointer (some ⟨g, 0, none⟩) ∧ Hid (Below w6.heap.size w6 wx))
                case first =>
                  by_cases hk0 : k = 0
                  · have q1 : decide (0 < k) = false := decide_eq_false (by omega)
                    have q2 : ¬ 0 < k := by omega
                    have q3 : ¬ (0 : Int) < (k : Int) := by omega
                    clear c0 hk0
                    go_wp2
                    go_meet
                    exact ⟨rfl, Lib.hid (Below.refl _ _)⟩
                  · have q1 : decide (0 < k) = true := decide_eq_true (by omega)
                    have q2 : 0 < k := by omega
                    have q3 : (0 : Int) < (k : Int) := by omega
                    obtain ⟨m, hm⟩ : ∃ m, m + 1 = k := ⟨k - 1, by omega⟩
                    have hm1 : wrap64 ((k : Int) - 1) = (m : Int) := by rw [IntWalk.wrap64_in ((k : Int) - 1) ⟨by omega, by omega⟩]; omega
                    have hm2 : IntKind.i64.wrap ((k : Int) - 1) = (m : Int) := by rw [IntWalk.i64_in _ (by omega)]; omega
                    have hmn : m < nf := by omega
                    obtain ⟨f2, y2, hf2, hyG2, rfl⟩ := hcF.out m hmn
                    have c2 := (hTr.out w6 b6.out).cell m y2.f.id (by rw [List.getElem?_map, hf2]; rfl)
                    have m1 : (m : Int) < nf := by omega
                    have m0 : 0 ≤ (m : Int) := by omega
                    have hcm := row_falls rF.out hf2 hf.out (by omega)
                    have hG2 := Lib.hid (hGet.out w6 (b_then hb.out b6.out) y2 hyG2)
                    replace hm := Lib.hid hm
                    clear c0 hk0 hmn hf2
                    go_wp2_with fail
                    refine hG2.out.mono ?_
                    rintro e w7 ⟨rfl, b7⟩
                    have hV2 := Lib.hid (FxVar.new w7 y2)
                    have b8 := Lib.hid (b_then b7 (b_alloc w7 (.cells #[.string y2.f.id, .int .i64 y2.f.high, .slice y2.pa y2.f.pars.length y2.pc] 28)))
                    clear hG2 b7
                    go_upto_region 27 with fail
                    generalize w7.alloc (.cells #[.string y2.f.id, .int .i64 y2.f.high, .slice y2.pa y2.f.pars.length y2.pc] 28) = w8 at *
                    generalize w7.heap.size = g2 at *
                    obtain ⟨a0, a1, a2⟩ := hVc.out w8 b8
                    obtain ⟨d0, d1, d2⟩ := hV2.out.cell
                    have hC := Compare_calls y2 y w8
                    rw [hcm] at hC
                    replace hC := Lib.hid hC
                    dsimp only [Fx.val] at hC
                    rw [← hnp.out] at hC
                    clear hcm c2 hyG2
                    go_wp2_with fail
                    refine hC.out.mono ?_
                    rintro e w9 ⟨rfl, q9, o9, hw9⟩
                    have b9 : Hid (Below w6.heap.size w6 w9) := Lib.hid (by rw [hw9]; exact b_then b8 (below_grow _ _ _))
                    clear hC hw9 a0 a1 a2 d0 d1 d2
                    go_wp2
                    go_meet
                    exact ⟨rfl, b9.out⟩
                case rest =>
                  obtain ⟨rfl, hc⟩ := hcut
                  replace hc := Lib.hid hc.out
                  have b7 := Lib.hid (b_then hb.out (b_then b6.out hc.out))
                  have hyI : Hid (∃ i, (plain G)[i]? = some y.f) := Lib.hid (by
                    obtain ⟨i, hi, e⟩ := List.mem_iff_getElem.1 hyG
                    exact ⟨i, by unfold plain; rw [List.getElem?_map, List.getElem?_eq_getElem hi, e]; rfl⟩)
                  have hnp40 : np ≤ 40 := by
                    obtain ⟨i, e⟩ := hyI.out
                    rw [hnp.out]; exact hGr.out.few i _ e
                  have hPars := Lib.hid ((hKeep.out wc (b_then b2B.out b7.out)).facts.pars y hyG)
                  obtain ⟨-, pb, po, hPT⟩ := hPars.out
                  replace hPT := Lib.hid hPT
                  have hWh := Lib.hid fun w' (bb : Below wc.heap.size wc w') (z : ByteArray) (j : Nat) (he : (z, (j : Int)) ∈ places F) => Tm.Get_calls w' _ _ M z (hMB.out.next (b_then b7.out bb)) hFw.out.up (j : Int) true (Or.inr ⟨(z, (j : Int)), hFw.out.get he, rfl, rfl⟩)
                  have hys := Lib.hid ((hKeep.out wc (b_then b2B.out b7.out)).facts.id y hyG)
                  have hVw := Lib.hid fun w' (bb : Below wc.heap.size wc w') => hVc.out w' (b_then hc.out bb)
                  have hpar : Hid (∀ j, j < np → ∃ z j2, y.f.pars[j]? = some z ∧ k < j2 ∧ j2 < nf ∧ (z, (j2 : Int)) ∈ places F) := Lib.hid fun j hj => by
                    have hj' : j < y.f.pars.length := by have := hnp.out; omega
                    obtain ⟨j2, u, h1, h2, h3⟩ := row_parents hGr.out.once (fun f hf => hGr.out.all hf) (hGr.out.whole _) rF.out hf.out (List.getElem_mem hj')
                    refine ⟨_, j2, List.getElem?_eq_getElem hj', h1, ?_, ?_⟩
                    · have := (List.getElem?_eq_some_iff.1 h2).1; have := hnf.out; omega
                    · rw [← h3]; exact List.mem_of_getElem? (places_at h2)
                  clear c0 hnp hV hVc
                  obtain ⟨-, -, v2⟩ := hVw.out wc (Below.refl _ _)
                  go_wp2_with fail
                  go_loopw [18] (fun j wx => ∃ j' : Nat, j' ≤ np ∧ j = .int .i64 (j' : Int) ∧ Below wc.heap.size wc wx) (fun j _ => np - (intOf j).toNat)
                  case atStart => exact ⟨0, Nat.zero_le _, rfl, Below.refl _ _⟩
                  case round =>
                    obtain ⟨j, hj, rfl, hbj⟩ := hrel
                    clear v2
                    obtain ⟨-, -, v2⟩ := hVw.out _ hbj
                    by_cases hlt : j < np
                    · obtain ⟨z, j2, hz, hkj, hj2, hpl⟩ := hpar.out j hlt
                      have g1 : (j : Int) < np := by omega
                      have g0 : 0 ≤ (j : Int) := by omega
                      have t0 := (hPT.out.next hbj).cell j z hz
                      obtain ⟨pa, hpa⟩ : ∃ pa, pa = y.pa := ⟨_, rfl⟩
                      have hpe : pa = some ⟨pb, po, none⟩ := hpa.trans (hPT.out.addr (by have := (List.getElem?_eq_some_iff.1 hz).1; omega))
                      rw [← hpa] at v2
                      subst hpe
                      replace hpa := Lib.hid hpa
                      have hwj : wrap64 ((j : Int) + 1) = ((j + 1 : Nat) : Int) := wrap_next j (by omega)
                      have hmj : Hid (np - (j + 1) < np - j) := Lib.hid (Nat.sub_lt_sub_left hlt (Nat.lt_succ_self j))
                      have hjl : Hid (j + 1 ≤ np) := Lib.hid hlt
                      have r1 : decide ((j2 : Int) ≤ (k : Int)) = false := decide_eq_false (by omega)
                      have r2 : decide (j2 ≤ k) = false := decide_eq_false (by omega)
                      have r3 : ¬ (j2 : Int) ≤ (k : Int) := by omega
                      have hW := Lib.hid (hWh.out _ hbj z j2 hpl)
                      have hbj2 := Lib.hid hbj
                      clear hlt hj hz hpl hbj hkj hj2
                      go_wp2_with fail
                      refine hW.out.mono ?_
                      rintro e w' ⟨rfl, hw'⟩
                      subst hw'
                      clear hW
                      go_wp2
                      go_roundw
                      case measure => simp [intOf]; exact hmj.out
                      case rel => exact ⟨j + 1, hjl.out, by simp, hbj2.out⟩
                    · obtain rfl : np = j := (Nat.le_antisymm hj (Nat.le_of_not_lt hlt)).symm
                      have g1 : ¬ (np : Int) < np := Int.lt_irrefl _
                      obtain ⟨wD, eD⟩ : ∃ x : World, x = wr := ⟨_, rfl⟩
                      subst eD
                      have bD := Lib.hid (b_then b6.out (b_then hc.out hbj))
                      have bBD := Lib.hid (b_then hb.out bD.out)
                      have c0 := (hTr.out wD bD.out).cell k y.f.id (by rw [List.getElem?_map, hf.out]; rfl)
                      have hA := Lib.hid (hAb.out wD (b_then b2B.out bBD.out) y.f.id hys.out)
                      have hin : Hid (inIds F y.f.id = true) := Lib.hid (by
                        unfold inIds
                        rw [List.any_eq_true]
                        exact ⟨y.f, List.mem_of_getElem? hf.out, by simp⟩)
                      clear hlt hj hbj hPT hWh hpar hVw hPars
                      by_cases hk0 : k = 0
                      · have q1 : decide (0 < k) = false := decide_eq_false (by omega)
                        have q2 : ¬ 0 < k := by omega
                        have q3 : ¬ (0 : Int) < (k : Int) := by omega
                        have hr0 : Hid (decide (x.f.id ≠ y.f.id) = false) := Lib.hid (by
                          have h1 := hfirst.out
                          have h2 := hf.out
                          rw [hk0, h1] at h2
                          rw [Option.some.inj h2]; simp)
                        clear hk0
                        go_wp2_with fail
                        refine hA.out.mono ?_
                        rintro e wE ⟨r, nE, rfl, hcE, hrE, bE⟩
                        obtain rfl := hcE.unique hF.out.code.1
                        obtain rfl : r = false := by rw [hrE F hF.out, hr0.out]; rfl
                        have bF := Lib.hid (b_then bBD.out bE)
                        clear hA hcE hrE c0 bE
                        go_wp2
                        go_roundw
                        case measure => simp [intOf]; exact hms.out
                        case rel => exact ⟨k + 1, hkl.out, by simp, bF.out⟩
                      · have q1 : decide (0 < k) = true := decide_eq_true (by omega)
                        have q2 : 0 < k := by omega
                        have q3 : (0 : Int) < (k : Int) := by omega
                        have hr0 : Hid (decide (x.f.id ≠ y.f.id) = true) := Lib.hid (by
                          refine decide_eq_true fun e => hk0 ?_
                          exact (row_once rF.out hGr.out.once hfirst.out hf.out e).symm)
                        clear hk0
                        go_wp2_with fail
                        refine hA.out.mono ?_
                        rintro e wE ⟨r, nE, rfl, hcE, hrE, bE⟩
                        obtain rfl := hcE.unique hF.out.code.1
                        obtain rfl : r = true := by rw [hrE F hF.out, hr0.out, hin.out]; rfl
                        have bF := Lib.hid (b_then bBD.out bE)
                        clear hA hcE hrE c0 bE
                        go_wp2
                        go_roundw
                        case measure => simp [intOf]; exact hms.out
                        case rel => exact ⟨k + 1, hkl.out, by simp, bF.out⟩
              · obtain rfl : nf = k := (Nat.le_antisymm hk (Nat.le_of_not_lt hlt)).symm
                have k1 : ¬ (nf : Int) < nf := Int.lt_irrefl _
                have bF := Lib.hid (b_then bwB.out hb)
                clear hlt hk hb
                go_wp2
                go_ret
                exact ⟨rfl, bF.out⟩
theorem own : ownKnob Tryz.prog.godebug = none := by kernel_rfl
theorem laidOut : laidOutB Tryz.prog = true := by kernel_rfl
set_option maxRecDepth 100000 in
theorem lifted (os : Os) (started : os.Started) (H : Type) (enc : TypeId × Value → H) :
    ReturnsInHanded {} Tryz.checked os 3 .any (Rows.orderFallsSpec.pre6 enc Tryz.prog Tryz.f3 Rows.orderFallsRow.domain false) (Rows.orderFallsSpec.post enc Tryz.prog Tryz.f3 false true false false) := by
  refine returnsInHanded_of_change_sized (C := Tryz.checked) own started (by kernel_rfl) Tryz.func3
    (ChangeSpec.witness6 (enc := enc) (C := Tryz.checked) false ⟨#[], #[.slice none 0 0, .int .i64 0], []⟩ 8 (by kernel_rfl) (by kernel_rfl) (by kernel_rfl) (by kernel_rfl)) ?_
  intro W base args ds gs before hval0 hW hcnd hsz0 _
  have hval : ∀ (j : Nat) t v, Tryz.f3.params[j]? = some t → args[j]? = some v → Value.okWide Tryz.prog W .any base t v := hval0
  have hsz : (DataW.weightsEach Tryz.prog (Tryz.f3.params.toList ++ Rows.orderFallsSpec.plain.varTypes Tryz.prog) (ds ++ gs)).all (· ≤ reachBytes) = true := hsz0
  have hW' := hW
  obtain ⟨p, q, hA0, hV, rfl, hfz, hnd⟩ := hW
  have hA : DataW.TrodAll enc Tryz.prog W 0 (fun _ => true) true Tryz.f3.params.toList args.toList ds p := hA0
  rw [Tryz.params3] at hA hval hsz
  obtain ⟨v0, vs0, d0, ds0, p0, q0, hargs, rfl, rfl, h0, r0⟩ := trodAll_cons hA
  obtain ⟨v1, vs1, d1, ds1, p1, q1, rfl, rfl, rfl, h1, r1⟩ := trodAll_cons r0
  obtain ⟨rfl, rfl, rfl⟩ := trodAll_nil r1
  obtain rfl : args = #[v0, v1] := by cases args; simp_all
  obtain ⟨rfl, rfl⟩ := trodVars_none hV
  have k0 := h0
  have lt0 : ∀ x ∈ p0, x.block < W.heap.size := by obtain ⟨m, hm⟩ := k0; exact DataW.trod_lt m _ _ _ hm
  have ok0 := hval 0 22 v0 rfl rfl
  have k1 := h1
  have lt1 : ∀ x ∈ p1, x.block < W.heap.size := by obtain ⟨m, hm⟩ := k1; exact DataW.trod_lt m _ _ _ hm
  have ok1 := hval 1 3 v1 rfl rfl
  clear hA0 hval0 hsz0
  obtain ⟨a, cap, b, off, n, A, L, C, Z, rfl, hN, hn⟩ := open_nums ok0 h0
  obtain ⟨x, rfl, rfl, rfl, w1⟩ := open_int Tryz.underlying3 ok1 h1
  refine (walk W a cap b off n A L C Z x hN hn).mono fun e W' ⟨he, bel⟩ => ?_
  subst he
  exact ⟨_, rfl, _, _, _, [], _, [], hW', trodAll_mk1 (shut_bool Tryz.underlying4 _), (trodAll_cons_mk (Below.trod laidOut (by kernel_rfl) (of_decide_eq_true (by kernel_rfl)) k0 bel lt0) (trodAll_cons_mk (Below.trod laidOut (by kernel_rfl) (of_decide_eq_true (by kernel_rfl)) k1 bel lt1) trodAll_mk0)), rfl, bel.frame _, fun h => by cases h⟩

/-- the statement -/
theorem proved : Rows.OrderFallsSaid :=
  OpenClaim.holds_of_wide 3 Tryz.f3 rfl rfl rfl rfl rfl rfl rfl ⟨rfl, rfl, rfl, rfl, rfl⟩ rfl rfl rfl rfl rfl (by kernel_rfl) Tryz.func3 (by kernel_rfl)
    (of_decide_eq_true (by kernel_rfl)) (by unfold Func.isWrapper; first | (rw [if_pos (by decide +kernel)]; kernel_rfl) | (rw [if_neg (by decide +kernel)]; exact ⟨rfl, rfl⟩))
    (fun os started H enc _ => lifted os started H enc)
end Go.Proofs.YtbjpogeemajhoaaGreat.orderFalls
