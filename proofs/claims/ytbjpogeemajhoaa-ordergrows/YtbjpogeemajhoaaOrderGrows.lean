/-
  OrderGrows: commits that come later change no log. Conditions: none.
-/
import Derived.Test.YtbjpogeemajhoaaRows
import Derived.Test.YtbjpogeemajhoaaOrLog
import Derived.Test.YtbjpogeemajhoaaOrMake
import Derived.Test.YtbjpogeemajhoaaOrGrow
import Derived.Test.YtbjpogeemajhoaaOrAwake
import Derived.Test.YtbjpogeemajhoaaOrNums
import Derived.Deep.QuietTactic
import Derived.BigQuiet
import Derived.ProofKit
import Derived.OpenShut
import Derived.Stop.Joined
import Derived.Carry
namespace Go.Proofs.Ytbjpogeemajhoaa.orderGrows
open Go Go.ChangeShapes Go.WideShapes Go.ChangeAt Go.RowKit Go.Proofs.Ytbjpogeemajhoaa.Or

theorem log_few {L : List Fct} {x : ByteArray} {n : Int} {G : List Fct} (h : IsLog L x n G) : G.length ≤ L.length := by
  cases h with
  | ok h0 _ _ _ _ h5 =>
    have nd : (G.map Fct.id).Nodup := by
      unfold List.Nodup
      rw [List.pairwise_map]
      refine List.Pairwise.imp_of_mem ?_ h5.falls
      intro a b ha hb hu e
      rw [once_eq h0 ((h5.mem a).1 ha).mem ((h5.mem b).1 hb).mem e] at hu
      exact under_irr b hu
    have := ids_len nd (m := L.map Fct.id) fun s hs => by
      obtain ⟨f, hf, rfl⟩ := List.mem_map.1 hs
      exact List.mem_map.2 ⟨f, ((h5.mem f).1 hf).mem, rfl⟩
    simpa using this
  | _ => exact Nat.zero_le _
set_option maxRecDepth 100000 in
set_option maxHeartbeats 2000000 in
theorem walk (w : World) (a : Option Addr) (cap b off n : Nat) (A : Nat → Option Addr) (L C : Nat → Nat) (Z : Nat → Nat → Int) (at_ first : Int) (h : NumsAt w a b off n A L C Z) (hn : n ≤ maxLen) :
    Calls Try.prog 7 #[.slice a n cap, .int .i64 at_, .int .i64 first] w fun e w' => e = .returned (.bool true) ∧ Below w.heap.size w w' := by
  have hAw := Lib.hid fun w => awake_calls w
  replace h := Lib.hid h
  go_enter Try.func7, Try.ntmps7
  go_wp2_with fail
  refine (hAw.out w).mono ?_
  rintro e w1 ⟨rfl, b1⟩
  have hMk := Lib.hid (grown_calls w1 a cap b off n A L C Z (h.out.next b1) (by unfold maxLen at hn; omega))
  clear hAw h hn
  go_wp2_with fail
  refine hMk.out.mono ?_
  rintro e w2 ⟨v, G, rfl, hO, hGr, hFa, b2⟩
  have b12 := Lib.hid (b_then b1 b2)
  obtain ⟨oa, oc, ob, oo, rfl, hG, hoc⟩ := hO.at_
  have hlen := hGr.len
  unfold plain at hlen
  rw [List.length_map] at hlen
  clear hMk b1 b2
  by_cases h0 : G.length = 0
  · have e0 : ((G.length : Int) == 0) = true := by rw [h0]; rfl
    clear hO
    go_wp2
    go_ret
    exact ⟨rfl, b12.out⟩
  · have e0 : ((G.length : Int) == 0) = false := by simp only [beq_eq_false_iff_ne]; omega
    obtain rfl := hG.addr (by omega)
    obtain ⟨nl, hnl⟩ : ∃ n : Nat, n = G.length := ⟨_, rfl⟩
    have k3 : (0 : Int) < nl := by omega
    obtain ⟨j, hj1, hj2⟩ := Oct.rem_small first nl k3 (by omega)
    have hul : IntKind.u64.wrap (nl : Int) = (nl : Int) := by rw [IntKind.wrap_u64]; omega
    obtain ⟨m, hm⟩ : ∃ m : Nat, m = j + 1 := ⟨_, rfl⟩
    have hj3 : wrap64 (1 + (j : Int)) = (m : Int) := by rw [IntWalk.wrap64_in (1 + (j : Int)) ⟨by omega, by omega⟩]; omega
    have k4 : (0 : Int) < (m : Int) := by omega
    obtain ⟨i, hi1, hi2⟩ := Oct.rem_small at_ (m : Int) k4 (by omega)
    have huj : IntKind.u64.wrap (m : Int) = (m : Int) := by rw [IntKind.wrap_u64]; omega
    have kz : ((nl : Int) == 0) = false := by simp only [beq_eq_false_iff_ne]; omega
    have kz2 : ((m : Int) == 0) = false := by simp only [beq_eq_false_iff_ne]; omega
    obtain ⟨y, hy⟩ : ∃ y, G[i]? = some y := ⟨G[i]'(by omega), List.getElem?_eq_getElem (by omega)⟩
    have c0 := hG.id i y hy
    have i0 : 0 ≤ (i : Int) := by omega
    have i1 : (i : Int) < nl := by omega
    have m0 : (m : Int) ≤ oc := by omega
    have m1 : 0 ≤ (m : Int) := by omega
    have hyT : Hid (∃ f ∈ (plain G).take m, f.id = y.f.id) := Lib.hid ⟨y.f, List.mem_of_getElem? (i := i) (by unfold plain; rw [List.getElem?_take_of_lt (by omega), List.getElem?_map, hy]; rfl), rfl⟩
    have hFi : Fine w2 (some ⟨ob, oo, none⟩) ob oo G := fine_of hGr hG hFa
    have hFt : Fine w2 (some ⟨ob, oo, none⟩) ob oo (G.take m) := hFi.take m
    have hys := hFi.facts.id y (List.mem_of_getElem? hy)
    have hL1 := Log_calls w2 (some ⟨ob, oo, none⟩) oc ob oo (G.take m) y.f.id hFt hys
    have htl : (G.take m).length = m := by rw [List.length_take]; omega
    have hpt : plain (G.take m) = (plain G).take m := by unfold plain; rw [List.map_take]
    rw [htl, hpt] at hL1
    have hL2 := Lib.hid fun w' (bb : Below w2.heap.size w2 w') => Log_calls w' (some ⟨ob, oo, none⟩) oc ob oo G y.f.id (hFi.next bb) hys
    rw [← hnl] at e0 hL2 ⊢
    replace hL1 := Lib.hid hL1
    replace hGr := Lib.hid hGr
    clear hG hFa hFi hFt hys hO hy htl hpt hm hnl hlen h0 hj2 hi2 hoc
    go_wp2_with fail
    refine hL1.out.mono ?_
    rintro e w3 ⟨v1, n1, F1, rfl, hlog1, hO1, b3⟩
    have hL3 := Lib.hid (hL2.out w3 b3)
    have hO1' := Lib.hid hO1
    replace hlog1 := Lib.hid hlog1
    have b13 := Lib.hid (b_then b12.out b3)
    clear hL1 hL2 hO1 b3 b12
    go_wp2_with fail
    refine hL3.out.mono ?_
    rintro e w4 ⟨v2, n2, F2, rfl, hlog2, hO2, b4⟩
    obtain ⟨rfl, rfl, rfl⟩ := hGr.out.same_log hyT.out hlog1.out hlog2
    obtain ⟨a1, c1, p1, o1, rfl, hT1, -⟩ := (hO1'.out.next b4).at_
    obtain ⟨a2, c2, p2, o2, rfl, hT2, -⟩ := hO2.at_
    rw [List.length_map] at *
    have b14 := Lib.hid (b_then b13.out b4)
    have e1 : ((F1.length : Int) != F1.length) = false := by simp
    obtain ⟨nf, hnf⟩ : ∃ n : Nat, Hid (n = F1.length) := ⟨_, Lib.hid rfl⟩
    have hcell : Hid (∀ k, k < nf → ∃ g, F1[k]? = some g) := Lib.hid fun k hk => by
      have := hnf.out
      exact ⟨F1[k], List.getElem?_eq_getElem (by omega)⟩
    have hnf40 : nf ≤ 40 := by have h1 := log_few hlog1.out; have h2 := (hGr.out.take m).len; have h3 := hnf.out; omega
    rw [← hnf.out] at e1 ⊢
    have hT1' := Lib.hid hT1
    have hT2' := Lib.hid hT2
    clear hL3 hO1' hlog1 hlog2 hO2 b13 b4 hT1 hT2
    clear hj1 hj3 hi1 hul huj kz kz2 k3 k4 i0 i1 m0 m1 c0 hyT hGr
    go_wp2_with fail
    go_loopw [14] (fun i wr => ∃ k : Nat, k ≤ nf ∧ i = .int .i64 (k : Int) ∧ Below w4.heap.size w4 wr) (fun i _ => nf - (intOf i).toNat)
    case atStart => exact ⟨0, Nat.zero_le _, rfl, Below.refl _ _⟩
    case round =>
      obtain ⟨k, hk, rfl, hb⟩ := hrel
      by_cases hlt : k < nf
      · obtain ⟨f, hf⟩ := hcell.out k hlt
        have d0 := (hT1'.out.next hb).cell k f.id (by rw [List.getElem?_map, hf]; rfl)
        have d1 := (hT2'.out.next hb).cell k f.id (by rw [List.getElem?_map, hf]; rfl)
        obtain rfl := hT1'.out.addr (by rw [List.length_map]; have := hnf.out; omega)
        obtain rfl := hT2'.out.addr (by rw [List.length_map]; have := hnf.out; omega)
        have k1 : (k : Int) < nf := by omega
        have k0 : 0 ≤ (k : Int) := by omega
        have hwk : wrap64 ((k : Int) + 1) = ((k + 1 : Nat) : Int) := wrap_next k (by omega)
        have f1 : (f.id.toList == f.id.toList) = true := str_eq rfl
        have f2 : (f.id.toList != f.id.toList) = false := bne_self_eq_false _
        have hms : Hid (nf - (k + 1) < nf - k) := Lib.hid (Nat.sub_lt_sub_left hlt (Nat.lt_succ_self k))
        have hkl : Hid (k + 1 ≤ nf) := Lib.hid hlt
        replace hb := Lib.hid hb
        clear hlt hk hf
        go_wp2_with fail
        go_quiet (fail)
        have hb2 := Lib.hid (b_next hb.out (b_drew wr nq) (Nat.le_refl _))
        go_wp2
        go_roundw
        case measure => simp [intOf]; exact hms.out
        case rel => exact ⟨k + 1, hkl.out, by simp, hb2.out⟩
      · obtain rfl : k = nf := Nat.le_antisymm hk (Nat.le_of_not_lt hlt)
        have d0 : ¬ (k : Int) < k := Int.lt_irrefl _
        have bb := Lib.hid (b_then b14.out hb)
        clear hlt
        go_wp2
        go_ret
        exact ⟨rfl, bb.out⟩
theorem own : ownKnob Try.prog.godebug = none := by kernel_rfl
theorem laidOut : laidOutB Try.prog = true := by kernel_rfl
set_option maxRecDepth 100000 in
theorem lifted (os : Os) (started : os.Started) (H : Type) (enc : TypeId × Value → H) :
    ReturnsInHanded {} Try.checked os 7 .any (Rows.orderGrowsSpec.pre6 enc Try.prog Try.f7 Rows.orderGrowsRow.domain false) (Rows.orderGrowsSpec.post enc Try.prog Try.f7 false true false false) := by
  refine returnsInHanded_of_change_sized (C := Try.checked) own started (by kernel_rfl) Try.func7
    (ChangeSpec.witness6 (enc := enc) (C := Try.checked) false ⟨#[], #[.slice none 0 0, .int .i64 0, .int .i64 0], []⟩ 8 (by kernel_rfl) (by kernel_rfl) (by kernel_rfl) (by kernel_rfl)) ?_
  intro W base args ds gs before hval0 hW hcnd hsz0 _
  have hval : ∀ (j : Nat) t v, Try.f7.params[j]? = some t → args[j]? = some v → Value.okWide Try.prog W .any base t v := hval0
  have hsz : (DataW.weightsEach Try.prog (Try.f7.params.toList ++ Rows.orderGrowsSpec.plain.varTypes Try.prog) (ds ++ gs)).all (· ≤ reachBytes) = true := hsz0
  have hW' := hW
  obtain ⟨p, q, hA0, hV, rfl, hfz, hnd⟩ := hW
  have hA : DataW.TrodAll enc Try.prog W 0 (fun _ => true) true Try.f7.params.toList args.toList ds p := hA0
  rw [Try.params7] at hA hval hsz
  obtain ⟨v0, vs0, d0, ds0, p0, q0, hargs, rfl, rfl, h0, r0⟩ := trodAll_cons hA
  obtain ⟨v1, vs1, d1, ds1, p1, q1, rfl, rfl, rfl, h1, r1⟩ := trodAll_cons r0
  obtain ⟨v2, vs2, d2, ds2, p2, q2, rfl, rfl, rfl, h2, r2⟩ := trodAll_cons r1
  obtain ⟨rfl, rfl, rfl⟩ := trodAll_nil r2
  obtain rfl : args = #[v0, v1, v2] := by cases args; simp_all
  obtain ⟨rfl, rfl⟩ := trodVars_none hV
  have k0 := h0
  have lt0 : ∀ x ∈ p0, x.block < W.heap.size := by obtain ⟨m, hm⟩ := k0; exact DataW.trod_lt m _ _ _ hm
  have ok0 := hval 0 42 v0 rfl rfl
  have k1 := h1
  have lt1 : ∀ x ∈ p1, x.block < W.heap.size := by obtain ⟨m, hm⟩ := k1; exact DataW.trod_lt m _ _ _ hm
  have ok1 := hval 1 3 v1 rfl rfl
  have k2 := h2
  have lt2 : ∀ x ∈ p2, x.block < W.heap.size := by obtain ⟨m, hm⟩ := k2; exact DataW.trod_lt m _ _ _ hm
  have ok2 := hval 2 3 v2 rfl rfl
  clear hA0 hval0 hsz0
  obtain ⟨a, cap, b, off, n, A, L, C, Z, rfl, hN, hn⟩ := open_nums ok0 h0
  obtain ⟨x, rfl, rfl, rfl, w1⟩ := open_int Try.underlying3 ok1 h1
  obtain ⟨y, rfl, rfl, rfl, w2⟩ := open_int Try.underlying3 ok2 h2
  refine (walk W a cap b off n A L C Z x y hN hn).mono fun e W' ⟨he, bel⟩ => ?_
  subst he
  exact ⟨_, rfl, _, _, _, [], _, [], hW', trodAll_mk1 (shut_bool Try.underlying4 _), (trodAll_cons_mk (Below.trod laidOut (by kernel_rfl) (of_decide_eq_true (by kernel_rfl)) k0 bel lt0) (trodAll_cons_mk (Below.trod laidOut (by kernel_rfl) (of_decide_eq_true (by kernel_rfl)) k1 bel lt1) (trodAll_cons_mk (Below.trod laidOut (by kernel_rfl) (of_decide_eq_true (by kernel_rfl)) k2 bel lt2) trodAll_mk0))), rfl, bel.frame _, fun h => by cases h⟩

/-- the statement -/
theorem proved : Rows.OrderGrowsSaid :=
  OpenClaim.holds_of_wide 7 Try.f7 rfl rfl rfl rfl rfl rfl rfl ⟨rfl, rfl, rfl, rfl, rfl⟩ rfl rfl rfl rfl rfl (by kernel_rfl) Try.func7 (by kernel_rfl)
    (of_decide_eq_true (by kernel_rfl)) (by unfold Func.isWrapper; first | (rw [if_pos (by decide +kernel)]; kernel_rfl) | (rw [if_neg (by decide +kernel)]; exact ⟨rfl, rfl⟩))
    (fun os started H enc _ => lifted os started H enc)
end Go.Proofs.Ytbjpogeemajhoaa.orderGrows
