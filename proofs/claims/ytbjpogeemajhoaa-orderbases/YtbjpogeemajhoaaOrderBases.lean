/-
  OrderBases: where two commits meet is in both logs, and nothing that is in both stands above it; turned round it is the same; of a commit and what it came from it is the latter. Conditions: none.
-/
import Derived.Test.YtbjpogeemajhoaaRows
import Derived.Test.YtbjpogeemajhoaaOrLog
import Derived.Test.YtbjpogeemajhoaaOrMake
import Derived.Test.YtbjpogeemajhoaaOrGrow
import Derived.Test.YtbjpogeemajhoaaOrJoin
import Derived.Test.YtbjpogeemajhoaaOrAwake
import Derived.Test.YtbjpogeemajhoaaOrNums
import Derived.Test.YtbjpogeemajhoaaOrBest
import Derived.Test.YtbjpogeemajhoaaShJoins
import Derived.Test.YtbjpogeemajhoaaShIter
import Derived.Deep.QuietTactic
import Derived.BigQuiet
import Derived.Deep.RegionHeld3
import Derived.ProofKit
import Derived.OpenShut
import Derived.Stop.Joined
import Derived.Carry
namespace Go.Proofs.Ytbjpogeemajhoaa.orderBases
open Go Go.ChangeShapes Go.WideShapes Go.ChangeAt Go.RowKit Go.Proofs.Ytbjpogeemajhoaa.Or

/-- where two of what was grown meet -/
theorem base_first {G : List Fct} {x y : ByteArray} {n : Int} {s : ByteArray} {F K : List Fct} (hF : IsLog G x 0 F) (hK : IsLog G y 0 K) (hb : IsBase G x y n s) : n = 0 ∧ s = firstOf F K := by
  cases hb with
  | bad1 h1 h0 => exact absurd (h1.unique hF.code.1) h0
  | bad2 _ h1 h0 => exact absurd (h1.unique hK.code.1) h0
  | ok h1 _ h2 =>
    rw [(hF.unique h1).2]
    exact ⟨rfl, h2 K hK⟩
theorem log_few {L : List Fct} {x : ByteArray} {n : Int} {G : List Fct} (h : IsLog L x n G) : G.length ≤ L.length := by
  cases h with
  | ok h0 _ _ _ _ h5 =>
    have nd : (G.map Fct.id).Nodup := by
      unfold List.Nodup
      rw [List.pairwise_map]
      refine List.Pairwise.imp_of_mem ?_ h5.falls
      intro a b ha hb hu e
      rw [once_eq h0 ((h5.mem a).1 ha).mem ((h5.mem b).1 hb).mem e] at hu
      exact under_irr b hu
    have := ids_len nd (m := L.map Fct.id) fun s hs => by
      obtain ⟨f, hf, rfl⟩ := List.mem_map.1 hs
      exact List.mem_map.2 ⟨f, ((h5.mem f).1 hf).mem, rfl⟩
    simpa using this
  | _ => exact Nat.zero_le _
theorem reads_tx {w : World} {a : Option Addr} {b off cap : Nat} {L : List ByteArray} (h : TxAt w a b off L) : Ts.Reads w.heap.size w (.slice a L.length cap) L :=
  ⟨a, cap, rfl, fun h0 => ⟨b, off, h.addr h0, h.where_ h0, fun j hj => by rw [h.cell j _ (List.getElem?_eq_getElem hj), List.getElem?_eq_getElem hj]; rfl⟩⟩
set_option maxRecDepth 100000 in
set_option maxHeartbeats 2000000 in
theorem walk (w : World) (a : Option Addr) (cap b off n : Nat) (A : Nat → Option Addr) (L C : Nat → Nat) (Z : Nat → Nat → Int) (at_ other : Int) (h : NumsAt w a b off n A L C Z) (hn : n ≤ maxLen) :
    Calls Try.prog 6 #[.slice a n cap, .int .i64 at_, .int .i64 other] w fun e w' => e = .returned (.bool true) ∧ Below w.heap.size w w' := by
  have hAw := Lib.hid fun w => awake_calls w
  replace h := Lib.hid h
  go_enter Try.func6, Try.ntmps6
  go_wp2_with fail
  refine (hAw.out w).mono ?_
  rintro e w1 ⟨rfl, b1⟩
  have hMk := Lib.hid (grown_calls w1 a cap b off n A L C Z (h.out.next b1) (by unfold maxLen at hn; omega))
  clear hAw h hn
  go_wp2_with fail
  refine hMk.out.mono ?_
  rintro e w2 ⟨v, G, rfl, hO, hGr, hFa, b2⟩
  have b12 := Lib.hid (b_then b1 b2)
  obtain ⟨oa, oc, ob, oo, rfl, hG, hoc⟩ := hO.at_
  have hlen := hGr.len
  unfold plain at hlen
  rw [List.length_map] at hlen
  clear hMk b1 b2
  by_cases h0 : G.length = 0
  · have e0 : ((G.length : Int) == 0) = true := by rw [h0]; rfl
    clear hO
    go_wp2
    go_ret
    exact ⟨rfl, b12.out⟩
  · have e0 : ((G.length : Int) == 0) = false := by simp only [beq_eq_false_iff_ne]; omega
    obtain rfl := hG.addr (by omega)
    obtain ⟨nl, hnl⟩ : ∃ n : Nat, n = G.length := ⟨_, rfl⟩
    have k3 : (0 : Int) < nl := by omega
    obtain ⟨i, hi1, hi2⟩ := Oct.rem_small at_ nl k3 (by omega)
    obtain ⟨j, hj1, hj2⟩ := Oct.rem_small other nl k3 (by omega)
    have hul : IntKind.u64.wrap (nl : Int) = (nl : Int) := by rw [IntKind.wrap_u64]; omega
    have kz : ((nl : Int) == 0) = false := by simp only [beq_eq_false_iff_ne]; omega
    have i0 : 0 ≤ (i : Int) := by omega
    have i1 : (i : Int) < nl := by omega
    have j0 : 0 ≤ (j : Int) := by omega
    have j1 : (j : Int) < nl := by omega
    obtain ⟨x, hx⟩ : ∃ y, G[i]? = some y := ⟨G[i]'(by omega), List.getElem?_eq_getElem (by omega)⟩
    obtain ⟨y, hy⟩ : ∃ y, G[j]? = some y := ⟨G[j]'(by omega), List.getElem?_eq_getElem (by omega)⟩
    have c0 := hG.id i x hx
    have c1 := hG.high i x hx
    have c2 := hG.pars i x hx
    have bA := b_alloc w2 (.cells #[.string x.f.id, .int .i64 x.f.high, .slice x.pa x.f.pars.length x.pc] 24)
    have hX := FxVar.new w2 x
    have hG2 := hG.next bA
    have d0 := hG2.id j y hy
    have d1 := hG2.high j y hy
    have d2 := hG2.pars j y hy
    have hY := FxVar.new (w2.alloc (.cells #[.string x.f.id, .int .i64 x.f.high, .slice x.pa x.f.pars.length x.pc] 24)) y
    have bA2 := b_alloc (w2.alloc (.cells #[.string x.f.id, .int .i64 x.f.high, .slice x.pa x.f.pars.length x.pc] 24)) (.cells #[.string y.f.id, .int .i64 y.f.high, .slice y.pa y.f.pars.length y.pc] 24)
    have hsz : (w2.alloc (.cells #[.string x.f.id, .int .i64 x.f.high, .slice x.pa x.f.pars.length x.pc] 24)).heap.size = w2.heap.size + 1 := by simp
    rw [hsz] at hY
    replace hX := Lib.hid (hX.next bA2)
    replace hY := Lib.hid hY
    have bAA := Lib.hid (b_then bA bA2)
    have hxm : Hid (∃ f ∈ plain G, f.id = x.f.id) := Lib.hid ⟨x.f, List.mem_map.2 ⟨x, List.mem_of_getElem? hx, rfl⟩, rfl⟩
    have hym : Hid (y.f ∈ plain G) := Lib.hid (List.mem_map.2 ⟨y, List.mem_of_getElem? hy, rfl⟩)
    have hFi := Lib.hid (fine_of hGr hG hFa)
    have hxs := Lib.hid (hFa.id x (List.mem_of_getElem? hx))
    have hys := Lib.hid (hFa.id y (List.mem_of_getElem? hy))
    rw [← hnl] at e0 ⊢
    replace hnl := Lib.hid hnl
    replace hGr := Lib.hid hGr
    clear hG hFa hG2 hO hx hy h0 hi2 hj2 hoc bA bA2 hsz
    go_upto_region 8 with (fail)
    generalize (w2.alloc (.cells #[.string x.f.id, .int .i64 x.f.high, .slice x.pa x.f.pars.length x.pc] 24)).alloc (.cells #[.string y.f.id, .int .i64 y.f.high, .slice y.pa y.f.pars.length y.pc] 24) = w3 at *
    obtain ⟨P, hP⟩ : ∃ P : Addr, P = ⟨ob, oo, none⟩ := ⟨_, rfl⟩
    have hb3 := Lib.hid (b_then b12.out bAA.out)
    have hKeep : Hid (∀ w', Below w3.heap.size w3 w' → FxVar w' w2.heap.size x ∧ FxVar w' (w2.heap.size + 1) y ∧ Fine w' (some ⟨ob, oo, none⟩) ob oo G) := Lib.hid fun w' bb => ⟨hX.out.next bb, hY.out.next bb, hFi.out.next (b_then bAA.out bb)⟩
    have hBx := fun w' (bb : Below w3.heap.size w3 w') => Base_calls w' (some ⟨ob, oo, none⟩) oc ob oo G x.f.id y.f.id (hKeep.out w' bb).2.2 hxs.out hys.out
    have hBy := fun w' (bb : Below w3.heap.size w3 w') => Base_calls w' (some ⟨ob, oo, none⟩) oc ob oo G y.f.id x.f.id (hKeep.out w' bb).2.2 hys.out hxs.out
    have hLx := fun w' (bb : Below w3.heap.size w3 w') => Log_calls w' (some ⟨ob, oo, none⟩) oc ob oo G x.f.id (hKeep.out w' bb).2.2 hxs.out
    have hLy := fun w' (bb : Below w3.heap.size w3 w') => Log_calls w' (some ⟨ob, oo, none⟩) oc ob oo G y.f.id (hKeep.out w' bb).2.2 hys.out
    have hAb := fun w' (bb : Below w3.heap.size w3 w') => Above_calls w' (some ⟨ob, oo, none⟩) oc ob oo G x.f.id y.f.id (hKeep.out w' bb).2.2 hxs.out hys.out
    rw [← hnl.out] at hBx hBy hLx hLy hAb
    replace hBx := Lib.hid hBx
    replace hBy := Lib.hid hBy
    replace hLx := Lib.hid hLx
    replace hLy := Lib.hid hLy
    replace hAb := Lib.hid hAb
    obtain ⟨x0, -, -⟩ := hX.out.cell
    obtain ⟨y0, -, -⟩ := hY.out.cell
    have hB1 := Lib.hid (hBx.out w3 (Below.refl _ _))
    clear hX hY hFi bAA b12 hi1 hj1 hul kz k3 i0 i1 j0 j1 c0 c1 c2 d0 d1 d2 hxs hys hBx hP P e0
    go_wp2_with fail
    refine hB1.out.mono ?_
    rintro e w4 ⟨s1, n1, rfl, hs1, b4⟩
    obtain ⟨z0, -, -⟩ := (hKeep.out _ b4).1.cell
    obtain ⟨t0, -, -⟩ := (hKeep.out _ b4).2.1.cell
    have hB2 := Lib.hid (hBy.out w4 b4)
    replace hs1 := Lib.hid hs1
    replace b4 := Lib.hid b4
    clear hB1 hBy x0 y0
    go_wp2_with fail
    refine hB2.out.mono ?_
    rintro e w5 ⟨s2, n2, rfl, hs2, b5⟩
    replace b4 := Lib.hid (b_then b4.out b5)
    obtain ⟨x0, -, -⟩ := (hKeep.out _ b4.out).1.cell
    obtain ⟨y0, -, -⟩ := (hKeep.out _ b4.out).2.1.cell
    have hL1 := Lib.hid (hLx.out w5 b4.out)
    replace hs2 := Lib.hid hs2
    clear hB2 hLx z0 t0 b5
    go_wp2_with fail
    refine hL1.out.mono ?_
    rintro e w6 ⟨v1, n3, F, rfl, hF, hOF, b6⟩
    replace b4 := Lib.hid (b_then b4.out b6)
    obtain ⟨z0, -, -⟩ := (hKeep.out _ b4.out).1.cell
    obtain ⟨t0, -, -⟩ := (hKeep.out _ b4.out).2.1.cell
    have hL2 := Lib.hid (hLy.out w6 b4.out)
    replace hF := Lib.hid hF
    replace hOF := Lib.hid hOF
    clear hL1 hLy x0 y0 b6
    go_wp2_with fail
    refine hL2.out.mono ?_
    rintro e w7 ⟨v2, n4, K, rfl, hK, hOK, b7⟩
    replace b4 := Lib.hid (b_then b4.out b7)
    obtain ⟨rfl, rF⟩ := hGr.out.log hxm.out hF.out
    obtain ⟨rfl, rK⟩ := hGr.out.log ⟨y.f, hym.out, rfl⟩ hK
    obtain ⟨rfl, e1⟩ := base_first hF.out hK hs1.out
    obtain ⟨rfl, e2⟩ := base_first hK hF.out hs2.out
    have e3 : s1 = s2 := by rw [e1, e2]; exact first_turn hGr.out.once rF rK
    subst e3
    have hne : ∀ f ∈ plain G, f.id ≠ ⟨#[]⟩ := fun f hf e => by
      obtain ⟨q, hq, e'⟩ := List.mem_iff_getElem.1 hf
      have := hGr.out.id q f (by rw [List.getElem?_eq_getElem hq, e'])
      rw [e] at this
      have := congrArg ByteArray.size this
      rw [idOf_size] at this
      cases this
    have hyne : Hid (y.f.id ≠ ⟨#[]⟩) := Lib.hid (hne _ hym.out)
    have hbo := first_both hGr.out.once hne rF rK
    rw [← e1] at hbo
    replace hbo := Lib.hid hbo
    have hold := Lib.hid fun (h : inIds F y.f.id = true) => e1.trans (first_old hGr.out.once (fun f hf => hGr.out.all hf) rF hym.out rK h)
    replace rF := Lib.hid rF
    replace rK := Lib.hid rK
    have hfF : Hid (F.length ≤ 1000 ∧ K.length ≤ 1000) := Lib.hid (by
      have h1 := log_few hF.out
      have h2 := log_few hK
      have h3 := hGr.out.len
      omega)
    obtain ⟨a1, q1, p1, o1, rfl, hT1, -⟩ := (hOF.out.next b7).at_
    obtain ⟨a2, q2, p2, o2, rfl, hT2, -⟩ := hOK.at_
    have f1 : (s1.toList == s1.toList) = true := str_eq rfl
    have f2 : (s1.toList != s1.toList) = false := bne_self_eq_false _
    have hOf1 := Ts.Of_calls w7 a1 q1 (F.map Fct.id) (by rw [List.length_map]; have := hfF.out; omega) (reads_tx hT1)
    have hOf2 := Lib.hid fun w' (bb : Below w7.heap.size w7 w') => Ts.Of_calls w' a2 q2 (K.map Fct.id) (by rw [List.length_map]; have := hfF.out; omega) (reads_tx (hT2.next bb))
    replace hOf1 := Lib.hid hOf1
    rw [List.length_map] at hOf1 hOf2 ⊢
    clear hL2 hOF hOK hs1 hs2 e1 e2 hne z0 t0 b7 hT1 hT2 hK
    go_wp2_with fail
    refine hOf1.out.mono ?_
    rintro e w8 ⟨A1, hA1, sb1, rfl, -, hS1, b8⟩
    have hO2 := Lib.hid (hOf2.out w8 b8)
    clear hOf1 hOf2
    go_wp2_with fail
    refine hO2.out.mono ?_
    rintro e w9 ⟨A2, hA2, sb2, rfl, -, hS2, b9⟩
    have hMt := Lib.hid (Ts.Meet_calls w9 _ _ A1 A2 (hS1.next b9) hS2 hA1.1 hA2.1 (by have := hA1.2.2; rw [List.length_map] at this; have := hfF.out; omega))
    clear hO2 hS1 hS2
    go_wp2_with fail
    refine hMt.out.mono ?_
    rintro e w10 ⟨sb, rfl, -, hS, b10⟩
    have b310 := Lib.hid (b_then b8 (b_then b9 b10))
    have hBm : ∀ z, z ∈ A1.filter (fun z => Sh.has z A2) ↔ ∃ f ∈ F, f ∈ K ∧ f.id = z := fun z => by
      rw [List.mem_filter, hA1.2.1, List.mem_map]
      constructor
      · rintro ⟨⟨f, hf, rfl⟩, h⟩
        obtain ⟨u, hu, e⟩ := Sh.has_iff.1 h
        have hu2 : f.id ∈ A2 := by rw [← show u = f.id from e]; exact hu
        obtain ⟨g, hg, e⟩ := List.mem_map.1 ((hA2.2.1 _).1 hu2)
        exact ⟨f, hf, (in_both hGr.out.once rF.out rK.out hf).1 (inIds_iff.2 ⟨g, hg, e⟩), rfl⟩
      · rintro ⟨f, hf, hk, rfl⟩
        exact ⟨⟨f, hf, rfl⟩, Sh.has_iff.2 ⟨f.id, (hA2.2.1 _).2 (List.mem_map.2 ⟨f, hk, rfl⟩), rfl⟩⟩
    have hBr : Sh.Rises (A1.filter fun z => Sh.has z A2) := Sh.rises_filter _ hA1.1
    have hBl : (A1.filter fun z => Sh.has z A2).length ≤ 1000 := by
      have h1 := List.length_filter_le (fun z => Sh.has z A2) A1
      have h2 := hA1.2.2
      rw [List.length_map] at h2
      have := hfF.out
      omega
    generalize (A1.filter fun z => Sh.has z A2) = B at *
    have hLen := Lib.hid fun w' (bb : Below w10.heap.size w10 w') => Ts.SetLen_calls w' _ B (hS.next bb)
    have hHas := Lib.hid fun w' (bb : Below w10.heap.size w10 w') z => Ts.Has_calls w' _ B z (hS.next bb) hBr
    have hBi : Hid (∀ f ∈ plain G, Sh.has f.id B = true ↔ f ∈ F ∧ f ∈ K) := Lib.hid fun f hf => by
      rw [Sh.has_iff]
      constructor
      · rintro ⟨u, hu, e⟩
        obtain ⟨g, hg, hk, e'⟩ := (hBm u).1 hu
        have := once_eq hGr.out.once ((rF.out.mem g).1 hg).mem hf (e'.trans e)
        subst this
        exact ⟨hg, hk⟩
      · rintro ⟨h1, h2⟩
        exact ⟨f.id, (hBm _).2 ⟨f, h1, h2, rfl⟩, rfl⟩
    have hB0 : B.length = 0 ↔ s1 = ⟨#[]⟩ := by
      rw [hbo.out.1, List.length_eq_zero_iff, List.eq_nil_iff_forall_not_mem]
      exact ⟨fun h f hf hk => h f.id ((hBm _).2 ⟨f, hf, hk, rfl⟩), fun h z hz => by
        obtain ⟨f, hf, hk, _⟩ := (hBm z).1 hz
        exact h f hf hk⟩
    have hB1 : Hid (s1 ≠ ⟨#[]⟩ → Sh.has s1 B = true) := Lib.hid fun h => by
      obtain ⟨f, hf, hk, e, _⟩ := hbo.out.2 h
      exact Sh.has_iff.2 ⟨s1, (hBm _).2 ⟨f, hf, hk, e.symm⟩, rfl⟩
    have hnl40 : nl ≤ 40 := by have h1 := hGr.out.len; unfold plain at h1; rw [List.length_map] at h1; have := hnl.out; omega
    have hcell : Hid (∀ k, k < nl → ∃ g, G[k]? = some g) := Lib.hid fun k hk => by
      have := hnl.out
      exact ⟨G[k], List.getElem?_eq_getElem (by omega)⟩
    have hLn := Lib.hid (hLen.out w10 (Below.refl _ _))
    clear hMt hA1 hA2 hS hBm hBr b8 b9 b10 hlen
    by_cases hs : s1 = ⟨#[]⟩
    · have q1 : ((B.length : Int) == 0) = true := by rw [hB0.2 hs]; rfl
      subst hs
      clear hB0 hBl
      go_wp2_with fail
      refine hLn.out.mono ?_
      rintro e w11 ⟨rfl, rfl⟩
      clear hLn
      go_wp2_with fail
      go_loopw [19] (fun i wr => ∃ k : Nat, k ≤ nl ∧ i = .int .i64 (k : Int) ∧ Below w11.heap.size w11 wr) (fun i _ => nl - (intOf i).toNat)
      case atStart => exact ⟨0, Nat.zero_le _, rfl, Below.refl _ _⟩
      case round =>
        obtain ⟨k, hk, rfl, hb⟩ := hrel
        by_cases hlt : k < nl
        · have k1 : (k : Int) < nl := by omega
          clear hlt hk
          obtain ⟨z0, -, -⟩ := (hKeep.out _ (b_then b4.out (b_then b310.out hb))).1.cell
          obtain ⟨t0, -, -⟩ := (hKeep.out _ (b_then b4.out (b_then b310.out hb))).2.1.cell
          have hA := Lib.hid (hAb.out _ (b_then b4.out (b_then b310.out hb)))
          have bT := Lib.hid (b_then b4.out (b_then b310.out hb))
          clear hLen hHas
          go_wp2_with fail
          refine hA.out.mono ?_
          rintro e wA ⟨r, nA, rfl, hc, hr, bA⟩
          obtain rfl := hc.unique hF.out.code.1
          have hr2 := Lib.hid (hr F hF.out)
          obtain ⟨-, -, -⟩ := (hKeep.out _ (b_then bT.out bA)).1.cell
          obtain ⟨t1, -, -⟩ := (hKeep.out _ (b_then bT.out bA)).2.1.cell
          have bF := Lib.hid (b_then hb3.out (b_then bT.out bA))
          clear hA hc hr z0 t0
          cases r with
          | false =>
            go_wp2
            go_ret
            exact ⟨rfl, bF.out⟩
          | true =>
            have hi : inIds F y.f.id = true := by
              have := hr2.out.symm
              rw [Bool.and_eq_true] at this
              exact this.2
            exact absurd (hold.out hi).symm hyne.out
        · have k1 : ¬ (k : Int) < nl := by omega
          clear hlt hk
          obtain ⟨z0, -, -⟩ := (hKeep.out _ (b_then b4.out (b_then b310.out hb))).1.cell
          obtain ⟨t0, -, -⟩ := (hKeep.out _ (b_then b4.out (b_then b310.out hb))).2.1.cell
          have hA := Lib.hid (hAb.out _ (b_then b4.out (b_then b310.out hb)))
          have bT := Lib.hid (b_then b4.out (b_then b310.out hb))
          clear hLen hHas
          go_wp2_with fail
          refine hA.out.mono ?_
          rintro e wA ⟨r, nA, rfl, hc, hr, bA⟩
          obtain rfl := hc.unique hF.out.code.1
          have hr2 := Lib.hid (hr F hF.out)
          obtain ⟨-, -, -⟩ := (hKeep.out _ (b_then bT.out bA)).1.cell
          obtain ⟨t1, -, -⟩ := (hKeep.out _ (b_then bT.out bA)).2.1.cell
          have bF := Lib.hid (b_then hb3.out (b_then bT.out bA))
          clear hA hc hr z0 t0
          cases r with
          | false =>
            go_wp2
            go_ret
            exact ⟨rfl, bF.out⟩
          | true =>
            have hi : inIds F y.f.id = true := by
              have := hr2.out.symm
              rw [Bool.and_eq_true] at this
              exact this.2
            exact absurd (hold.out hi).symm hyne.out
    · have q1 : ((B.length : Int) == 0) = false := by
        have : B.length ≠ 0 := fun h => hs (hB0.1 h)
        simp only [beq_eq_false_iff_ne]; omega
      have q0 : s1.toList ≠ [] := fun e => hs (Oct.toList_inj.1 (e.trans (by rw [ByteArray.toList_eq])))
      have q2 : s1.toList.isEmpty = false := by
        cases e : s1.toList with
        | nil => exact absurd e q0
        | cons _ _ => rfl
      have q3 : (s1.toList == []) = false := by simpa using q0
      have q4 : (s1.toList != []) = true := by simpa using q0
      have hHs := Lib.hid (hHas.out w10 (Below.refl _ _) s1)
      have hh := hB1.out hs
      have hh2 : Sh.has (s1 : ByteArray) B = true := hh
      obtain ⟨f0, hf0, hk0, he0, htop⟩ := hbo.out.2 hs
      replace htop := Lib.hid htop
      replace he0 := Lib.hid he0
      have hf0G := Lib.hid (((rF.out.mem f0).1 hf0).mem)
      clear hB0 hBl hs hf0 hk0
      go_wp2_with fail
      refine hLn.out.mono ?_
      rintro e w11 ⟨rfl, rfl⟩
      clear hLn
      rw [hh] at hHs
      go_wp2_with fail
      refine hHs.out.mono ?_
      rintro e w12 ⟨rfl, b12'⟩
      replace b12' := Lib.hid b12'
      clear hHs hh hh2
      go_wp2_with fail
      go_loopw [19] (fun i wr => ∃ k : Nat, k ≤ nl ∧ i = .int .i64 (k : Int) ∧ Below w11.heap.size w11 wr) (fun i _ => nl - (intOf i).toNat)
      case atStart => exact ⟨0, Nat.zero_le _, rfl, b12'.out⟩
      case round =>
        obtain ⟨k, hk, rfl, hb⟩ := hrel
        obtain ⟨wo, e0⟩ : ∃ x : World, x = wr := ⟨_, rfl⟩
        subst e0
        by_cases hlt : k < nl
        · have k1 : (k : Int) < nl := by omega
          have k0 : 0 ≤ (k : Int) := by omega
          have hwk : wrap64 ((k : Int) + 1) = ((k + 1 : Nat) : Int) := wrap_next k (by omega)
          have hms : Hid (nl - (k + 1) < nl - k) := Lib.hid (Nat.sub_lt_sub_left hlt (Nat.lt_succ_self k))
          have hkl : Hid (k + 1 ≤ nl) := Lib.hid hlt
          obtain ⟨z, hz⟩ := hcell.out k hlt
          have hzG : Hid (z.f ∈ plain G) := Lib.hid (List.mem_map.2 ⟨z, List.mem_of_getElem? hz, rfl⟩)
          have bo := Lib.hid hb
          have hbk := Lib.hid fun w' (bb : Below wo.heap.size wo w') => hHas.out w' (b_next bo.out bb (Nat.le_refl _)) z.f.id
          have hzi := hBi.out z.f hzG.out
          clear hlt hk hb
          go_wp2_with fail
          go_loopw [20] (fun j wr => ∃ j' : Nat, j' ≤ nl ∧ j = .int .i64 (j' : Int) ∧ Below wo.heap.size wo wr) (fun j _ => nl - (intOf j).toNat)
          case atStart => exact ⟨0, Nat.zero_le _, rfl, Below.refl _ _⟩
          case round =>
            obtain ⟨j, hj, rfl, hb⟩ := hrel
            by_cases hlt : j < nl
            · have j1 : (j : Int) < nl := by omega
              have j0 : 0 ≤ (j : Int) := by omega
              have hwj : wrap64 ((j : Int) + 1) = ((j + 1 : Nat) : Int) := wrap_next j (by omega)
              have hmj : Hid (nl - (j + 1) < nl - j) := Lib.hid (Nat.sub_lt_sub_left hlt (Nat.lt_succ_self j))
              have hjl : Hid (j + 1 ≤ nl) := Lib.hid hlt
              obtain ⟨q, hq⟩ := hcell.out j hlt
              have hqG : Hid (q.f ∈ plain G) := Lib.hid (List.mem_map.2 ⟨q, List.mem_of_getElem? hq, rfl⟩)
              have hk1 := hbk.out wr hb
              have b3r := Lib.hid (b_then b4.out (b_then b310.out (b_next bo.out hb (Nat.le_refl _))))
              have hk4 := Lib.hid fun w' (bb : Below wr.heap.size wr w') =>
                have hFr := (hKeep.out w' (b_then b3r.out bb)).2.2.at_
                (⟨⟨hFr.id k z hz, hFr.high k z hz, hFr.pars k z hz⟩, ⟨hFr.id j q hq, hFr.high j q hq, hFr.pars j q hq⟩⟩ : (w'.cell? ⟨ob, oo + k * 3, none⟩ = some (.string z.f.id) ∧ w'.cell? ⟨ob, oo + k * 3 + 1, none⟩ = some (.int .i64 z.f.high) ∧ w'.cell? ⟨ob, oo + k * 3 + 2, none⟩ = some (.slice z.pa z.f.pars.length z.pc)) ∧ (w'.cell? ⟨ob, oo + j * 3, none⟩ = some (.string q.f.id) ∧ w'.cell? ⟨ob, oo + j * 3 + 1, none⟩ = some (.int .i64 q.f.high) ∧ w'.cell? ⟨ob, oo + j * 3 + 2, none⟩ = some (.slice q.pa q.f.pars.length q.pc)))
              obtain ⟨⟨c0, -, -⟩, -⟩ := hk4.out wr (Below.refl _ _)
              have hbr := Lib.hid hb
              clear hlt hj hb hq
              cases hh : Sh.has z.f.id B with
              | false =>
                rw [hh] at hk1
                replace hk1 := Lib.hid hk1
                clear hk4 hh
                go_wp2_with fail
                refine hk1.out.mono ?_
                rintro e w13 ⟨rfl, b13⟩
                have b14 := Lib.hid (b_next bo.out (b_then hbr.out b13) (Nat.le_refl _))
                clear hk1 c0 b13
                go_wp2
                go_roundw
                case measure => simp [intOf]; exact hms.out
                case rel => exact ⟨k + 1, hkl.out, by simp, b14.out⟩
              | true =>
                rw [hh] at hk1
                replace hk1 := Lib.hid hk1
                have hin := Lib.hid (hzi.1 hh)
                clear hh
                go_wp2_with fail
                refine hk1.out.mono ?_
                rintro e w13 ⟨rfl, b13⟩
                have hS0 := hk4.out _ (b_then b13 (b_drew1 w13))
                have bd := b_then b13 (b_drew1 w13)
                clear hk1 c0
                by_cases hq1 : q.f.id = s1
                · have g1 := str_eq hq1
                  obtain ⟨r, hr⟩ : ∃ r, r = cmp z.f q.f := ⟨_, rfl⟩
                  have hr0 : ¬ 0 < r := fun h => by
                    rw [hr] at h
                    have hqf : q.f = f0 := once_eq hGr.out.once hqG.out hf0G.out (hq1.trans he0.out)
                    rw [hqf] at h
                    exact htop.out z.f hin.out.1 hin.out.2 (cmp_pos.1 h)
                  have dr : decide (0 < r) = false := decide_eq_false hr0
                  have hC := Compare_calls z q w13.drew
                  rw [← hr] at hC
                  replace hC := Lib.hid hC
                  dsimp only [Fx.val] at hC
                  clear hq1 hr
                  go_wp2_with fail
                  refine wp_region_held_drew (S := (fun w' => (w'.cell? ⟨ob, oo + k * 3, none⟩ = some (.string z.f.id) ∧ w'.cell? ⟨ob, oo + k * 3 + 1, none⟩ = some (.int .i64 z.f.high) ∧ w'.cell? ⟨ob, oo + k * 3 + 2, none⟩ = some (.slice z.pa z.f.pars.length z.pc)) ∧ (w'.cell? ⟨ob, oo + j * 3, none⟩ = some (.string q.f.id) ∧ w'.cell? ⟨ob, oo + j * 3 + 1, none⟩ = some (.int .i64 q.f.high) ∧ w'.cell? ⟨ob, oo + j * 3 + 2, none⟩ = some (.slice q.pa q.f.pars.length q.pc)))) (by kernel_rfl) (hS0) (fun hHeld => ?_)
                  refine wpAnyH_take (i := 0) (oi := { dst := some 147, op := _, type := _, pos := _, after := _, guard := none }) (v := ?vr1_0) rfl (by kernel_rfl) (by kernel_rfl) (by kernel_rfl) (fun _ _ _ h => h) (Or.inl ⟨by rfl, ?hyr1_0⟩) (by assumption) ?restr1_0
                  case hyr1_0 => (intro w hSw; (try dsimp only at hSw); go_simp <;> with_reducible rfl)
                  (try simp only [Act.put, List.setIfInBounds_toArray, List.set_cons_zero, List.set_cons_succ])
                  refine wpAnyH_take (i := 1) (oi := { dst := some 148, op := _, type := _, pos := _, after := _, guard := none }) (v := ?vr1_1) rfl (by kernel_rfl) (by kernel_rfl) (by kernel_rfl) (fun _ _ _ h => h) (Or.inl ⟨by rfl, ?hyr1_1⟩) (by assumption) ?restr1_1
                  case hyr1_1 => (intro w hSw; (try dsimp only at hSw); go_simp <;> with_reducible rfl)
                  (try simp only [Act.put, List.setIfInBounds_toArray, List.set_cons_zero, List.set_cons_succ])
                  refine wpAnyH_take (i := 2) (oi := { dst := some 149, op := _, type := _, pos := _, after := _, guard := none }) (v := ?vr1_2) rfl (by kernel_rfl) (by kernel_rfl) (by kernel_rfl) (fun _ _ _ h => h) (Or.inl ⟨by rfl, ?hyr1_2⟩) (by assumption) ?restr1_2
                  case hyr1_2 => (intro w hSw; (try dsimp only at hSw); go_simp <;> with_reducible rfl)
                  (try simp only [Act.put, List.setIfInBounds_toArray, List.set_cons_zero, List.set_cons_succ])
                  refine wpAnyH_take (i := 3) (oi := { dst := some 150, op := _, type := _, pos := _, after := _, guard := none }) (v := ?vr1_3) rfl (by kernel_rfl) (by kernel_rfl) (by kernel_rfl) (fun _ _ _ h => h) (Or.inl ⟨by rfl, ?hyr1_3⟩) (by assumption) ?restr1_3
                  case hyr1_3 => (intro w hSw; (try dsimp only at hSw); go_simp <;> with_reducible rfl)
                  (try simp only [Act.put, List.setIfInBounds_toArray, List.set_cons_zero, List.set_cons_succ])
                  refine wpAnyH_take (i := 4) (oi := { dst := some 151, op := _, type := _, pos := _, after := _, guard := none }) (v := ?vr1_4) rfl (by kernel_rfl) (by kernel_rfl) (by kernel_rfl) (fun _ _ _ h => h) (Or.inl ⟨by rfl, ?hyr1_4⟩) (by assumption) ?restr1_4
                  case hyr1_4 => (intro w hSw; (try dsimp only at hSw); go_simp <;> with_reducible rfl)
                  (try simp only [Act.put, List.setIfInBounds_toArray, List.set_cons_zero, List.set_cons_succ])
                  refine wpAnyH_take (i := 5) (oi := { dst := some 152, op := _, type := _, pos := _, after := _, guard := none }) (v := ?vr1_5) rfl (by kernel_rfl) (by kernel_rfl) (by kernel_rfl) (fun _ _ _ h => h) (Or.inl ⟨by rfl, ?hyr1_5⟩) (by assumption) ?restr1_5
                  case hyr1_5 => (intro w hSw; (try dsimp only at hSw); go_simp <;> with_reducible rfl)
                  (try simp only [Act.put, List.setIfInBounds_toArray, List.set_cons_zero, List.set_cons_succ])
                  refine wpAnyH_take (i := 6) (oi := { dst := some 153, op := _, type := _, pos := _, after := _, guard := none }) (v := ?vr1_6) rfl (by kernel_rfl) (by kernel_rfl) (by kernel_rfl) (fun _ _ _ h => h) (Or.inl ⟨by rfl, ?hyr1_6⟩) (by assumption) ?restr1_6
                  case hyr1_6 => (intro w hSw; (try dsimp only at hSw); go_simp <;> with_reducible rfl)
                  (try simp only [Act.put, List.setIfInBounds_toArray, List.set_cons_zero, List.set_cons_succ])
                  refine wpAnyH_take (i := 7) (oi := { dst := some 154, op := _, type := _, pos := _, after := _, guard := none }) (v := ?vr1_7) rfl (by kernel_rfl) (by kernel_rfl) (by kernel_rfl) (fun _ _ _ h => h) (Or.inl ⟨by rfl, ?hyr1_7⟩) (by assumption) ?restr1_7
                  case hyr1_7 => (intro w hSw; (try dsimp only at hSw); go_simp <;> with_reducible rfl)
                  (try simp only [Act.put, List.setIfInBounds_toArray, List.set_cons_zero, List.set_cons_succ])
                  refine wpAnyH_take (i := 8) (oi := { dst := some 155, op := _, type := _, pos := _, after := _, guard := some (7, true) }) (v := ?vr1_8) rfl (by kernel_rfl) (by kernel_rfl) (by kernel_rfl) (fun _ _ _ h => h) (Or.inl ⟨by rfl, ?hyr1_8⟩) (by assumption) ?restr1_8
                  case hyr1_8 => (intro w hSw; (try dsimp only at hSw); go_simp <;> with_reducible rfl)
                  (try simp only [Act.put, List.setIfInBounds_toArray, List.set_cons_zero, List.set_cons_succ])
                  refine wpAnyH_take (i := 9) (oi := { dst := some 156, op := _, type := _, pos := _, after := _, guard := some (7, true) }) (v := ?vr1_9) rfl (by kernel_rfl) (by kernel_rfl) (by kernel_rfl) (fun _ _ _ h => h) (Or.inl ⟨by rfl, ?hyr1_9⟩) (by assumption) ?restr1_9
                  case hyr1_9 => (intro w hSw; (try dsimp only at hSw); go_simp <;> with_reducible rfl)
                  (try simp only [Act.put, List.setIfInBounds_toArray, List.set_cons_zero, List.set_cons_succ])
                  refine wpAnyH_take (i := 10) (oi := { dst := some 157, op := _, type := _, pos := _, after := _, guard := some (7, true) }) (v := ?vr1_10) rfl (by kernel_rfl) (by kernel_rfl) (by kernel_rfl) (fun _ _ _ h => h) (Or.inl ⟨by rfl, ?hyr1_10⟩) (by assumption) ?restr1_10
                  case hyr1_10 => (intro w hSw; (try dsimp only at hSw); go_simp <;> with_reducible rfl)
                  (try simp only [Act.put, List.setIfInBounds_toArray, List.set_cons_zero, List.set_cons_succ])
                  refine wpAnyH_take (i := 11) (oi := { dst := some 158, op := _, type := _, pos := _, after := _, guard := some (7, true) }) (v := ?vr1_11) rfl (by kernel_rfl) (by kernel_rfl) (by kernel_rfl) (fun _ _ _ h => h) (Or.inl ⟨by rfl, ?hyr1_11⟩) (by assumption) ?restr1_11
                  case hyr1_11 => (intro w hSw; (try dsimp only at hSw); go_simp <;> with_reducible rfl)
                  (try simp only [Act.put, List.setIfInBounds_toArray, List.set_cons_zero, List.set_cons_succ])
                  refine wpAnyH_take (i := 12) (oi := { dst := some 159, op := _, type := _, pos := _, after := _, guard := some (7, true) }) (v := ?vr1_12) rfl (by kernel_rfl) (by kernel_rfl) (by kernel_rfl) (fun _ _ _ h => h) (Or.inl ⟨by rfl, ?hyr1_12⟩) (by assumption) ?restr1_12
                  case hyr1_12 => (intro w hSw; (try dsimp only at hSw); go_simp <;> with_reducible rfl)
                  (try simp only [Act.put, List.setIfInBounds_toArray, List.set_cons_zero, List.set_cons_succ])
                  refine wpAnyH_take (i := 13) (oi := { dst := some 160, op := _, type := _, pos := _, after := _, guard := some (7, true) }) (v := ?vr1_13) rfl (by kernel_rfl) (by kernel_rfl) (by kernel_rfl) (fun _ _ _ h => h) (Or.inl ⟨by rfl, ?hyr1_13⟩) (by assumption) ?restr1_13
                  case hyr1_13 => (intro w hSw; (try dsimp only at hSw); go_simp <;> with_reducible rfl)
                  (try simp only [Act.put, List.setIfInBounds_toArray, List.set_cons_zero, List.set_cons_succ])
                  refine wpAnyH_take (i := 14) (oi := { dst := some 161, op := _, type := _, pos := _, after := _, guard := some (7, true) }) (v := ?vr1_14) rfl (by kernel_rfl) (by kernel_rfl) (by kernel_rfl) (fun _ _ _ h => h) (Or.inl ⟨by rfl, ?hyr1_14⟩) (by assumption) ?restr1_14
                  case hyr1_14 => (intro w hSw; (try dsimp only at hSw); go_simp <;> with_reducible rfl)
                  (try simp only [Act.put, List.setIfInBounds_toArray, List.set_cons_zero, List.set_cons_succ])
                  refine wpAnyH_take (i := 15) (oi := { dst := some 162, op := _, type := _, pos := _, after := _, guard := some (7, true) }) (v := ?vr1_15) rfl (by kernel_rfl) (by kernel_rfl) (by kernel_rfl) (fun _ _ _ h => h) (Or.inl ⟨by rfl, ?hyr1_15⟩) (by assumption) ?restr1_15
                  case hyr1_15 => (intro w hSw; (try dsimp only at hSw); go_simp <;> with_reducible rfl)
                  (try simp only [Act.put, List.setIfInBounds_toArray, List.set_cons_zero, List.set_cons_succ])
                  refine wpAnyH_ready (rs := [16]) (by kernel_rfl) (by simp) ?_
                  refine AllReadyH.cons (o := { dst := some 163, op := _, type := _, pos := _, after := _, guard := some (7, true) }) rfl (fun K hK => ?_) AllReadyH.nil
                  go_simp
                  (refine hC.out.mono ?_; rintro e w14 ⟨rfl, q14, o14, hw14⟩; have b14 : Below wr.heap.size wr w14 := (by rw [hw14]; exact b_then bd (below_grow _ _ _)); clear hw14)
                  (try go_wp2_with fail)
                  refine hK.out _ _ ((hk4.out _ b14)) (fun hHeld => ?_)
                  clear hK K
                  (try simp only [Act.put, List.setIfInBounds_toArray, List.set_cons_zero, List.set_cons_succ])
                  refine wpAnyH_take (i := 17) (oi := { dst := some 164, op := _, type := _, pos := _, after := _, guard := some (7, true) }) (v := ?vr1_16) rfl (by kernel_rfl) (by kernel_rfl) (by kernel_rfl) (fun _ _ _ h => h) (Or.inl ⟨by rfl, ?hyr1_16⟩) (by assumption) ?restr1_16
                  case hyr1_16 => (intro w hSw; (try dsimp only at hSw); go_simp <;> with_reducible rfl)
                  (try simp only [Act.put, List.setIfInBounds_toArray, List.set_cons_zero, List.set_cons_succ])
                  refine wpAnyH_take (i := 18) (oi := { dst := some 165, op := _, type := _, pos := _, after := _, guard := none }) (v := ?vr1_17) rfl (by kernel_rfl) (by kernel_rfl) (by kernel_rfl) (fun _ _ _ h => h) (Or.inl ⟨by rfl, ?hyr1_17⟩) (by assumption) ?restr1_17
                  case hyr1_17 => (intro w hSw; (try dsimp only at hSw); go_simp <;> with_reducible rfl)
                  (try simp only [Act.put, List.setIfInBounds_toArray, List.set_cons_zero, List.set_cons_succ])
                  refine wpAnyH_done (by kernel_rfl) ?_ _
                  have b15 := Lib.hid (b_next hbr.out b14 (Nat.le_refl _))
                  clear hr0
                  go_wp2
                  go_roundw
                  case measure => simp [intOf]; exact hmj.out
                  case rel => exact ⟨j + 1, hjl.out, by simp, b15.out⟩
                · have g1 := str_ne hq1
                  clear hq1
                  go_wp2_with fail
                  refine wp_region_held_drew (S := (fun w' => (w'.cell? ⟨ob, oo + k * 3, none⟩ = some (.string z.f.id) ∧ w'.cell? ⟨ob, oo + k * 3 + 1, none⟩ = some (.int .i64 z.f.high) ∧ w'.cell? ⟨ob, oo + k * 3 + 2, none⟩ = some (.slice z.pa z.f.pars.length z.pc)) ∧ (w'.cell? ⟨ob, oo + j * 3, none⟩ = some (.string q.f.id) ∧ w'.cell? ⟨ob, oo + j * 3 + 1, none⟩ = some (.int .i64 q.f.high) ∧ w'.cell? ⟨ob, oo + j * 3 + 2, none⟩ = some (.slice q.pa q.f.pars.length q.pc)))) (by kernel_rfl) (hS0) (fun hHeld => ?_)
                  refine wpAnyH_take (i := 0) (oi := { dst := some 147, op := _, type := _, pos := _, after := _, guard := none }) (v := ?vr2_0) rfl (by kernel_rfl) (by kernel_rfl) (by kernel_rfl) (fun _ _ _ h => h) (Or.inl ⟨by rfl, ?hyr2_0⟩) (by assumption) ?restr2_0
                  case hyr2_0 => (intro w hSw; (try dsimp only at hSw); go_simp <;> with_reducible rfl)
                  (try simp only [Act.put, List.setIfInBounds_toArray, List.set_cons_zero, List.set_cons_succ])
                  refine wpAnyH_take (i := 1) (oi := { dst := some 148, op := _, type := _, pos := _, after := _, guard := none }) (v := ?vr2_1) rfl (by kernel_rfl) (by kernel_rfl) (by kernel_rfl) (fun _ _ _ h => h) (Or.inl ⟨by rfl, ?hyr2_1⟩) (by assumption) ?restr2_1
                  case hyr2_1 => (intro w hSw; (try dsimp only at hSw); go_simp <;> with_reducible rfl)
                  (try simp only [Act.put, List.setIfInBounds_toArray, List.set_cons_zero, List.set_cons_succ])
                  refine wpAnyH_take (i := 2) (oi := { dst := some 149, op := _, type := _, pos := _, after := _, guard := none }) (v := ?vr2_2) rfl (by kernel_rfl) (by kernel_rfl) (by kernel_rfl) (fun _ _ _ h => h) (Or.inl ⟨by rfl, ?hyr2_2⟩) (by assumption) ?restr2_2
                  case hyr2_2 => (intro w hSw; (try dsimp only at hSw); go_simp <;> with_reducible rfl)
                  (try simp only [Act.put, List.setIfInBounds_toArray, List.set_cons_zero, List.set_cons_succ])
                  refine wpAnyH_take (i := 3) (oi := { dst := some 150, op := _, type := _, pos := _, after := _, guard := none }) (v := ?vr2_3) rfl (by kernel_rfl) (by kernel_rfl) (by kernel_rfl) (fun _ _ _ h => h) (Or.inl ⟨by rfl, ?hyr2_3⟩) (by assumption) ?restr2_3
                  case hyr2_3 => (intro w hSw; (try dsimp only at hSw); go_simp <;> with_reducible rfl)
                  (try simp only [Act.put, List.setIfInBounds_toArray, List.set_cons_zero, List.set_cons_succ])
                  refine wpAnyH_take (i := 4) (oi := { dst := some 151, op := _, type := _, pos := _, after := _, guard := none }) (v := ?vr2_4) rfl (by kernel_rfl) (by kernel_rfl) (by kernel_rfl) (fun _ _ _ h => h) (Or.inl ⟨by rfl, ?hyr2_4⟩) (by assumption) ?restr2_4
                  case hyr2_4 => (intro w hSw; (try dsimp only at hSw); go_simp <;> with_reducible rfl)
                  (try simp only [Act.put, List.setIfInBounds_toArray, List.set_cons_zero, List.set_cons_succ])
                  refine wpAnyH_take (i := 5) (oi := { dst := some 152, op := _, type := _, pos := _, after := _, guard := none }) (v := ?vr2_5) rfl (by kernel_rfl) (by kernel_rfl) (by kernel_rfl) (fun _ _ _ h => h) (Or.inl ⟨by rfl, ?hyr2_5⟩) (by assumption) ?restr2_5
                  case hyr2_5 => (intro w hSw; (try dsimp only at hSw); go_simp <;> with_reducible rfl)
                  (try simp only [Act.put, List.setIfInBounds_toArray, List.set_cons_zero, List.set_cons_succ])
                  refine wpAnyH_take (i := 6) (oi := { dst := some 153, op := _, type := _, pos := _, after := _, guard := none }) (v := ?vr2_6) rfl (by kernel_rfl) (by kernel_rfl) (by kernel_rfl) (fun _ _ _ h => h) (Or.inl ⟨by rfl, ?hyr2_6⟩) (by assumption) ?restr2_6
                  case hyr2_6 => (intro w hSw; (try dsimp only at hSw); go_simp <;> with_reducible rfl)
                  (try simp only [Act.put, List.setIfInBounds_toArray, List.set_cons_zero, List.set_cons_succ])
                  refine wpAnyH_take (i := 7) (oi := { dst := some 154, op := _, type := _, pos := _, after := _, guard := none }) (v := ?vr2_7) rfl (by kernel_rfl) (by kernel_rfl) (by kernel_rfl) (fun _ _ _ h => h) (Or.inl ⟨by rfl, ?hyr2_7⟩) (by assumption) ?restr2_7
                  case hyr2_7 => (intro w hSw; (try dsimp only at hSw); go_simp <;> with_reducible rfl)
                  (try simp only [Act.put, List.setIfInBounds_toArray, List.set_cons_zero, List.set_cons_succ])
                  refine wpAnyH_take (i := 8) (oi := { dst := some 155, op := _, type := _, pos := _, after := _, guard := some (7, true) }) (v := undef) rfl (by kernel_rfl) (by kernel_rfl) (by kernel_rfl) (fun _ _ _ h => h) (Or.inr ⟨by rfl, rfl⟩) (by assumption) ?_
                  (try simp only [Act.put, List.setIfInBounds_toArray, List.set_cons_zero, List.set_cons_succ])
                  refine wpAnyH_take (i := 9) (oi := { dst := some 156, op := _, type := _, pos := _, after := _, guard := some (7, true) }) (v := undef) rfl (by kernel_rfl) (by kernel_rfl) (by kernel_rfl) (fun _ _ _ h => h) (Or.inr ⟨by rfl, rfl⟩) (by assumption) ?_
                  (try simp only [Act.put, List.setIfInBounds_toArray, List.set_cons_zero, List.set_cons_succ])
                  refine wpAnyH_take (i := 10) (oi := { dst := some 157, op := _, type := _, pos := _, after := _, guard := some (7, true) }) (v := undef) rfl (by kernel_rfl) (by kernel_rfl) (by kernel_rfl) (fun _ _ _ h => h) (Or.inr ⟨by rfl, rfl⟩) (by assumption) ?_
                  (try simp only [Act.put, List.setIfInBounds_toArray, List.set_cons_zero, List.set_cons_succ])
                  refine wpAnyH_take (i := 11) (oi := { dst := some 158, op := _, type := _, pos := _, after := _, guard := some (7, true) }) (v := undef) rfl (by kernel_rfl) (by kernel_rfl) (by kernel_rfl) (fun _ _ _ h => h) (Or.inr ⟨by rfl, rfl⟩) (by assumption) ?_
                  (try simp only [Act.put, List.setIfInBounds_toArray, List.set_cons_zero, List.set_cons_succ])
                  refine wpAnyH_take (i := 12) (oi := { dst := some 159, op := _, type := _, pos := _, after := _, guard := some (7, true) }) (v := undef) rfl (by kernel_rfl) (by kernel_rfl) (by kernel_rfl) (fun _ _ _ h => h) (Or.inr ⟨by rfl, rfl⟩) (by assumption) ?_
                  (try simp only [Act.put, List.setIfInBounds_toArray, List.set_cons_zero, List.set_cons_succ])
                  refine wpAnyH_take (i := 13) (oi := { dst := some 160, op := _, type := _, pos := _, after := _, guard := some (7, true) }) (v := undef) rfl (by kernel_rfl) (by kernel_rfl) (by kernel_rfl) (fun _ _ _ h => h) (Or.inr ⟨by rfl, rfl⟩) (by assumption) ?_
                  (try simp only [Act.put, List.setIfInBounds_toArray, List.set_cons_zero, List.set_cons_succ])
                  refine wpAnyH_take (i := 14) (oi := { dst := some 161, op := _, type := _, pos := _, after := _, guard := some (7, true) }) (v := undef) rfl (by kernel_rfl) (by kernel_rfl) (by kernel_rfl) (fun _ _ _ h => h) (Or.inr ⟨by rfl, rfl⟩) (by assumption) ?_
                  (try simp only [Act.put, List.setIfInBounds_toArray, List.set_cons_zero, List.set_cons_succ])
                  refine wpAnyH_take (i := 15) (oi := { dst := some 162, op := _, type := _, pos := _, after := _, guard := some (7, true) }) (v := undef) rfl (by kernel_rfl) (by kernel_rfl) (by kernel_rfl) (fun _ _ _ h => h) (Or.inr ⟨by rfl, rfl⟩) (by assumption) ?_
                  (try simp only [Act.put, List.setIfInBounds_toArray, List.set_cons_zero, List.set_cons_succ])
                  refine wpAnyH_take (i := 16) (oi := { dst := some 163, op := _, type := _, pos := _, after := _, guard := some (7, true) }) (v := undef) rfl (by kernel_rfl) (by kernel_rfl) (by kernel_rfl) (fun _ _ _ h => h) (Or.inr ⟨by rfl, rfl⟩) (by assumption) ?_
                  (try simp only [Act.put, List.setIfInBounds_toArray, List.set_cons_zero, List.set_cons_succ])
                  refine wpAnyH_take (i := 17) (oi := { dst := some 164, op := _, type := _, pos := _, after := _, guard := some (7, true) }) (v := undef) rfl (by kernel_rfl) (by kernel_rfl) (by kernel_rfl) (fun _ _ _ h => h) (Or.inr ⟨by rfl, rfl⟩) (by assumption) ?_
                  (try simp only [Act.put, List.setIfInBounds_toArray, List.set_cons_zero, List.set_cons_succ])
                  refine wpAnyH_take (i := 18) (oi := { dst := some 165, op := _, type := _, pos := _, after := _, guard := none }) (v := ?vr2_18) rfl (by kernel_rfl) (by kernel_rfl) (by kernel_rfl) (fun _ _ _ h => h) (Or.inl ⟨by rfl, ?hyr2_18⟩) (by assumption) ?restr2_18
                  case hyr2_18 => (intro w hSw; (try dsimp only at hSw); go_simp <;> with_reducible rfl)
                  (try simp only [Act.put, List.setIfInBounds_toArray, List.set_cons_zero, List.set_cons_succ])
                  refine wpAnyH_done (by kernel_rfl) ?_ _
                  have b15 := Lib.hid (b_next hbr.out bd (Nat.le_refl _))
                  go_wp2
                  go_roundw
                  case measure => simp [intOf]; exact hmj.out
                  case rel => exact ⟨j + 1, hjl.out, by simp, b15.out⟩
            · have j1 : ¬ (j : Int) < nl := by omega
              have b14 := Lib.hid (b_next bo.out hb (Nat.le_refl _))
              clear hlt hj hb
              go_wp2
              go_roundw
              case measure => simp [intOf]; exact hms.out
              case rel => exact ⟨k + 1, hkl.out, by simp, b14.out⟩
        · have k1 : ¬ (k : Int) < nl := by omega
          clear hlt hk
          obtain ⟨z0, -, -⟩ := (hKeep.out _ (b_then b4.out (b_then b310.out hb))).1.cell
          obtain ⟨t0, -, -⟩ := (hKeep.out _ (b_then b4.out (b_then b310.out hb))).2.1.cell
          have hA := Lib.hid (hAb.out _ (b_then b4.out (b_then b310.out hb)))
          have bT := Lib.hid (b_then b4.out (b_then b310.out hb))
          clear hLen hHas
          go_wp2_with fail
          refine hA.out.mono ?_
          rintro e wA ⟨r, nA, rfl, hc, hr, bA⟩
          obtain rfl := hc.unique hF.out.code.1
          have hr2 := Lib.hid (hr F hF.out)
          obtain ⟨-, -, -⟩ := (hKeep.out _ (b_then bT.out bA)).1.cell
          obtain ⟨t1, -, -⟩ := (hKeep.out _ (b_then bT.out bA)).2.1.cell
          have bF := Lib.hid (b_then hb3.out (b_then bT.out bA))
          clear hA hc hr z0 t0
          cases r with
          | false =>
            go_wp2
            go_ret
            exact ⟨rfl, bF.out⟩
          | true =>
            have hi : inIds F y.f.id = true := by
              have := hr2.out.symm
              rw [Bool.and_eq_true] at this
              exact this.2
            have g1 : (s1.toList == y.f.id.toList) = true := str_eq (hold.out hi)
            clear hr2 hi
            go_wp2
            go_ret
            exact ⟨rfl, bF.out⟩
theorem own : ownKnob Try.prog.godebug = none := by kernel_rfl
theorem laidOut : laidOutB Try.prog = true := by kernel_rfl
set_option maxRecDepth 100000 in
theorem lifted (os : Os) (started : os.Started) (H : Type) (enc : TypeId × Value → H) :
    ReturnsInHanded {} Try.checked os 6 .any (Rows.orderBasesSpec.pre6 enc Try.prog Try.f6 Rows.orderBasesRow.domain false) (Rows.orderBasesSpec.post enc Try.prog Try.f6 false true false false) := by
  refine returnsInHanded_of_change_sized (C := Try.checked) own started (by kernel_rfl) Try.func6
    (ChangeSpec.witness6 (enc := enc) (C := Try.checked) false ⟨#[], #[.slice none 0 0, .int .i64 0, .int .i64 0], []⟩ 8 (by kernel_rfl) (by kernel_rfl) (by kernel_rfl) (by kernel_rfl)) ?_
  intro W base args ds gs before hval0 hW hcnd hsz0 _
  have hval : ∀ (j : Nat) t v, Try.f6.params[j]? = some t → args[j]? = some v → Value.okWide Try.prog W .any base t v := hval0
  have hsz : (DataW.weightsEach Try.prog (Try.f6.params.toList ++ Rows.orderBasesSpec.plain.varTypes Try.prog) (ds ++ gs)).all (· ≤ reachBytes) = true := hsz0
  have hW' := hW
  obtain ⟨p, q, hA0, hV, rfl, hfz, hnd⟩ := hW
  have hA : DataW.TrodAll enc Try.prog W 0 (fun _ => true) true Try.f6.params.toList args.toList ds p := hA0
  rw [Try.params6] at hA hval hsz
  obtain ⟨v0, vs0, d0, ds0, p0, q0, hargs, rfl, rfl, h0, r0⟩ := trodAll_cons hA
  obtain ⟨v1, vs1, d1, ds1, p1, q1, rfl, rfl, rfl, h1, r1⟩ := trodAll_cons r0
  obtain ⟨v2, vs2, d2, ds2, p2, q2, rfl, rfl, rfl, h2, r2⟩ := trodAll_cons r1
  obtain ⟨rfl, rfl, rfl⟩ := trodAll_nil r2
  obtain rfl : args = #[v0, v1, v2] := by cases args; simp_all
  obtain ⟨rfl, rfl⟩ := trodVars_none hV
  have k0 := h0
  have lt0 : ∀ x ∈ p0, x.block < W.heap.size := by obtain ⟨m, hm⟩ := k0; exact DataW.trod_lt m _ _ _ hm
  have ok0 := hval 0 42 v0 rfl rfl
  have k1 := h1
  have lt1 : ∀ x ∈ p1, x.block < W.heap.size := by obtain ⟨m, hm⟩ := k1; exact DataW.trod_lt m _ _ _ hm
  have ok1 := hval 1 3 v1 rfl rfl
  have k2 := h2
  have lt2 : ∀ x ∈ p2, x.block < W.heap.size := by obtain ⟨m, hm⟩ := k2; exact DataW.trod_lt m _ _ _ hm
  have ok2 := hval 2 3 v2 rfl rfl
  clear hA0 hval0 hsz0
  obtain ⟨a, cap, b, off, n, A, L, C, Z, rfl, hN, hn⟩ := open_nums ok0 h0
  obtain ⟨x, rfl, rfl, rfl, w1⟩ := open_int Try.underlying3 ok1 h1
  obtain ⟨y, rfl, rfl, rfl, w2⟩ := open_int Try.underlying3 ok2 h2
  refine (walk W a cap b off n A L C Z x y hN hn).mono fun e W' ⟨he, bel⟩ => ?_
  subst he
  exact ⟨_, rfl, _, _, _, [], _, [], hW', trodAll_mk1 (shut_bool Try.underlying4 _), (trodAll_cons_mk (Below.trod laidOut (by kernel_rfl) (of_decide_eq_true (by kernel_rfl)) k0 bel lt0) (trodAll_cons_mk (Below.trod laidOut (by kernel_rfl) (of_decide_eq_true (by kernel_rfl)) k1 bel lt1) (trodAll_cons_mk (Below.trod laidOut (by kernel_rfl) (of_decide_eq_true (by kernel_rfl)) k2 bel lt2) trodAll_mk0))), rfl, bel.frame _, fun h => by cases h⟩

/-- the statement -/
theorem proved : Rows.OrderBasesSaid :=
  OpenClaim.holds_of_wide 6 Try.f6 rfl rfl rfl rfl rfl rfl rfl ⟨rfl, rfl, rfl, rfl, rfl⟩ rfl rfl rfl rfl rfl (by kernel_rfl) Try.func6 (by kernel_rfl)
    (of_decide_eq_true (by kernel_rfl)) (by unfold Func.isWrapper; first | (rw [if_pos (by decide +kernel)]; kernel_rfl) | (rw [if_neg (by decide +kernel)]; exact ⟨rfl, rfl⟩))
    (fun os started H enc _ => lifted os started H enc)
end Go.Proofs.Ytbjpogeemajhoaa.orderBases
