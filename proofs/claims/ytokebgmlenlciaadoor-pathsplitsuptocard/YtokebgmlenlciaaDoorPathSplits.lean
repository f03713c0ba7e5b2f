/-
  Proved: for every text and every list of texts that are together of bulk at most 1048576, PathSplits returns true and turns nothing of what it was given. Conditions: that bound, and none beyond the form's own (the two tables of the library that the row lists are what the program's text lays: the card ties them).
-/
import Derived.Test.YtokebgmlenlciaaDoorRows
import Derived.Test.YtokebgmlenlciaaDoorCards
import Derived.Test.YtokebgmlenlciaaDoorTie
import Derived.Test.YtokebgmlenlciaaDoorPaPlain
import Derived.Test.YtokebgmlenlciaaDoorPaLib
import Derived.Test.YtokebgmlenlciaaDoorPaRune
import Derived.Test.YtokebgmlenlciaaDoorPaShelf
import Derived.Test.YtokebgmlenlciaaDoorPaGood
import Derived.Test.YtokebgmlenlciaaDoorPaSplit
import Derived.Test.YtokebgmlenlciaaDoorPaSort
import Derived.Test.YtokebgmlenlciaaDoorPaCheck
import Derived.Test.YtokebgmlenlciaaDoorPaAwake
import Derived.Test.YtokebgmlenlciaaDoorPaMore
import Derived.Test.YtokebgmlenlciaaDoorPaRefC
import Derived.Test.YtokebgmlenlciaaDoorPaRefD
import Derived.Test.YtokebgmlenlciaaDoorPaUpto
import Derived.Test.YtokebgmlenlciaaDoorOctKit
import Derived.WalkKit
import Derived.WalkSpells
import Derived.WalkLawsBesides
import Derived.ProofKit
import Derived.OpenShut
import Derived.Laws.BytesArg
import Derived.Laws.Externs
import Derived.Deep.QuietTactic
import Derived.BigQuiet
import Derived.BigRegion
import Derived.Lib.Hide
import Derived.Lib.Bytealg
import Derived.IntWalk
import Derived.Deep.LoopGhost
import Derived.Laws.OwnMore
import Derived.Deep.OwnRows
import Derived.Deep.Draws
import Derived.Deep.MidRow
import Derived.SevenTiedAt
import Derived.LaidMore
import Derived.Lay
import Derived.Stop.Joined
import Derived.MakeChecks
namespace Go.Proofs.YtokebgmlenlciaaDoor.pathSplits
open Go Go.ChangeShapes Go.WideShapes Go.ChangeAt Go.RowKit Pa
open Go.ChangeMaps (open_string)
open Oct (TextsAt)

set_option maxRecDepth 100000 in
set_option maxHeartbeats 2000000 in
theorem walk (s : ByteArray) (na : Option Addr) (nl nc nb no : Nat) (N : Nat → ByteArray) (hs : s.size ≤ 1048576) (hcap : nl ≤ nc) (w : World) (hN : TextsAt w na nb no nl N) :
    Calls Tryd.prog 3 #[.string s, .slice na nl nc] w fun e w' => e = .returned (.bool true) ∧ Below w.heap.size w w' := by
  replace hN := Lib.hid hN
  go_enter Tryd.func3, Tryd.ntmps3
  go_wp2_with fail
  refine (awake_calls w).mono ?_
  rintro e w1 ⟨rfl, b1⟩
  replace b1 := Lib.hid b1
  by_cases h200 : 200 < nl
  · have d0 : (200 : Int) < nl := by omega
    go_wp2
    go_ret
    exact ⟨rfl, b1.out⟩
  · have d0 : ¬ (200 : Int) < nl := by omega
    go_wp2_with fail
    refine (Split_calls s w1 (by omega)).mono ?_
    rintro e w2 ⟨⟨p1, n1, c1, d1, o1, X, rfl, hX, -, hn1, zX, eX⟩, b2⟩
    replace b2 := Lib.hid (b1.out.trans (b2.mono b1.out.size))
    replace hX := Lib.hid hX
    clear b1
    go_wp2_with fail
    refine (RSplit_calls s w2 (by omega)).mono ?_
    rintro e w3 ⟨⟨p2, n2, c2, d2, o2, Y, rfl, hY, zY, eY⟩, b3⟩
    replace hX := Lib.hid (texts_below hX.out b3)
    replace b3 := Lib.hid (b2.out.trans (b3.mono b2.out.size))
    replace hY := Lib.hid hY
    clear b2
    have heq : Hid (tx X n1 = tx Y n2) := Lib.hid (by
      by_cases hf : fault s.data.toList = 0
      · rw [eX hf, eY hf]
      · rw [zX hf, zY hf]; rfl)
    clear eX eY zX zY
    generalize fault s.data.toList = f at *
    have hN3 := Lib.hid (texts_below hN.out b3.out)
    go_wp2_with fail
    refine (Join_calls na nl nc nb no N w3 (by omega) hcap hN3.out).mono ?_
    rintro e w4 ⟨⟨r, c, rfl, j1⟩, b4⟩
    replace hX := Lib.hid (texts_below hX.out b4)
    replace hY := Lib.hid (texts_below hY.out b4)
    have hN4 := Lib.hid (texts_below hN3.out b4)
    replace b4 := Lib.hid (b3.out.trans (b4.mono b3.out.size))
    replace j1 := Lib.hid j1
    clear b3 hN3
    go_wp2_with fail
    refine (RJoin_calls na nl nc nb no N w4 (by omega) hN4.out).mono ?_
    rintro e w5 ⟨⟨r', c', rfl, j2⟩, rfl⟩
    obtain ⟨hr, rfl⟩ := j1.out.unique j2
    obtain rfl := data_inj hr
    clear j1 j2 hr hN4
    have gG := Lib.hid fun w => Good_calls s w
    have gR := Lib.hid fun w => RGood_calls s w
    generalize isName s.data.toList = y at *
    go_wp2_with fail
    refine (gG.out w4).mono ?_
    rintro e w6 ⟨rfl, b6⟩
    replace hX := Lib.hid (texts_below hX.out b6)
    replace hY := Lib.hid (texts_below hY.out b6)
    replace b6 := Lib.hid (b4.out.trans (b6.mono b4.out.size))
    clear b4
    go_wp2_with fail
    refine (gR.out w6).mono ?_
    rintro e w7 ⟨rfl, rfl⟩
    have e1 : (y == y) = true := by simp
    have sm := Lib.hid (same_calls p1 p2 n1 c1 d1 o1 n2 c2 d2 o2 X Y w6 hX.out hY.out (by omega))
    go_wp2_with fail
    refine sm.out.mono ?_
    rintro e w8 ⟨⟨x, rfl, hx⟩, n, rfl⟩
    obtain rfl : x = true := hx.2 heq.out
    clear hx sm heq hX hY
    have e2 : ((f : Int) == f) = true := by simp
    have e3 : ((c : Int) == c) = true := by simp
    have e4 : (r.toList == r.toList) = true := by simp
    go_wp2
    go_ret
    exact ⟨rfl, below_drewN b6.out n⟩

theorem own : ownKnob Tryd.prog.godebug = none := by kernel_rfl
theorem laidOut : laidOutB Tryd.prog = true := by kernel_rfl
set_option maxRecDepth 100000 in
theorem lifted (os : Os) (started : os.Started) (H : Type) (enc : TypeId × Value → H) (F : Stop.Interp) :
    ReturnsInHanded {} Tryd.checked os 3 .any ((Rows.OpenSpec.upto Rows.pathSplitsSpec).preRow enc Tryd.prog Tryd.f3 Rows.pathSplitsUptoRow.domain false Rows.pathSplitsUptoRow.laid) (((Rows.OpenSpec.upto Rows.pathSplitsSpec).at F).post enc Tryd.prog Tryd.f3 false true false false) := by
  refine returnsInHanded_of_row (C := Tryd.checked) (s := (Rows.OpenSpec.upto Rows.pathSplitsSpec)) own started (by kernel_rfl) Tryd.func3
    (Pa.witness_row (enc := enc) (C := Tryd.checked) false (World.laidAll Tryd.prog os Rows.pathSplitsUptoRow.laid) #[.string ByteArray.empty, .slice none 0 0] (World.laidAll_os _ _ _) (World.shaped_of_ZipB (by kernel_rfl) (by kernel_rfl)) (by kernel_rfl)
      (OpenSpec.preRow_of_cond 8 (x := ([.lit (.string []), .nil], [], [])) (by kernel_rfl) (by kernel_rfl) (fun k hk => by cases hk; kernel_rfl) (by kernel_rfl) (by rw [MakeChecks.laidMetH_plain _ _ _ (by kernel_rfl)]; exact laidMet_laidAll _ (by kernel_rfl) (by kernel_rfl)))) ?_
  intro W base args ds gs before hval0 hW hcnd hk0 hsz0 hL _ _
  have hk : Rows.uptoSmall H (ds ++ gs) = true := hk0 _ rfl
  have hval : ∀ (j : Nat) t v, Tryd.f3.params[j]? = some t → args[j]? = some v → Value.okWide Tryd.prog W .any base t v := hval0
  have hsz : (DataW.weightsEach Tryd.prog (Tryd.f3.params.toList ++ Rows.pathSplitsSpec.plain.varTypes Tryd.prog) (ds ++ gs)).all (· ≤ reachBytes) = true := hsz0
  have hW' := hW
  obtain ⟨p, q, hA0, hV, rfl, hfz, hnd⟩ := hW
  have hA : DataW.TrodAll enc Tryd.prog W 0 (fun _ => true) true Tryd.f3.params.toList args.toList ds p := hA0
  rw [Tryd.params3] at hA hval hsz
  obtain ⟨v0, vs0, d0, ds0, p0, q0, hargs, rfl, rfl, h0, r0⟩ := trodAll_cons hA
  obtain ⟨v1, vs1, d1, ds1, p1, q1, rfl, rfl, rfl, h1, r1⟩ := trodAll_cons r0
  obtain ⟨rfl, rfl, rfl⟩ := trodAll_nil r1
  obtain rfl : args = #[v0, v1] := by cases args; simp_all
  obtain ⟨rfl, rfl⟩ := trodVars_none hV
  have k0 := h0
  have lt0 : ∀ x ∈ p0, x.block < W.heap.size := by obtain ⟨m, hm⟩ := k0; exact DataW.trod_lt m _ _ _ hm
  have ok0 := hval 0 9 v0 rfl rfl
  have k1 := h1
  have lt1 : ∀ x ∈ p1, x.block < W.heap.size := by obtain ⟨m, hm⟩ := k1; exact DataW.trod_lt m _ _ _ hm
  have ok1 := hval 1 22 v1 rfl rfl
  clear hA0 hval0 hsz0
  obtain ⟨a0, rfl, rfl, rfl, w0⟩ := open_string Tryd.underlying9 ok0 h0
  obtain ⟨na, nl, nc, nb, no, N, rfl, hN, hl⟩ := Oct.open_texts Tryd.underlying22 Tryd.underlying9 (by kernel_rfl) (of_decide_eq_true (by kernel_rfl)) ok1 h1 (Oct.arg_weights hsz (j := 1) (t := 22) rfl rfl)
  have hcap := cap_of Tryd.underlying22 Tryd.underlying9 (by kernel_rfl) h1
  refine (walk a0 na nl nc nb no N (short0 hk) hcap W hN).mono fun e W' ⟨he, bel⟩ => ?_
  subst he
  exact ⟨_, rfl, _, _, _, [], _, [], hW', trodAll_mk1 (shut_bool Tryd.underlying4 _), (trodAll_cons_mk (Below.trod laidOut (by kernel_rfl) (of_decide_eq_true (by kernel_rfl)) k0 bel lt0) (trodAll_cons_mk (Below.trod laidOut (by kernel_rfl) (of_decide_eq_true (by kernel_rfl)) k1 bel lt1) trodAll_mk0)), rfl, bel.frame _, fun h => by cases h⟩

/-- the row -/
theorem row_proved : Rows.PathSplitsUptoSaid :=
  OpenClaim.holds_of_cond 3 Tryd.f3 rfl rfl rfl rfl rfl rfl rfl ⟨rfl, rfl, rfl, rfl, rfl⟩ rfl rfl rfl rfl rfl (by kernel_rfl) Tryd.func3 (by kernel_rfl)
    (of_decide_eq_true (by kernel_rfl)) (by unfold Func.isWrapper; first | (rw [if_pos (by decide +kernel)]; kernel_rfl) | (rw [if_neg (by decide +kernel)]; exact ⟨rfl, rfl⟩))
    (fun os started H enc _ F => by rw [OpenClaim.pre_eq_preRow]; exact lifted os started H enc F)
/-- the statement: the tied card -/
theorem proved : Rows.PathSplitsUptoCardSaid :=
  Claim7.holds_tied_plain_at .later [] Rows.pathSplitsUptoCard.laidKinds true Rows.pathSplitsUptoCard.stood.harness Rows.pathSplitsUptoCard.stood.looks row_proved (fun _ h => by cases h) (by kernel_rfl) (fun _ h => by cases h) pathSplitsUpto_row_tie rfl ⟨rfl, rfl⟩ (by kernel_rfl) rfl
    (fun f fn hf hfn => by
      obtain rfl : f = 3 := Option.some.inj ((show Tryd.prog.funcNamed Rows.pathSplitsUptoRow.func = some 3 by kernel_rfl).symm.trans hf) |>.symm
      obtain rfl : fn = Tryd.f3 := (Option.some.inj (Tryd.func3.symm.trans hfn)).symm
      exact ⟨by kernel_rfl, fun j t ht => by
        rw [Tryd.params3] at ht
        have hm : t ∈ [9, 22] := by simpa using Array.mem_of_getElem? ht
        have hall : ([9, 22].all fun u => !Tryd.prog.wantsStandIn u) = true := by kernel_rfl
        exact (show Tryd.prog.wantsStandIn t = false by simpa using List.all_eq_true.1 hall t hm)⟩)
    (by kernel_rfl)
end Go.Proofs.YtokebgmlenlciaaDoor.pathSplits
