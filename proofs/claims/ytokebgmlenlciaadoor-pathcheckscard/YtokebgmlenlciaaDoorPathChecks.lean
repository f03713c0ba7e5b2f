/-
  Proved: for every list of texts, PathChecks returns true and turns nothing of what it was given. Conditions: none beyond the form's own (the two tables of the library that the row lists are what the program's text lays: the card ties them).
-/
import Derived.Test.YtokebgmlenlciaaDoorRows
import Derived.Test.YtokebgmlenlciaaDoorCards
import Derived.Test.YtokebgmlenlciaaDoorTie
import Derived.Test.YtokebgmlenlciaaDoorPaPlain
import Derived.Test.YtokebgmlenlciaaDoorPaLib
import Derived.Test.YtokebgmlenlciaaDoorPaRune
import Derived.Test.YtokebgmlenlciaaDoorPaShelf
import Derived.Test.YtokebgmlenlciaaDoorPaGood
import Derived.Test.YtokebgmlenlciaaDoorPaSplit
import Derived.Test.YtokebgmlenlciaaDoorPaSort
import Derived.Test.YtokebgmlenlciaaDoorPaCheck
import Derived.Test.YtokebgmlenlciaaDoorPaAwake
import Derived.Test.YtokebgmlenlciaaDoorPaMore
import Derived.Test.YtokebgmlenlciaaDoorPaRefE
import Derived.Test.YtokebgmlenlciaaDoorOctKit
import Derived.WalkKit
import Derived.WalkSpells
import Derived.WalkLawsBesides
import Derived.ProofKit
import Derived.OpenShut
import Derived.Laws.BytesArg
import Derived.Laws.Externs
import Derived.Deep.QuietTactic
import Derived.BigQuiet
import Derived.BigRegion
import Derived.Lib.Hide
import Derived.Lib.Bytealg
import Derived.IntWalk
import Derived.Deep.LoopGhost
import Derived.Laws.OwnMore
import Derived.Deep.OwnRows
import Derived.Deep.Draws
import Derived.Deep.MidRow
import Derived.SevenTiedAt
import Derived.LaidMore
import Derived.Lay
import Derived.Stop.Joined
import Derived.MakeChecks
namespace Go.Proofs.YtokebgmlenlciaaDoor.pathChecks
open Go Go.ChangeShapes Go.WideShapes Go.ChangeAt Go.RowKit Pa
open Oct (TextsAt)

set_option maxRecDepth 100000 in
set_option maxHeartbeats 2000000 in
theorem walk (a : Option Addr) (len cap b off : Nat) (T : Nat → ByteArray) (hcap : len ≤ cap) (w : World) (hT : TextsAt w a b off len T) :
    Calls Tryd.prog 5 #[.slice a len cap] w fun e w' => e = .returned (.bool true) ∧ Below w.heap.size w w' := by
  replace hT := Lib.hid hT
  go_enter Tryd.func5, Tryd.ntmps5
  go_wp2_with fail
  refine (awake_calls w).mono ?_
  rintro e w1 ⟨rfl, b1⟩
  replace hT := Lib.hid (texts_below hT.out b1)
  replace b1 := Lib.hid b1
  by_cases h60 : 60 < len
  · have d0 : (60 : Int) < len := by omega
    go_wp2
    go_ret
    exact ⟨rfl, b1.out⟩
  · have d0 : ¬ (60 : Int) < len := by omega
    go_wp2
    go_loopw [3] (fun i wr => ∃ k : Nat, k ≤ len ∧ i = .int .i64 k ∧ Hid (∀ j, j < k → (T j).size ≤ 2000) ∧ w1 = wr) (fun i _ => len - (intOf i).toNat)
    case atStart => exact ⟨0, by omega, rfl, Lib.hid fun j hj => by omega, rfl⟩
    case round =>
      obtain ⟨k, hk, rfl, hz, rfl⟩ := hrel
      by_cases hlt : k < len
      · have i1 : (k : Int) < len := by omega
        have i0 : 0 ≤ (k : Int) := by omega
        obtain rfl := hT.out.addr (by omega)
        have c0 := hT.out.cell k hlt
        by_cases hbig : 2000 < (T k).size
        · have q1 : (2000 : Int) < (T k).size := by omega
          go_wp2
          go_ret
          exact ⟨rfl, b1.out⟩
        · have q1 : ¬ (2000 : Int) < (T k).size := by omega
          have nx : Hid (∀ j, j < k + 1 → (T j).size ≤ 2000) := Lib.hid fun j hj => by
            by_cases e : j = k
            · subst e; omega
            · exact hz.out j (by omega)
          clear hz
          go_wp2
          exact ⟨⟨k + 1, by omega, by go_num, nx, by trivial⟩, by simp [intOf]; omega⟩
      · have g0 : ¬ (k : Int) < len := by omega
        obtain rfl : k = len := by omega
        have hC := Lib.hid (Check_calls a k cap b off T (by omega) hcap w1 hT.out)
        go_wp2_with fail
        refine hC.out.mono ?_
        rintro e w2 ⟨⟨i, c, rfl, h1⟩, b2⟩
        have hR := Lib.hid (RCheck_calls a k cap b off T w2 (by omega) (fun i hi => by have := hz.out i hi; omega) (texts_below hT.out b2))
        replace b2 := Lib.hid (b1.out.trans (b2.mono b1.out.size))
        replace h1 := Lib.hid h1
        clear hC
        go_wp2_with fail
        refine hR.out.mono ?_
        rintro e w3 ⟨⟨i', c', rfl, h2⟩, b3⟩
        obtain ⟨rfl, rfl⟩ := h1.out.unique h2
        replace b3 := Lib.hid (b2.out.trans (b3.mono b2.out.size))
        clear h1 h2 hR
        have q1 : ((i : Int) == i) = true := by simp
        have q2 : ((c : Int) == c) = true := by simp
        go_wp2
        go_ret
        exact ⟨rfl, b3.out⟩

theorem own : ownKnob Tryd.prog.godebug = none := by kernel_rfl
theorem laidOut : laidOutB Tryd.prog = true := by kernel_rfl
set_option maxRecDepth 100000 in
theorem lifted (os : Os) (started : os.Started) (H : Type) (enc : TypeId × Value → H) :
    ReturnsInHanded {} Tryd.checked os 5 .any (fun w args => (Rows.pathChecksSpec.pre enc Tryd.prog Tryd.f5 [] false w args ∧ laidMetH Tryd.prog Rows.pathChecksRow.laid w) ∧ sizedMet enc Tryd.prog Tryd.f5 (OpenSpec.ofChange Rows.pathChecksSpec) false w args) (Rows.pathChecksSpec.post enc Tryd.prog Tryd.f5 false true false false) := by
  refine returnsInHanded_of_change_and (C := Tryd.checked) (X := (fun w _ => laidMetH Tryd.prog Rows.pathChecksRow.laid w)) (fun _ _ _ hh h => h.of_heap hh) own started (by kernel_rfl) Tryd.func5
    (ChangeSpec.witness_shaped (enc := enc) (C := Tryd.checked) (os := os) (X := (fun w _ => laidMetH Tryd.prog Rows.pathChecksRow.laid w)) false (World.laidAll Tryd.prog os Rows.pathChecksRow.laid) #[.slice none 0 0] 8 (World.laidAll_os _ _ _) (World.shaped_of_ZipB (by kernel_rfl) (by kernel_rfl)) (by kernel_rfl) (by kernel_rfl) (by kernel_rfl)
      (by rw [MakeChecks.laidMetH_plain _ _ _ (by kernel_rfl)]; exact laidMet_laidAll _ (by kernel_rfl) (by kernel_rfl))) ?_
  intro W base args ds gs before hval0 hW hcnd hsz0 hL _
  have hval : ∀ (j : Nat) t v, Tryd.f5.params[j]? = some t → args[j]? = some v → Value.okWide Tryd.prog W .any base t v := hval0
  have hsz : (DataW.weightsEach Tryd.prog (Tryd.f5.params.toList ++ Rows.pathChecksSpec.plain.varTypes Tryd.prog) (ds ++ gs)).all (· ≤ reachBytes) = true := hsz0
  have hW' := hW
  obtain ⟨p, q, hA0, hV, rfl, hfz, hnd⟩ := hW
  have hA : DataW.TrodAll enc Tryd.prog W 0 (fun _ => true) true Tryd.f5.params.toList args.toList ds p := hA0
  rw [Tryd.params5] at hA hval hsz
  obtain ⟨v0, vs0, d0, ds0, p0, q0, hargs, rfl, rfl, h0, r0⟩ := trodAll_cons hA
  obtain ⟨rfl, rfl, rfl⟩ := trodAll_nil r0
  obtain rfl : args = #[v0] := by cases args; simp_all
  obtain ⟨rfl, rfl⟩ := trodVars_none hV
  have k0 := h0
  have lt0 : ∀ x ∈ p0, x.block < W.heap.size := by obtain ⟨m, hm⟩ := k0; exact DataW.trod_lt m _ _ _ hm
  have ok0 := hval 0 22 v0 rfl rfl
  clear hA0 hval0 hsz0
  obtain ⟨a0, len, cap, b, off, T, rfl, hT, hl⟩ := Oct.open_texts Tryd.underlying22 Tryd.underlying9 (by kernel_rfl) (of_decide_eq_true (by kernel_rfl)) ok0 h0 (Oct.arg_weights hsz (j := 0) (t := 22) rfl rfl)
  have hcap := cap_of Tryd.underlying22 Tryd.underlying9 (by kernel_rfl) h0
  refine (walk a0 len cap b off T hcap W hT).mono fun e W' ⟨he, bel⟩ => ?_
  subst he
  exact ⟨_, rfl, _, _, _, [], _, [], hW', trodAll_mk1 (shut_bool Tryd.underlying4 _), (trodAll_cons_mk (Below.trod laidOut (by kernel_rfl) (of_decide_eq_true (by kernel_rfl)) k0 bel lt0) trodAll_mk0), rfl, bel.frame _, fun h => by cases h⟩

/-- the row -/
theorem row_proved : Rows.PathChecksSaid :=
  OpenClaim.holds_of_wide 5 Tryd.f5 rfl rfl rfl rfl rfl rfl rfl ⟨rfl, rfl, rfl, rfl, rfl⟩ rfl rfl rfl rfl rfl (by kernel_rfl) Tryd.func5 (by kernel_rfl)
    (of_decide_eq_true (by kernel_rfl)) (by unfold Func.isWrapper; first | (rw [if_pos (by decide +kernel)]; kernel_rfl) | (rw [if_neg (by decide +kernel)]; exact ⟨rfl, rfl⟩))
    (fun os started H enc _ => lifted os started H enc)
/-- the statement: the tied card -/
theorem proved : Rows.PathChecksCardSaid :=
  Claim7.holds_tied_plain_at .later [] Rows.pathChecksCard.laidKinds true Rows.pathChecksCard.stood.harness Rows.pathChecksCard.stood.looks row_proved (fun _ h => by cases h) (by kernel_rfl) (fun _ h => by cases h) pathChecks_row_tie rfl ⟨rfl, rfl⟩ (by kernel_rfl) rfl
    (fun f fn hf hfn => by
      obtain rfl : f = 5 := Option.some.inj ((show Tryd.prog.funcNamed Rows.pathChecksRow.func = some 5 by kernel_rfl).symm.trans hf) |>.symm
      obtain rfl : fn = Tryd.f5 := (Option.some.inj (Tryd.func5.symm.trans hfn)).symm
      exact ⟨by kernel_rfl, fun j t ht => by
        rw [Tryd.params5] at ht
        have hm : t ∈ [22] := by simpa using Array.mem_of_getElem? ht
        have hall : ([22].all fun u => !Tryd.prog.wantsStandIn u) = true := by kernel_rfl
        exact (show Tryd.prog.wantsStandIn t = false by simpa using List.all_eq_true.1 hall t hm)⟩)
    (by kernel_rfl)
end Go.Proofs.YtokebgmlenlciaaDoor.pathChecks
