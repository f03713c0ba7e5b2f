/-
  Proved: for every list, PackMakes returns true and turns nothing of what it was given. Conditions: none beyond the form's own (the tables are what the program's text lays: the card ties them).
-/
import Derived.Test.YtliojhhiadfmiaaDoorRows
import Derived.Test.YtliojhhiadfmiaaDoorCards
import Derived.Test.YtliojhhiadfmiaaDoorTie
import Derived.Test.YtliojhhiadfmiaaDoorOctKit
import Derived.SevenTiedAt
import Derived.Test.YtliojhhiadfmiaaDoorPkAwake
import Derived.Test.YtliojhhiadfmiaaDoorPkRefC
import Derived.WalkKit
import Derived.WalkSpells
import Derived.WalkLawsBesides
import Derived.ProofKit
import Derived.OpenShut
import Derived.Laws.BytesArg
import Derived.Deep.QuietTactic
import Derived.BigQuiet
import Derived.BigRegion
import Derived.Lib.Hide
import Derived.LaidMore
import Derived.Stop.Joined
import Derived.MakeChecks
import Derived.Deep.RegionHeld3
import Derived.StillTailTactics
import Derived.Lay
import Derived.Deep.DeepHandedRow
namespace Go.Proofs.YtliojhhiadfmiaaDoor.packMakes
open Go Go.ChangeShapes Go.WideShapes Go.ChangeAt Go.RowKit Pk
open Oct (empty append_toList extract_toList ext_toList size_toList)
open Go.ChangeMaps (open_string)

set_option maxRecDepth 100000 in
set_option maxHeartbeats 2000000 in
theorem walk (a : Option Addr) (cap b off : Nat) (l : List ByteArray) (w : World) (hT : TxAt w a b off l) (hl : l.length ≤ 140737488351232) (hs : ∀ s ∈ l, s.size ≤ 140737488351232) (he : Ev w) :
    Calls Tryd.prog 3 #[.slice a l.length cap] w fun e w' => e = .returned (.bool true) ∧ Below w.heap.size w w' := by
  replace hT := Lib.hid hT
  replace he := Lib.hid he
  replace hs := Lib.hid hs
  go_enter Tryd.func3, Tryd.ntmps3
  go_wp2_with fail
  refine (awake_calls w he.out).mono ?_
  rintro e w1 ⟨rfl, bb⟩
  have hB := Lib.hid bb
  replace hT := Lib.hid (hT.out.next bb)
  replace he := Lib.hid (he.out.next bb)
  clear bb
  go_wp2_with fail
  refine (great_calls a cap b off l w1 hT.out hl hs.out).mono ?_
  rintro e w2 ⟨⟨g, rfl, hg⟩, rfl⟩
  cases g with
  | true =>
    clear hg
    go_wp2
    go_ret
    exact ⟨rfl, hB.out⟩
  | false =>
    obtain ⟨hl2, hs2⟩ := hg rfl
    clear hg
    have hM := Lib.hid (Make_calls a cap b off l w1 hT.out he.out (by omega) (by omega))
    have hR := Lib.hid fun w h => RMake_calls a cap b off l w h (by omega) (by omega)
    generalize mk l = R at *
    go_wp2_with fail
    refine hM.out.mono ?_
    rintro e w3 ⟨rfl, bb⟩
    replace hB := Lib.hid (below_next hB.out bb)
    replace hT := Lib.hid (hT.out.next bb)
    clear bb hM
    go_wp2_with fail
    refine (hR.out _ hT.out).mono ?_
    rintro e w4 ⟨rfl, bb⟩
    replace hB := Lib.hid (below_next hB.out bb)
    clear bb hR
    go_wp2
    go_ret
    exact ⟨rfl, hB.out⟩

theorem own : ownKnob Tryd.prog.godebug = none := by kernel_rfl
theorem laidOut : laidOutB Tryd.prog = true := by kernel_rfl
set_option maxRecDepth 100000 in
theorem lifted (os : Os) (started : os.Started) (H : Type) (enc : TypeId × Value → H) :
    ReturnsInHanded {} Tryd.checked os 3 .any (fun w args => (Rows.packMakesSpec.pre enc Tryd.prog Tryd.f3 [] false w args ∧ laidMetH Tryd.prog Rows.packMakesRow.laid w) ∧ sizedMet enc Tryd.prog Tryd.f3 (OpenSpec.ofChange Rows.packMakesSpec) false w args) (Rows.packMakesSpec.post enc Tryd.prog Tryd.f3 false true false false) := by
  refine returnsInHanded_of_change_and (C := Tryd.checked) (X := (fun w _ => laidMetH Tryd.prog Rows.packMakesRow.laid w)) (fun _ _ _ hh h => h.of_heap hh) own started (by kernel_rfl) Tryd.func3
    (ChangeSpec.witness_shaped (enc := enc) (C := Tryd.checked) (os := os) (X := (fun w _ => laidMetH Tryd.prog Rows.packMakesRow.laid w)) false (World.laidAll Tryd.prog os Rows.packMakesRow.laid) #[.slice none 0 0] 8 (World.laidAll_os _ _ _) (World.shaped_of_ZipB (by kernel_rfl) (by kernel_rfl)) (by kernel_rfl) (by kernel_rfl) (by kernel_rfl)
      (by rw [MakeChecks.laidMetH_plain _ _ _ (by kernel_rfl)]; exact laidMet_laidAll _ (by kernel_rfl) (by kernel_rfl))) ?_
  intro W base args ds gs before hval0 hW hcnd hsz0 hL _
  have hval : ∀ (j : Nat) t v, Tryd.f3.params[j]? = some t → args[j]? = some v → Value.okWide Tryd.prog W .any base t v := hval0
  have hsz : (DataW.weightsEach Tryd.prog (Tryd.f3.params.toList ++ Rows.packMakesSpec.plain.varTypes Tryd.prog) (ds ++ gs)).all (· ≤ reachBytes) = true := hsz0
  have hW' := hW
  obtain ⟨p, q, hA0, hV, rfl, hfz, hnd⟩ := hW
  have hA : DataW.TrodAll enc Tryd.prog W 0 (fun _ => true) true Tryd.f3.params.toList args.toList ds p := hA0
  rw [Tryd.params3] at hA hval hsz
  obtain ⟨v0, vs0, d0, ds0, p0, q0, hargs, rfl, rfl, h0, r0⟩ := trodAll_cons hA
  obtain ⟨rfl, rfl, rfl⟩ := trodAll_nil r0
  obtain rfl : args = #[v0] := by cases args; simp_all
  obtain ⟨rfl, rfl⟩ := trodVars_none hV
  have k0 := h0
  have lt0 : ∀ x ∈ p0, x.block < W.heap.size := by obtain ⟨m, hm⟩ := k0; exact DataW.trod_lt m _ _ _ hm
  have ok0 := hval 0 22 v0 rfl rfl
  clear hA0 hval0 hsz0
  obtain ⟨a0, len, cap, b, off, T, rfl, hT, hl⟩ := Oct.open_texts Tryd.underlying22 Tryd.underlying9 (by kernel_rfl) (of_decide_eq_true (by kernel_rfl)) ok0 h0 (Oct.arg_weights hsz (j := 0) (t := 22) rfl rfl)
  have hW2 := walk a0 cap b off (txs len T) W (txs_at hT) (by rw [txs_length]; exact hl) (txs_size hT) (ev_of_laid hL)
  rw [txs_length] at hW2
  refine hW2.mono fun e W' ⟨he, bel⟩ => ?_
  subst he
  exact ⟨_, rfl, _, _, _, [], _, [], hW', trodAll_mk1 (shut_bool Tryd.underlying4 _), (trodAll_cons_mk (Below.trod laidOut (by kernel_rfl) (of_decide_eq_true (by kernel_rfl)) k0 bel lt0) trodAll_mk0), rfl, bel.frame _, fun h => by cases h⟩

/-- the row -/
theorem row_proved : Rows.PackMakesSaid :=
  OpenClaim.holds_of_wide 3 Tryd.f3 rfl rfl rfl rfl rfl rfl rfl ⟨rfl, rfl, rfl, rfl, rfl⟩ rfl rfl rfl rfl rfl (by kernel_rfl) Tryd.func3 (by kernel_rfl)
    (of_decide_eq_true (by kernel_rfl)) (by unfold Func.isWrapper; first | (rw [if_pos (by decide +kernel)]; kernel_rfl) | (rw [if_neg (by decide +kernel)]; exact ⟨rfl, rfl⟩))
    (fun os started H enc _ => lifted os started H enc)
/-- the statement: the tied card -/
theorem proved : Rows.PackMakesCardSaid :=
  Claim7.holds_tied_plain_at .later [] Rows.packMakesCard.laidKinds true Rows.packMakesCard.stood.harness Rows.packMakesCard.stood.looks row_proved (fun _ h => by cases h) (by kernel_rfl) (fun _ h => by cases h) packMakes_row_tie rfl ⟨rfl, rfl⟩ (by kernel_rfl) rfl
    (fun f fn hf hfn => by
      obtain rfl : f = 3 := Option.some.inj ((show Tryd.prog.funcNamed Rows.packMakesRow.func = some 3 by kernel_rfl).symm.trans hf) |>.symm
      obtain rfl : fn = Tryd.f3 := (Option.some.inj (Tryd.func3.symm.trans hfn)).symm
      exact ⟨by kernel_rfl, fun j t ht => by
        rw [Tryd.params3] at ht
        have hm : t ∈ [22] := by simpa using Array.mem_of_getElem? ht
        have hall : ([22].all fun u => !Tryd.prog.wantsStandIn u) = true := by kernel_rfl
        exact (show Tryd.prog.wantsStandIn t = false by simpa using List.all_eq_true.1 hall t hm)⟩)
    (by kernel_rfl)
end Go.Proofs.YtliojhhiadfmiaaDoor.packMakes
