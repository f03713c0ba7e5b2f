/-
  Proved: for every list of numbers, ObjectHeights returns true and turns nothing of what it was given. Conditions: none beyond the form's own (the constants of the digest are what the program's text lays: the card ties them).
-/
import Derived.Test.YtmbbnabongnojaaDoorRows
import Derived.Test.YtmbbnabongnojaaDoorCards
import Derived.Test.YtmbbnabongnojaaDoorTie
import Derived.Test.YtmbbnabongnojaaDoorOctKit
import Derived.SevenTiedAt
import Derived.Test.YtmbbnabongnojaaDoorObLaid
import Derived.WalkKit
import Derived.WalkSpells
import Derived.WalkLawsBesides
import Derived.ProofKit
import Derived.OpenShut
import Derived.Laws.BytesArg
import Derived.Deep.QuietTactic
import Derived.BigQuiet
import Derived.BigRegion
import Derived.Lib.Hide
import Derived.LaidMore
import Derived.Stop.Joined
import Derived.MakeChecks
namespace Go.Proofs.YtmbbnabongnojaaDoor.objectHeights
open Go Go.ChangeShapes Go.WideShapes Go.ChangeAt Go.RowKit Ob
open Oct (IntsAt)

theorem ints_below {w w' : World} {a : Option Addr} {b off len : Nat} {N : Nat → Int} (h : IntsAt .i64 w a b off len N) (t : Below w.heap.size w w') : IntsAt .i64 w' a b off len N :=
  ⟨h.addr, fun i hi => (t.cell (Oct.lt_of_cell (h.cell i hi))).trans (h.cell i hi), h.wf⟩
set_option maxRecDepth 100000 in
theorem walk (a : Option Addr) (len cap b off : Nat) (N : Nat → Int) (w : World) (hT : IntsAt .i64 w a b off len N) (hl : len ≤ 140737488351232) (hk : Sha.Kc w) :
    Calls Tryd.prog 5 #[.slice a len cap] w fun e w' => e = .returned (.bool true) ∧ Below w.heap.size w w' := by
  replace hT := Lib.hid hT
  go_enter Tryd.func5, Tryd.ntmps5
  go_wp2_with fail
  refine (awake_calls w hk).mono ?_
  rintro e w1 ⟨rfl, b1⟩
  replace hT := Lib.hid (ints_below hT.out b1)
  replace b1 := Lib.hid b1
  have hH := Lib.hid (Height_calls a len cap b off N w1 hT.out hl)
  have hR := Lib.hid (RHeight_calls a len cap b off N w1 hT.out hl)
  generalize hgt N len = h at *
  clear hk
  go_wp2
  go_loopw [3] (fun i wr => ∃ k : Nat, k ≤ len ∧ i = .int .i64 k ∧ w1 = wr) (fun i _ => len - (intOf i).toNat)
  case atStart => exact ⟨0, by omega, rfl, rfl⟩
  case round =>
    obtain ⟨k, hk, rfl, rfl⟩ := hrel
    by_cases hlt : k < len
    · have i1 : (k : Int) < len := by omega
      have i0 : 0 ≤ (k : Int) := by omega
      obtain rfl := hT.out.addr (by omega)
      have c0 := hT.out.cell k hlt
      by_cases hm : N k = 9223372036854775807
      · rw [hm] at c0
        go_wp2
        go_ret
        exact ⟨rfl, b1.out⟩
      · have e0 : (N k == 9223372036854775807) = false := by simpa using hm
        replace hm := Lib.hid hm
        go_wp2
        exact ⟨⟨k + 1, by omega, by go_num, by first | rfl | trivial⟩, by simp [intOf]; omega⟩
    · have d0 : decide ((k : Int) < len) = false := decide_eq_false (by omega)
      have d1 : (len : Int) ≤ k := by omega
      go_wp2_with (first | (go_at_call 24; refine hH.out.mono ?_; rintro e w2 ⟨rfl, rfl⟩) | (go_at_call 25; refine hR.out.mono ?_; rintro e w2 ⟨rfl, rfl⟩))
      go_ret
      exact ⟨by simp, b1.out⟩

theorem own : ownKnob Tryd.prog.godebug = none := by kernel_rfl
theorem laidOut : laidOutB Tryd.prog = true := by kernel_rfl
set_option maxRecDepth 100000 in
theorem lifted (os : Os) (started : os.Started) (H : Type) (enc : TypeId × Value → H) :
    ReturnsInHanded {} Tryd.checked os 5 .any (fun w args => (Rows.objectHeightsSpec.pre enc Tryd.prog Tryd.f5 [] false w args ∧ laidMetH Tryd.prog Rows.objectHeightsRow.laid w) ∧ sizedMet enc Tryd.prog Tryd.f5 (OpenSpec.ofChange Rows.objectHeightsSpec) false w args) (Rows.objectHeightsSpec.post enc Tryd.prog Tryd.f5 false true false false) := by
  refine returnsInHanded_of_change_and (C := Tryd.checked) (X := (fun w _ => laidMetH Tryd.prog Rows.objectHeightsRow.laid w)) (fun _ _ _ hh h => h.of_heap hh) own started (by kernel_rfl) Tryd.func5
    (ChangeSpec.witness_shaped (enc := enc) (C := Tryd.checked) (os := os) (X := (fun w _ => laidMetH Tryd.prog Rows.objectHeightsRow.laid w)) false (World.doorLaid Tryd.prog 14 os) #[.slice none 0 0] 8 rfl (World.shaped_of_RefB (by kernel_rfl) (by kernel_rfl)) (by kernel_rfl) (by kernel_rfl) (by kernel_rfl) (Sha.door_met os _)) ?_
  intro W base args ds gs before hval0 hW hcnd hsz0 hL _
  have hval : ∀ (j : Nat) t v, Tryd.f5.params[j]? = some t → args[j]? = some v → Value.okWide Tryd.prog W .any base t v := hval0
  have hsz : (DataW.weightsEach Tryd.prog (Tryd.f5.params.toList ++ Rows.objectHeightsSpec.plain.varTypes Tryd.prog) (ds ++ gs)).all (· ≤ reachBytes) = true := hsz0
  have hW' := hW
  obtain ⟨p, q, hA0, hV, rfl, hfz, hnd⟩ := hW
  have hA : DataW.TrodAll enc Tryd.prog W 0 (fun _ => true) true Tryd.f5.params.toList args.toList ds p := hA0
  rw [Tryd.params5] at hA hval hsz
  obtain ⟨v0, vs0, d0, ds0, p0, q0, hargs, rfl, rfl, h0, r0⟩ := trodAll_cons hA
  obtain ⟨rfl, rfl, rfl⟩ := trodAll_nil r0
  obtain rfl : args = #[v0] := by cases args; simp_all
  obtain ⟨rfl, rfl⟩ := trodVars_none hV
  have k0 := h0
  have lt0 : ∀ x ∈ p0, x.block < W.heap.size := by obtain ⟨m, hm⟩ := k0; exact DataW.trod_lt m _ _ _ hm
  have ok0 := hval 0 39 v0 rfl rfl
  clear hA0 hval0 hsz0
  obtain ⟨a0, len, cap, b, off, N, rfl, hN, hl⟩ := Oct.open_nums Tryd.underlying39 Tryd.underlying3 (by kernel_rfl) (of_decide_eq_true (by kernel_rfl)) ok0 h0 (Oct.arg_weights hsz (j := 0) rfl rfl)
  refine (walk a0 len cap b off N W hN hl (Sha.kc_of_laid hL)).mono fun e W' ⟨he, bel⟩ => ?_
  subst he
  exact ⟨_, rfl, _, _, _, [], _, [], hW', trodAll_mk1 (shut_bool Tryd.underlying4 _), (trodAll_cons_mk (Below.trod laidOut (by kernel_rfl) (of_decide_eq_true (by kernel_rfl)) k0 bel lt0) trodAll_mk0), rfl, bel.frame _, fun h => by cases h⟩

/-- the row -/
theorem row_proved : Rows.ObjectHeightsSaid :=
  OpenClaim.holds_of_wide 5 Tryd.f5 rfl rfl rfl rfl rfl rfl rfl ⟨rfl, rfl, rfl, rfl, rfl⟩ rfl rfl rfl rfl rfl (by kernel_rfl) Tryd.func5 (by kernel_rfl)
    (of_decide_eq_true (by kernel_rfl)) (by unfold Func.isWrapper; first | (rw [if_pos (by decide +kernel)]; kernel_rfl) | (rw [if_neg (by decide +kernel)]; exact ⟨rfl, rfl⟩))
    (fun os started H enc _ => lifted os started H enc)
/-- the statement: the tied card -/
theorem proved : Rows.ObjectHeightsCardSaid :=
  Claim7.holds_tied_plain_at .later [] Rows.objectHeightsCard.laidKinds true Rows.objectHeightsCard.stood.harness Rows.objectHeightsCard.stood.looks row_proved (fun _ h => by cases h) (by kernel_rfl) (fun _ h => by cases h) objectHeights_row_tie rfl ⟨rfl, rfl⟩ (by kernel_rfl) rfl
    (fun f fn hf hfn => by
      obtain rfl : f = 5 := Option.some.inj ((show Tryd.prog.funcNamed Rows.objectHeightsRow.func = some 5 by kernel_rfl).symm.trans hf) |>.symm
      obtain rfl : fn = Tryd.f5 := (Option.some.inj (Tryd.func5.symm.trans hfn)).symm
      exact ⟨by kernel_rfl, fun j t ht => by
        rw [Tryd.params5] at ht
        have hm : t ∈ [39] := by simpa using Array.mem_of_getElem? ht
        have hall : ([39].all fun u => !Tryd.prog.wantsStandIn u) = true := by kernel_rfl
        exact (show Tryd.prog.wantsStandIn t = false by simpa using List.all_eq_true.1 hall t hm)⟩)
    (by kernel_rfl)
end Go.Proofs.YtmbbnabongnojaaDoor.objectHeights
