/-
  Proved: for every object, number and text, ObjectCuts returns true and turns nothing of what it was given. Conditions: none beyond the form's own (the constants of the digest are what the program's text lays: the card ties them).
-/
import Derived.Test.YtmbbnabongnojaaDoorRows
import Derived.Test.YtmbbnabongnojaaDoorCards
import Derived.Test.YtmbbnabongnojaaDoorTie
import Derived.Test.YtmbbnabongnojaaDoorOctKit
import Derived.SevenTiedAt
import Derived.Test.YtmbbnabongnojaaDoorObLaid
import Derived.Test.YtmbbnabongnojaaDoorObHave
import Derived.Test.YtmbbnabongnojaaDoorObGreat
import Derived.Test.YtmbbnabongnojaaDoorObOpen
import Derived.WalkKit
import Derived.WalkSpells
import Derived.WalkLawsBesides
import Derived.ProofKit
import Derived.OpenShut
import Derived.Laws.BytesArg
import Derived.Deep.QuietTactic
import Derived.BigQuiet
import Derived.BigRegion
import Derived.Lib.Hide
import Derived.LaidMore
import Derived.Stop.Joined
import Derived.MakeChecks
namespace Go.Proofs.YtmbbnabongnojaaDoor.objectCuts
open Go Go.ChangeShapes Go.WideShapes Go.ChangeAt Go.RowKit Ob
open Oct (empty)
open Go.ChangeMaps (open_string)

set_option maxRecDepth 100000 in
set_option maxHeartbeats 2000000 in
theorem walk (x : Ob.Obj) (ea : Option Addr) (ec : Nat) (pa : Option Addr) (pc : Nat) (cut : Int) (more : ByteArray) (w : World) (hO : ObAt w x ea ec pa pc) (hk : Sha.Kc w) :
    Calls Tryd.prog 8 #[val x ea ec pa pc, .int .i64 cut, .string more] w fun e w' => e = .returned (.bool true) ∧ Below w.heap.size w w' := by
  have hH := Lib.hid (Have.new hO)
  have hB := Lib.hid (b_alloc w (.cells (cellsOf x ea ec pa pc) 25))
  replace hk := Lib.hid (kc_below hk hB.out)
  go_enter Tryd.func8, Tryd.ntmps8
  go_wp2_with fail
  generalize w.alloc (.cells (cellsOf x ea ec pa pc) 25) = w1 at *
  refine (awake_calls w1 hk.out).mono ?_
  rintro e w2 ⟨rfl, b2⟩
  replace hH := Lib.hid (hH.out.next b2)
  replace hB := Lib.hid (below_next hB.out b2)
  clear b2 hk
  obtain ⟨c0, c1, c2, c3, c4, c5, c6⟩ := hH.out.cells
  go_wp2_with fail
  refine (great_calls x ea ec pa pc w2 hH.out.at_).mono ?_
  rintro e w3 ⟨⟨g, rfl⟩, b3⟩
  replace hH := Lib.hid (hH.out.next b3)
  replace hB := Lib.hid (below_next hB.out b3)
  clear b3 c0 c1 c2 c3 c4 c5 c6
  cases g with
  | true =>
    go_wp2
    go_ret
    exact ⟨rfl, hB.out⟩
  | false =>
    obtain ⟨c0, c1, c2, c3, c4, c5, c6⟩ := hH.out.cells
    go_wp2_with fail
    refine (Encode_calls x ea ec pa pc w3 hH.out.at_).mono ?_
    rintro e w4 ⟨rfl, b4⟩
    replace hH := Lib.hid (hH.out.next b4)
    replace hB := Lib.hid (below_next hB.out b4)
    clear b4 c0 c1 c2 c3 c4 c5 c6
    cases hg : good x with
    | false =>
      rw [wrote_no' hg]
      go_wp2
      go_ret
      exact ⟨rfl, hB.out⟩
    | true =>
      rw [wrote_yes hg]
      have c0 := hH.out.cells.1
      by_cases k1 : x.kind = 1
      · rw [k1] at c0
        go_wp2
        go_ret
        exact ⟨rfl, hB.out⟩
      · have d1 : (x.kind == 1) = false := by simpa using k1
        by_cases m0 : more.size = 0
        · obtain rfl : more = empty := Oct.ext_toList (List.length_eq_zero_iff.1 (by rw [Oct.size_toList]; exact m0))
          replace k1 := Lib.hid k1
          go_wp2
          go_ret
          exact ⟨rfl, hB.out⟩
        · have m1 : more.toList.isEmpty = false := by
            rw [ByteArray.toList_eq]
            cases hl : more.data.toList with
            | nil => exact absurd (by rw [← Oct.size_toList, hl]; rfl) m0
            | cons a l => rfl
          by_cases m2 : (1000 : Int) < more.size
          · replace k1 := Lib.hid k1
            replace m0 := Lib.hid m0
            go_wp2
            go_ret
            exact ⟨rfl, hB.out⟩
          · have hz := enc_size hg
            have hp := enc_size_pos x
            obtain ⟨k, hk, hk2⟩ := Oct.rem_small cut ((enc x).size : Int) (by omega) (by omega)
            have hf1 := fits_cut x hg k1 k (by omega)
            have hf2 := fits_more x hg k1 more m0
            have hD1 := Lib.hid fun w => Decode_calls ((enc x).extract 0 k) w
            have hD2 := Lib.hid fun w => Decode_calls (enc x ++ more) w
            replace hf1 := Lib.hid hf1
            replace hf2 := Lib.hid hf2
            replace k1 := Lib.hid k1
            replace m0 := Lib.hid m0
            generalize enc x = s at *
            clear hg
            go_wp2_with fail
            refine (hD1.out _).mono ?_
            rintro e w5 ⟨hr, b5⟩
            obtain rfl := hr.no hf1.out
            replace hB := Lib.hid (below_next hB.out b5)
            clear b5 hr hD1 hf1 c0
            have hB6 := Lib.hid (below_next hB.out (b_alloc w5 (.cells #[.int .i64 0, .string empty, .slice none 0 0, .string empty, .slice none 0 0, .int .i64 0, .string empty] 25)))
            unfold Ob.zero
            go_wp2_with fail
            generalize w5.alloc (.cells #[.int .i64 0, .string empty, .slice none 0 0, .string empty, .slice none 0 0, .int .i64 0, .string empty] 25) = w6 at *
            refine (hD2.out _).mono ?_
            rintro e w7 ⟨hr, b7⟩
            obtain rfl := hr.no hf2.out
            replace hB := Lib.hid (below_next hB6.out b7)
            clear b7 hr hD2 hf2 hB6
            have hB8 := Lib.hid (below_next hB.out (b_alloc w7 (.cells #[.int .i64 0, .string empty, .slice none 0 0, .string empty, .slice none 0 0, .int .i64 0, .string empty] 25)))
            unfold Ob.zero
            go_wp2
            go_ret
            exact ⟨rfl, hB8.out⟩

theorem own : ownKnob Tryd.prog.godebug = none := by kernel_rfl
theorem laidOut : laidOutB Tryd.prog = true := by kernel_rfl
set_option maxRecDepth 100000 in
theorem lifted (os : Os) (started : os.Started) (H : Type) (enc : TypeId × Value → H) :
    ReturnsInHanded {} Tryd.checked os 8 .any (fun w args => (Rows.objectCutsSpec.pre enc Tryd.prog Tryd.f8 [] false w args ∧ laidMetH Tryd.prog Rows.objectCutsRow.laid w) ∧ sizedMet enc Tryd.prog Tryd.f8 (OpenSpec.ofChange Rows.objectCutsSpec) false w args) (Rows.objectCutsSpec.post enc Tryd.prog Tryd.f8 false true false false) := by
  refine returnsInHanded_of_change_and (C := Tryd.checked) (X := (fun w _ => laidMetH Tryd.prog Rows.objectCutsRow.laid w)) (fun _ _ _ hh h => h.of_heap hh) own started (by kernel_rfl) Tryd.func8
    (ChangeSpec.witness_shaped (enc := enc) (C := Tryd.checked) (os := os) (X := (fun w _ => laidMetH Tryd.prog Rows.objectCutsRow.laid w)) false (World.doorLaid Tryd.prog 14 os) #[.agg #[.int .i64 0, .string ByteArray.empty, .slice none 0 0, .string ByteArray.empty, .slice none 0 0, .int .i64 0, .string ByteArray.empty], .int .i64 0, .string ByteArray.empty] 8 rfl (World.shaped_of_RefB (by kernel_rfl) (by kernel_rfl)) (by kernel_rfl) (by kernel_rfl) (by kernel_rfl) (Sha.door_met os _)) ?_
  intro W base args ds gs before hval0 hW hcnd hsz0 hL _
  have hval : ∀ (j : Nat) t v, Tryd.f8.params[j]? = some t → args[j]? = some v → Value.okWide Tryd.prog W .any base t v := hval0
  have hsz : (DataW.weightsEach Tryd.prog (Tryd.f8.params.toList ++ Rows.objectCutsSpec.plain.varTypes Tryd.prog) (ds ++ gs)).all (· ≤ reachBytes) = true := hsz0
  have hW' := hW
  obtain ⟨p, q, hA0, hV, rfl, hfz, hnd⟩ := hW
  have hA : DataW.TrodAll enc Tryd.prog W 0 (fun _ => true) true Tryd.f8.params.toList args.toList ds p := hA0
  rw [Tryd.params8] at hA hval hsz
  obtain ⟨v0, vs0, d0, ds0, p0, q0, hargs, rfl, rfl, h0, r0⟩ := trodAll_cons hA
  obtain ⟨v1, vs1, d1, ds1, p1, q1, rfl, rfl, rfl, h1, r1⟩ := trodAll_cons r0
  obtain ⟨v2, vs2, d2, ds2, p2, q2, rfl, rfl, rfl, h2, r2⟩ := trodAll_cons r1
  obtain ⟨rfl, rfl, rfl⟩ := trodAll_nil r2
  obtain rfl : args = #[v0, v1, v2] := by cases args; simp_all
  obtain ⟨rfl, rfl⟩ := trodVars_none hV
  have k0 := h0
  have lt0 : ∀ x ∈ p0, x.block < W.heap.size := by obtain ⟨m, hm⟩ := k0; exact DataW.trod_lt m _ _ _ hm
  have ok0 := hval 0 25 v0 rfl rfl
  have k1 := h1
  have lt1 : ∀ x ∈ p1, x.block < W.heap.size := by obtain ⟨m, hm⟩ := k1; exact DataW.trod_lt m _ _ _ hm
  have ok1 := hval 1 3 v1 rfl rfl
  have k2 := h2
  have lt2 : ∀ x ∈ p2, x.block < W.heap.size := by obtain ⟨m, hm⟩ := k2; exact DataW.trod_lt m _ _ _ hm
  have ok2 := hval 2 9 v2 rfl rfl
  clear hA0 hval0 hsz0
  obtain ⟨x, ea, ec, pa, pc, rfl, hO, _, _⟩ := open_obj ok0 h0
  obtain ⟨cut, rfl, rfl, rfl, w1⟩ := open_int Tryd.underlying3 ok1 h1
  obtain ⟨more, rfl, rfl, rfl, w2⟩ := open_string Tryd.underlying9 ok2 h2
  refine (walk x ea ec pa pc cut more W hO (Sha.kc_of_laid hL)).mono fun e W' ⟨he, bel⟩ => ?_
  subst he
  exact ⟨_, rfl, _, _, _, [], _, [], hW', trodAll_mk1 (shut_bool Tryd.underlying4 _), (trodAll_cons_mk (Below.trod laidOut (by kernel_rfl) (of_decide_eq_true (by kernel_rfl)) k0 bel lt0) (trodAll_cons_mk (Below.trod laidOut (by kernel_rfl) (of_decide_eq_true (by kernel_rfl)) k1 bel lt1) (trodAll_cons_mk (Below.trod laidOut (by kernel_rfl) (of_decide_eq_true (by kernel_rfl)) k2 bel lt2) trodAll_mk0))), rfl, bel.frame _, fun h => by cases h⟩

/-- the row -/
theorem row_proved : Rows.ObjectCutsSaid :=
  OpenClaim.holds_of_wide 8 Tryd.f8 rfl rfl rfl rfl rfl rfl rfl ⟨rfl, rfl, rfl, rfl, rfl⟩ rfl rfl rfl rfl rfl (by kernel_rfl) Tryd.func8 (by kernel_rfl)
    (of_decide_eq_true (by kernel_rfl)) (by unfold Func.isWrapper; first | (rw [if_pos (by decide +kernel)]; kernel_rfl) | (rw [if_neg (by decide +kernel)]; exact ⟨rfl, rfl⟩))
    (fun os started H enc _ => lifted os started H enc)
/-- the statement: the tied card -/
theorem proved : Rows.ObjectCutsCardSaid :=
  Claim7.holds_tied_plain_at .later [] Rows.objectCutsCard.laidKinds true Rows.objectCutsCard.stood.harness Rows.objectCutsCard.stood.looks row_proved (fun _ h => by cases h) (by kernel_rfl) (fun _ h => by cases h) objectCuts_row_tie rfl ⟨rfl, rfl⟩ (by kernel_rfl) rfl
    (fun f fn hf hfn => by
      obtain rfl : f = 8 := Option.some.inj ((show Tryd.prog.funcNamed Rows.objectCutsRow.func = some 8 by kernel_rfl).symm.trans hf) |>.symm
      obtain rfl : fn = Tryd.f8 := (Option.some.inj (Tryd.func8.symm.trans hfn)).symm
      exact ⟨by kernel_rfl, fun j t ht => by
        rw [Tryd.params8] at ht
        have hm : t ∈ [25, 3, 9] := by simpa using Array.mem_of_getElem? ht
        have hall : ([25, 3, 9].all fun u => !Tryd.prog.wantsStandIn u) = true := by kernel_rfl
        exact (show Tryd.prog.wantsStandIn t = false by simpa using List.all_eq_true.1 hall t hm)⟩)
    (by kernel_rfl)
end Go.Proofs.YtmbbnabongnojaaDoor.objectCuts
