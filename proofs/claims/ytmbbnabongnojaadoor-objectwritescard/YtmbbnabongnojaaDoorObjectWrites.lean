/-
  Proved: for every object, ObjectWrites returns true and turns nothing of what it was given. Conditions: none beyond the form's own (the constants of the digest are what the program's text lays: the card ties them).
-/
import Derived.Test.YtmbbnabongnojaaDoorRows
import Derived.Test.YtmbbnabongnojaaDoorCards
import Derived.Test.YtmbbnabongnojaaDoorTie
import Derived.Test.YtmbbnabongnojaaDoorOctKit
import Derived.SevenTiedAt
import Derived.Test.YtmbbnabongnojaaDoorObLaid
import Derived.Test.YtmbbnabongnojaaDoorObHave
import Derived.Test.YtmbbnabongnojaaDoorObGreat
import Derived.Test.YtmbbnabongnojaaDoorObOpen
import Derived.Test.YtmbbnabongnojaaDoorObRefA
import Derived.Test.YtmbbnabongnojaaDoorObRefB
import Derived.Test.YtmbbnabongnojaaDoorLkLinks
import Derived.Test.YtmbbnabongnojaaDoorLkRef
import Derived.WalkKit
import Derived.WalkSpells
import Derived.WalkLawsBesides
import Derived.ProofKit
import Derived.OpenShut
import Derived.Laws.BytesArg
import Derived.Deep.QuietTactic
import Derived.BigQuiet
import Derived.BigRegion
import Derived.Lib.Hide
import Derived.LaidMore
import Derived.Stop.Joined
import Derived.MakeChecks
import Derived.Deep.RegionHeld3
namespace Go.Proofs.YtmbbnabongnojaaDoor.objectWrites
open Go Go.ChangeShapes Go.WideShapes Go.ChangeAt Go.RowKit Ob Lk
open Oct (empty)
open Go.ChangeMaps (open_string)

theorem wrote_two (x : Ob.Obj) : ∃ (s : ByteArray) (c : Int), wrote x = .tuple #[.string s, .int .i64 c] := by
  cases h : good x with
  | true => exact ⟨_, _, wrote_yes h⟩
  | false => exact ⟨_, _, wrote_no' h⟩
theorem up_len : ∀ (D M : List Lnk), D.Pairwise (fun a b => lt a b = true) → (∀ l, l ∈ D → l ∈ M) → D.length ≤ M.length
  | [], _, _, _ => Nat.zero_le _
  | a :: D, M, h, hm => by
    obtain ⟨h1, h2⟩ := List.pairwise_cons.1 h
    have ha : a ∈ M := hm a (by simp)
    have ih := up_len D (M.erase a) h2 fun l hl => (List.mem_erase_of_ne (fun e => by have := h1 l hl; rw [e, lt_irrefl] at this; cases this)).2 (hm l (List.mem_cons_of_mem _ hl))
    rw [List.length_erase_of_mem ha] at ih
    have : 0 < M.length := List.length_pos_of_mem ha
    rw [List.length_cons]
    omega
theorem links_len {x : Ob.Obj} {D : List Lnk} (h : IsLinks (names x) D) : D.length ≤ 100000 := by
  have h1 := up_len D _ h.up fun l hl => (h.mem l).1 hl
  have h2 : (names x).length ≤ 1000 := by
    unfold names
    split
    · rename_i hg; exact (of_len hg).2.2
    · exact Nat.zero_le _
  omega
set_option maxRecDepth 100000 in
set_option maxHeartbeats 4000000 in
theorem walk (x : Ob.Obj) (ea : Option Addr) (ec : Nat) (pa : Option Addr) (pc : Nat) (w : World) (hO : ObAt w x ea ec pa pc) (hl1 : x.ents.length ≤ maxLen) (hl2 : x.pars.length ≤ maxLen) (hk : Sha.Kc w) :
    Calls Tryd.prog 3 #[val x ea ec pa pc] w fun e w' => e = .returned (.bool true) ∧ Below w.heap.size w w' := by
  have hX := Lib.hid (Have.new hO)
  have hB := Lib.hid (b_alloc w (.cells (cellsOf x ea ec pa pc) 25))
  replace hk := Lib.hid (kc_below hk hB.out)
  replace hl1 := Lib.hid hl1
  replace hl2 := Lib.hid hl2
  go_enter Tryd.func3, Tryd.ntmps3
  go_wp2_with fail
  generalize w.alloc (.cells (cellsOf x ea ec pa pc) 25) = w1 at *
  refine (awake_calls w1 hk.out).mono ?_
  rintro e w2 ⟨rfl, b2⟩
  replace hX := Lib.hid (hX.out.next b2)
  replace hB := Lib.hid (below_next hB.out b2)
  clear b2 hk
  obtain ⟨c0, c1, c2, c3, c4, c5, c6⟩ := hX.out.cells
  go_wp2_with fail
  refine (great_calls x ea ec pa pc w2 hX.out.at_).mono ?_
  rintro e w3 ⟨⟨g, rfl⟩, b3⟩
  replace hX := Lib.hid (hX.out.next b3)
  replace hB := Lib.hid (below_next hB.out b3)
  clear b3 c0 c1 c2 c3 c4 c5 c6
  cases g with
  | true =>
    go_wp2
    go_ret
    exact ⟨rfl, hB.out⟩
  | false =>
    obtain ⟨c0, c1, c2, c3, c4, c5, c6⟩ := hX.out.cells
    obtain ⟨s, cd, hw⟩ := wrote_two x
    have hE := Lib.hid (Encode_calls x ea ec pa pc w3 hX.out.at_)
    have hR := Lib.hid fun w h => REncode_calls x ea ec pa pc w h hl1.out hl2.out
    rw [hw] at hE hR
    clear hw
    go_wp2_with fail
    refine hE.out.mono ?_
    rintro e w4 ⟨rfl, b4⟩
    replace hX := Lib.hid (hX.out.next b4)
    replace hB := Lib.hid (below_next hB.out b4)
    clear b4 c0 c1 c2 c3 c4 c5 c6 hE
    obtain ⟨c0, c1, c2, c3, c4, c5, c6⟩ := hX.out.cells
    go_wp2_with fail
    refine (hR.out w4 hX.out.at_).mono ?_
    rintro e w5 ⟨rfl, b5⟩
    replace hX := Lib.hid (hX.out.next b5)
    replace hB := Lib.hid (below_next hB.out b5)
    clear b5 c0 c1 c2 c3 c4 c5 c6 hR
    obtain ⟨gd, hgd⟩ : ∃ gd, gd = good x := ⟨_, rfl⟩
    replace hgd := Lib.hid hgd
    have bc : Below w5.heap.size w5 w5.drew := ⟨rfl, rfl, rfl, Nat.le_refl _, fun _ _ => rfl⟩
    have hkeep : Hid (∀ w', Below w5.heap.size w5 w' → ((w'.cell? ⟨w.heap.size, 0, none⟩ = some (.int .i64 x.kind) ∧ w'.cell? ⟨w.heap.size, 1, none⟩ = some (.string x.data) ∧ w'.cell? ⟨w.heap.size, 2, none⟩ = some (.slice ea x.ents.length ec) ∧ w'.cell? ⟨w.heap.size, 3, none⟩ = some (.string x.tree) ∧ w'.cell? ⟨w.heap.size, 4, none⟩ = some (.slice pa x.pars.length pc) ∧ w'.cell? ⟨w.heap.size, 5, none⟩ = some (.int .i64 x.height) ∧ w'.cell? ⟨w.heap.size, 6, none⟩ = some (.string x.note)))) := Lib.hid fun w' h => (hX.out.next h).cells
    have hat : Hid (∀ w', Below w5.heap.size w5 w' → ObAt w' x ea ec pa pc) := Lib.hid fun w' h => (hX.out.next h).at_
    have hk0 := hkeep.out _ bc
    go_upto_region 7 with (fail)
    go_region_held3 (fun w' => (w'.cell? ⟨w.heap.size, 0, none⟩ = some (.int .i64 x.kind) ∧ w'.cell? ⟨w.heap.size, 1, none⟩ = some (.string x.data) ∧ w'.cell? ⟨w.heap.size, 2, none⟩ = some (.slice ea x.ents.length ec) ∧ w'.cell? ⟨w.heap.size, 3, none⟩ = some (.string x.tree) ∧ w'.cell? ⟨w.heap.size, 4, none⟩ = some (.slice pa x.pars.length pc) ∧ w'.cell? ⟨w.heap.size, 5, none⟩ = some (.int .i64 x.height) ∧ w'.cell? ⟨w.heap.size, 6, none⟩ = some (.string x.note)))
      (exact hkeep.out _ bc)
      (first
        | (go_at_call 14; refine (Good_calls x ea ec pa pc _ (hat.out _ bc)).mono ?_; rw [← hgd.out]; rintro e w6 ⟨rfl, bb⟩; replace bc := below_next bc bb; clear bb)
        | (go_at_call 15; refine (RGood_calls x ea ec pa pc _ (hat.out _ bc) hl1.out hl2.out).mono ?_; rw [← hgd.out]; rintro e w7 ⟨rfl, bb⟩; replace bc := below_next bc bb; clear bb)
        | (go_at_call 17; refine (Links_calls x ea ec pa pc _ (hat.out _ bc)).mono ?_; first | (have _ := hKr; rintro e w8 ⟨⟨D, a, cp, b, off, rfl, hKp, hIp⟩, bb⟩; replace hKr := hKr.below bb; replace bc := below_next bc bb; clear bb) | (rintro e w8 ⟨⟨D, a, cp, b, off, rfl, hKp, hIp⟩, bb⟩; replace bc := below_next bc bb; clear bb))
        | (go_at_call 18; refine (RLinks_calls x ea ec pa pc _ (hat.out _ bc) hl1.out hl2.out).mono ?_; first | (have _ := hKp; rintro e w9 ⟨⟨E, a', cp', b', off', rfl, hKr, hIr⟩, bb⟩; replace hKp := hKp.below bb; replace bc := below_next bc bb; clear bb) | (rintro e w9 ⟨⟨E, a', cp', b', off', rfl, hKr, hIr⟩, bb⟩; replace bc := below_next bc bb; clear bb))
        | (go_at_call 16; (obtain rfl := IsLinks.unique hIp hIr); refine (same_calls D a a' cp cp' b b' off off' _ hKp hKr (links_len hIp)).mono ?_; rintro e w10 ⟨rfl, bb⟩; replace bc := below_next bc bb; clear bb))
    all_goals
      go_wp2
      go_ret
      exact ⟨rfl, below_next hB.out bc⟩

theorem own : ownKnob Tryd.prog.godebug = none := by kernel_rfl
theorem laidOut : laidOutB Tryd.prog = true := by kernel_rfl
set_option maxRecDepth 100000 in
theorem lifted (os : Os) (started : os.Started) (H : Type) (enc : TypeId × Value → H) :
    ReturnsInHanded {} Tryd.checked os 3 .any (fun w args => (Rows.objectWritesSpec.pre enc Tryd.prog Tryd.f3 [] false w args ∧ laidMetH Tryd.prog Rows.objectWritesRow.laid w) ∧ sizedMet enc Tryd.prog Tryd.f3 (OpenSpec.ofChange Rows.objectWritesSpec) false w args) (Rows.objectWritesSpec.post enc Tryd.prog Tryd.f3 false true false false) := by
  refine returnsInHanded_of_change_and (C := Tryd.checked) (X := (fun w _ => laidMetH Tryd.prog Rows.objectWritesRow.laid w)) (fun _ _ _ hh h => h.of_heap hh) own started (by kernel_rfl) Tryd.func3
    (ChangeSpec.witness_shaped (enc := enc) (C := Tryd.checked) (os := os) (X := (fun w _ => laidMetH Tryd.prog Rows.objectWritesRow.laid w)) false (World.doorLaid Tryd.prog 14 os) #[.agg #[.int .i64 0, .string ByteArray.empty, .slice none 0 0, .string ByteArray.empty, .slice none 0 0, .int .i64 0, .string ByteArray.empty]] 8 rfl (World.shaped_of_RefB (by kernel_rfl) (by kernel_rfl)) (by kernel_rfl) (by kernel_rfl) (by kernel_rfl) (Sha.door_met os _)) ?_
  intro W base args ds gs before hval0 hW hcnd hsz0 hL _
  have hval : ∀ (j : Nat) t v, Tryd.f3.params[j]? = some t → args[j]? = some v → Value.okWide Tryd.prog W .any base t v := hval0
  have hsz : (DataW.weightsEach Tryd.prog (Tryd.f3.params.toList ++ Rows.objectWritesSpec.plain.varTypes Tryd.prog) (ds ++ gs)).all (· ≤ reachBytes) = true := hsz0
  have hW' := hW
  obtain ⟨p, q, hA0, hV, rfl, hfz, hnd⟩ := hW
  have hA : DataW.TrodAll enc Tryd.prog W 0 (fun _ => true) true Tryd.f3.params.toList args.toList ds p := hA0
  rw [Tryd.params3] at hA hval hsz
  obtain ⟨v0, vs0, d0, ds0, p0, q0, hargs, rfl, rfl, h0, r0⟩ := trodAll_cons hA
  obtain ⟨rfl, rfl, rfl⟩ := trodAll_nil r0
  obtain rfl : args = #[v0] := by cases args; simp_all
  obtain ⟨rfl, rfl⟩ := trodVars_none hV
  have k0 := h0
  have lt0 : ∀ x ∈ p0, x.block < W.heap.size := by obtain ⟨m, hm⟩ := k0; exact DataW.trod_lt m _ _ _ hm
  have ok0 := hval 0 25 v0 rfl rfl
  clear hA0 hval0 hsz0
  obtain ⟨x, ea, ec, pa, pc, rfl, hO, hl1, hl2⟩ := open_obj ok0 h0
  refine (walk x ea ec pa pc W hO hl1 hl2 (Sha.kc_of_laid hL)).mono fun e W' ⟨he, bel⟩ => ?_
  subst he
  exact ⟨_, rfl, _, _, _, [], _, [], hW', trodAll_mk1 (shut_bool Tryd.underlying4 _), (trodAll_cons_mk (Below.trod laidOut (by kernel_rfl) (of_decide_eq_true (by kernel_rfl)) k0 bel lt0) trodAll_mk0), rfl, bel.frame _, fun h => by cases h⟩

/-- the row -/
theorem row_proved : Rows.ObjectWritesSaid :=
  OpenClaim.holds_of_wide 3 Tryd.f3 rfl rfl rfl rfl rfl rfl rfl ⟨rfl, rfl, rfl, rfl, rfl⟩ rfl rfl rfl rfl rfl (by kernel_rfl) Tryd.func3 (by kernel_rfl)
    (of_decide_eq_true (by kernel_rfl)) (by unfold Func.isWrapper; first | (rw [if_pos (by decide +kernel)]; kernel_rfl) | (rw [if_neg (by decide +kernel)]; exact ⟨rfl, rfl⟩))
    (fun os started H enc _ => lifted os started H enc)
/-- the statement: the tied card -/
theorem proved : Rows.ObjectWritesCardSaid :=
  Claim7.holds_tied_plain_at .later [] Rows.objectWritesCard.laidKinds true Rows.objectWritesCard.stood.harness Rows.objectWritesCard.stood.looks row_proved (fun _ h => by cases h) (by kernel_rfl) (fun _ h => by cases h) objectWrites_row_tie rfl ⟨rfl, rfl⟩ (by kernel_rfl) rfl
    (fun f fn hf hfn => by
      obtain rfl : f = 3 := Option.some.inj ((show Tryd.prog.funcNamed Rows.objectWritesRow.func = some 3 by kernel_rfl).symm.trans hf) |>.symm
      obtain rfl : fn = Tryd.f3 := (Option.some.inj (Tryd.func3.symm.trans hfn)).symm
      exact ⟨by kernel_rfl, fun j t ht => by
        rw [Tryd.params3] at ht
        have hm : t ∈ [25] := by simpa using Array.mem_of_getElem? ht
        have hall : ([25].all fun u => !Tryd.prog.wantsStandIn u) = true := by kernel_rfl
        exact (show Tryd.prog.wantsStandIn t = false by simpa using List.all_eq_true.1 hall t hm)⟩)
    (by kernel_rfl)
end Go.Proofs.YtmbbnabongnojaaDoor.objectWrites
