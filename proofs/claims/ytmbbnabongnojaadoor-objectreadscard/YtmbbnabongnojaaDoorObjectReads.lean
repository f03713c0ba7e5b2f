/-
  Proved: for every text, ObjectReads returns true and turns nothing of what it was given. Conditions: none beyond the form's own (the constants of the digest are what the program's text lays: the card ties them).
-/
import Derived.Test.YtmbbnabongnojaaDoorRows
import Derived.Test.YtmbbnabongnojaaDoorCards
import Derived.Test.YtmbbnabongnojaaDoorTie
import Derived.Test.YtmbbnabongnojaaDoorOctKit
import Derived.SevenTiedAt
import Derived.Test.YtmbbnabongnojaaDoorObLaid
import Derived.Test.YtmbbnabongnojaaDoorObHave
import Derived.Test.YtmbbnabongnojaaDoorObSame
import Derived.Test.YtmbbnabongnojaaDoorObRefE
import Derived.Test.YtmbbnabongnojaaDoorShaRefS
import Derived.WalkKit
import Derived.WalkSpells
import Derived.WalkLawsBesides
import Derived.ProofKit
import Derived.OpenShut
import Derived.Laws.BytesArg
import Derived.Deep.QuietTactic
import Derived.BigQuiet
import Derived.BigRegion
import Derived.Lib.Hide
import Derived.LaidMore
import Derived.Stop.Joined
import Derived.MakeChecks
namespace Go.Proofs.YtmbbnabongnojaaDoor.objectReads
open Go Go.ChangeShapes Go.WideShapes Go.ChangeAt Go.RowKit Ob
open Oct (empty)
open Go.ChangeMaps (open_string)

/-- what both Decodes answer -/
def got (s : ByteArray) : Ob.Obj := if fits s = true then (dec s).1 else Ob.zero
def code (s : ByteArray) : Int := if fits s = true then 0 else 4
theorem reads_got {s : ByteArray} {e : Ending} {w' : World} (h : Reads s e w') : ∃ za zc ya yc, e = .returned (.tuple #[val (got s) za zc ya yc, .int .i64 (code s)]) ∧ ObAt w' (got s) za zc ya yc := by
  unfold got code
  cases hf : fits s with
  | true =>
    obtain ⟨za, zc, ya, yc, h1, h2⟩ := h.yes hf
    exact ⟨za, zc, ya, yc, by rw [if_pos rfl, if_pos rfl]; exact h1, by rw [if_pos rfl]; exact h2⟩
  | false => exact ⟨none, 0, none, 0, by rw [if_neg (by decide), if_neg (by decide)]; exact h.no hf, by rw [if_neg (by decide)]; exact ObAt.zero _⟩
theorem bare_lens {x : Ob.Obj} (h : good x = true) : (bare x).ents.length ≤ maxLen ∧ (bare x).pars.length ≤ maxLen := by
  have hk := good_kind h
  unfold good at h
  unfold maxLen bare
  by_cases k1 : x.kind = 1
  · rw [if_pos k1]; exact ⟨Nat.zero_le _, Nat.zero_le _⟩
  · rw [if_neg k1] at h ⊢
    by_cases k2 : x.kind = 2
    · rw [if_pos k2, Bool.and_eq_true, decide_eq_true_eq] at h
      rw [if_pos k2]
      exact ⟨by show x.ents.length ≤ _; omega, Nat.zero_le _⟩
    · rw [if_neg k2, if_pos (by omega)] at h
      rw [if_neg k2]
      have := (goodCommit_iff.1 h).2.1
      exact ⟨Nat.zero_le _, by show x.pars.length ≤ _; omega⟩
theorem got_lens (s : ByteArray) : (got s).ents.length ≤ maxLen ∧ (got s).pars.length ≤ maxLen := by
  unfold got
  cases hf : fits s with
  | false => rw [if_neg (by decide)]; exact ⟨Nat.zero_le _, Nat.zero_le _⟩
  | true =>
    rw [if_pos rfl]
    obtain ⟨ez, _⟩ := enc_dec s hf
    have gz := dec_good hf
    have h := dec_enc _ gz
    rw [ez] at h
    have h2 : (dec s).1 = bare (dec s).1 := congrArg Prod.fst h
    rw [h2]
    exact bare_lens gz
theorem RId_calls (s : ByteArray) (w : World) (hn : s.size ≤ 140737488351232) :
    Calls Tryd.prog 23 #[.string s] w fun e w' => e = .returned (.string ⟨(Sha.sum s.data.toList).toArray⟩) ∧ Below w.heap.size w w' := by
  have h := Lib.hid (Sha.RSum_calls s hn w)
  generalize Sha.sum s.data.toList = d at *
  go_enter Tryd.func23, Tryd.ntmps23
  go_wp2_with fail
  refine h.out.mono ?_
  rintro e w' ⟨rfl, b⟩
  replace b := Lib.hid b
  go_wp2
  go_ret
  exact ⟨rfl, b.out⟩
set_option maxRecDepth 100000 in
set_option maxHeartbeats 2000000 in
theorem walk (s : ByteArray) (w : World) (hk : Sha.Kc w) :
    Calls Tryd.prog 4 #[.string s] w fun e w' => e = .returned (.bool true) ∧ Below w.heap.size w w' := by
  replace hk := Lib.hid hk
  go_enter Tryd.func4, Tryd.ntmps4
  go_wp2_with fail
  refine (awake_calls w hk.out).mono ?_
  rintro e w2 ⟨rfl, b2⟩
  have hB := Lib.hid b2
  clear b2
  by_cases hs : (262144 : Int) < s.size
  · go_wp2
    go_ret
    exact ⟨rfl, hB.out⟩
  · have hz : Hid (s.size ≤ 140737488351232) := Lib.hid (by omega)
    obtain ⟨hl1, hl2⟩ := got_lens s
    replace hl1 := Lib.hid hl1
    replace hl2 := Lib.hid hl2
    go_wp2_with fail
    refine (Decode_calls s w2).mono ?_
    rintro e w3 ⟨hr, b3⟩
    replace hB := Lib.hid (below_next hB.out b3)
    obtain ⟨za, zc, ya, yc, rfl, hZ⟩ := reads_got hr
    clear hr b3
    have hX := Lib.hid (Have.new hZ)
    replace hB := Lib.hid (below_next hB.out (b_alloc w3 (.cells (cellsOf (got s) za zc ya yc) 25)))
    clear hZ
    go_wp2_with fail
    generalize w3.alloc (.cells (cellsOf (got s) za zc ya yc) 25) = w4 at *
    refine (RDecode_calls s w4 hz.out).mono ?_
    rintro e w5 ⟨hr, b5⟩
    replace hB := Lib.hid (below_next hB.out b5)
    replace hX := Lib.hid (hX.out.next b5)
    obtain ⟨ta, tc, ua, uc, rfl, hT⟩ := reads_got hr
    clear hr b5
    have hY := Lib.hid (Have.new hT)
    replace hX := Lib.hid (hX.out.next (b_alloc w5 (.cells (cellsOf (got s) ta tc ua uc) 25)))
    replace hB := Lib.hid (below_next hB.out (b_alloc w5 (.cells (cellsOf (got s) ta tc ua uc) 25)))
    clear hT
    have hk6 := Lib.hid (kc_below hk.out hB.out)
    go_upto_region 7 with (fail)
    generalize w5.alloc (.cells (cellsOf (got s) ta tc ua uc) 25) = w6 at *
    obtain ⟨c0, c1, c2, c3, c4, c5, c6⟩ := hX.out.cells
    obtain ⟨d0, d1, d2, d3, d4, d5, d6⟩ := hY.out.cells
    have hS := Lib.hid (Same_calls (got s) (got s) za zc ya yc ta tc ua uc w6 hX.out.at_ hY.out.at_ hl1.out hl2.out)
    generalize got s = z at *
    go_wp2_with fail
    refine hS.out.mono ?_
    rintro e w7 ⟨⟨g, rfl, hg⟩, b7⟩
    obtain rfl : g = true := by simpa using hg
    replace hB := Lib.hid (below_next hB.out b7)
    have hI := Lib.hid (Id_calls s w7 (kc_below hk6.out b7) hz.out)
    have hR := Lib.hid (fun w => RId_calls s w hz.out)
    generalize Sha.sum s.data.toList = d at *
    clear hS hg b7 c0 c1 c2 c3 c4 c5 c6 d0 d1 d2 d3 d4 d5 d6 hX hY
    go_wp2_with fail
    refine hI.out.mono ?_
    rintro e w8 ⟨rfl, b8⟩
    replace hB := Lib.hid (below_next hB.out b8)
    clear hI b8
    go_wp2_with fail
    refine (hR.out _).mono ?_
    rintro e w9 ⟨rfl, b9⟩
    replace hB := Lib.hid (below_next hB.out b9)
    clear hR b9
    go_wp2
    go_ret
    exact ⟨rfl, hB.out⟩

theorem own : ownKnob Tryd.prog.godebug = none := by kernel_rfl
theorem laidOut : laidOutB Tryd.prog = true := by kernel_rfl
set_option maxRecDepth 100000 in
theorem lifted (os : Os) (started : os.Started) (H : Type) (enc : TypeId × Value → H) :
    ReturnsInHanded {} Tryd.checked os 4 .any (fun w args => (Rows.objectReadsSpec.pre enc Tryd.prog Tryd.f4 [] false w args ∧ laidMetH Tryd.prog Rows.objectReadsRow.laid w) ∧ sizedMet enc Tryd.prog Tryd.f4 (OpenSpec.ofChange Rows.objectReadsSpec) false w args) (Rows.objectReadsSpec.post enc Tryd.prog Tryd.f4 false true false false) := by
  refine returnsInHanded_of_change_and (C := Tryd.checked) (X := (fun w _ => laidMetH Tryd.prog Rows.objectReadsRow.laid w)) (fun _ _ _ hh h => h.of_heap hh) own started (by kernel_rfl) Tryd.func4
    (ChangeSpec.witness_shaped (enc := enc) (C := Tryd.checked) (os := os) (X := (fun w _ => laidMetH Tryd.prog Rows.objectReadsRow.laid w)) false (World.doorLaid Tryd.prog 14 os) #[.string ByteArray.empty] 8 rfl (World.shaped_of_RefB (by kernel_rfl) (by kernel_rfl)) (by kernel_rfl) (by kernel_rfl) (by kernel_rfl) (Sha.door_met os _)) ?_
  intro W base args ds gs before hval0 hW hcnd hsz0 hL _
  have hval : ∀ (j : Nat) t v, Tryd.f4.params[j]? = some t → args[j]? = some v → Value.okWide Tryd.prog W .any base t v := hval0
  have hsz : (DataW.weightsEach Tryd.prog (Tryd.f4.params.toList ++ Rows.objectReadsSpec.plain.varTypes Tryd.prog) (ds ++ gs)).all (· ≤ reachBytes) = true := hsz0
  have hW' := hW
  obtain ⟨p, q, hA0, hV, rfl, hfz, hnd⟩ := hW
  have hA : DataW.TrodAll enc Tryd.prog W 0 (fun _ => true) true Tryd.f4.params.toList args.toList ds p := hA0
  rw [Tryd.params4] at hA hval hsz
  obtain ⟨v0, vs0, d0, ds0, p0, q0, hargs, rfl, rfl, h0, r0⟩ := trodAll_cons hA
  obtain ⟨rfl, rfl, rfl⟩ := trodAll_nil r0
  obtain rfl : args = #[v0] := by cases args; simp_all
  obtain ⟨rfl, rfl⟩ := trodVars_none hV
  have k0 := h0
  have lt0 : ∀ x ∈ p0, x.block < W.heap.size := by obtain ⟨m, hm⟩ := k0; exact DataW.trod_lt m _ _ _ hm
  have ok0 := hval 0 9 v0 rfl rfl
  clear hA0 hval0 hsz0
  obtain ⟨s, rfl, rfl, rfl, w0⟩ := open_string Tryd.underlying9 ok0 h0
  refine (walk s W (Sha.kc_of_laid hL)).mono fun e W' ⟨he, bel⟩ => ?_
  subst he
  exact ⟨_, rfl, _, _, _, [], _, [], hW', trodAll_mk1 (shut_bool Tryd.underlying4 _), (trodAll_cons_mk (Below.trod laidOut (by kernel_rfl) (of_decide_eq_true (by kernel_rfl)) k0 bel lt0) trodAll_mk0), rfl, bel.frame _, fun h => by cases h⟩

/-- the row -/
theorem row_proved : Rows.ObjectReadsSaid :=
  OpenClaim.holds_of_wide 4 Tryd.f4 rfl rfl rfl rfl rfl rfl rfl ⟨rfl, rfl, rfl, rfl, rfl⟩ rfl rfl rfl rfl rfl (by kernel_rfl) Tryd.func4 (by kernel_rfl)
    (of_decide_eq_true (by kernel_rfl)) (by unfold Func.isWrapper; first | (rw [if_pos (by decide +kernel)]; kernel_rfl) | (rw [if_neg (by decide +kernel)]; exact ⟨rfl, rfl⟩))
    (fun os started H enc _ => lifted os started H enc)
/-- the statement: the tied card -/
theorem proved : Rows.ObjectReadsCardSaid :=
  Claim7.holds_tied_plain_at .later [] Rows.objectReadsCard.laidKinds true Rows.objectReadsCard.stood.harness Rows.objectReadsCard.stood.looks row_proved (fun _ h => by cases h) (by kernel_rfl) (fun _ h => by cases h) objectReads_row_tie rfl ⟨rfl, rfl⟩ (by kernel_rfl) rfl
    (fun f fn hf hfn => by
      obtain rfl : f = 4 := Option.some.inj ((show Tryd.prog.funcNamed Rows.objectReadsRow.func = some 4 by kernel_rfl).symm.trans hf) |>.symm
      obtain rfl : fn = Tryd.f4 := (Option.some.inj (Tryd.func4.symm.trans hfn)).symm
      exact ⟨by kernel_rfl, fun j t ht => by
        rw [Tryd.params4] at ht
        have hm : t ∈ [9] := by simpa using Array.mem_of_getElem? ht
        have hall : ([9].all fun u => !Tryd.prog.wantsStandIn u) = true := by kernel_rfl
        exact (show Tryd.prog.wantsStandIn t = false by simpa using List.all_eq_true.1 hall t hm)⟩)
    (by kernel_rfl)
end Go.Proofs.YtmbbnabongnojaaDoor.objectReads
