/-
  Proved: for every list of numbers, ObjectRises returns true and turns nothing of what it was given. Conditions: none beyond the form's own (the constants of the digest are what the program's text lays: the card ties them).
-/
import Derived.Test.YtmbbnabongnojaaDoorRows
import Derived.Test.YtmbbnabongnojaaDoorCards
import Derived.Test.YtmbbnabongnojaaDoorTie
import Derived.Test.YtmbbnabongnojaaDoorOctKit
import Derived.SevenTiedAt
import Derived.Test.YtmbbnabongnojaaDoorObLaid
import Derived.WalkKit
import Derived.WalkSpells
import Derived.WalkLawsBesides
import Derived.ProofKit
import Derived.OpenShut
import Derived.Laws.BytesArg
import Derived.Deep.QuietTactic
import Derived.BigQuiet
import Derived.BigRegion
import Derived.Lib.Hide
import Derived.LaidMore
import Derived.Stop.Joined
import Derived.MakeChecks
namespace Go.Proofs.YtmbbnabongnojaaDoor.objectRises
open Go Go.ChangeShapes Go.WideShapes Go.ChangeAt Go.RowKit Ob
open Oct (IntsAt)

theorem ints_below {w w' : World} {a : Option Addr} {b off len : Nat} {N : Nat → Int} (h : IntsAt .i64 w a b off len N) (t : Below w.heap.size w w') : IntsAt .i64 w' a b off len N :=
  ⟨h.addr, fun i hi => (t.cell (Oct.lt_of_cell (h.cell i hi))).trans (h.cell i hi), h.wf⟩
theorem hgt_small {N : Nat → Int} {len : Nat} (h0 : 0 < len) (hs : ∀ i, i < len → 0 ≤ N i ∧ N i ≤ 1073741824) : (∀ i, i < len → N i < hgt N len) ∧ ∃ i, i < len ∧ hgt N len = N i + 1 := by
  obtain ⟨i, hi, e⟩ := top_in N (len - 1)
  have := hs i (by omega)
  have ht : hgt N len = top N (len - 1) + 1 := by
    unfold hgt
    rw [if_neg (by omega), IntWalk.wrap64_in _ ⟨by omega, by omega⟩]
  rw [ht]
  exact ⟨fun j hj => by have := top_ge N (len - 1) j (by omega); omega, i, by omega, by omega⟩
/-- whether a parent so far stands right below -/
def Hit (N : Nat → Int) (h : Int) (k : Nat) (by_ : Bool) : Prop := by_ = true ↔ ∃ i, i < k ∧ h = N i + 1
theorem Hit.next {N : Nat → Int} {h : Int} {k : Nat} {x : Bool} (g : Hit N h k x) : Hit N h (k + 1) (x || (h == N k + 1)) := by
  unfold Hit at *
  rw [Bool.or_eq_true, g, beq_iff_eq]
  constructor
  · rintro (⟨i, hi, e⟩ | e)
    · exact ⟨i, by omega, e⟩
    · exact ⟨k, by omega, e⟩
  · rintro ⟨i, hi, e⟩
    by_cases ei : i = k
    · subst ei; exact Or.inr e
    · exact Or.inl ⟨i, by omega, e⟩
set_option maxRecDepth 100000 in
set_option maxHeartbeats 1000000 in
theorem walk (a : Option Addr) (len cap b off : Nat) (N : Nat → Int) (w : World) (hT : IntsAt .i64 w a b off len N) (hl : len ≤ 140737488351232) (hk : Sha.Kc w) :
    Calls Tryd.prog 9 #[.slice a len cap] w fun e w' => e = .returned (.bool true) ∧ Below w.heap.size w w' := by
  replace hT := Lib.hid hT
  go_enter Tryd.func9, Tryd.ntmps9
  go_wp2_with fail
  refine (awake_calls w hk).mono ?_
  rintro e w1 ⟨rfl, b1⟩
  replace hT := Lib.hid (ints_below hT.out b1)
  replace b1 := Lib.hid b1
  have hH := Lib.hid (Height_calls a len cap b off N w1 hT.out hl)
  clear hk
  by_cases h0 : len = 0
  · subst h0
    rw [show hgt N 0 = 0 from rfl] at hH
    go_wp2_with fail
    refine hH.out.mono ?_
    rintro e w2 ⟨rfl, rfl⟩
    go_wp2
    go_ret
    exact ⟨rfl, b1.out⟩
  · have hsm := Lib.hid (hgt_small (N := N) (len := len) (by omega))
    have e0 : ((len : Int) == 0) = false := by simp only [beq_eq_false_iff_ne]; omega
    obtain rfl := hT.out.addr (by omega)
    generalize hgt N len = h at *
    go_wp2_with fail
    refine hH.out.mono ?_
    rintro e w2 ⟨rfl, rfl⟩
    clear hH
    go_wp2
    go_loopw [4, 5] (fun y i wr => ∃ (k : Nat) (x : Bool), k ≤ len ∧ i = .int .i64 k ∧ y = .bool x ∧ Hid (Hit N h k x) ∧ Hid (∀ j, j < k → 0 ≤ N j ∧ N j ≤ 1073741824) ∧ w1 = wr) (fun _ i _ => len - (intOf i).toNat)
    case atStart => exact ⟨0, false, by omega, rfl, rfl, Lib.hid (by unfold Hit; constructor <;> intro h; cases h; obtain ⟨i, hi, _⟩ := h; omega), Lib.hid fun j hj => by omega, rfl⟩
    case round =>
      obtain ⟨k, x, hk, rfl, rfl, hx, hs, rfl⟩ := hrel
      by_cases hlt : k < len
      · have i1 : (k : Int) < len := by omega
        have i0 : 0 ≤ (k : Int) := by omega
        have c0 := hT.out.cell k hlt
        have hnx := Lib.hid hx.out.next
        have hall := Lib.hid (fun (g : 0 ≤ N k ∧ N k ≤ 1073741824) (j : Nat) (hj : j < k + 1) => show 0 ≤ N j ∧ N j ≤ 1073741824 from if e : j = k then by subst e; exact g else hs.out j (by omega))
        generalize N k = z at *
        by_cases z0 : z < 0
        · clear hnx hall
          go_wp2
          go_ret
          exact ⟨rfl, b1.out⟩
        · by_cases z1 : 1073741824 < z
          · clear hnx hall
            go_wp2
            go_ret
            exact ⟨rfl, b1.out⟩
          · have hw : wrap64 (z + 1) = z + 1 := IntWalk.wrap64_in _ ⟨by omega, by omega⟩
            replace hall := Lib.hid (hall.out ⟨by omega, by omega⟩)
            cases x with
            | true =>
              go_wp2
              exact ⟨⟨k + 1, true, by omega, by go_num, rfl, Lib.hid (by have := hnx.out; rw [Bool.true_or] at this; exact this), hall, by first | rfl | trivial⟩, by simp [intOf]; omega⟩
            | false =>
              rw [Bool.false_or] at hnx
              by_cases ez : h = z + 1
              · have ez' : (h == z + 1) = true := by simpa using ez
                rw [ez'] at hnx
                replace ez := Lib.hid ez
                go_wp2
                exact ⟨⟨k + 1, _, by omega, by go_num, rfl, by first | exact hnx | (simp only [ez', hw]; exact hnx), hall, by first | rfl | trivial⟩, by simp [intOf]; omega⟩
              · have ez' : (h == z + 1) = false := by simpa using ez
                rw [ez'] at hnx
                replace ez := Lib.hid ez
                go_wp2
                exact ⟨⟨k + 1, _, by omega, by go_num, rfl, by first | exact hnx | (simp only [ez', hw]; exact hnx), hall, by first | rfl | trivial⟩, by simp [intOf]; omega⟩
      · have d0 : decide ((k : Int) < len) = false := decide_eq_false (by omega)
        have d1 : (len : Int) ≤ k := by omega
        obtain rfl : k = len := by omega
        obtain ⟨s1, s2⟩ := hsm.out hs.out
        obtain rfl : x = true := hx.out.2 s2
        replace s1 := Lib.hid s1
        clear hx hs hsm s2
        go_wp2
        go_loopw [6] (fun i wr => ∃ j : Nat, j ≤ k ∧ i = .int .i64 j ∧ w1 = wr) (fun i _ => k - (intOf i).toNat)
        case atStart => exact ⟨0, by omega, rfl, rfl⟩
        case round =>
          obtain ⟨j, hj, rfl, rfl⟩ := hrel
          by_cases hlt2 : j < k
          · have i1 : (j : Int) < k := by omega
            have i0 : 0 ≤ (j : Int) := by omega
            have c0 := hT.out.cell j hlt2
            have hjs := s1.out j hlt2
            have hjs' : ¬ h ≤ N j := by omega
            go_wp2
            exact ⟨⟨j + 1, by omega, by go_num, by first | rfl | trivial⟩, by simp [intOf]; omega⟩
          · have d2 : decide ((j : Int) < k) = false := decide_eq_false (by omega)
            have d3 : (k : Int) ≤ j := by omega
            go_wp2
            go_ret
            exact ⟨rfl, b1.out⟩

theorem own : ownKnob Tryd.prog.godebug = none := by kernel_rfl
theorem laidOut : laidOutB Tryd.prog = true := by kernel_rfl
set_option maxRecDepth 100000 in
theorem lifted (os : Os) (started : os.Started) (H : Type) (enc : TypeId × Value → H) :
    ReturnsInHanded {} Tryd.checked os 9 .any (fun w args => (Rows.objectRisesSpec.pre enc Tryd.prog Tryd.f9 [] false w args ∧ laidMetH Tryd.prog Rows.objectRisesRow.laid w) ∧ sizedMet enc Tryd.prog Tryd.f9 (OpenSpec.ofChange Rows.objectRisesSpec) false w args) (Rows.objectRisesSpec.post enc Tryd.prog Tryd.f9 false true false false) := by
  refine returnsInHanded_of_change_and (C := Tryd.checked) (X := (fun w _ => laidMetH Tryd.prog Rows.objectRisesRow.laid w)) (fun _ _ _ hh h => h.of_heap hh) own started (by kernel_rfl) Tryd.func9
    (ChangeSpec.witness_shaped (enc := enc) (C := Tryd.checked) (os := os) (X := (fun w _ => laidMetH Tryd.prog Rows.objectRisesRow.laid w)) false (World.doorLaid Tryd.prog 14 os) #[.slice none 0 0] 8 rfl (World.shaped_of_RefB (by kernel_rfl) (by kernel_rfl)) (by kernel_rfl) (by kernel_rfl) (by kernel_rfl) (Sha.door_met os _)) ?_
  intro W base args ds gs before hval0 hW hcnd hsz0 hL _
  have hval : ∀ (j : Nat) t v, Tryd.f9.params[j]? = some t → args[j]? = some v → Value.okWide Tryd.prog W .any base t v := hval0
  have hsz : (DataW.weightsEach Tryd.prog (Tryd.f9.params.toList ++ Rows.objectRisesSpec.plain.varTypes Tryd.prog) (ds ++ gs)).all (· ≤ reachBytes) = true := hsz0
  have hW' := hW
  obtain ⟨p, q, hA0, hV, rfl, hfz, hnd⟩ := hW
  have hA : DataW.TrodAll enc Tryd.prog W 0 (fun _ => true) true Tryd.f9.params.toList args.toList ds p := hA0
  rw [Tryd.params9] at hA hval hsz
  obtain ⟨v0, vs0, d0, ds0, p0, q0, hargs, rfl, rfl, h0, r0⟩ := trodAll_cons hA
  obtain ⟨rfl, rfl, rfl⟩ := trodAll_nil r0
  obtain rfl : args = #[v0] := by cases args; simp_all
  obtain ⟨rfl, rfl⟩ := trodVars_none hV
  have k0 := h0
  have lt0 : ∀ x ∈ p0, x.block < W.heap.size := by obtain ⟨m, hm⟩ := k0; exact DataW.trod_lt m _ _ _ hm
  have ok0 := hval 0 39 v0 rfl rfl
  clear hA0 hval0 hsz0
  obtain ⟨a0, len, cap, b, off, N, rfl, hN, hl⟩ := Oct.open_nums Tryd.underlying39 Tryd.underlying3 (by kernel_rfl) (of_decide_eq_true (by kernel_rfl)) ok0 h0 (Oct.arg_weights hsz (j := 0) rfl rfl)
  refine (walk a0 len cap b off N W hN hl (Sha.kc_of_laid hL)).mono fun e W' ⟨he, bel⟩ => ?_
  subst he
  exact ⟨_, rfl, _, _, _, [], _, [], hW', trodAll_mk1 (shut_bool Tryd.underlying4 _), (trodAll_cons_mk (Below.trod laidOut (by kernel_rfl) (of_decide_eq_true (by kernel_rfl)) k0 bel lt0) trodAll_mk0), rfl, bel.frame _, fun h => by cases h⟩

/-- the row -/
theorem row_proved : Rows.ObjectRisesSaid :=
  OpenClaim.holds_of_wide 9 Tryd.f9 rfl rfl rfl rfl rfl rfl rfl ⟨rfl, rfl, rfl, rfl, rfl⟩ rfl rfl rfl rfl rfl (by kernel_rfl) Tryd.func9 (by kernel_rfl)
    (of_decide_eq_true (by kernel_rfl)) (by unfold Func.isWrapper; first | (rw [if_pos (by decide +kernel)]; kernel_rfl) | (rw [if_neg (by decide +kernel)]; exact ⟨rfl, rfl⟩))
    (fun os started H enc _ => lifted os started H enc)
/-- the statement: the tied card -/
theorem proved : Rows.ObjectRisesCardSaid :=
  Claim7.holds_tied_plain_at .later [] Rows.objectRisesCard.laidKinds true Rows.objectRisesCard.stood.harness Rows.objectRisesCard.stood.looks row_proved (fun _ h => by cases h) (by kernel_rfl) (fun _ h => by cases h) objectRises_row_tie rfl ⟨rfl, rfl⟩ (by kernel_rfl) rfl
    (fun f fn hf hfn => by
      obtain rfl : f = 9 := Option.some.inj ((show Tryd.prog.funcNamed Rows.objectRisesRow.func = some 9 by kernel_rfl).symm.trans hf) |>.symm
      obtain rfl : fn = Tryd.f9 := (Option.some.inj (Tryd.func9.symm.trans hfn)).symm
      exact ⟨by kernel_rfl, fun j t ht => by
        rw [Tryd.params9] at ht
        have hm : t ∈ [39] := by simpa using Array.mem_of_getElem? ht
        have hall : ([39].all fun u => !Tryd.prog.wantsStandIn u) = true := by kernel_rfl
        exact (show Tryd.prog.wantsStandIn t = false by simpa using List.all_eq_true.1 hall t hm)⟩)
    (by kernel_rfl)
end Go.Proofs.YtmbbnabongnojaaDoor.objectRises
