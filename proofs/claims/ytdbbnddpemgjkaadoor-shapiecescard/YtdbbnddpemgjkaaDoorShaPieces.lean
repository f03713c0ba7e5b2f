/-
  Proved: for every list of pieces, ShaPieces returns true and turns nothing of what it was given. Conditions: none beyond the form's own (the constants are what the program's text lays: the card ties them).
-/
import Derived.Test.YtdbbnddpemgjkaaDoorRows
import Derived.Test.YtdbbnddpemgjkaaDoorCards
import Derived.Test.YtdbbnddpemgjkaaDoorTie
import Derived.Test.YtdbbnddpemgjkaaDoorOctKit
import Derived.SevenTiedAt
import Derived.Test.YtdbbnddpemgjkaaDoorShaLaid
import Derived.WalkKit
import Derived.WalkSpells
import Derived.WalkLawsBesides
import Derived.ProofKit
import Derived.OpenShut
import Derived.Laws.BytesArg
import Derived.Deep.QuietTactic
import Derived.BigQuiet
import Derived.BigRegion
import Derived.Lib.Hide
import Derived.Lib.ConvBytes
import Derived.Laws.IdiomStrings
import Derived.LaidMore
import Derived.Stop.Joined
import Derived.MakeChecks
import Derived.Lib.Builder
import Derived.Lib.UnsafeStr
import Derived.Lib.AppendStr
import Derived.Laws.Externs
import Derived.Deep.OwnRows
import Derived.Lib.SlBuf
import Derived.Lib.LazyBuf
import Derived.Deep.Cut
import Derived.Deep.MidRow
import Derived.IntWalk
import Derived.StillTailTactics
namespace Go.Proofs.YtdbbnddpemgjkaaDoor.shaPieces
open Go Go.ChangeShapes Go.WideShapes Go.ChangeAt Go.RowKit Sha
open Oct (TextsAt)

theorem append_toList (s t : ByteArray) : (s ++ t).data.toList = s.data.toList ++ t.data.toList := by simp
attribute [local irreducible] sum
set_option maxRecDepth 100000 in
set_option maxHeartbeats 1000000 in
theorem walk (a : Option Addr) (len cap pb po : Nat) (T : Nat → ByteArray) (w : World) (hT : TextsAt w a pb po len T) (hlen : len ≤ 140737488351232) (hk : Kc w) :
    Calls Tryd.prog 4 #[.slice a len cap] w fun e w' => e = .returned (.bool true) ∧ Below w.heap.size w w' := by
  have hpos := hk.pos
  replace hk := Lib.hid hk
  replace hT := Lib.hid hT
  go_enter Tryd.func4, Tryd.ntmps4
  go_wp2_with fail
  refine (awake_calls w hk.out).mono ?_
  rintro e w1 ⟨rfl, b1⟩
  have k1 := Lib.hid (hk.out.turned (Turned.of_below (b := w.heap.size) b1) hpos)
  go_wp2_with fail
  refine (New_calls w1).mono ?_
  rintro e w2 ⟨rfl, hH, b2⟩
  have hA := Ad.new hH
  have k2 := Lib.hid (k1.out.turned (Turned.of_below (b := w1.heap.size) b2) k1.out.pos)
  have hlt2 := hA.lt
  replace b2 := b1.trans (b2.mono b1.size)
  have hb : w.heap.size ≤ w1.heap.size + 1 := by have := b1.size; omega
  clear hH b1
  generalize w1.heap.size + 1 = b at *
  go_wp2_with fail
  refine (End_calls b [] w2 k2.out hA (by simp)).mono ?_
  rintro e w3 ⟨rfl, b3⟩
  have k3 := Lib.hid (k2.out.turned (Turned.of_below (b := w2.heap.size) b3) k2.out.pos)
  replace hA := hA.below b3 hlt2
  have hlt3 := hA.lt
  replace b3 := b2.trans (b3.mono b2.size)
  clear b2
  go_wp2_with fail
  refine (Sum_calls ⟨#[]⟩ w3 k3.out (by decide)).mono ?_
  rintro e w4 ⟨rfl, b4⟩
  have k4 := Lib.hid (k3.out.turned (Turned.of_below (b := w3.heap.size) b4) k3.out.pos)
  replace hA := hA.below b4 hlt3
  replace b4 := b3.trans (b4.mono b3.size)
  clear b3
  replace hA := Lib.hid hA
  go_wp2_with fail
  go_loopw [4, 5] (fun sv i wr => ∃ (k : Nat) (t : ByteArray), k ≤ len ∧ k ≤ 100 ∧ i = .int .i64 k ∧ sv = .string t ∧ t.size ≤ 65536 ∧ Ad wr b t.data.toList ∧ Below w.heap.size w wr ∧ Kc wr) (fun _ i _ => 100 - (intOf i).toNat)
  case atStart => exact ⟨0, ⟨#[]⟩, by omega, by omega, rfl, rfl, by decide, hA.out, b4, k4.out⟩
  case round =>
    clear hA b4 k4 k3 k2 k1
    obtain ⟨k, t, hk1, hk2, rfl, rfl, ht, hA, hB, hK⟩ := hrel
    have hlt := hA.lt
    by_cases hc : k < len ∧ k < 100
    · obtain ⟨hc1, hc2⟩ := hc
      have ha := hT.out.addr (by omega)
      subst ha
      have c0 := hT.out.cell k hc1
      replace c0 := (hB.cell (p := ⟨pb, po + k, none⟩) (Oct.lt_of_cell c0)).trans c0
      have zT := hT.out.size k
      generalize T k = s at *
      have i1 : (k : Int) < len := by omega
      have i2 : (k : Int) < 100 := by omega
      have i3 : 0 ≤ (k : Int) := by omega
      by_cases hz : 65536 < t.size + s.size
      · have hd : (65536 : Int) < (t.size : Int) + s.size := by omega
        go_wp2
        go_ret
        exact ⟨rfl, hB⟩
      · have hd : decide ((65536 : Int) < (t.size : Int) + s.size) = false := decide_eq_false (by omega)
        go_wp2_with fail
        refine (Add_calls b t.data.toList s wr hK (by omega) hA (by rw [← Lib.size_eq]; omega)).mono ?_
        rintro e w5 ⟨rfl, hA5, hT5⟩
        rw [← append_toList] at hA5
        have hK5 := hK.turned hT5 (by omega)
        have hlt5 := hA5.lt
        have hB5 := hB.trans (hT5.below hb hB.size)
        replace c0 : w5.cell? ⟨pb, po + k, none⟩ = some (.string s) := by
          have := hT.out.cell k hc1
          have hp := Oct.lt_of_cell this
          rw [hT5.cell (p := ⟨pb, po + k, none⟩) (by show pb ≠ b; simp only at hp; omega) (by have := hB.size; simp only at hp ⊢; omega)]
          exact c0
        have hsz : (t ++ s).size ≤ 65536 := by rw [ByteArray.size_append]; omega
        clear hT5 hA hK hB hz
        replace hA5 := Lib.hid hA5
        replace hK5 := Lib.hid hK5
        replace hB5 := Lib.hid hB5
        replace hsz := Lib.hid hsz
        by_cases hm : (k : Int) % 3 = 2
        · have hm' : ((k : Int) % 3 == 2) = true := by simp [hm]
          clear hm
          go_wp2_with fail
          refine (End_calls b (t ++ s).data.toList w5 hK5.out hA5.out (by rw [← Lib.size_eq]; have := hsz.out; omega)).mono ?_
          rintro e w6 ⟨rfl, b6⟩
          have k6 := Lib.hid (hK5.out.turned (Turned.of_below (b := w5.heap.size) b6) hK5.out.pos)
          have hA6 := Lib.hid (hA5.out.below b6 hlt5)
          have b6' := Lib.hid (hB5.out.trans (b6.mono hB5.out.size))
          clear b6 hA5 hK5 hB5 c0
          go_wp2_with fail
          refine (Sum_calls (t ++ s) w6 k6.out (by have := hsz.out; omega)).mono ?_
          rintro e w7 ⟨rfl, b7⟩
          have k7 := Lib.hid (k6.out.turned (Turned.of_below (b := w6.heap.size) b7) k6.out.pos)
          have hA7 := Lib.hid (hA6.out.below b7 hA6.out.lt)
          have b7' := Lib.hid (b6'.out.trans (b7.mono b6'.out.size))
          clear b7 hA6 k6 b6'
          go_wp2_with fail
          exact ⟨⟨k + 1, t ++ s, by omega, by omega, by go_num, rfl, hsz.out, hA7.out, b7'.out, k7.out⟩, by simp [intOf]; omega⟩
        · have hm' : ((k : Int) % 3 == 2) = false := by simp [hm]
          clear hm
          go_wp2_with fail
          exact ⟨⟨k + 1, t ++ s, by omega, by omega, by go_num, rfl, hsz.out, hA5.out, hB5.out, hK5.out⟩, by simp [intOf]; omega⟩
    · have hx : ((k : Int) < len ∧ 100 ≤ (k : Int)) ∨ (len : Int) ≤ k := by omega
      have hsz : t.size ≤ 140737488351232 := by omega
      have hl2 : t.data.toList.length ≤ 140737488355328 := by rw [← Lib.size_eq]; omega
      replace hl2 := Lib.hid hl2
      clear hc
      replace hA := Lib.hid hA
      replace hK := Lib.hid hK
      replace hB := Lib.hid hB
      rcases hx with ⟨x1, x2⟩ | x1
      all_goals
        go_wp2_with fail
        refine (Add_nil _ wr).mono ?_
        rintro e w5 ⟨rfl, rfl⟩
        go_wp2_with fail
        refine (End_calls b t.data.toList wr hK.out hA.out hl2.out).mono ?_
        rintro e w6 ⟨rfl, b6⟩
        have k6 := Lib.hid (hK.out.turned (Turned.of_below (b := wr.heap.size) b6) hK.out.pos)
        have hA6 := Lib.hid (hA.out.below b6 hlt)
        have b6' := Lib.hid (hB.out.trans (b6.mono hB.out.size))
        clear b6
        go_wp2_with fail
        refine (Sum_calls t w6 k6.out hsz).mono ?_
        rintro e w7 ⟨rfl, b7⟩
        have k7 := Lib.hid (k6.out.turned (Turned.of_below (b := w6.heap.size) b7) k6.out.pos)
        have hA7 := Lib.hid (hA6.out.below b7 hA6.out.lt)
        have b7' := Lib.hid (b6'.out.trans (b7.mono b6'.out.size))
        clear b7
        go_wp2_with fail
        refine (End_calls b t.data.toList w7 k7.out hA7.out hl2.out).mono ?_
        rintro e w8 ⟨rfl, b8⟩
        have k8 := Lib.hid (k7.out.turned (Turned.of_below (b := w7.heap.size) b8) k7.out.pos)
        have b8' := Lib.hid (b7'.out.trans (b8.mono b7'.out.size))
        clear b8
        go_wp2_with fail
        refine (Sum_calls t w8 k8.out hsz).mono ?_
        rintro e w9 ⟨rfl, b9⟩
        have b9' := Lib.hid (b8'.out.trans (b9.mono b8'.out.size))
        clear b9
        go_wp2_with fail
        refine (End_nil w9).mono ?_
        rintro e w10 ⟨rfl, rfl⟩
        go_wp2
        go_ret
        exact ⟨rfl, b9'.out⟩

theorem own : ownKnob Tryd.prog.godebug = none := by kernel_rfl
theorem laidOut : laidOutB Tryd.prog = true := by kernel_rfl
set_option maxRecDepth 100000 in
theorem lifted (os : Os) (started : os.Started) (H : Type) (enc : TypeId × Value → H) :
    ReturnsInHanded {} Tryd.checked os 4 .any (fun w args => (Rows.shaPiecesSpec.pre enc Tryd.prog Tryd.f4 [] false w args ∧ laidMetH Tryd.prog Rows.shaPiecesRow.laid w) ∧ sizedMet enc Tryd.prog Tryd.f4 (OpenSpec.ofChange Rows.shaPiecesSpec) false w args) (Rows.shaPiecesSpec.post enc Tryd.prog Tryd.f4 false true false false) := by
  refine returnsInHanded_of_change_and (C := Tryd.checked) (X := (fun w _ => laidMetH Tryd.prog Rows.shaPiecesRow.laid w)) (fun _ _ _ hh h => h.of_heap hh) own started (by kernel_rfl) Tryd.func4
    (ChangeSpec.witness_shaped (enc := enc) (C := Tryd.checked) (os := os) (X := (fun w _ => laidMetH Tryd.prog Rows.shaPiecesRow.laid w)) false (World.doorLaid Tryd.prog 14 os) #[.slice none 0 0] 8 rfl (World.shaped_of_RefB (by kernel_rfl) (by kernel_rfl)) (by kernel_rfl) (by kernel_rfl) (by kernel_rfl) (Sha.door_met os _)) ?_
  intro W base args ds gs before hval0 hW hcnd hsz0 hL _
  have hval : ∀ (j : Nat) t v, Tryd.f4.params[j]? = some t → args[j]? = some v → Value.okWide Tryd.prog W .any base t v := hval0
  have hsz : (DataW.weightsEach Tryd.prog (Tryd.f4.params.toList ++ Rows.shaPiecesSpec.plain.varTypes Tryd.prog) (ds ++ gs)).all (· ≤ reachBytes) = true := hsz0
  have hW' := hW
  obtain ⟨p, q, hA0, hV, rfl, hfz, hnd⟩ := hW
  have hA : DataW.TrodAll enc Tryd.prog W 0 (fun _ => true) true Tryd.f4.params.toList args.toList ds p := hA0
  rw [Tryd.params4] at hA hval hsz
  obtain ⟨v0, vs0, d0, ds0, p0, q0, hargs, rfl, rfl, h0, r0⟩ := trodAll_cons hA
  obtain ⟨rfl, rfl, rfl⟩ := trodAll_nil r0
  obtain rfl : args = #[v0] := by cases args; simp_all
  obtain ⟨rfl, rfl⟩ := trodVars_none hV
  have k0 := h0
  have lt0 : ∀ x ∈ p0, x.block < W.heap.size := by obtain ⟨m, hm⟩ := k0; exact DataW.trod_lt m _ _ _ hm
  have ok0 := hval 0 25 v0 rfl rfl
  clear hA0 hval0 hsz0
  obtain ⟨a0, len, cap, b, off, T, rfl, hT, hl⟩ := Oct.open_texts Tryd.underlying25 Tryd.underlying9 (by kernel_rfl) (of_decide_eq_true (by kernel_rfl)) ok0 h0 (Oct.arg_weights hsz (j := 0) (t := 25) rfl rfl)
  refine (walk a0 len cap b off T W hT hl (kc_of_laid hL)).mono fun e W' ⟨he, bel⟩ => ?_
  subst he
  exact ⟨_, rfl, _, _, _, [], _, [], hW', trodAll_mk1 (shut_bool Tryd.underlying4 _), (trodAll_cons_mk (Below.trod laidOut (by kernel_rfl) (of_decide_eq_true (by kernel_rfl)) k0 bel lt0) trodAll_mk0), rfl, bel.frame _, fun h => by cases h⟩

/-- the row -/
theorem row_proved : Rows.ShaPiecesSaid :=
  OpenClaim.holds_of_wide 4 Tryd.f4 rfl rfl rfl rfl rfl rfl rfl ⟨rfl, rfl, rfl, rfl, rfl⟩ rfl rfl rfl rfl rfl (by kernel_rfl) Tryd.func4 (by kernel_rfl)
    (of_decide_eq_true (by kernel_rfl)) (by unfold Func.isWrapper; first | (rw [if_pos (by decide +kernel)]; kernel_rfl) | (rw [if_neg (by decide +kernel)]; exact ⟨rfl, rfl⟩))
    (fun os started H enc _ => lifted os started H enc)
/-- the statement: the tied card -/
theorem proved : Rows.ShaPiecesCardSaid :=
  Claim7.holds_tied_plain_at .later [] Rows.shaPiecesCard.laidKinds true Rows.shaPiecesCard.stood.harness Rows.shaPiecesCard.stood.looks row_proved (fun _ h => by cases h) (by kernel_rfl) (fun _ h => by cases h) shaPieces_row_tie rfl ⟨rfl, rfl⟩ (by kernel_rfl) rfl
    (fun f fn hf hfn => by
      obtain rfl : f = 4 := Option.some.inj ((show Tryd.prog.funcNamed Rows.shaPiecesRow.func = some 4 by kernel_rfl).symm.trans hf) |>.symm
      obtain rfl : fn = Tryd.f4 := (Option.some.inj (Tryd.func4.symm.trans hfn)).symm
      exact ⟨by kernel_rfl, fun j t ht => by
        rw [Tryd.params4] at ht
        have hm : t ∈ [25] := by simpa using Array.mem_of_getElem? ht
        have hall : ([25].all fun u => !Tryd.prog.wantsStandIn u) = true := by kernel_rfl
        exact (show Tryd.prog.wantsStandIn t = false by simpa using List.all_eq_true.1 hall t hm)⟩)
    (by kernel_rfl)
end Go.Proofs.YtdbbnddpemgjkaaDoor.shaPieces
