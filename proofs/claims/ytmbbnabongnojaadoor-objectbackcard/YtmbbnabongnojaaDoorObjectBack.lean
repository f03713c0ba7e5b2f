/-
  Proved: for every two objects and every text, ObjectBack returns true and turns nothing of what it was given. Conditions: none beyond the form's own (the constants of the digest are what the program's text lays: the card ties them).
-/
import Derived.Test.YtmbbnabongnojaaDoorRows
import Derived.Test.YtmbbnabongnojaaDoorCards
import Derived.Test.YtmbbnabongnojaaDoorTie
import Derived.Test.YtmbbnabongnojaaDoorOctKit
import Derived.SevenTiedAt
import Derived.Test.YtmbbnabongnojaaDoorObLaid
import Derived.Test.YtmbbnabongnojaaDoorObHave
import Derived.Test.YtmbbnabongnojaaDoorObGreat
import Derived.Test.YtmbbnabongnojaaDoorObSame
import Derived.Test.YtmbbnabongnojaaDoorObOpen
import Derived.WalkKit
import Derived.WalkSpells
import Derived.WalkLawsBesides
import Derived.ProofKit
import Derived.OpenShut
import Derived.Laws.BytesArg
import Derived.Deep.QuietTactic
import Derived.BigQuiet
import Derived.BigRegion
import Derived.Lib.Hide
import Derived.LaidMore
import Derived.Stop.Joined
import Derived.MakeChecks
import Derived.Deep.RegionHeld3
import Derived.IntWalk
namespace Go.Proofs.YtmbbnabongnojaaDoor.objectBack
open Go Go.ChangeShapes Go.WideShapes Go.ChangeAt Go.RowKit Ob
open Oct (empty)
open Go.ChangeMaps (open_string)

theorem bare_lens {x : Ob.Obj} (h : good x = true) : (bare x).ents.length ≤ maxLen ∧ (bare x).pars.length ≤ maxLen := by
  have hk := good_kind h
  unfold good at h
  unfold maxLen bare
  by_cases k1 : x.kind = 1
  · rw [if_pos k1]; exact ⟨Nat.zero_le _, Nat.zero_le _⟩
  · rw [if_neg k1] at h ⊢
    by_cases k2 : x.kind = 2
    · rw [if_pos k2, Bool.and_eq_true, decide_eq_true_eq] at h
      rw [if_pos k2]
      exact ⟨by show x.ents.length ≤ _; omega, Nat.zero_le _⟩
    · rw [if_neg k2, if_pos (by omega)] at h
      rw [if_neg k2]
      have := (goodCommit_iff.1 h).2.1
      exact ⟨Nat.zero_le _, by show x.pars.length ≤ _; omega⟩
set_option maxRecDepth 100000 in
set_option maxHeartbeats 4000000 in
theorem walk (x y : Ob.Obj) (ea : Option Addr) (ec : Nat) (pa : Option Addr) (pc : Nat) (fa : Option Addr) (fc : Nat) (qa : Option Addr) (qc : Nat) (s : ByteArray) (w : World) (hO : ObAt w x ea ec pa pc) (hQ : ObAt w y fa fc qa qc) (hk : Sha.Kc w) :
    Calls Tryd.prog 6 #[val x ea ec pa pc, val y fa fc qa qc, .string s] w fun e w' => e = .returned (.bool true) ∧ Below w.heap.size w w' := by
  have hB := Lib.hid (b_alloc w (.cells (cellsOf x ea ec pa pc) 25))
  have hY := Lib.hid (Have.new (hQ.below hB.out))
  have hX := Lib.hid ((Have.new hO).next (b_alloc _ (.cells (cellsOf y fa fc qa qc) 25)))
  have hs1 : (w.alloc (.cells (cellsOf x ea ec pa pc) 25)).heap.size = w.heap.size + 1 := by simp
  rw [hs1] at hY
  clear hs1
  replace hB := Lib.hid (below_next hB.out (b_alloc _ (.cells (cellsOf y fa fc qa qc) 25)))
  replace hk := Lib.hid (kc_below hk hB.out)
  go_enter Tryd.func6, Tryd.ntmps6
  go_wp2_with fail
  generalize (w.alloc (.cells (cellsOf x ea ec pa pc) 25)).alloc (.cells (cellsOf y fa fc qa qc) 25) = w1 at *
  refine (awake_calls w1 hk.out).mono ?_
  rintro e w2 ⟨rfl, b2⟩
  replace hX := Lib.hid (hX.out.next b2)
  replace hY := Lib.hid (hY.out.next b2)
  replace hB := Lib.hid (below_next hB.out b2)
  clear b2 hk
  obtain ⟨c0, c1, c2, c3, c4, c5, c6⟩ := hX.out.cells
  go_wp2_with fail
  refine (great_calls x ea ec pa pc w2 hX.out.at_).mono ?_
  rintro e w3 ⟨⟨g, rfl⟩, b3⟩
  replace hX := Lib.hid (hX.out.next b3)
  replace hY := Lib.hid (hY.out.next b3)
  replace hB := Lib.hid (below_next hB.out b3)
  clear b3 c0 c1 c2 c3 c4 c5 c6
  cases g with
  | true =>
    go_wp2
    go_ret
    exact ⟨rfl, hB.out⟩
  | false =>
    obtain ⟨c0, c1, c2, c3, c4, c5, c6⟩ := hY.out.cells
    go_wp2_with fail
    refine (great_calls y fa fc qa qc w3 hY.out.at_).mono ?_
    rintro e w4 ⟨⟨g, rfl⟩, b4⟩
    replace hX := Lib.hid (hX.out.next b4)
    replace hY := Lib.hid (hY.out.next b4)
    replace hB := Lib.hid (below_next hB.out b4)
    clear b4 c0 c1 c2 c3 c4 c5 c6
    cases g with
    | true =>
      go_wp2
      go_ret
      exact ⟨rfl, hB.out⟩
    | false =>
      by_cases hs : (262144 : Int) < s.size
      · go_wp2
        go_ret
        exact ⟨rfl, hB.out⟩
      · obtain ⟨c0, c1, c2, c3, c4, c5, c6⟩ := hX.out.cells
        go_wp2_with fail
        refine (Encode_calls x ea ec pa pc w4 hX.out.at_).mono ?_
        rintro e w5 ⟨rfl, b5⟩
        replace hX := Lib.hid (hX.out.next b5)
        replace hY := Lib.hid (hY.out.next b5)
        replace hB := Lib.hid (below_next hB.out b5)
        clear b5 c0 c1 c2 c3 c4 c5 c6
        obtain ⟨c0, c1, c2, c3, c4, c5, c6⟩ := hX.out.cells
        have hG := Lib.hid (Good_calls x ea ec pa pc w5 hX.out.at_)
        cases hg : good x with
        | false =>
          rw [wrote_no' hg]
          rw [hg] at hG
          go_wp2_with fail
          refine hG.out.mono ?_
          rintro e w6 ⟨rfl, b6⟩
          replace hB := Lib.hid (below_next hB.out b6)
          clear b6 c0 c1 c2 c3 c4 c5 c6 hG hX hY hg
          go_wp2_with fail
          refine (Decode_calls s w6).mono ?_
          rintro e w20 ⟨hr, b20⟩
          replace hB := Lib.hid (below_next hB.out b20)
          clear b20
          cases hf : fits s with
          | false =>
            obtain rfl := hr.no hf
            clear hr hf
            replace hB := Lib.hid (below_next hB.out (b_alloc w20 (.cells #[.int .i64 0, .string empty, .slice none 0 0, .string empty, .slice none 0 0, .int .i64 0, .string empty] 25)))
            have hS := Lib.hid (Same_calls Ob.zero Ob.zero none 0 none 0 none 0 none 0 (w20.alloc (.cells #[.int .i64 0, .string empty, .slice none 0 0, .string empty, .slice none 0 0, .int .i64 0, .string empty] 25)) (ObAt.zero _) (ObAt.zero _) (Nat.zero_le _) (Nat.zero_le _))
            unfold Ob.zero
            go_wp2_with fail
            refine hS.out.mono ?_
            rintro e w21 ⟨⟨g, rfl, hg⟩, b21⟩
            obtain rfl : g = true := by simpa using hg
            replace hB := Lib.hid (below_next hB.out b21)
            clear hS hg b21
            go_wp2
            go_ret
            exact ⟨rfl, hB.out⟩
          | true =>
            obtain ⟨za, zc, ya, yc, rfl, hZ⟩ := hr.yes hf
            obtain ⟨ez, _⟩ := enc_dec s hf
            have gz := dec_good hf
            clear hr hf
            generalize (dec s).1 = z at *
            have hV := Lib.hid (Have.new hZ)
            replace hB := Lib.hid (below_next hB.out (b_alloc w20 (.cells (cellsOf z za zc ya yc) 25)))
            have hE := Lib.hid (Encode_calls z za zc ya yc (w20.alloc (.cells (cellsOf z za zc ya yc) 25)) hV.out.at_)
            rw [wrote_yes gz, ez] at hE
            replace ez := Lib.hid ez
            replace gz := Lib.hid gz
            go_wp2_with fail
            refine hE.out.mono ?_
            rintro e w21 ⟨rfl, b21⟩
            replace hB := Lib.hid (below_next hB.out b21)
            clear hE b21
            go_wp2
            go_ret
            exact ⟨rfl, hB.out⟩
        | true =>
          rw [wrote_yes hg]
          rw [hg] at hG
          go_wp2_with fail
          refine hG.out.mono ?_
          rintro e w6 ⟨rfl, b6⟩
          replace hX := Lib.hid (hX.out.next b6)
          replace hY := Lib.hid (hY.out.next b6)
          replace hB := Lib.hid (below_next hB.out b6)
          clear b6 c0 c1 c2 c3 c4 c5 c6 hG
          go_wp2_with fail
          refine (Decode_calls (enc x) w6).mono ?_
          rintro e w7 ⟨hr, b7⟩
          obtain ⟨ta, tc, ua, uc, rfl, hT⟩ := hr.yes (fits_enc hg)
          have hdx := dec_enc x hg
          rw [hdx] at hT ⊢
          dsimp only at hT ⊢
          replace hX := Lib.hid (hX.out.next b7)
          replace hY := Lib.hid (hY.out.next b7)
          replace hB := Lib.hid (below_next hB.out b7)
          clear b7 hr hdx
          have hV := Lib.hid (Have.new hT)
          replace hX := Lib.hid (hX.out.next (b_alloc w7 (.cells (cellsOf (bare x) ta tc ua uc) 25)))
          replace hY := Lib.hid (hY.out.next (b_alloc w7 (.cells (cellsOf (bare x) ta tc ua uc) 25)))
          replace hB := Lib.hid (below_next hB.out (b_alloc w7 (.cells (cellsOf (bare x) ta tc ua uc) 25)))
          clear hT
          replace hg := Lib.hid hg
          go_upto_region 10 with (fail)
          generalize w7.alloc (.cells (cellsOf (bare x) ta tc ua uc) 25) = w8 at *
          have hb8 : Hid (Below w8.heap.size w8 w8.drew) := Lib.hid ⟨rfl, rfl, rfl, Nat.le_refl _, fun _ _ => rfl⟩
          have hXd := Lib.hid (hX.out.at_.below hb8.out)
          have hVd := Lib.hid (hV.out.at_.below hb8.out)
          obtain ⟨hl1, hl2⟩ := bare_lens hg.out
          replace hl1 := Lib.hid hl1
          replace hl2 := Lib.hid hl2
          have hgb : Hid (good (bare x) = true) := Lib.hid (by rw [good_bare]; exact hg.out)
          have hkeep : Hid (∀ w', Below w8.heap.size w8 w' → ((w'.cell? ⟨w7.heap.size, 0, none⟩ = some (.int .i64 (bare x).kind) ∧ w'.cell? ⟨w7.heap.size, 1, none⟩ = some (.string (bare x).data) ∧ w'.cell? ⟨w7.heap.size, 2, none⟩ = some (.slice ta (bare x).ents.length tc) ∧ w'.cell? ⟨w7.heap.size, 3, none⟩ = some (.string (bare x).tree) ∧ w'.cell? ⟨w7.heap.size, 4, none⟩ = some (.slice ua (bare x).pars.length uc) ∧ w'.cell? ⟨w7.heap.size, 5, none⟩ = some (.int .i64 (bare x).height) ∧ w'.cell? ⟨w7.heap.size, 6, none⟩ = some (.string (bare x).note)) ∧ (w'.cell? ⟨w.heap.size, 0, none⟩ = some (.int .i64 (x).kind) ∧ w'.cell? ⟨w.heap.size, 1, none⟩ = some (.string (x).data) ∧ w'.cell? ⟨w.heap.size, 2, none⟩ = some (.slice ea (x).ents.length ec) ∧ w'.cell? ⟨w.heap.size, 3, none⟩ = some (.string (x).tree) ∧ w'.cell? ⟨w.heap.size, 4, none⟩ = some (.slice pa (x).pars.length pc) ∧ w'.cell? ⟨w.heap.size, 5, none⟩ = some (.int .i64 (x).height) ∧ w'.cell? ⟨w.heap.size, 6, none⟩ = some (.string (x).note)))) := Lib.hid fun w' b => ⟨(hV.out.next b).cells, (hX.out.next b).cells⟩
          have hk0 := hkeep.out _ hb8.out
          go_region_held3 (fun w' => (w'.cell? ⟨w7.heap.size, 0, none⟩ = some (.int .i64 (bare x).kind) ∧ w'.cell? ⟨w7.heap.size, 1, none⟩ = some (.string (bare x).data) ∧ w'.cell? ⟨w7.heap.size, 2, none⟩ = some (.slice ta (bare x).ents.length tc) ∧ w'.cell? ⟨w7.heap.size, 3, none⟩ = some (.string (bare x).tree) ∧ w'.cell? ⟨w7.heap.size, 4, none⟩ = some (.slice ua (bare x).pars.length uc) ∧ w'.cell? ⟨w7.heap.size, 5, none⟩ = some (.int .i64 (bare x).height) ∧ w'.cell? ⟨w7.heap.size, 6, none⟩ = some (.string (bare x).note)) ∧ (w'.cell? ⟨w.heap.size, 0, none⟩ = some (.int .i64 (x).kind) ∧ w'.cell? ⟨w.heap.size, 1, none⟩ = some (.string (x).data) ∧ w'.cell? ⟨w.heap.size, 2, none⟩ = some (.slice ea (x).ents.length ec) ∧ w'.cell? ⟨w.heap.size, 3, none⟩ = some (.string (x).tree) ∧ w'.cell? ⟨w.heap.size, 4, none⟩ = some (.slice pa (x).pars.length pc) ∧ w'.cell? ⟨w.heap.size, 5, none⟩ = some (.int .i64 (x).height) ∧ w'.cell? ⟨w.heap.size, 6, none⟩ = some (.string (x).note)))
            (first | exact hkeep.out _ hb8.out | exact hkeep.out _ b11 | exact hkeep.out _ b10 | exact hkeep.out _ b9)
            (first
              | (go_at_call 26; refine (Bare_calls x ea ec pa pc _ hXd.out).mono ?_; rintro e w9 ⟨⟨ma, mc, na, nc, rfl, hM⟩, b9⟩; replace b9 := below_next hb8.out b9)
              | (go_at_call 21; refine (Same_calls (bare x) (bare x) ta tc ua uc ma mc na nc _ (hV.out.at_.below b9) hM hl1.out hl2.out).mono ?_; rintro e w10 ⟨⟨g, rfl, hgt⟩, b10⟩; (obtain rfl : g = true := by simpa using hgt); replace b10 := below_next b9 b10; clear hgt)
              | (go_at_call 14; refine (Good_calls (bare x) ta tc ua uc _ (hV.out.at_.below b10)).mono ?_; rw [hgb.out]; rintro e w11 ⟨rfl, b11⟩; replace b11 := below_next b10 b11))
          clear hk0 hkeep
          replace hX := Lib.hid (hX.out.next b11)
          replace hY := Lib.hid (hY.out.next b11)
          replace hV := Lib.hid (hV.out.next b11)
          replace hB := Lib.hid (below_next hB.out b11)
          clear b9 b10 b11 hM hXd hVd hb8
          clear hgb
          rename_i hHeld
          clear hHeld
          obtain ⟨c0, c1, c2, c3, c4, c5, c6⟩ := hY.out.cells
          go_wp2_with fail
          refine (Encode_calls y fa fc qa qc w11 hY.out.at_).mono ?_
          rintro e w12 ⟨rfl, b12⟩
          replace hY := Lib.hid (hY.out.next b12)
          replace hV := Lib.hid (hV.out.next b12)
          replace hB := Lib.hid (below_next hB.out b12)
          clear b12 c0 c1 c2 c3 c4 c5 c6 hX
          cases hgy : good y with
          | false =>
            rw [wrote_no' hgy]
            go_upto_region 13 with (fail)
            go_quiet (fail)
            generalize hwd : w12.drewN nq = w13 at *
            replace hB : Hid (Below w.heap.size w w13) := Lib.hid (by rw [← hwd]; exact Pa.below_drewN hB.out _)
            clear hwd hY hV hgy
            go_wp2_with fail
            refine (Decode_calls s w13).mono ?_
            rintro e w20 ⟨hr, b20⟩
            replace hB := Lib.hid (below_next hB.out b20)
            clear b20
            cases hf : fits s with
            | false =>
              obtain rfl := hr.no hf
              clear hr hf
              replace hB := Lib.hid (below_next hB.out (b_alloc w20 (.cells #[.int .i64 0, .string empty, .slice none 0 0, .string empty, .slice none 0 0, .int .i64 0, .string empty] 25)))
              have hS := Lib.hid (Same_calls Ob.zero Ob.zero none 0 none 0 none 0 none 0 (w20.alloc (.cells #[.int .i64 0, .string empty, .slice none 0 0, .string empty, .slice none 0 0, .int .i64 0, .string empty] 25)) (ObAt.zero _) (ObAt.zero _) (Nat.zero_le _) (Nat.zero_le _))
              unfold Ob.zero
              go_wp2_with fail
              refine hS.out.mono ?_
              rintro e w21 ⟨⟨g, rfl, hg⟩, b21⟩
              obtain rfl : g = true := by simpa using hg
              replace hB := Lib.hid (below_next hB.out b21)
              clear hS hg b21
              go_wp2
              go_ret
              exact ⟨rfl, hB.out⟩
            | true =>
              obtain ⟨za, zc, ya, yc, rfl, hZ⟩ := hr.yes hf
              obtain ⟨ez, _⟩ := enc_dec s hf
              have gz := dec_good hf
              clear hr hf
              generalize (dec s).1 = z at *
              have hV := Lib.hid (Have.new hZ)
              replace hB := Lib.hid (below_next hB.out (b_alloc w20 (.cells (cellsOf z za zc ya yc) 25)))
              have hE := Lib.hid (Encode_calls z za zc ya yc (w20.alloc (.cells (cellsOf z za zc ya yc) 25)) hV.out.at_)
              rw [wrote_yes gz, ez] at hE
              replace ez := Lib.hid ez
              replace gz := Lib.hid gz
              go_wp2_with fail
              refine hE.out.mono ?_
              rintro e w21 ⟨rfl, b21⟩
              replace hB := Lib.hid (below_next hB.out b21)
              clear hE b21
              go_wp2
              go_ret
              exact ⟨rfl, hB.out⟩
          | true =>
            rw [wrote_yes hgy]
            have hiff := Lib.hid (enc_inj hg.out hgy)
            replace hgy := Lib.hid hgy
            go_upto_region 13 with (fail)
            have hb8 : Hid (Below w12.heap.size w12 w12.drew) := Lib.hid ⟨rfl, rfl, rfl, Nat.le_refl _, fun _ _ => rfl⟩
            have hYd := Lib.hid (hY.out.at_.below hb8.out)
            have hkeep : Hid (∀ w', Below w12.heap.size w12 w' → ((w'.cell? ⟨w7.heap.size, 0, none⟩ = some (.int .i64 (bare x).kind) ∧ w'.cell? ⟨w7.heap.size, 1, none⟩ = some (.string (bare x).data) ∧ w'.cell? ⟨w7.heap.size, 2, none⟩ = some (.slice ta (bare x).ents.length tc) ∧ w'.cell? ⟨w7.heap.size, 3, none⟩ = some (.string (bare x).tree) ∧ w'.cell? ⟨w7.heap.size, 4, none⟩ = some (.slice ua (bare x).pars.length uc) ∧ w'.cell? ⟨w7.heap.size, 5, none⟩ = some (.int .i64 (bare x).height) ∧ w'.cell? ⟨w7.heap.size, 6, none⟩ = some (.string (bare x).note)) ∧ (w'.cell? ⟨w.heap.size + 1, 0, none⟩ = some (.int .i64 (y).kind) ∧ w'.cell? ⟨w.heap.size + 1, 1, none⟩ = some (.string (y).data) ∧ w'.cell? ⟨w.heap.size + 1, 2, none⟩ = some (.slice fa (y).ents.length fc) ∧ w'.cell? ⟨w.heap.size + 1, 3, none⟩ = some (.string (y).tree) ∧ w'.cell? ⟨w.heap.size + 1, 4, none⟩ = some (.slice qa (y).pars.length qc) ∧ w'.cell? ⟨w.heap.size + 1, 5, none⟩ = some (.int .i64 (y).height) ∧ w'.cell? ⟨w.heap.size + 1, 6, none⟩ = some (.string (y).note)))) := Lib.hid fun w' b => ⟨(hV.out.next b).cells, (hY.out.next b).cells⟩
            have hk0 := hkeep.out _ hb8.out
            obtain ⟨ge, hge⟩ : ∃ ge, ge = ((enc x).toList == (enc y).toList) := ⟨_, rfl⟩
            replace hiff : Hid (ge = true ↔ bare x = bare y) := Lib.hid (by rw [← hiff.out, hge, Oct.beq_toList, decide_eq_true_eq])
            replace hge := hge.symm
            go_region_held3 (fun w' => (w'.cell? ⟨w7.heap.size, 0, none⟩ = some (.int .i64 (bare x).kind) ∧ w'.cell? ⟨w7.heap.size, 1, none⟩ = some (.string (bare x).data) ∧ w'.cell? ⟨w7.heap.size, 2, none⟩ = some (.slice ta (bare x).ents.length tc) ∧ w'.cell? ⟨w7.heap.size, 3, none⟩ = some (.string (bare x).tree) ∧ w'.cell? ⟨w7.heap.size, 4, none⟩ = some (.slice ua (bare x).pars.length uc) ∧ w'.cell? ⟨w7.heap.size, 5, none⟩ = some (.int .i64 (bare x).height) ∧ w'.cell? ⟨w7.heap.size, 6, none⟩ = some (.string (bare x).note)) ∧ (w'.cell? ⟨w.heap.size + 1, 0, none⟩ = some (.int .i64 (y).kind) ∧ w'.cell? ⟨w.heap.size + 1, 1, none⟩ = some (.string (y).data) ∧ w'.cell? ⟨w.heap.size + 1, 2, none⟩ = some (.slice fa (y).ents.length fc) ∧ w'.cell? ⟨w.heap.size + 1, 3, none⟩ = some (.string (y).tree) ∧ w'.cell? ⟨w.heap.size + 1, 4, none⟩ = some (.slice qa (y).pars.length qc) ∧ w'.cell? ⟨w.heap.size + 1, 5, none⟩ = some (.int .i64 (y).height) ∧ w'.cell? ⟨w.heap.size + 1, 6, none⟩ = some (.string (y).note)))
              (first | exact hkeep.out _ hb8.out | exact hkeep.out _ b10 | exact hkeep.out _ b9)
              (first
                | (go_at_call 26; refine (Bare_calls y fa fc qa qc _ hYd.out).mono ?_; rintro e w13 ⟨⟨ma, mc, na, nc, rfl, hM⟩, b9⟩; replace b9 := below_next hb8.out b9)
                | (go_at_call 21; refine (Same_calls (bare x) (bare y) ta tc ua uc ma mc na nc _ (hV.out.at_.below b9) hM hl1.out hl2.out).mono ?_; rintro e w14 ⟨⟨g, rfl, hgt⟩, b10⟩; replace b10 := below_next b9 b10; replace hgt := Lib.hid hgt))
            clear hk0 hkeep
            replace hB := Lib.hid (below_next hB.out b10)
            rename_i hHeld
            clear b9 b10 hM hYd hb8 hHeld hY hV
            have hgg : g = ge := by
              have h1 := hgt.out
              have h2 := hiff.out
              cases g <;> cases ge <;> simp_all
            subst hgg
            cases g with
            | false =>
              go_wp2_with fail
              refine (Decode_calls s w14).mono ?_
              rintro e w20 ⟨hr, b20⟩
              replace hB := Lib.hid (below_next hB.out b20)
              clear b20
              cases hf : fits s with
              | false =>
                obtain rfl := hr.no hf
                clear hr hf
                replace hB := Lib.hid (below_next hB.out (b_alloc w20 (.cells #[.int .i64 0, .string empty, .slice none 0 0, .string empty, .slice none 0 0, .int .i64 0, .string empty] 25)))
                have hS := Lib.hid (Same_calls Ob.zero Ob.zero none 0 none 0 none 0 none 0 (w20.alloc (.cells #[.int .i64 0, .string empty, .slice none 0 0, .string empty, .slice none 0 0, .int .i64 0, .string empty] 25)) (ObAt.zero _) (ObAt.zero _) (Nat.zero_le _) (Nat.zero_le _))
                unfold Ob.zero
                go_wp2_with fail
                refine hS.out.mono ?_
                rintro e w21 ⟨⟨g, rfl, hg⟩, b21⟩
                obtain rfl : g = true := by simpa using hg
                replace hB := Lib.hid (below_next hB.out b21)
                clear hS hg b21
                go_wp2
                go_ret
                exact ⟨rfl, hB.out⟩
              | true =>
                obtain ⟨za, zc, ya, yc, rfl, hZ⟩ := hr.yes hf
                obtain ⟨ez, _⟩ := enc_dec s hf
                have gz := dec_good hf
                clear hr hf
                generalize (dec s).1 = z at *
                have hV := Lib.hid (Have.new hZ)
                replace hB := Lib.hid (below_next hB.out (b_alloc w20 (.cells (cellsOf z za zc ya yc) 25)))
                have hE := Lib.hid (Encode_calls z za zc ya yc (w20.alloc (.cells (cellsOf z za zc ya yc) 25)) hV.out.at_)
                rw [wrote_yes gz, ez] at hE
                replace ez := Lib.hid ez
                replace gz := Lib.hid gz
                go_wp2_with fail
                refine hE.out.mono ?_
                rintro e w21 ⟨rfl, b21⟩
                replace hB := Lib.hid (below_next hB.out b21)
                clear hE b21
                go_wp2
                go_ret
                exact ⟨rfl, hB.out⟩
            | true =>
              go_wp2_with fail
              refine (Decode_calls s w14).mono ?_
              rintro e w20 ⟨hr, b20⟩
              replace hB := Lib.hid (below_next hB.out b20)
              clear b20
              cases hf : fits s with
              | false =>
                obtain rfl := hr.no hf
                clear hr hf
                replace hB := Lib.hid (below_next hB.out (b_alloc w20 (.cells #[.int .i64 0, .string empty, .slice none 0 0, .string empty, .slice none 0 0, .int .i64 0, .string empty] 25)))
                have hS := Lib.hid (Same_calls Ob.zero Ob.zero none 0 none 0 none 0 none 0 (w20.alloc (.cells #[.int .i64 0, .string empty, .slice none 0 0, .string empty, .slice none 0 0, .int .i64 0, .string empty] 25)) (ObAt.zero _) (ObAt.zero _) (Nat.zero_le _) (Nat.zero_le _))
                unfold Ob.zero
                go_wp2_with fail
                refine hS.out.mono ?_
                rintro e w21 ⟨⟨g, rfl, hg⟩, b21⟩
                obtain rfl : g = true := by simpa using hg
                replace hB := Lib.hid (below_next hB.out b21)
                clear hS hg b21
                go_wp2
                go_ret
                exact ⟨rfl, hB.out⟩
              | true =>
                obtain ⟨za, zc, ya, yc, rfl, hZ⟩ := hr.yes hf
                obtain ⟨ez, _⟩ := enc_dec s hf
                have gz := dec_good hf
                clear hr hf
                generalize (dec s).1 = z at *
                have hV := Lib.hid (Have.new hZ)
                replace hB := Lib.hid (below_next hB.out (b_alloc w20 (.cells (cellsOf z za zc ya yc) 25)))
                have hE := Lib.hid (Encode_calls z za zc ya yc (w20.alloc (.cells (cellsOf z za zc ya yc) 25)) hV.out.at_)
                rw [wrote_yes gz, ez] at hE
                replace ez := Lib.hid ez
                replace gz := Lib.hid gz
                go_wp2_with fail
                refine hE.out.mono ?_
                rintro e w21 ⟨rfl, b21⟩
                replace hB := Lib.hid (below_next hB.out b21)
                clear hE b21
                go_wp2
                go_ret
                exact ⟨rfl, hB.out⟩

theorem own : ownKnob Tryd.prog.godebug = none := by kernel_rfl
theorem laidOut : laidOutB Tryd.prog = true := by kernel_rfl
set_option maxRecDepth 100000 in
theorem lifted (os : Os) (started : os.Started) (H : Type) (enc : TypeId × Value → H) :
    ReturnsInHanded {} Tryd.checked os 6 .any (fun w args => (Rows.objectBackSpec.pre enc Tryd.prog Tryd.f6 [] false w args ∧ laidMetH Tryd.prog Rows.objectBackRow.laid w) ∧ sizedMet enc Tryd.prog Tryd.f6 (OpenSpec.ofChange Rows.objectBackSpec) false w args) (Rows.objectBackSpec.post enc Tryd.prog Tryd.f6 false true false false) := by
  refine returnsInHanded_of_change_and (C := Tryd.checked) (X := (fun w _ => laidMetH Tryd.prog Rows.objectBackRow.laid w)) (fun _ _ _ hh h => h.of_heap hh) own started (by kernel_rfl) Tryd.func6
    (ChangeSpec.witness_shaped (enc := enc) (C := Tryd.checked) (os := os) (X := (fun w _ => laidMetH Tryd.prog Rows.objectBackRow.laid w)) false (World.doorLaid Tryd.prog 14 os) #[.agg #[.int .i64 0, .string ByteArray.empty, .slice none 0 0, .string ByteArray.empty, .slice none 0 0, .int .i64 0, .string ByteArray.empty], .agg #[.int .i64 0, .string ByteArray.empty, .slice none 0 0, .string ByteArray.empty, .slice none 0 0, .int .i64 0, .string ByteArray.empty], .string ByteArray.empty] 8 rfl (World.shaped_of_RefB (by kernel_rfl) (by kernel_rfl)) (by kernel_rfl) (by kernel_rfl) (by kernel_rfl) (Sha.door_met os _)) ?_
  intro W base args ds gs before hval0 hW hcnd hsz0 hL _
  have hval : ∀ (j : Nat) t v, Tryd.f6.params[j]? = some t → args[j]? = some v → Value.okWide Tryd.prog W .any base t v := hval0
  have hsz : (DataW.weightsEach Tryd.prog (Tryd.f6.params.toList ++ Rows.objectBackSpec.plain.varTypes Tryd.prog) (ds ++ gs)).all (· ≤ reachBytes) = true := hsz0
  have hW' := hW
  obtain ⟨p, q, hA0, hV, rfl, hfz, hnd⟩ := hW
  have hA : DataW.TrodAll enc Tryd.prog W 0 (fun _ => true) true Tryd.f6.params.toList args.toList ds p := hA0
  rw [Tryd.params6] at hA hval hsz
  obtain ⟨v0, vs0, d0, ds0, p0, q0, hargs, rfl, rfl, h0, r0⟩ := trodAll_cons hA
  obtain ⟨v1, vs1, d1, ds1, p1, q1, rfl, rfl, rfl, h1, r1⟩ := trodAll_cons r0
  obtain ⟨v2, vs2, d2, ds2, p2, q2, rfl, rfl, rfl, h2, r2⟩ := trodAll_cons r1
  obtain ⟨rfl, rfl, rfl⟩ := trodAll_nil r2
  obtain rfl : args = #[v0, v1, v2] := by cases args; simp_all
  obtain ⟨rfl, rfl⟩ := trodVars_none hV
  have k0 := h0
  have lt0 : ∀ x ∈ p0, x.block < W.heap.size := by obtain ⟨m, hm⟩ := k0; exact DataW.trod_lt m _ _ _ hm
  have ok0 := hval 0 25 v0 rfl rfl
  have k1 := h1
  have lt1 : ∀ x ∈ p1, x.block < W.heap.size := by obtain ⟨m, hm⟩ := k1; exact DataW.trod_lt m _ _ _ hm
  have ok1 := hval 1 25 v1 rfl rfl
  have k2 := h2
  have lt2 : ∀ x ∈ p2, x.block < W.heap.size := by obtain ⟨m, hm⟩ := k2; exact DataW.trod_lt m _ _ _ hm
  have ok2 := hval 2 9 v2 rfl rfl
  clear hA0 hval0 hsz0
  obtain ⟨x, ea, ec, pa, pc, rfl, hO, _, _⟩ := open_obj ok0 h0
  obtain ⟨y, fa, fc, qa, qc, rfl, hQ, _, _⟩ := open_obj ok1 h1
  obtain ⟨s, rfl, rfl, rfl, w2⟩ := open_string Tryd.underlying9 ok2 h2
  refine (walk x y ea ec pa pc fa fc qa qc s W hO hQ (Sha.kc_of_laid hL)).mono fun e W' ⟨he, bel⟩ => ?_
  subst he
  exact ⟨_, rfl, _, _, _, [], _, [], hW', trodAll_mk1 (shut_bool Tryd.underlying4 _), (trodAll_cons_mk (Below.trod laidOut (by kernel_rfl) (of_decide_eq_true (by kernel_rfl)) k0 bel lt0) (trodAll_cons_mk (Below.trod laidOut (by kernel_rfl) (of_decide_eq_true (by kernel_rfl)) k1 bel lt1) (trodAll_cons_mk (Below.trod laidOut (by kernel_rfl) (of_decide_eq_true (by kernel_rfl)) k2 bel lt2) trodAll_mk0))), rfl, bel.frame _, fun h => by cases h⟩

/-- the row -/
theorem row_proved : Rows.ObjectBackSaid :=
  OpenClaim.holds_of_wide 6 Tryd.f6 rfl rfl rfl rfl rfl rfl rfl ⟨rfl, rfl, rfl, rfl, rfl⟩ rfl rfl rfl rfl rfl (by kernel_rfl) Tryd.func6 (by kernel_rfl)
    (of_decide_eq_true (by kernel_rfl)) (by unfold Func.isWrapper; first | (rw [if_pos (by decide +kernel)]; kernel_rfl) | (rw [if_neg (by decide +kernel)]; exact ⟨rfl, rfl⟩))
    (fun os started H enc _ => lifted os started H enc)
/-- the statement: the tied card -/
theorem proved : Rows.ObjectBackCardSaid :=
  Claim7.holds_tied_plain_at .later [] Rows.objectBackCard.laidKinds true Rows.objectBackCard.stood.harness Rows.objectBackCard.stood.looks row_proved (fun _ h => by cases h) (by kernel_rfl) (fun _ h => by cases h) objectBack_row_tie rfl ⟨rfl, rfl⟩ (by kernel_rfl) rfl
    (fun f fn hf hfn => by
      obtain rfl : f = 6 := Option.some.inj ((show Tryd.prog.funcNamed Rows.objectBackRow.func = some 6 by kernel_rfl).symm.trans hf) |>.symm
      obtain rfl : fn = Tryd.f6 := (Option.some.inj (Tryd.func6.symm.trans hfn)).symm
      exact ⟨by kernel_rfl, fun j t ht => by
        rw [Tryd.params6] at ht
        have hm : t ∈ [25, 25, 9] := by simpa using Array.mem_of_getElem? ht
        have hall : ([25, 25, 9].all fun u => !Tryd.prog.wantsStandIn u) = true := by kernel_rfl
        exact (show Tryd.prog.wantsStandIn t = false by simpa using List.all_eq_true.1 hall t hm)⟩)
    (by kernel_rfl)
end Go.Proofs.YtmbbnabongnojaaDoor.objectBack
