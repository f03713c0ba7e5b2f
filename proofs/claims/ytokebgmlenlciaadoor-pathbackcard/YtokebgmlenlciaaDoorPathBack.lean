/-
  Proved: for every text and every list of texts, PathBack returns true and turns nothing of what it was given. Conditions: none beyond the form's own (the two tables of the library that the row lists are what the program's text lays: the card ties them).
-/
import Derived.Test.YtokebgmlenlciaaDoorRows
import Derived.Test.YtokebgmlenlciaaDoorCards
import Derived.Test.YtokebgmlenlciaaDoorTie
import Derived.Test.YtokebgmlenlciaaDoorPaPlain
import Derived.Test.YtokebgmlenlciaaDoorPaLib
import Derived.Test.YtokebgmlenlciaaDoorPaRune
import Derived.Test.YtokebgmlenlciaaDoorPaShelf
import Derived.Test.YtokebgmlenlciaaDoorPaGood
import Derived.Test.YtokebgmlenlciaaDoorPaSplit
import Derived.Test.YtokebgmlenlciaaDoorPaSort
import Derived.Test.YtokebgmlenlciaaDoorPaCheck
import Derived.Test.YtokebgmlenlciaaDoorPaAwake
import Derived.Test.YtokebgmlenlciaaDoorPaMore
import Derived.Test.YtokebgmlenlciaaDoorOctKit
import Derived.WalkKit
import Derived.WalkSpells
import Derived.WalkLawsBesides
import Derived.ProofKit
import Derived.OpenShut
import Derived.Laws.BytesArg
import Derived.Laws.Externs
import Derived.Deep.QuietTactic
import Derived.BigQuiet
import Derived.BigRegion
import Derived.Lib.Hide
import Derived.Lib.Bytealg
import Derived.IntWalk
import Derived.Deep.LoopGhost
import Derived.Laws.OwnMore
import Derived.Deep.OwnRows
import Derived.Deep.Draws
import Derived.Deep.MidRow
import Derived.SevenTiedAt
import Derived.LaidMore
import Derived.Lay
import Derived.Stop.Joined
import Derived.MakeChecks
namespace Go.Proofs.YtokebgmlenlciaaDoor.pathBack
open Go Go.ChangeShapes Go.WideShapes Go.ChangeAt Go.RowKit Pa
open Go.ChangeMaps (open_string)
open Oct (TextsAt)

set_option maxRecDepth 100000 in
set_option maxHeartbeats 2000000 in
theorem walk (s : ByteArray) (na : Option Addr) (nl nc nb no : Nat) (N : Nat → ByteArray) (hs : s.size ≤ 140737488351232) (hnl : nl ≤ 140737488351232) (hcap : nl ≤ nc) (w : World) (hN : TextsAt w na nb no nl N) :
    Calls Tryd.prog 6 #[.string s, .slice na nl nc] w fun e w' => e = .returned (.bool true) ∧ Below w.heap.size w w' := by
  replace hN := Lib.hid hN
  go_enter Tryd.func6, Tryd.ntmps6
  go_wp2_with fail
  refine (awake_calls w).mono ?_
  rintro e w1 ⟨rfl, b1⟩
  replace b1 := Lib.hid b1
  go_wp2_with fail
  refine (Split_calls s w1 hs).mono ?_
  rintro e w2 ⟨⟨a2, len, cap, b2, o2, T, rfl, hT, hlc, hl2, hz, heq⟩, bb⟩
  replace bb := Lib.hid (b1.out.trans (bb.mono b1.out.size))
  clear b1 hz
  by_cases hf : fault s.data.toList = 0
  · have hp := heq hf
    have hI := isPath_iff.1 hf
    have hlen : len = (pieces s.data.toList).length := by rw [← hp, tx_length]
    have l1 : 1 ≤ len := by have := List.length_pos_iff.2 (pieces_ne s.data.toList); omega
    have l2 : len ≤ 64 := by omega
    have good : Hid (∀ i, i < len → isName (T i).data.toList = true) := Lib.hid fun i hi => hI.1 _ (by rw [← hp]; exact tx_mem.2 ⟨i, hi, rfl⟩)
    have hjo := Lib.hid fun (r : Tx) (c : Nat) (hj : IsJoin (tx T len) r c) => join_of_split hf (by rw [← hp]; exact hj)
    rw [hf]
    clear heq hp hI hlen hf
    replace hT := Lib.hid hT
    go_wp2_with fail
    refine (Join_calls a2 len cap b2 o2 T w2 (by omega) hlc hT.out).mono ?_
    rintro e w3 ⟨⟨r, c, rfl, hj⟩, b3⟩
    obtain ⟨hr, rfl⟩ := hjo.out _ _ hj
    obtain rfl := data_inj hr
    replace hT := Lib.hid (texts_below hT.out b3)
    replace b3 := Lib.hid (bb.out.trans (b3.mono bb.out.size))
    clear hj hr hjo bb
    have e0 : (r.toList == r.toList) = true := by simp
    have e1 : ¬ (len : Int) < 1 := by omega
    have e2 : ¬ (64 : Int) < len := by omega
    go_wp2
    go_loopw [9] (fun i wr => ∃ k : Nat, k ≤ len ∧ i = .int .i64 k ∧ Hid (TextsAt wr a2 b2 o2 len T) ∧ Hid (Below w.heap.size w wr)) (fun i _ => len - (intOf i).toNat)
    case atStart => exact ⟨0, by omega, rfl, hT, b3⟩
    case round =>
      clear hT b3
      obtain ⟨k, hk, rfl, hT, bw⟩ := hrel
      by_cases hlt : k < len
      · have i1 : (k : Int) < len := by omega
        have i0 : 0 ≤ (k : Int) := by omega
        obtain rfl := hT.out.addr (by omega)
        have c0 := hT.out.cell k hlt
        have hg := Good_calls (T k) wr
        rw [good.out k hlt] at hg
        replace hg := Lib.hid hg
        go_wp2_with fail
        refine hg.out.mono ?_
        rintro e w4 ⟨rfl, b4⟩
        replace hT := Lib.hid (texts_below hT.out b4)
        replace b4 := Lib.hid (bw.out.trans (b4.mono bw.out.size))
        clear bw c0 hg
        go_wp2
        exact ⟨⟨k + 1, by omega, by go_num, hT, b4⟩, by simp [intOf]; omega⟩
      · have g0 : decide ((k : Int) < len) = false := decide_eq_false (by omega)
        have g1 : (len : Int) ≤ k := by omega
        clear hT
        by_cases h100 : 100 < nl
        · have d0 : (100 : Int) < nl := by omega
          go_wp2
          go_ret
          exact ⟨rfl, bw.out⟩
        · have d0 : ¬ (100 : Int) < nl := by omega
          have hNw := Lib.hid (texts_below hN.out bw.out)
          go_wp2_with fail
          refine (Join_calls na nl nc nb no N _ (by omega) hcap hNw.out).mono ?_
          rintro e w5 ⟨⟨t, c, rfl, hj⟩, b5⟩
          replace b5 := Lib.hid (bw.out.trans (b5.mono bw.out.size))
          clear bw hNw
          by_cases hc : c = 0
          · subst hc
            obtain ⟨f1, f2⟩ := split_of_join hj
            have ht : t.size ≤ 140737488351232 := by
              have := path_len f1
              rw [size_list]; omega
            have sp := Lib.hid (Split_calls t w5 ht)
            rw [f1, f2] at sp
            clear hj f1 f2
            have hN5 := Lib.hid (texts_below hN.out b5.out)
            go_wp2_with fail
            refine sp.out.mono ?_
            rintro e w6 ⟨⟨a6, l6, c6, b6, o6, T6, rfl, h6, -, hl6, -, heq⟩, bb⟩
            have hN6 := texts_below hN5.out bb
            replace bb := Lib.hid (b5.out.trans (bb.mono b5.out.size))
            have sm := Lib.hid (same_calls a6 na l6 c6 b6 o6 nl nc nb no T6 N w6 h6 hN6 (by omega))
            replace heq := Lib.hid (heq (by trivial))
            clear sp b5 hN5 hN6 h6
            go_wp2_with fail
            refine sm.out.mono ?_
            rintro e w7 ⟨⟨x, rfl, hx⟩, n, rfl⟩
            obtain rfl : x = true := hx.2 heq.out
            clear hx sm
            go_wp2
            go_ret
            exact ⟨rfl, below_drewN bb.out n⟩
          · have c0 : ((c : Int) != 0) = true := by simp only [bne_iff_ne]; omega
            obtain rfl : t = ByteArray.empty := empty_of (join_bad hj hc)
            clear hj hc
            go_wp2
            go_ret
            exact ⟨rfl, b5.out⟩
  · have f0 : ((fault s.data.toList : Int) == 0) = false := by simp only [beq_eq_false_iff_ne]; omega
    generalize fault s.data.toList = f at *
    clear heq hT hf
    have bw := bb
    clear bb
    by_cases h100 : 100 < nl
    · have d0 : (100 : Int) < nl := by omega
      go_wp2
      go_ret
      exact ⟨rfl, bw.out⟩
    · have d0 : ¬ (100 : Int) < nl := by omega
      have hNw := Lib.hid (texts_below hN.out bw.out)
      go_wp2_with fail
      refine (Join_calls na nl nc nb no N _ (by omega) hcap hNw.out).mono ?_
      rintro e w5 ⟨⟨t, c, rfl, hj⟩, b5⟩
      replace b5 := Lib.hid (bw.out.trans (b5.mono bw.out.size))
      clear bw hNw
      by_cases hc : c = 0
      · subst hc
        obtain ⟨f1, f2⟩ := split_of_join hj
        have ht : t.size ≤ 140737488351232 := by
          have := path_len f1
          rw [size_list]; omega
        have sp := Lib.hid (Split_calls t w5 ht)
        rw [f1, f2] at sp
        clear hj f1 f2
        have hN5 := Lib.hid (texts_below hN.out b5.out)
        go_wp2_with fail
        refine sp.out.mono ?_
        rintro e w6 ⟨⟨a6, l6, c6, b6, o6, T6, rfl, h6, -, hl6, -, heq⟩, bb⟩
        have hN6 := texts_below hN5.out bb
        replace bb := Lib.hid (b5.out.trans (bb.mono b5.out.size))
        have sm := Lib.hid (same_calls a6 na l6 c6 b6 o6 nl nc nb no T6 N w6 h6 hN6 (by omega))
        replace heq := Lib.hid (heq (by trivial))
        clear sp b5 hN5 hN6 h6
        go_wp2_with fail
        refine sm.out.mono ?_
        rintro e w7 ⟨⟨x, rfl, hx⟩, n, rfl⟩
        obtain rfl : x = true := hx.2 heq.out
        clear hx sm
        go_wp2
        go_ret
        exact ⟨rfl, below_drewN bb.out n⟩
      · have c0 : ((c : Int) != 0) = true := by simp only [bne_iff_ne]; omega
        obtain rfl : t = ByteArray.empty := empty_of (join_bad hj hc)
        clear hj hc
        go_wp2
        go_ret
        exact ⟨rfl, b5.out⟩

theorem own : ownKnob Tryd.prog.godebug = none := by kernel_rfl
theorem laidOut : laidOutB Tryd.prog = true := by kernel_rfl
set_option maxRecDepth 100000 in
theorem lifted (os : Os) (started : os.Started) (H : Type) (enc : TypeId × Value → H) :
    ReturnsInHanded {} Tryd.checked os 6 .any (fun w args => (Rows.pathBackSpec.pre enc Tryd.prog Tryd.f6 [] false w args ∧ laidMetH Tryd.prog Rows.pathBackRow.laid w) ∧ sizedMet enc Tryd.prog Tryd.f6 (OpenSpec.ofChange Rows.pathBackSpec) false w args) (Rows.pathBackSpec.post enc Tryd.prog Tryd.f6 false true false false) := by
  refine returnsInHanded_of_change_and (C := Tryd.checked) (X := (fun w _ => laidMetH Tryd.prog Rows.pathBackRow.laid w)) (fun _ _ _ hh h => h.of_heap hh) own started (by kernel_rfl) Tryd.func6
    (ChangeSpec.witness_shaped (enc := enc) (C := Tryd.checked) (os := os) (X := (fun w _ => laidMetH Tryd.prog Rows.pathBackRow.laid w)) false (World.laidAll Tryd.prog os Rows.pathBackRow.laid) #[.string ByteArray.empty, .slice none 0 0] 8 (World.laidAll_os _ _ _) (World.shaped_of_ZipB (by kernel_rfl) (by kernel_rfl)) (by kernel_rfl) (by kernel_rfl) (by kernel_rfl)
      (by rw [MakeChecks.laidMetH_plain _ _ _ (by kernel_rfl)]; exact laidMet_laidAll _ (by kernel_rfl) (by kernel_rfl))) ?_
  intro W base args ds gs before hval0 hW hcnd hsz0 hL _
  have hval : ∀ (j : Nat) t v, Tryd.f6.params[j]? = some t → args[j]? = some v → Value.okWide Tryd.prog W .any base t v := hval0
  have hsz : (DataW.weightsEach Tryd.prog (Tryd.f6.params.toList ++ Rows.pathBackSpec.plain.varTypes Tryd.prog) (ds ++ gs)).all (· ≤ reachBytes) = true := hsz0
  have hW' := hW
  obtain ⟨p, q, hA0, hV, rfl, hfz, hnd⟩ := hW
  have hA : DataW.TrodAll enc Tryd.prog W 0 (fun _ => true) true Tryd.f6.params.toList args.toList ds p := hA0
  rw [Tryd.params6] at hA hval hsz
  obtain ⟨v0, vs0, d0, ds0, p0, q0, hargs, rfl, rfl, h0, r0⟩ := trodAll_cons hA
  obtain ⟨v1, vs1, d1, ds1, p1, q1, rfl, rfl, rfl, h1, r1⟩ := trodAll_cons r0
  obtain ⟨rfl, rfl, rfl⟩ := trodAll_nil r1
  obtain rfl : args = #[v0, v1] := by cases args; simp_all
  obtain ⟨rfl, rfl⟩ := trodVars_none hV
  have k0 := h0
  have lt0 : ∀ x ∈ p0, x.block < W.heap.size := by obtain ⟨m, hm⟩ := k0; exact DataW.trod_lt m _ _ _ hm
  have ok0 := hval 0 9 v0 rfl rfl
  have k1 := h1
  have lt1 : ∀ x ∈ p1, x.block < W.heap.size := by obtain ⟨m, hm⟩ := k1; exact DataW.trod_lt m _ _ _ hm
  have ok1 := hval 1 22 v1 rfl rfl
  clear hA0 hval0 hsz0
  obtain ⟨a0, rfl, rfl, rfl, w0⟩ := open_string Tryd.underlying9 ok0 h0
  have z0 := Oct.size_reach (sized_string hsz (j := 0) (t := 9) rfl rfl)
  obtain ⟨na, nl, nc, nb, no, N, rfl, hN, hl⟩ := Oct.open_texts Tryd.underlying22 Tryd.underlying9 (by kernel_rfl) (of_decide_eq_true (by kernel_rfl)) ok1 h1 (Oct.arg_weights hsz (j := 1) (t := 22) rfl rfl)
  have hcap := cap_of Tryd.underlying22 Tryd.underlying9 (by kernel_rfl) h1
  refine (walk a0 na nl nc nb no N z0 hl hcap W hN).mono fun e W' ⟨he, bel⟩ => ?_
  subst he
  exact ⟨_, rfl, _, _, _, [], _, [], hW', trodAll_mk1 (shut_bool Tryd.underlying4 _), (trodAll_cons_mk (Below.trod laidOut (by kernel_rfl) (of_decide_eq_true (by kernel_rfl)) k0 bel lt0) (trodAll_cons_mk (Below.trod laidOut (by kernel_rfl) (of_decide_eq_true (by kernel_rfl)) k1 bel lt1) trodAll_mk0)), rfl, bel.frame _, fun h => by cases h⟩

/-- the row -/
theorem row_proved : Rows.PathBackSaid :=
  OpenClaim.holds_of_wide 6 Tryd.f6 rfl rfl rfl rfl rfl rfl rfl ⟨rfl, rfl, rfl, rfl, rfl⟩ rfl rfl rfl rfl rfl (by kernel_rfl) Tryd.func6 (by kernel_rfl)
    (of_decide_eq_true (by kernel_rfl)) (by unfold Func.isWrapper; first | (rw [if_pos (by decide +kernel)]; kernel_rfl) | (rw [if_neg (by decide +kernel)]; exact ⟨rfl, rfl⟩))
    (fun os started H enc _ => lifted os started H enc)
/-- the statement: the tied card -/
theorem proved : Rows.PathBackCardSaid :=
  Claim7.holds_tied_plain_at .later [] Rows.pathBackCard.laidKinds true Rows.pathBackCard.stood.harness Rows.pathBackCard.stood.looks row_proved (fun _ h => by cases h) (by kernel_rfl) (fun _ h => by cases h) pathBack_row_tie rfl ⟨rfl, rfl⟩ (by kernel_rfl) rfl
    (fun f fn hf hfn => by
      obtain rfl : f = 6 := Option.some.inj ((show Tryd.prog.funcNamed Rows.pathBackRow.func = some 6 by kernel_rfl).symm.trans hf) |>.symm
      obtain rfl : fn = Tryd.f6 := (Option.some.inj (Tryd.func6.symm.trans hfn)).symm
      exact ⟨by kernel_rfl, fun j t ht => by
        rw [Tryd.params6] at ht
        have hm : t ∈ [9, 22] := by simpa using Array.mem_of_getElem? ht
        have hall : ([9, 22].all fun u => !Tryd.prog.wantsStandIn u) = true := by kernel_rfl
        exact (show Tryd.prog.wantsStandIn t = false by simpa using List.all_eq_true.1 hall t hm)⟩)
    (by kernel_rfl)
end Go.Proofs.YtokebgmlenlciaaDoor.pathBack
