/-
  Proved: for every three texts, PathOrder returns true and turns nothing of what it was given. Conditions: none beyond the form's own (the two tables of the library that the row lists are what the program's text lays: the card ties them).
-/
import Derived.Test.YtokebgmlenlciaaDoorRows
import Derived.Test.YtokebgmlenlciaaDoorCards
import Derived.Test.YtokebgmlenlciaaDoorTie
import Derived.Test.YtokebgmlenlciaaDoorPaPlain
import Derived.Test.YtokebgmlenlciaaDoorPaLib
import Derived.Test.YtokebgmlenlciaaDoorPaRune
import Derived.Test.YtokebgmlenlciaaDoorPaShelf
import Derived.Test.YtokebgmlenlciaaDoorPaGood
import Derived.Test.YtokebgmlenlciaaDoorPaSplit
import Derived.Test.YtokebgmlenlciaaDoorPaSort
import Derived.Test.YtokebgmlenlciaaDoorPaCheck
import Derived.Test.YtokebgmlenlciaaDoorPaAwake
import Derived.Test.YtokebgmlenlciaaDoorOctKit
import Derived.WalkKit
import Derived.WalkSpells
import Derived.WalkLawsBesides
import Derived.ProofKit
import Derived.OpenShut
import Derived.Laws.BytesArg
import Derived.Laws.Externs
import Derived.Deep.QuietTactic
import Derived.BigQuiet
import Derived.BigRegion
import Derived.Lib.Hide
import Derived.Lib.Bytealg
import Derived.IntWalk
import Derived.Deep.LoopGhost
import Derived.Laws.OwnMore
import Derived.Deep.OwnRows
import Derived.Deep.Draws
import Derived.Deep.MidRow
import Derived.SevenTiedAt
import Derived.LaidMore
import Derived.Lay
import Derived.Stop.Joined
import Derived.MakeChecks
namespace Go.Proofs.YtokebgmlenlciaaDoor.pathOrder
open Go Go.ChangeShapes Go.WideShapes Go.ChangeAt Go.RowKit Pa
open Go.ChangeMaps (open_string)

theorem neg_self (x : Int) (h : -1 ≤ x ∧ x ≤ 1) : IntKind.i64.wrap (- -x) = x := by rw [Int.neg_neg]; exact IntWalk.i64_in _ (by omega)
/-- what is known of three paths -/
structure Facts (a b c : ByteArray) (x y z : Int) (u v : Bool) : Prop where
  rx : x = -1 ∨ x = 0 ∨ x = 1
  ry : y = -1 ∨ y = 0 ∨ y = 1
  rz : z = -1 ∨ z = 0 ∨ z = 1
  same : x = 0 ↔ a = b
  on : x ≤ 0 → y ≤ 0 → z ≤ 0 ∧ (z = 0 → x = 0 ∧ y = 0)
  within : u = true → x = -1
  between : v = true → x ≤ 0 → y ≤ 0 → a ≠ b → u = true
theorem facts (a b c : ByteArray) (ha : fault a.data.toList = 0) (hb : fault b.data.toList = 0) (hc : fault c.data.toList = 0) :
    Facts a b c (Pa.compare a.data.toList b.data.toList) (Pa.compare b.data.toList c.data.toList) (Pa.compare a.data.toList c.data.toList) (within a.data.toList b.data.toList) (within a.data.toList c.data.toList) := by
  unfold Pa.compare
  rw [if_pos ⟨ha, hb⟩, if_pos ⟨hb, hc⟩, if_pos ⟨ha, hc⟩]
  refine ⟨cmpN_range _ _, cmpN_range _ _, cmpN_range _ _, ?_, fun h1 h2 => ⟨leN_trans h1 h2, fun h3 => ?_⟩, fun h => ?_, fun h h1 h2 h3 => ?_⟩
  · constructor
    · intro h; exact data_inj (pieces_inj (cmpN_zero h))
    · rintro rfl; exact cmpN_self _
  · have e := cmpN_zero h3
    rw [e] at h1
    have := leN_antisymm h1 h2
    rw [e, this]; exact ⟨cmpN_self _, cmpN_self _⟩
  · exact cmpN_under (lies_under.1 (Pa.within_iff.1 h).2.2)
  · rcases between (lies_under.1 (Pa.within_iff.1 h).2.2) h1 h2 with e | e
    · exact absurd (data_inj (pieces_inj e)) h3
    · exact Pa.within_iff.2 ⟨ha, hb, lies_under.2 e⟩
theorem compare_neg (a b : Tx) : Pa.compare a b = -Pa.compare b a := by
  unfold Pa.compare
  by_cases h : fault a = 0 ∧ fault b = 0
  · rw [if_pos h, if_pos ⟨h.2, h.1⟩]; exact cmpN_neg _ _
  · rw [if_neg h, if_neg (fun g => h ⟨g.2, g.1⟩)]; rfl
set_option maxRecDepth 100000 in
set_option maxHeartbeats 2000000 in
theorem walk (a b c : ByteArray) (ha : a.size ≤ 140737488351232) (hb : b.size ≤ 140737488351232) (hc : c.size ≤ 140737488351232) (w : World) :
    Calls Tryd.prog 7 #[.string a, .string b, .string c] w fun e w' => e = .returned (.bool true) ∧ Below w.heap.size w w' := by
  have sA := Lib.hid fun w => Split_calls a w ha
  have sB := Lib.hid fun w => Split_calls b w hb
  have sC := Lib.hid fun w => Split_calls c w hc
  have cAB := Lib.hid fun w => Compare_calls a b w ha hb
  have cBA := Lib.hid fun w => Compare_calls b a w hb ha
  have cBC := Lib.hid fun w => Compare_calls b c w hb hc
  have cAC := Lib.hid fun w => Compare_calls a c w ha hc
  have wAB := Lib.hid fun w => Within_calls a b w ha hb
  have wAC := Lib.hid fun w => Within_calls a c w ha hc
  have F := Lib.hid (facts a b c)
  rw [compare_neg b.data.toList a.data.toList] at cBA
  generalize fault a.data.toList = fa at *
  generalize fault b.data.toList = fb at *
  generalize fault c.data.toList = fc at *
  generalize Pa.compare a.data.toList b.data.toList = x at *
  generalize Pa.compare b.data.toList c.data.toList = y at *
  generalize Pa.compare a.data.toList c.data.toList = z at *
  generalize within a.data.toList b.data.toList = u at *
  generalize within a.data.toList c.data.toList = v at *
  go_enter Tryd.func7, Tryd.ntmps7
  go_wp2_with fail
  refine (awake_calls w).mono ?_
  rintro e w1 ⟨rfl, b1⟩
  replace b1 := Lib.hid b1
  go_wp2_with fail
  refine (sA.out w1).mono ?_
  rintro e w2 ⟨⟨p1, l1, k1, _, _, _, rfl, -⟩, b2⟩
  replace b2 := Lib.hid (b1.out.trans (b2.mono b1.out.size))
  clear b1 sA
  go_wp2_with fail
  refine (sB.out w2).mono ?_
  rintro e w3 ⟨⟨p2, l2, k2, _, _, _, rfl, -⟩, b3⟩
  replace b3 := Lib.hid (b2.out.trans (b3.mono b2.out.size))
  clear b2 sB
  go_wp2_with fail
  refine (sC.out w3).mono ?_
  rintro e w4 ⟨⟨p3, l3, k3, _, _, _, rfl, -⟩, b4⟩
  replace b4 := Lib.hid (b3.out.trans (b4.mono b3.out.size))
  clear b3 sC
  by_cases hf : fa = 0 ∧ fb = 0 ∧ fc = 0
  · obtain ⟨rfl, rfl, rfl⟩ := hf
    replace F := Lib.hid (F.out rfl rfl rfl)
    go_wp2_with fail
    refine (cAB.out w4).mono ?_
    rintro e w5 ⟨rfl, b5⟩
    replace b5 := Lib.hid (b4.out.trans (b5.mono b4.out.size))
    go_wp2_with fail
    refine (cBC.out w5).mono ?_
    rintro e w6 ⟨rfl, b6⟩
    replace b6 := Lib.hid (b5.out.trans (b6.mono b5.out.size))
    go_wp2_with fail
    refine (cAC.out w6).mono ?_
    rintro e w7 ⟨rfl, b7⟩
    replace b7 := Lib.hid (b6.out.trans (b7.mono b6.out.size))
    go_wp2_with fail
    refine (cBA.out w7).mono ?_
    rintro e w8 ⟨rfl, b8⟩
    replace b8 := Lib.hid (b7.out.trans (b8.mono b7.out.size))
    clear b4 b5 b6 b7 cAB cBC cAC cBA
    have key : x = 1 ∨ (x = 0 ∧ y = 1) ∨ (x = -1 ∧ y = 1) ∨ (x = -1 ∧ y = -1 ∧ z = -1) ∨ (x = -1 ∧ y = 0 ∧ z = -1) ∨ (x = 0 ∧ y = -1 ∧ z = -1) ∨ (x = 0 ∧ y = 0 ∧ z = -1) ∨ (x = 0 ∧ y = 0 ∧ z = 0) := by
      have := F.out.rx
      have := F.out.ry
      have := F.out.rz
      have := F.out.on
      omega
    have hu : x ≠ -1 → u = false := fun h => by
      cases hx : u
      · rfl
      · exact absurd (F.out.within hx) h
    have he : (a.toList == b.toList) = decide (x = 0) := by
      rw [Oct.beq_toList, decide_eq_decide]; exact F.out.same.symm
    have hv : v = true → x ≤ 0 → y ≤ 0 → x ≠ 0 → u = true := fun h1 h2 h3 h4 => F.out.between h1 h2 h3 fun g => h4 (F.out.same.2 g)
    clear F
    rcases key with rfl | ⟨rfl, rfl⟩ | ⟨rfl, rfl⟩ | ⟨rfl, rfl, rfl⟩ | ⟨rfl, rfl, rfl⟩ | ⟨rfl, rfl, rfl⟩ | ⟨rfl, rfl, rfl⟩ | ⟨rfl, rfl, rfl⟩
    · obtain rfl : u = false := hu (by decide)
      replace he : (a.toList == b.toList) = false := he
      replace hv := Lib.hid hv
      clear hu
      go_wp2_with fail
      refine (wAB.out w8).mono ?_
      rintro e w9 ⟨rfl, b9⟩
      replace b9 := Lib.hid (b8.out.trans (b9.mono b8.out.size))
      go_wp2_with fail
      refine (wAC.out w9).mono ?_
      rintro e w10 ⟨rfl, b10⟩
      replace b10 := Lib.hid (b9.out.trans (b10.mono b9.out.size))
      clear b8 b9
      cases v with
      | false =>
        go_wp2
        go_ret
        exact ⟨rfl, b10.out⟩
      | true =>
        go_wp2
        go_ret
        exact ⟨rfl, b10.out⟩
    · obtain rfl : u = false := hu (by decide)
      replace he : (a.toList == b.toList) = true := he
      replace hv := Lib.hid hv
      clear hu
      go_wp2_with fail
      refine (wAB.out w8).mono ?_
      rintro e w9 ⟨rfl, b9⟩
      replace b9 := Lib.hid (b8.out.trans (b9.mono b8.out.size))
      go_wp2_with fail
      refine (wAC.out w9).mono ?_
      rintro e w10 ⟨rfl, b10⟩
      replace b10 := Lib.hid (b9.out.trans (b10.mono b9.out.size))
      clear b8 b9
      cases v with
      | false =>
        go_wp2
        go_ret
        exact ⟨rfl, b10.out⟩
      | true =>
        go_wp2
        go_ret
        exact ⟨rfl, b10.out⟩
    · replace he : (a.toList == b.toList) = false := he
      clear hu
      replace hv := Lib.hid hv
      cases u with
      | false =>
        go_wp2_with fail
        refine (wAB.out w8).mono ?_
        rintro e w9 ⟨rfl, b9⟩
        replace b9 := Lib.hid (b8.out.trans (b9.mono b8.out.size))
        go_wp2_with fail
        refine (wAC.out w9).mono ?_
        rintro e w10 ⟨rfl, b10⟩
        replace b10 := Lib.hid (b9.out.trans (b10.mono b9.out.size))
        clear b8 b9
        cases v with
        | false =>
          go_wp2
          go_ret
          exact ⟨rfl, b10.out⟩
        | true =>
          go_wp2
          go_ret
          exact ⟨rfl, b10.out⟩
      | true =>
        go_wp2_with fail
        refine (wAB.out w8).mono ?_
        rintro e w9 ⟨rfl, b9⟩
        replace b9 := Lib.hid (b8.out.trans (b9.mono b8.out.size))
        go_wp2_with fail
        refine (wAC.out w9).mono ?_
        rintro e w10 ⟨rfl, b10⟩
        replace b10 := Lib.hid (b9.out.trans (b10.mono b9.out.size))
        clear b8 b9
        cases v with
        | false =>
          go_wp2
          go_ret
          exact ⟨rfl, b10.out⟩
        | true =>
          go_wp2
          go_ret
          exact ⟨rfl, b10.out⟩
    · replace he : (a.toList == b.toList) = false := he
      clear hu
      replace hv := Lib.hid hv
      cases u with
      | false =>
        go_wp2_with fail
        refine (wAB.out w8).mono ?_
        rintro e w9 ⟨rfl, b9⟩
        replace b9 := Lib.hid (b8.out.trans (b9.mono b8.out.size))
        go_wp2_with fail
        refine (wAC.out w9).mono ?_
        rintro e w10 ⟨rfl, b10⟩
        replace b10 := Lib.hid (b9.out.trans (b10.mono b9.out.size))
        clear b8 b9
        cases v with
        | false =>
          go_wp2
          go_ret
          exact ⟨rfl, b10.out⟩
        | true =>
          exact absurd (hv.out rfl (by decide) (by decide) (by decide)) (by decide)
      | true =>
        go_wp2_with fail
        refine (wAB.out w8).mono ?_
        rintro e w9 ⟨rfl, b9⟩
        replace b9 := Lib.hid (b8.out.trans (b9.mono b8.out.size))
        go_wp2_with fail
        refine (wAC.out w9).mono ?_
        rintro e w10 ⟨rfl, b10⟩
        replace b10 := Lib.hid (b9.out.trans (b10.mono b9.out.size))
        clear b8 b9
        cases v with
        | false =>
          go_wp2
          go_ret
          exact ⟨rfl, b10.out⟩
        | true =>
          go_wp2_with fail
          refine (wAB.out w10).mono ?_
          rintro e w11 ⟨rfl, b11⟩
          replace b11 := Lib.hid (b10.out.trans (b11.mono b10.out.size))
          go_wp2
          go_ret
          exact ⟨rfl, b11.out⟩
    · replace he : (a.toList == b.toList) = false := he
      clear hu
      replace hv := Lib.hid hv
      cases u with
      | false =>
        go_wp2_with fail
        refine (wAB.out w8).mono ?_
        rintro e w9 ⟨rfl, b9⟩
        replace b9 := Lib.hid (b8.out.trans (b9.mono b8.out.size))
        go_wp2_with fail
        refine (wAC.out w9).mono ?_
        rintro e w10 ⟨rfl, b10⟩
        replace b10 := Lib.hid (b9.out.trans (b10.mono b9.out.size))
        clear b8 b9
        cases v with
        | false =>
          go_wp2
          go_ret
          exact ⟨rfl, b10.out⟩
        | true =>
          exact absurd (hv.out rfl (by decide) (by decide) (by decide)) (by decide)
      | true =>
        go_wp2_with fail
        refine (wAB.out w8).mono ?_
        rintro e w9 ⟨rfl, b9⟩
        replace b9 := Lib.hid (b8.out.trans (b9.mono b8.out.size))
        go_wp2_with fail
        refine (wAC.out w9).mono ?_
        rintro e w10 ⟨rfl, b10⟩
        replace b10 := Lib.hid (b9.out.trans (b10.mono b9.out.size))
        clear b8 b9
        cases v with
        | false =>
          go_wp2
          go_ret
          exact ⟨rfl, b10.out⟩
        | true =>
          go_wp2_with fail
          refine (wAB.out w10).mono ?_
          rintro e w11 ⟨rfl, b11⟩
          replace b11 := Lib.hid (b10.out.trans (b11.mono b10.out.size))
          go_wp2
          go_ret
          exact ⟨rfl, b11.out⟩
    · obtain rfl : u = false := hu (by decide)
      replace he : (a.toList == b.toList) = true := he
      replace hv := Lib.hid hv
      clear hu
      go_wp2_with fail
      refine (wAB.out w8).mono ?_
      rintro e w9 ⟨rfl, b9⟩
      replace b9 := Lib.hid (b8.out.trans (b9.mono b8.out.size))
      go_wp2_with fail
      refine (wAC.out w9).mono ?_
      rintro e w10 ⟨rfl, b10⟩
      replace b10 := Lib.hid (b9.out.trans (b10.mono b9.out.size))
      clear b8 b9
      cases v with
      | false =>
        go_wp2
        go_ret
        exact ⟨rfl, b10.out⟩
      | true =>
        go_wp2
        go_ret
        exact ⟨rfl, b10.out⟩
    · obtain rfl : u = false := hu (by decide)
      replace he : (a.toList == b.toList) = true := he
      replace hv := Lib.hid hv
      clear hu
      go_wp2_with fail
      refine (wAB.out w8).mono ?_
      rintro e w9 ⟨rfl, b9⟩
      replace b9 := Lib.hid (b8.out.trans (b9.mono b8.out.size))
      go_wp2_with fail
      refine (wAC.out w9).mono ?_
      rintro e w10 ⟨rfl, b10⟩
      replace b10 := Lib.hid (b9.out.trans (b10.mono b9.out.size))
      clear b8 b9
      cases v with
      | false =>
        go_wp2
        go_ret
        exact ⟨rfl, b10.out⟩
      | true =>
        go_wp2
        go_ret
        exact ⟨rfl, b10.out⟩
    · obtain rfl : u = false := hu (by decide)
      replace he : (a.toList == b.toList) = true := he
      replace hv := Lib.hid hv
      clear hu
      go_wp2_with fail
      refine (wAB.out w8).mono ?_
      rintro e w9 ⟨rfl, b9⟩
      replace b9 := Lib.hid (b8.out.trans (b9.mono b8.out.size))
      go_wp2_with fail
      refine (wAC.out w9).mono ?_
      rintro e w10 ⟨rfl, b10⟩
      replace b10 := Lib.hid (b9.out.trans (b10.mono b9.out.size))
      clear b8 b9
      cases v with
      | false =>
        go_wp2
        go_ret
        exact ⟨rfl, b10.out⟩
      | true =>
        go_wp2
        go_ret
        exact ⟨rfl, b10.out⟩
  · have hor : fa ≠ 0 ∨ fb ≠ 0 ∨ fc ≠ 0 := by omega
    clear cAB cBC cAC cBA wAB wAC F
    by_cases h1 : fa = 0
    · have z1 : ((fa : Int) != 0) = false := by rw [h1]; rfl
      by_cases h2 : fb = 0
      · have z2 : ((fb : Int) != 0) = false := by rw [h2]; rfl
        have z3 : ((fc : Int) != 0) = true := by simp only [bne_iff_ne]; omega
        clear hor hf h1 h2
        go_wp2
        go_ret
        exact ⟨rfl, b4.out⟩
      · have z2 : ((fb : Int) != 0) = true := by simp only [bne_iff_ne]; omega
        clear hor hf h1 h2
        go_wp2
        go_ret
        exact ⟨rfl, b4.out⟩
    · have z1 : ((fa : Int) != 0) = true := by simp only [bne_iff_ne]; omega
      clear hor hf h1
      go_wp2
      go_ret
      exact ⟨rfl, b4.out⟩

theorem own : ownKnob Tryd.prog.godebug = none := by kernel_rfl
theorem laidOut : laidOutB Tryd.prog = true := by kernel_rfl
set_option maxRecDepth 100000 in
theorem lifted (os : Os) (started : os.Started) (H : Type) (enc : TypeId × Value → H) :
    ReturnsInHanded {} Tryd.checked os 7 .any (fun w args => (Rows.pathOrderSpec.pre enc Tryd.prog Tryd.f7 [] false w args ∧ laidMetH Tryd.prog Rows.pathOrderRow.laid w) ∧ sizedMet enc Tryd.prog Tryd.f7 (OpenSpec.ofChange Rows.pathOrderSpec) false w args) (Rows.pathOrderSpec.post enc Tryd.prog Tryd.f7 false true false false) := by
  refine returnsInHanded_of_change_and (C := Tryd.checked) (X := (fun w _ => laidMetH Tryd.prog Rows.pathOrderRow.laid w)) (fun _ _ _ hh h => h.of_heap hh) own started (by kernel_rfl) Tryd.func7
    (ChangeSpec.witness_shaped (enc := enc) (C := Tryd.checked) (os := os) (X := (fun w _ => laidMetH Tryd.prog Rows.pathOrderRow.laid w)) false (World.laidAll Tryd.prog os Rows.pathOrderRow.laid) #[.string ByteArray.empty, .string ByteArray.empty, .string ByteArray.empty] 8 (World.laidAll_os _ _ _) (World.shaped_of_ZipB (by kernel_rfl) (by kernel_rfl)) (by kernel_rfl) (by kernel_rfl) (by kernel_rfl)
      (by rw [MakeChecks.laidMetH_plain _ _ _ (by kernel_rfl)]; exact laidMet_laidAll _ (by kernel_rfl) (by kernel_rfl))) ?_
  intro W base args ds gs before hval0 hW hcnd hsz0 hL _
  have hval : ∀ (j : Nat) t v, Tryd.f7.params[j]? = some t → args[j]? = some v → Value.okWide Tryd.prog W .any base t v := hval0
  have hsz : (DataW.weightsEach Tryd.prog (Tryd.f7.params.toList ++ Rows.pathOrderSpec.plain.varTypes Tryd.prog) (ds ++ gs)).all (· ≤ reachBytes) = true := hsz0
  have hW' := hW
  obtain ⟨p, q, hA0, hV, rfl, hfz, hnd⟩ := hW
  have hA : DataW.TrodAll enc Tryd.prog W 0 (fun _ => true) true Tryd.f7.params.toList args.toList ds p := hA0
  rw [Tryd.params7] at hA hval hsz
  obtain ⟨v0, vs0, d0, ds0, p0, q0, hargs, rfl, rfl, h0, r0⟩ := trodAll_cons hA
  obtain ⟨v1, vs1, d1, ds1, p1, q1, rfl, rfl, rfl, h1, r1⟩ := trodAll_cons r0
  obtain ⟨v2, vs2, d2, ds2, p2, q2, rfl, rfl, rfl, h2, r2⟩ := trodAll_cons r1
  obtain ⟨rfl, rfl, rfl⟩ := trodAll_nil r2
  obtain rfl : args = #[v0, v1, v2] := by cases args; simp_all
  obtain ⟨rfl, rfl⟩ := trodVars_none hV
  have k0 := h0
  have lt0 : ∀ x ∈ p0, x.block < W.heap.size := by obtain ⟨m, hm⟩ := k0; exact DataW.trod_lt m _ _ _ hm
  have ok0 := hval 0 9 v0 rfl rfl
  have k1 := h1
  have lt1 : ∀ x ∈ p1, x.block < W.heap.size := by obtain ⟨m, hm⟩ := k1; exact DataW.trod_lt m _ _ _ hm
  have ok1 := hval 1 9 v1 rfl rfl
  have k2 := h2
  have lt2 : ∀ x ∈ p2, x.block < W.heap.size := by obtain ⟨m, hm⟩ := k2; exact DataW.trod_lt m _ _ _ hm
  have ok2 := hval 2 9 v2 rfl rfl
  clear hA0 hval0 hsz0
  obtain ⟨a0, rfl, rfl, rfl, w0⟩ := open_string Tryd.underlying9 ok0 h0
  obtain ⟨a1, rfl, rfl, rfl, w1⟩ := open_string Tryd.underlying9 ok1 h1
  obtain ⟨a2, rfl, rfl, rfl, w2⟩ := open_string Tryd.underlying9 ok2 h2
  have z0 := Oct.size_reach (sized_string hsz (j := 0) (t := 9) rfl rfl)
  have z1 := Oct.size_reach (sized_string hsz (j := 1) (t := 9) rfl rfl)
  have z2 := Oct.size_reach (sized_string hsz (j := 2) (t := 9) rfl rfl)
  refine (walk a0 a1 a2 z0 z1 z2 W).mono fun e W' ⟨he, bel⟩ => ?_
  subst he
  exact ⟨_, rfl, _, _, _, [], _, [], hW', trodAll_mk1 (shut_bool Tryd.underlying4 _), (trodAll_cons_mk (Below.trod laidOut (by kernel_rfl) (of_decide_eq_true (by kernel_rfl)) k0 bel lt0) (trodAll_cons_mk (Below.trod laidOut (by kernel_rfl) (of_decide_eq_true (by kernel_rfl)) k1 bel lt1) (trodAll_cons_mk (Below.trod laidOut (by kernel_rfl) (of_decide_eq_true (by kernel_rfl)) k2 bel lt2) trodAll_mk0))), rfl, bel.frame _, fun h => by cases h⟩

/-- the row -/
theorem row_proved : Rows.PathOrderSaid :=
  OpenClaim.holds_of_wide 7 Tryd.f7 rfl rfl rfl rfl rfl rfl rfl ⟨rfl, rfl, rfl, rfl, rfl⟩ rfl rfl rfl rfl rfl (by kernel_rfl) Tryd.func7 (by kernel_rfl)
    (of_decide_eq_true (by kernel_rfl)) (by unfold Func.isWrapper; first | (rw [if_pos (by decide +kernel)]; kernel_rfl) | (rw [if_neg (by decide +kernel)]; exact ⟨rfl, rfl⟩))
    (fun os started H enc _ => lifted os started H enc)
/-- the statement: the tied card -/
theorem proved : Rows.PathOrderCardSaid :=
  Claim7.holds_tied_plain_at .later [] Rows.pathOrderCard.laidKinds true Rows.pathOrderCard.stood.harness Rows.pathOrderCard.stood.looks row_proved (fun _ h => by cases h) (by kernel_rfl) (fun _ h => by cases h) pathOrder_row_tie rfl ⟨rfl, rfl⟩ (by kernel_rfl) rfl
    (fun f fn hf hfn => by
      obtain rfl : f = 7 := Option.some.inj ((show Tryd.prog.funcNamed Rows.pathOrderRow.func = some 7 by kernel_rfl).symm.trans hf) |>.symm
      obtain rfl : fn = Tryd.f7 := (Option.some.inj (Tryd.func7.symm.trans hfn)).symm
      exact ⟨by kernel_rfl, fun j t ht => by
        rw [Tryd.params7] at ht
        have hm : t ∈ [9, 9, 9] := by simpa using Array.mem_of_getElem? ht
        have hall : ([9, 9, 9].all fun u => !Tryd.prog.wantsStandIn u) = true := by kernel_rfl
        exact (show Tryd.prog.wantsStandIn t = false by simpa using List.all_eq_true.1 hall t hm)⟩)
    (by kernel_rfl)
end Go.Proofs.YtokebgmlenlciaaDoor.pathOrder
