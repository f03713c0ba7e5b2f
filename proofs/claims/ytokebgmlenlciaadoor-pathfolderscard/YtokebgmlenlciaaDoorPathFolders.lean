/-
  Proved: for every two texts, PathFolders returns true and turns nothing of what it was given. Conditions: none beyond the form's own (the two tables of the library that the row lists are what the program's text lays: the card ties them).
-/
import Derived.Test.YtokebgmlenlciaaDoorRows
import Derived.Test.YtokebgmlenlciaaDoorCards
import Derived.Test.YtokebgmlenlciaaDoorTie
import Derived.Test.YtokebgmlenlciaaDoorPaPlain
import Derived.Test.YtokebgmlenlciaaDoorPaLib
import Derived.Test.YtokebgmlenlciaaDoorPaRune
import Derived.Test.YtokebgmlenlciaaDoorPaShelf
import Derived.Test.YtokebgmlenlciaaDoorPaGood
import Derived.Test.YtokebgmlenlciaaDoorPaSplit
import Derived.Test.YtokebgmlenlciaaDoorPaSort
import Derived.Test.YtokebgmlenlciaaDoorPaCheck
import Derived.Test.YtokebgmlenlciaaDoorPaAwake
import Derived.Test.YtokebgmlenlciaaDoorPaMore
import Derived.Test.YtokebgmlenlciaaDoorOctKit
import Derived.WalkKit
import Derived.WalkSpells
import Derived.WalkLawsBesides
import Derived.ProofKit
import Derived.OpenShut
import Derived.Laws.BytesArg
import Derived.Laws.Externs
import Derived.Deep.QuietTactic
import Derived.BigQuiet
import Derived.BigRegion
import Derived.Lib.Hide
import Derived.Lib.Bytealg
import Derived.IntWalk
import Derived.Deep.LoopGhost
import Derived.Laws.OwnMore
import Derived.Deep.OwnRows
import Derived.Deep.Draws
import Derived.Deep.MidRow
import Derived.SevenTiedAt
import Derived.LaidMore
import Derived.Lay
import Derived.Stop.Joined
import Derived.MakeChecks
namespace Go.Proofs.YtokebgmlenlciaaDoor.pathFolders
open Go Go.ChangeShapes Go.WideShapes Go.ChangeAt Go.RowKit Pa
open Go.ChangeMaps (open_string)
open Oct (TextsAt)

/-- a beginning of a path's names -/
theorem tx_take {T : Nat → ByteArray} {len n : Nat} (h : n ≤ len) : tx T n = (tx T len).take n := by
  unfold tx
  rw [← List.map_take, List.take_range, Nat.min_eq_left h]
/-- the folder of so many names -/
structure Begins (s r : Tx) (n : Nat) : Prop where
  path : fault r = 0
  within : Pa.within r s = decide (n < (pieces s).length)
  stands : Pa.compare r s ≤ 0
  is : r = joined ((pieces s).take n)
theorem begins {s r : Tx} {n c : Nat} (hs : isPath s) (h1 : 1 ≤ n) (h2 : n ≤ (pieces s).length) (hj : IsJoin ((pieces s).take n) r c) : c = 0 ∧ Begins s r n := by
  obtain ⟨g1, g2⟩ := isPath_iff.1 hs
  have hl : ((pieces s).take n).length = n := by rw [List.length_take]; omega
  have hne : (pieces s).take n ≠ [] := fun e => by rw [e] at hl; simp at hl; omega
  have hall : ∀ p ∈ (pieces s).take n, isName p = true := fun p hp => g1 p (List.mem_of_mem_take hp)
  obtain ⟨rfl, rfl⟩ := hj.unique (.ok hne hall (by omega))
  have e := pieces_joined _ hne fun p hp => name_no_slash (hall p hp)
  have hf : fault (joined ((pieces s).take n)) = 0 := isPath_iff.2 (by rw [e]; exact ⟨hall, by omega⟩)
  have split : pieces s = (pieces s).take n ++ (pieces s).drop n := (List.take_append_drop _ _).symm
  refine ⟨rfl, hf, ?_, ?_, rfl⟩
  · rw [Bool.eq_iff_iff, Pa.within_iff, decide_eq_true_eq, lies_under, e]
    constructor
    · rintro ⟨_, _, h⟩
      unfold under at h
      rw [Bool.and_eq_true, decide_eq_true_eq, hl] at h
      exact h.2
    · intro h
      exact ⟨hf, hs, under_iff.2 ⟨_, fun e => by have := congrArg List.length e; rw [List.length_drop] at this; simp at this; omega, split⟩⟩
  · unfold Pa.compare
    rw [if_pos ⟨hf, hs⟩, e]
    by_cases h : n < (pieces s).length
    · have : under ((pieces s).take n) (pieces s) = true := under_iff.2 ⟨_, fun e => by have := congrArg List.length e; rw [List.length_drop] at this; simp at this; omega, split⟩
      rw [cmpN_under this]; decide
    · rw [List.take_of_length_le (by omega), cmpN_self]; decide
/-- whether one of the beginnings up to a number is the other text -/
def Found (s o : Tx) (n : Nat) : Prop := ∃ m, 1 ≤ m ∧ m < n ∧ m < (pieces s).length ∧ joined ((pieces s).take m) = o
theorem found_next {s o : Tx} {n : Nat} (h1 : 1 ≤ n) : Found s o (n + 1) ↔ Found s o n ∨ (joined ((pieces s).take n) = o ∧ n < (pieces s).length) := by
  constructor
  · rintro ⟨m, a, b, c, d⟩
    by_cases e : m = n
    · subst e; exact Or.inr ⟨d, c⟩
    · exact Or.inl ⟨m, a, by omega, c, d⟩
  · rintro (⟨m, a, b, c, d⟩ | ⟨d, c⟩)
    · exact ⟨m, a, by omega, c, d⟩
    · exact ⟨n, h1, by omega, c, d⟩
theorem found_end {s o : Tx} (hs : isPath s) : Pa.within o s = true ↔ Found s o ((pieces s).length + 1) := by
  obtain ⟨g1, g2⟩ := isPath_iff.1 hs
  rw [Pa.within_iff, lies_under]
  constructor
  · rintro ⟨h1, _, h3⟩
    obtain ⟨z, hz, e⟩ := under_iff.1 h3
    have hz := List.length_pos_iff.2 hz
    have ho := List.length_pos_iff.2 (pieces_ne o)
    have hl : (pieces s).length = (pieces o).length + z.length := by rw [e, List.length_append]
    refine ⟨(pieces o).length, ho, by omega, by omega, ?_⟩
    have : (pieces s).take (pieces o).length = pieces o := by rw [e]; simp
    rw [this, joined_pieces]
  · rintro ⟨m, a, b, c, rfl⟩
    have hl : ((pieces s).take m).length = m := by rw [List.length_take]; omega
    have hne : (pieces s).take m ≠ [] := fun e => by rw [e] at hl; simp at hl; omega
    have hall : ∀ p ∈ (pieces s).take m, isName p = true := fun p hp => g1 p (List.mem_of_mem_take hp)
    have hw := (begins hs a (by omega) (.ok hne hall (by omega))).2.within
    rw [decide_eq_true c, Pa.within_iff, lies_under] at hw
    exact hw
set_option maxRecDepth 100000 in
set_option maxHeartbeats 2000000 in
theorem walk (s o : ByteArray) (hs : s.size ≤ 140737488351232) (ho : o.size ≤ 140737488351232) (w : World) :
    Calls Tryd.prog 9 #[.string s, .string o] w fun e w' => e = .returned (.bool true) ∧ Below w.heap.size w w' := by
  go_enter Tryd.func9, Tryd.ntmps9
  go_wp2_with fail
  refine (awake_calls w).mono ?_
  rintro e w1 ⟨rfl, b1⟩
  replace b1 := Lib.hid b1
  go_wp2_with fail
  refine (Split_calls s w1 hs).mono ?_
  rintro e w2 ⟨⟨a2, len, cap, b2, o2, T, rfl, hT, hlc, hl2, hz, heq⟩, bb⟩
  replace bb := Lib.hid (b1.out.trans (bb.mono b1.out.size))
  clear b1 hz
  by_cases hf : fault s.data.toList = 0
  · have hp := Lib.hid (heq hf)
    have hlen : len = (pieces s.data.toList).length := by rw [← hp.out, tx_length]
    have hP : Hid (isPath s.data.toList) := Lib.hid hf
    rw [hf]
    clear heq hf
    replace hT := Lib.hid hT
    replace hlen := Lib.hid hlen
    go_wp2
    go_loopw [7, 8, 9, 10] (fun x i _ _ wr => ∃ (k : Nat) (y : Bool), 1 ≤ k ∧ k ≤ len + 1 ∧ x = .bool y ∧ i = .int .i64 k ∧ Hid (y = true ↔ Found s.data.toList o.data.toList k) ∧ Hid (TextsAt wr a2 b2 o2 len T) ∧ Hid (Below w.heap.size w wr)) (fun _ i _ _ _ => len + 1 - (intOf i).toNat)
    case atStart => exact ⟨1, false, by omega, by omega, rfl, rfl, Lib.hid (by simp only [Bool.false_eq_true, false_iff]; rintro ⟨m, a, b, _⟩; omega), hT, bb⟩
    case round =>
      clear hT bb
      obtain ⟨k, y, h1, hk, rfl, rfl, hy, hT, bw⟩ := hrel
      by_cases hle : k ≤ len
      · have i1 : (k : Int) ≤ len := by omega
        have i0 : 0 ≤ (k : Int) := by omega
        have i2 : (k : Int) ≤ cap := by omega
        have hTk : TextsAt wr a2 b2 o2 k T := ⟨fun h => hT.out.addr (by omega), fun i hi => hT.out.cell i (by omega), hT.out.size⟩
        obtain rfl := hT.out.addr (by omega)
        have hJ := Lib.hid (Join_calls _ k cap b2 o2 T wr (by omega) (by omega) hTk)
        clear hTk
        go_wp2_with fail
        refine hJ.out.mono ?_
        rintro e w3 ⟨⟨r, c, rfl, hj⟩, b3⟩
        rw [tx_take hle, hp.out] at hj
        obtain ⟨rfl, hB⟩ := begins hP.out h1 (by rw [← hlen.out]; exact hle) hj
        have hr : r.size ≤ 140737488351232 := by
          have := path_len hB.path
          rw [size_list]; omega
        have cW := fun w => Within_calls r s w hr hs
        have cC := fun w => Compare_calls r s w hr hs
        rw [hB.within, ← hlen.out] at cW
        have hst := hB.stands
        generalize Pa.compare r.data.toList s.data.toList = q at *
        replace cW := Lib.hid cW
        replace cC := Lib.hid cC
        have hnx := Lib.hid (found_next (s := s.data.toList) (o := o.data.toList) h1)
        rw [← hB.is, ← hlen.out] at hnx
        replace hT := Lib.hid (texts_below hT.out b3)
        replace b3 := Lib.hid (bw.out.trans (b3.mono bw.out.size))
        clear hj hB bw hJ
        have q0 : ¬ 0 < q := by omega
        by_cases hlt : k < len
        · have l0 : (k : Int) < len := by omega
          rw [decide_eq_true hlt] at cW
          go_wp2_with fail
          refine (cW.out w3).mono ?_
          rintro e w4 ⟨rfl, b4⟩
          replace hT := Lib.hid (texts_below hT.out b4)
          replace b4 := Lib.hid (b3.out.trans (b4.mono b3.out.size))
          go_wp2_with fail
          refine (cC.out w4).mono ?_
          rintro e w5 ⟨rfl, b5⟩
          replace hT := Lib.hid (texts_below hT.out b5)
          replace b5 := Lib.hid (b4.out.trans (b5.mono b4.out.size))
          clear b3 b4 cW cC
          cases y with
          | true =>
            go_wp2
            exact ⟨⟨k + 1, true, by omega, by omega, rfl, by go_num, Lib.hid (by rw [hnx.out]; simp only [true_iff]; exact Or.inl (hy.out.1 (by trivial))), hT, b5⟩, by simp [intOf]; omega⟩
          | false =>
            have hno : Hid (¬ Found s.data.toList o.data.toList k) := Lib.hid fun h => absurd (hy.out.2 h) (by simp)
            by_cases hro : r = o
            · have e1 : (r.toList == o.toList) = true := by rw [hro]; simp
              replace hro := Lib.hid hro
              go_wp2
              exact ⟨⟨k + 1, true, by omega, by omega, rfl, by go_num, Lib.hid (by rw [hnx.out]; simp only [true_iff]; exact Or.inr ⟨by rw [hro.out], hlt⟩), hT, b5⟩, by simp [intOf]; omega⟩
            · have e1 : (r.toList == o.toList) = false := by rw [Oct.beq_toList]; exact decide_eq_false hro
              have nx : Hid (¬ Found s.data.toList o.data.toList (k + 1)) := Lib.hid (by
                rw [hnx.out]
                rintro (h | ⟨h, _⟩)
                · exact hno.out h
                · exact hro (data_inj h))
              clear hro
              go_wp2
              exact ⟨⟨k + 1, false, by omega, by omega, rfl, by go_num, Lib.hid (by simp only [Bool.false_eq_true, false_iff]; exact nx.out), hT, b5⟩, by simp [intOf]; omega⟩
        · have l0 : ¬ (k : Int) < len := by omega
          rw [decide_eq_false hlt] at cW
          go_wp2_with fail
          refine (cW.out w3).mono ?_
          rintro e w4 ⟨rfl, b4⟩
          replace hT := Lib.hid (texts_below hT.out b4)
          replace b4 := Lib.hid (b3.out.trans (b4.mono b3.out.size))
          go_wp2_with fail
          refine (cC.out w4).mono ?_
          rintro e w5 ⟨rfl, b5⟩
          replace hT := Lib.hid (texts_below hT.out b5)
          replace b5 := Lib.hid (b4.out.trans (b5.mono b4.out.size))
          clear b3 b4 cW cC
          cases y with
          | true =>
            go_wp2
            exact ⟨⟨k + 1, true, by omega, by omega, rfl, by go_num, Lib.hid (by rw [hnx.out]; simp only [true_iff]; exact Or.inl (hy.out.1 (by trivial))), hT, b5⟩, by simp [intOf]; omega⟩
          | false =>
            have hno : Hid (¬ Found s.data.toList o.data.toList (k + 1)) := Lib.hid (by
              rw [hnx.out]
              rintro (h | ⟨_, h⟩)
              · exact absurd (hy.out.2 h) (by simp)
              · exact hlt h)
            by_cases hro : r = o
            · have e1 : (r.toList == o.toList) = true := by rw [hro]; simp
              clear hro
              go_wp2
              exact ⟨⟨k + 1, false, by omega, by omega, rfl, by go_num, Lib.hid (by simp only [Bool.false_eq_true, false_iff]; exact hno.out), hT, b5⟩, by simp [intOf]; omega⟩
            · have e1 : (r.toList == o.toList) = false := by rw [Oct.beq_toList]; exact decide_eq_false hro
              clear hro
              go_wp2
              exact ⟨⟨k + 1, false, by omega, by omega, rfl, by go_num, Lib.hid (by simp only [Bool.false_eq_true, false_iff]; exact hno.out), hT, b5⟩, by simp [intOf]; omega⟩
      · have g0 : decide ((k : Int) ≤ len) = false := decide_eq_false (by omega)
        have g1 : (len : Int) < k := by omega
        obtain rfl : k = len + 1 := by omega
        have hW := fun w => Within_calls o s w ho hs
        have hfin : Pa.within o.data.toList s.data.toList = y := by
          rw [Bool.eq_iff_iff, found_end hP.out, hy.out, hlen.out]
        rw [hfin] at hW
        replace hW := Lib.hid hW
        clear hfin hy hT
        have e1 : (y == y) = true := by simp
        go_wp2_with fail
        refine (hW.out wr).mono ?_
        rintro e w4 ⟨rfl, b4⟩
        replace b4 := Lib.hid (bw.out.trans (b4.mono bw.out.size))
        go_wp2
        go_ret
        exact ⟨rfl, b4.out⟩
  · have f0 : ((fault s.data.toList : Int) != 0) = true := by simp only [bne_iff_ne]; omega
    have c1 := fun w => Within_calls s o w hs ho
    have c2 := fun w => Within_calls o s w ho hs
    have e1 : Pa.within s.data.toList o.data.toList = false := by
      rw [Bool.eq_false_iff, ne_eq, Pa.within_iff]; exact fun h => hf h.1
    have e2 : Pa.within o.data.toList s.data.toList = false := by
      rw [Bool.eq_false_iff, ne_eq, Pa.within_iff]; exact fun h => hf h.2.1
    rw [e1] at c1
    rw [e2] at c2
    replace c1 := Lib.hid c1
    replace c2 := Lib.hid c2
    generalize fault s.data.toList = f at *
    clear heq hT hf e1 e2
    go_wp2_with fail
    refine (c1.out w2).mono ?_
    rintro e w3 ⟨rfl, b3⟩
    replace b3 := Lib.hid (bb.out.trans (b3.mono bb.out.size))
    go_wp2_with fail
    refine (c2.out w3).mono ?_
    rintro e w4 ⟨rfl, b4⟩
    replace b4 := Lib.hid (b3.out.trans (b4.mono b3.out.size))
    go_wp2
    go_ret
    exact ⟨rfl, b4.out⟩

theorem own : ownKnob Tryd.prog.godebug = none := by kernel_rfl
theorem laidOut : laidOutB Tryd.prog = true := by kernel_rfl
set_option maxRecDepth 100000 in
theorem lifted (os : Os) (started : os.Started) (H : Type) (enc : TypeId × Value → H) :
    ReturnsInHanded {} Tryd.checked os 9 .any (fun w args => (Rows.pathFoldersSpec.pre enc Tryd.prog Tryd.f9 [] false w args ∧ laidMetH Tryd.prog Rows.pathFoldersRow.laid w) ∧ sizedMet enc Tryd.prog Tryd.f9 (OpenSpec.ofChange Rows.pathFoldersSpec) false w args) (Rows.pathFoldersSpec.post enc Tryd.prog Tryd.f9 false true false false) := by
  refine returnsInHanded_of_change_and (C := Tryd.checked) (X := (fun w _ => laidMetH Tryd.prog Rows.pathFoldersRow.laid w)) (fun _ _ _ hh h => h.of_heap hh) own started (by kernel_rfl) Tryd.func9
    (ChangeSpec.witness_shaped (enc := enc) (C := Tryd.checked) (os := os) (X := (fun w _ => laidMetH Tryd.prog Rows.pathFoldersRow.laid w)) false (World.laidAll Tryd.prog os Rows.pathFoldersRow.laid) #[.string ByteArray.empty, .string ByteArray.empty] 8 (World.laidAll_os _ _ _) (World.shaped_of_ZipB (by kernel_rfl) (by kernel_rfl)) (by kernel_rfl) (by kernel_rfl) (by kernel_rfl)
      (by rw [MakeChecks.laidMetH_plain _ _ _ (by kernel_rfl)]; exact laidMet_laidAll _ (by kernel_rfl) (by kernel_rfl))) ?_
  intro W base args ds gs before hval0 hW hcnd hsz0 hL _
  have hval : ∀ (j : Nat) t v, Tryd.f9.params[j]? = some t → args[j]? = some v → Value.okWide Tryd.prog W .any base t v := hval0
  have hsz : (DataW.weightsEach Tryd.prog (Tryd.f9.params.toList ++ Rows.pathFoldersSpec.plain.varTypes Tryd.prog) (ds ++ gs)).all (· ≤ reachBytes) = true := hsz0
  have hW' := hW
  obtain ⟨p, q, hA0, hV, rfl, hfz, hnd⟩ := hW
  have hA : DataW.TrodAll enc Tryd.prog W 0 (fun _ => true) true Tryd.f9.params.toList args.toList ds p := hA0
  rw [Tryd.params9] at hA hval hsz
  obtain ⟨v0, vs0, d0, ds0, p0, q0, hargs, rfl, rfl, h0, r0⟩ := trodAll_cons hA
  obtain ⟨v1, vs1, d1, ds1, p1, q1, rfl, rfl, rfl, h1, r1⟩ := trodAll_cons r0
  obtain ⟨rfl, rfl, rfl⟩ := trodAll_nil r1
  obtain rfl : args = #[v0, v1] := by cases args; simp_all
  obtain ⟨rfl, rfl⟩ := trodVars_none hV
  have k0 := h0
  have lt0 : ∀ x ∈ p0, x.block < W.heap.size := by obtain ⟨m, hm⟩ := k0; exact DataW.trod_lt m _ _ _ hm
  have ok0 := hval 0 9 v0 rfl rfl
  have k1 := h1
  have lt1 : ∀ x ∈ p1, x.block < W.heap.size := by obtain ⟨m, hm⟩ := k1; exact DataW.trod_lt m _ _ _ hm
  have ok1 := hval 1 9 v1 rfl rfl
  clear hA0 hval0 hsz0
  obtain ⟨a0, rfl, rfl, rfl, w0⟩ := open_string Tryd.underlying9 ok0 h0
  obtain ⟨a1, rfl, rfl, rfl, w1⟩ := open_string Tryd.underlying9 ok1 h1
  have z0 := Oct.size_reach (sized_string hsz (j := 0) (t := 9) rfl rfl)
  have z1 := Oct.size_reach (sized_string hsz (j := 1) (t := 9) rfl rfl)
  refine (walk a0 a1 z0 z1 W).mono fun e W' ⟨he, bel⟩ => ?_
  subst he
  exact ⟨_, rfl, _, _, _, [], _, [], hW', trodAll_mk1 (shut_bool Tryd.underlying4 _), (trodAll_cons_mk (Below.trod laidOut (by kernel_rfl) (of_decide_eq_true (by kernel_rfl)) k0 bel lt0) (trodAll_cons_mk (Below.trod laidOut (by kernel_rfl) (of_decide_eq_true (by kernel_rfl)) k1 bel lt1) trodAll_mk0)), rfl, bel.frame _, fun h => by cases h⟩

/-- the row -/
theorem row_proved : Rows.PathFoldersSaid :=
  OpenClaim.holds_of_wide 9 Tryd.f9 rfl rfl rfl rfl rfl rfl rfl ⟨rfl, rfl, rfl, rfl, rfl⟩ rfl rfl rfl rfl rfl (by kernel_rfl) Tryd.func9 (by kernel_rfl)
    (of_decide_eq_true (by kernel_rfl)) (by unfold Func.isWrapper; first | (rw [if_pos (by decide +kernel)]; kernel_rfl) | (rw [if_neg (by decide +kernel)]; exact ⟨rfl, rfl⟩))
    (fun os started H enc _ => lifted os started H enc)
/-- the statement: the tied card -/
theorem proved : Rows.PathFoldersCardSaid :=
  Claim7.holds_tied_plain_at .later [] Rows.pathFoldersCard.laidKinds true Rows.pathFoldersCard.stood.harness Rows.pathFoldersCard.stood.looks row_proved (fun _ h => by cases h) (by kernel_rfl) (fun _ h => by cases h) pathFolders_row_tie rfl ⟨rfl, rfl⟩ (by kernel_rfl) rfl
    (fun f fn hf hfn => by
      obtain rfl : f = 9 := Option.some.inj ((show Tryd.prog.funcNamed Rows.pathFoldersRow.func = some 9 by kernel_rfl).symm.trans hf) |>.symm
      obtain rfl : fn = Tryd.f9 := (Option.some.inj (Tryd.func9.symm.trans hfn)).symm
      exact ⟨by kernel_rfl, fun j t ht => by
        rw [Tryd.params9] at ht
        have hm : t ∈ [9, 9] := by simpa using Array.mem_of_getElem? ht
        have hall : ([9, 9].all fun u => !Tryd.prog.wantsStandIn u) = true := by kernel_rfl
        exact (show Tryd.prog.wantsStandIn t = false by simpa using List.all_eq_true.1 hall t hm)⟩)
    (by kernel_rfl)
end Go.Proofs.YtokebgmlenlciaaDoor.pathFolders
