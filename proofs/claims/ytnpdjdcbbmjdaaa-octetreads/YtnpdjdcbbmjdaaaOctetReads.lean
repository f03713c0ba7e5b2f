/-
  Proved: for every text s and every row of calls, OctetReads returns true and turns nothing of what it was given. Conditions: none beyond the form's own.
-/
import Derived.Test.YtnpdjdcbbmjdaaaRows
import Derived.Test.YtnpdjdcbbmjdaaaOctAwake
import Derived.Test.YtnpdjdcbbmjdaaaOctRefR
import Derived.LoopTactic
namespace Go.Proofs.Ytnpdjdcbbmjdaaa.octetReads
open Go.ChangeShapes Go.WideShapes Go.ChangeAt Go.RowKit
open Go.ChangeMaps (open_string)
open Oct

theorem same {P : Program} {f : FuncId} {args : Array Value} {w : World} {n : Nat} {v : Value} (h : Calls P f args (w.drewN n) fun e w' => e = .returned v ∧ w.drewN n = w') :
    Calls P f args (w.drewN n) fun e w'' => e = .returned v ∧ ∃ m, w'' = w.drewN m := Calls.quiet_of_same (h.mono fun _ _ ⟨x, y⟩ => ⟨x, y.symm⟩)

set_option maxRecDepth 100000 in
set_option maxHeartbeats 4000000 in
theorem walk (s : ByteArray) (a : Option Addr) (len cap ba oa : Nat) (X Y : Nat → Int) (w : World) (hs : s.size ≤ 140737488351232) (hA : PairsAt .i64 .i64 w a ba oa len X Y) (hl : len ≤ 140737488351232) :
    Calls Try.prog 4 #[.string s, .slice a len cap] w fun e w' => e = .returned (.bool true) ∧ Below w.heap.size w w' := by
  go_enter Try.func4, Try.ntmps4
  go_wp2_with fail
  refine (awake_calls _).mono ?_
  rintro e w1 ⟨rfl, b1⟩
  go_wp2_with fail
  refine (New_calls _ w1).mono ?_
  rintro e w2 ⟨rfl, rfl⟩
  have r2 := Rd.new s w1
  have b2 := below_alloc (o := .cells #[.string s, .bool false] 49) b1
  have z1 := b1.size
  have z2 : w1.heap.size < (w1.alloc (.cells #[.string s, .bool false] 49)).heap.size := by simp
  generalize w1.alloc (.cells #[.string s, .bool false] 49) = w2 at *
  generalize w1.heap.size = br at *
  clear b1
  go_wp2_with fail
  refine (RefNew_calls _ w2).mono ?_
  rintro e w3 ⟨rfl, rfl⟩
  have u3 := RR.new s w2
  have r3 := r2.below ((Below.refl w2.heap.size w2).alloc (Nat.le_refl _) (.cells #[.string s, .int .i64 0, .bool false] 37)) z2
  have b3 := below_alloc (o := .cells #[.string s, .int .i64 0, .bool false] 37) b2
  generalize w2.alloc (.cells #[.string s, .int .i64 0, .bool false] 37) = w3 at *
  generalize w2.heap.size = bu at *
  clear b2 r2
  have hne : br ≠ bu := by omega
  have hne' : bu ≠ br := by omega
  have zu : w.heap.size ≤ bu := by omega
  clear z2
  go_wp2_with fail
  go_loopw [7] (fun i w' => ∃ k : Nat, k ≤ len ∧ k ≤ 100 ∧ i = .int .i64 k ∧ ∃ q : St, Rd w' br q ∧ RR w' bu s q ∧ Below w.heap.size w w') (fun i _ => 100 - (intOf i).toNat)
  case atStart => exact ⟨0, Nat.zero_le _, by omega, rfl, _, r3, u3, b3⟩
  case round =>
    clear r3 u3 b3
    obtain ⟨k, hk, hk', rfl, q, r, u, bw⟩ := hrel
    by_cases hkl : k < len
    · by_cases hkh : (k : Int) < 100
      · obtain rfl := hA.addr (by omega)
        obtain ⟨cx, wx⟩ := hA.fst k hkl
        obtain ⟨cy, wy⟩ := hA.snd k hkl
        have la : ba < w.heap.size := lt_of_cell cx
        have nr : ba ≠ br := by omega
        have nu : ba ≠ bu := by omega
        have dx : wr.cell? ⟨ba, oa + k * 2, none⟩ = some (.int .i64 (X k)) := (bw.cell la).trans cx
        have dy : wr.cell? ⟨ba, oa + k * 2 + 1, none⟩ = some (.int .i64 (Y k)) := (bw.cell la).trans cy
        clear cx cy wx wy hA
        generalize X k = x at *
        generalize Y k = y at *
        by_cases h1 : x = 1
        · subst h1
          go_wp2_with fail
          refine (RNum_calls br q wr r).mono ?_
          rintro e w4 ⟨rfl, r4, o4⟩
          have u4 := u.only o4 hne'
          have b4 := bw.trans (o4.below z1)
          have dy4 : w4.cell? ⟨ba, oa + k * 2 + 1, none⟩ = some (.int .i64 y) := (o4.cell nr).trans dy
          clear o4
          go_wp2_with fail
          refine (RefRNum_calls bu s q w4 hs u4).mono ?_
          rintro e w5 ⟨rfl, u5, o5⟩
          have r5 := r4.only o5 hne
          have b5 := b4.trans (o5.below zu)
          clear r4 u4 b4 o5 dy4
          have c2 := u5.c2
          clear dx dy r u bw
          generalize (num q).2 = q' at *
          go_wp2_with fail
          go_quiet (first
            | (go_at_call 22; exact same (Bad_calls br _ _ (r5.drewN _)))
            | (go_at_call 23; exact same (Left_calls br _ _ (r5.drewN _)))
            | (go_at_call 25; exact same (Whole_calls br _ _ (r5.drewN _)))
            | (go_at_call 24; exact Calls.quiet_of (RefLeft_calls bu s _ _ hs (u5.drewN _)))
            | (go_at_call 26; exact Calls.quiet_of (RefWhole_calls bu s _ _ hs (u5.drewN _))))
          go_wp2
          go_roundw
          case rel => exact ⟨k + 1, hkl, by omega, by go_num, q', r5.drewN _, u5.drewN _, below_drewN b5 _⟩
          case measure => simp [intOf]; omega
        have d1 : (x == 1) = false := by simpa using h1
        clear h1
        by_cases h2 : x = 2
        · subst h2
          clear d1
          go_wp2_with fail
          refine (RText_calls br y q wr r).mono ?_
          rintro e w4 ⟨rfl, r4, o4⟩
          have u4 := u.only o4 hne'
          have b4 := bw.trans (o4.below z1)
          have dy4 : w4.cell? ⟨ba, oa + k * 2 + 1, none⟩ = some (.int .i64 y) := (o4.cell nr).trans dy
          clear o4
          go_wp2_with fail
          refine (RefRText_calls bu y s q w4 hs u4).mono ?_
          rintro e w5 ⟨rfl, u5, o5⟩
          have r5 := r4.only o5 hne
          have b5 := b4.trans (o5.below zu)
          clear r4 u4 b4 o5 dy4
          have c2 := u5.c2
          clear dx dy r u bw
          generalize (text q y).2 = q' at *
          go_wp2_with fail
          go_quiet (first
            | (go_at_call 22; exact same (Bad_calls br _ _ (r5.drewN _)))
            | (go_at_call 23; exact same (Left_calls br _ _ (r5.drewN _)))
            | (go_at_call 25; exact same (Whole_calls br _ _ (r5.drewN _)))
            | (go_at_call 24; exact Calls.quiet_of (RefLeft_calls bu s _ _ hs (u5.drewN _)))
            | (go_at_call 26; exact Calls.quiet_of (RefWhole_calls bu s _ _ hs (u5.drewN _))))
          go_wp2
          go_roundw
          case rel => exact ⟨k + 1, hkl, by omega, by go_num, q', r5.drewN _, u5.drewN _, below_drewN b5 _⟩
          case measure => simp [intOf]; omega
        have d2 : (x == 2) = false := by simpa using h2
        clear h2
        by_cases h3 : x = 3
        · subst h3
          clear d1 d2
          go_wp2_with fail
          refine (Take_calls br y q wr r).mono ?_
          rintro e w4 ⟨rfl, r4, o4⟩
          have u4 := u.only o4 hne'
          have b4 := bw.trans (o4.below z1)
          have dy4 : w4.cell? ⟨ba, oa + k * 2 + 1, none⟩ = some (.int .i64 y) := (o4.cell nr).trans dy
          clear o4
          go_wp2_with fail
          refine (RefTake_calls bu y s q w4 hs u4).mono ?_
          rintro e w5 ⟨rfl, u5, o5⟩
          have r5 := r4.only o5 hne
          have b5 := b4.trans (o5.below zu)
          clear r4 u4 b4 o5 dy4
          have c2 := u5.c2
          clear dx dy r u bw
          generalize (take q y).2 = q' at *
          go_wp2_with fail
          go_quiet (first
            | (go_at_call 22; exact same (Bad_calls br _ _ (r5.drewN _)))
            | (go_at_call 23; exact same (Left_calls br _ _ (r5.drewN _)))
            | (go_at_call 25; exact same (Whole_calls br _ _ (r5.drewN _)))
            | (go_at_call 24; exact Calls.quiet_of (RefLeft_calls bu s _ _ hs (u5.drewN _)))
            | (go_at_call 26; exact Calls.quiet_of (RefWhole_calls bu s _ _ hs (u5.drewN _))))
          go_wp2
          go_roundw
          case rel => exact ⟨k + 1, hkl, by omega, by go_num, q', r5.drewN _, u5.drewN _, below_drewN b5 _⟩
          case measure => simp [intOf]; omega
        have d3 : (x == 3) = false := by simpa using h3
        clear h3
        by_cases h4 : x = 4
        · subst h4
          clear d1 d2 d3
          go_wp2_with fail
          refine (Spoil_calls br q wr r).mono ?_
          rintro e w4 ⟨rfl, rfl⟩
          have r4 := r.set1 true
          have u4 := u.only (Only.setCell br 1 wr (.bool true)) hne'
          have b4 := bw.trans ((Only.setCell br 1 wr (.bool true)).below z1)
          generalize wr.setCell ⟨br, 1, none⟩ (.bool true) = w4 at *
          have e2 := u4.c2
          have f2 := u4.f2
          have r5 := r4.only (Only.setCell bu 2 w4 (.bool true)) hne
          have u5 : RR (w4.setCell ⟨bu, 2, none⟩ (.bool true)) bu s ⟨q.rest, true⟩ := u4.spoil rfl
          have b5 := b4.trans ((Only.setCell bu 2 w4 (.bool true)).below zu)
          go_wp2_with fail
          clear r4 u4 b4 e2 f2
          generalize w4.setCell ⟨bu, 2, none⟩ (.bool true) = w5 at *
          have c2 := u5.c2
          clear dx dy r u bw
          generalize (⟨q.rest, true⟩ : St) = q' at *
          go_wp2_with fail
          go_quiet (first
            | (go_at_call 22; exact same (Bad_calls br _ _ (r5.drewN _)))
            | (go_at_call 23; exact same (Left_calls br _ _ (r5.drewN _)))
            | (go_at_call 25; exact same (Whole_calls br _ _ (r5.drewN _)))
            | (go_at_call 24; exact Calls.quiet_of (RefLeft_calls bu s _ _ hs (u5.drewN _)))
            | (go_at_call 26; exact Calls.quiet_of (RefWhole_calls bu s _ _ hs (u5.drewN _))))
          go_wp2
          go_roundw
          case rel => exact ⟨k + 1, hkl, by omega, by go_num, q', r5.drewN _, u5.drewN _, below_drewN b5 _⟩
          case measure => simp [intOf]; omega
        have d4 : (x == 4) = false := by simpa using h4
        clear h4
        have r5 := r
        have u5 := u
        have b5 := bw
        · skip
          have c2 := u5.c2
          clear r u bw
          go_wp2_with fail
          go_quiet (first
            | (go_at_call 22; exact same (Bad_calls br _ _ (r5.drewN _)))
            | (go_at_call 23; exact same (Left_calls br _ _ (r5.drewN _)))
            | (go_at_call 25; exact same (Whole_calls br _ _ (r5.drewN _)))
            | (go_at_call 24; exact Calls.quiet_of (RefLeft_calls bu s _ _ hs (u5.drewN _)))
            | (go_at_call 26; exact Calls.quiet_of (RefWhole_calls bu s _ _ hs (u5.drewN _))))
          go_wp2
          go_roundw
          case rel => exact ⟨k + 1, hkl, by omega, by go_num, q, r5.drewN _, u5.drewN _, below_drewN b5 _⟩
          case measure => simp [intOf]; omega
      · obtain rfl : k = 100 := by omega
        clear hA
        go_wp2
        go_ret
        exact ⟨rfl, bw⟩
    · clear hA
      go_wp2
      go_ret
      exact ⟨rfl, bw⟩

theorem own : ownKnob Try.prog.godebug = none := by kernel_rfl
theorem laidOut : laidOutB Try.prog = true := by kernel_rfl
set_option maxRecDepth 100000 in
theorem lifted (os : Os) (started : os.Started) (H : Type) (enc : TypeId × Value → H) :
    ReturnsInHanded {} Try.checked os 4 .any (Rows.octetReadsSpec.pre6 enc Try.prog Try.f4 Rows.octetReadsRow.domain false) (Rows.octetReadsSpec.post enc Try.prog Try.f4 false true false false) := by
  refine returnsInHanded_of_change_sized (C := Try.checked) own started (by kernel_rfl) Try.func4
    (ChangeSpec.witness6 (enc := enc) (C := Try.checked) false ⟨#[], #[.string ByteArray.empty, .slice none 0 0], []⟩ 8 (by kernel_rfl) (by kernel_rfl) (by kernel_rfl) (by kernel_rfl)) ?_
  intro W base args ds gs before hval0 hW hcnd hsz0 _
  have hval : ∀ (j : Nat) t v, Try.f4.params[j]? = some t → args[j]? = some v → Value.okWide Try.prog W .any base t v := hval0
  have hsz : (DataW.weightsEach Try.prog (Try.f4.params.toList ++ Rows.octetReadsSpec.plain.varTypes Try.prog) (ds ++ gs)).all (· ≤ reachBytes) = true := hsz0
  have hW' := hW
  obtain ⟨p, q, hA0, hV, rfl, hfz, hnd⟩ := hW
  have hA : DataW.TrodAll enc Try.prog W 0 (fun _ => true) true Try.f4.params.toList args.toList ds p := hA0
  rw [Try.params4] at hA hval hsz
  obtain ⟨v0, vs0, d0, ds0, p0, q0, hargs, rfl, rfl, h0, r0⟩ := trodAll_cons hA
  obtain ⟨v1, vs1, d1, ds1, p1, q1, rfl, rfl, rfl, h1, r1⟩ := trodAll_cons r0
  obtain ⟨rfl, rfl, rfl⟩ := trodAll_nil r1
  obtain rfl : args = #[v0, v1] := by cases args; simp_all
  obtain ⟨rfl, rfl⟩ := trodVars_none hV
  have k0 := h0
  have lt0 : ∀ x ∈ p0, x.block < W.heap.size := by obtain ⟨m, hm⟩ := k0; exact DataW.trod_lt m _ _ _ hm
  have ok0 := hval 0 9 v0 rfl rfl
  have k1 := h1
  have lt1 : ∀ x ∈ p1, x.block < W.heap.size := by obtain ⟨m, hm⟩ := k1; exact DataW.trod_lt m _ _ _ hm
  have ok1 := hval 1 27 v1 rfl rfl
  clear hA0 hval0 hsz0
  obtain ⟨a0, rfl, rfl, rfl, w0⟩ := open_string Try.underlying9 ok0 h0
  obtain ⟨aP, lP, cP, bP, oP, X, Y, rfl, hP, zP⟩ := open_pairs Try.underlying27 Try.underlying33 (by kernel_rfl) rfl rfl Try.underlying3 Try.underlying3 (by kernel_rfl) (by kernel_rfl) (of_decide_eq_true (by kernel_rfl)) ok1 h1 (arg_weights hsz (j := 1) rfl rfl)
  have z0 := size_reach (sized_string hsz (j := 0) (t := 9) rfl rfl)
  refine (walk a0 aP lP cP bP oP X Y W z0 hP zP).mono fun e W' ⟨he, bel⟩ => ?_
  subst he
  exact ⟨_, rfl, _, _, _, [], _, [], hW', trodAll_mk1 (shut_bool Try.underlying4 _), (trodAll_cons_mk (Below.trod laidOut (by kernel_rfl) (of_decide_eq_true (by kernel_rfl)) k0 bel lt0) (trodAll_cons_mk (Below.trod laidOut (by kernel_rfl) (of_decide_eq_true (by kernel_rfl)) k1 bel lt1) trodAll_mk0)), rfl, bel.frame _, fun h => by cases h⟩

/-- the statement -/
theorem proved : Rows.OctetReadsSaid :=
  OpenClaim.holds_of_wide 4 Try.f4 rfl rfl rfl rfl rfl rfl rfl ⟨rfl, rfl, rfl, rfl, rfl⟩ rfl rfl rfl rfl rfl (by kernel_rfl) Try.func4 (by kernel_rfl)
    (of_decide_eq_true (by kernel_rfl)) (by unfold Func.isWrapper; first | (rw [if_pos (by decide +kernel)]; kernel_rfl) | (rw [if_neg (by decide +kernel)]; exact ⟨rfl, rfl⟩))
    (fun os started H enc _ => lifted os started H enc)
end Go.Proofs.Ytnpdjdcbbmjdaaa.octetReads
