/-
  Proved: for every list, place and byte, PackTells returns true and turns nothing of what it was given. Conditions: none beyond the form's own (the tables are what the program's text lays: the card ties them).
-/
import Derived.Test.YtliojhhiadfmiaaDoorRows
import Derived.Test.YtliojhhiadfmiaaDoorCards
import Derived.Test.YtliojhhiadfmiaaDoorTie
import Derived.Test.YtliojhhiadfmiaaDoorOctKit
import Derived.SevenTiedAt
import Derived.Test.YtliojhhiadfmiaaDoorPkAwake
import Derived.WalkKit
import Derived.WalkSpells
import Derived.WalkLawsBesides
import Derived.ProofKit
import Derived.OpenShut
import Derived.Laws.BytesArg
import Derived.Deep.QuietTactic
import Derived.BigQuiet
import Derived.BigRegion
import Derived.Lib.Hide
import Derived.LaidMore
import Derived.Stop.Joined
import Derived.MakeChecks
import Derived.Deep.RegionHeld3
import Derived.StillTailTactics
import Derived.Lay
import Derived.Deep.DeepHandedRow
namespace Go.Proofs.YtliojhhiadfmiaaDoor.packTells
open Go Go.ChangeShapes Go.WideShapes Go.ChangeAt Go.RowKit Pk
open Oct (empty append_toList extract_toList ext_toList size_toList)
open Go.ChangeMaps (open_string)

theorem one_byte (x : UInt8) : strOfNums [(x.toNat : Int)] = ⟨#[x]⟩ := by
  apply ext_toList
  simp [strOfNums]
theorem conv1 (w : World) (b : Nat) (x : UInt8) (h : w.cell? ⟨b, 0, none⟩ = some (.int .u8 (x.toNat : Int))) :
    (convert 40 9 (.slice (some ⟨b, 0, none⟩) 1 1)).run Tryd.prog w = .ok (.string ⟨#[x]⟩) w := by
  rw [← one_byte x]
  exact run_convert_bytes_arg w 40 5 Tryd.underlying40 Tryd.underlying5 b 0 1 1 [(x.toNat : Int)] rfl (fun i hi => by
    match i, hi with
    | 0, _ => exact h) 9 Tryd.underlying9
theorem place (i : Int) (n : Nat) (h0 : 0 < n) (h1 : n ≤ 270000) : ∃ k : Nat, wrap64 ((IntKind.u64.wrap i).tmod n) = k ∧ k < n := by
  have hu : 0 ≤ IntKind.u64.wrap i := by simp [IntKind.wrap, IntKind.bits, IntKind.signed]; omega
  have e : (IntKind.u64.wrap i).tmod n = (IntKind.u64.wrap i) % n := Int.tmod_eq_emod_of_nonneg hu
  have p0 : 0 ≤ (IntKind.u64.wrap i) % (n : Int) := Int.emod_nonneg _ (by omega)
  have p1 : (IntKind.u64.wrap i) % (n : Int) < n := Int.emod_lt_of_pos _ (by omega)
  rw [e]
  generalize (IntKind.u64.wrap i) % (n : Int) = m at *
  refine ⟨m.toNat, ?_, by omega⟩
  unfold wrap64
  omega
/-- a text of which a byte is another -/
theorem tells {P t A C : ByteArray} {c x : UInt8} {k : Nat} (hP : P.data.toList = A.data.toList ++ c :: C.data.toList) (ht : t.data.toList = A.data.toList ++ x :: C.data.toList) (hk : A.size = k) (hcx : x ≠ c) (h32 : 32 ≤ P.size)
    (h1 : Sealed P) (h2 : Sealed t) : k < P.size - 32 ∧ dig (t.extract 0 (P.size - 32)) = dig (P.extract 0 (P.size - 32)) := by
  have zP := congrArg List.length hP
  have zt := congrArg List.length ht
  have zA := size_toList A
  rw [size_toList, List.length_append, List.length_cons] at zP zt
  have hz : t.size = P.size := by omega
  unfold Sealed at h1 h2
  rw [hz] at h2
  obtain ⟨n, hn⟩ : ∃ n, P.size - 32 = n := ⟨_, rfl⟩
  rw [hn] at h1 h2 ⊢
  by_cases hlt : k < n
  · refine ⟨hlt, ?_⟩
    rw [h1, h2]
    apply ext_toList
    rw [extract_toList, extract_toList, hP, ht]
    obtain ⟨d, rfl⟩ : ∃ d, n = k + 1 + d := ⟨n - k - 1, by omega⟩
    have e : ∀ y : UInt8, (A.data.toList ++ y :: C.data.toList).drop (k + 1 + d) = C.data.toList.drop d := fun y => by
      rw [Nat.add_assoc, ← hk, ← zA, Nat.add_comm 1 d, List.drop_append, List.drop_of_length_le (by omega), Nat.add_sub_cancel_left, List.nil_append, List.drop_succ_cons]
    rw [e, e]
  · exfalso
    have e : ∀ y : UInt8, (A.data.toList ++ y :: C.data.toList).take n = A.data.toList.take n := fun y => List.take_append_of_le_length (by omega)
    have e1 : t.extract 0 n = P.extract 0 n := by
      apply ext_toList
      rw [extract_toList, extract_toList, List.drop_zero, List.drop_zero, hP, ht, Nat.sub_zero, e, e]
    rw [e1, h1] at h2
    have e2 : (P.extract n P.size).data.toList = (t.extract n P.size).data.toList := by rw [h2]
    rw [extract_toList, extract_toList, List.take_of_length_le (by rw [List.length_drop, size_toList]; omega), List.take_of_length_le (by rw [List.length_drop, size_toList]; omega)] at e2
    have e3 : P.data.toList = t.data.toList := by
      have l1 := List.take_append_drop n P.data.toList
      have l2 := List.take_append_drop n t.data.toList
      rw [← l1, ← l2, e2]
      congr 1
      rw [hP, ht, e, e]
    rw [hP, ht] at e3
    have := List.append_cancel_left e3
    simp only [List.cons.injEq, and_true] at this
    exact hcx this.symm
theorem size_bound {l : List ByteArray} (hl : l.length ≤ 60) (hs : sumB l ≤ 262144) (h : (mk l).2 = 0) : 1112 ≤ (pack (srt l)).size ∧ (pack (srt l)).size ≤ 270000 ∧ (pack (srt l)).size = 1068 + 44 * l.length + sumB l ∧ Pk.Good (srt l) := by
  have hg := made_good h (by omega) (by omega)
  have hz := pack_size _ hg.id32
  rw [srt_length, srt_sum] at hz
  have := hg.pos
  rw [srt_length] at this
  exact ⟨by omega, by omega, hz, hg⟩
theorem byte_of {n : Int} (h : (Lit.int .u8 n).wf = true) : ∃ y : UInt8, n = (y.toNat : Int) := by
  have := bounds_u8 h
  exact ⟨UInt8.ofNat n.toNat, by rw [UInt8.toNat_ofNat']; omega⟩
set_option maxRecDepth 100000 in
set_option maxHeartbeats 4000000 in
theorem walk (a : Option Addr) (cap b off : Nat) (l : List ByteArray) (i : Int) (y : UInt8) (w : World) (hT : TxAt w a b off l) (hl : l.length ≤ 140737488351232) (hs : ∀ s ∈ l, s.size ≤ 140737488351232) (he : Ev w) :
    Calls Tryd.prog 8 #[.slice a l.length cap, .int .i64 i, .int .u8 (y.toNat : Int)] w fun e w' => e = .returned (.bool true) ∧ Below w.heap.size w w' := by
  replace hT := Lib.hid hT
  replace he := Lib.hid he
  replace hs := Lib.hid hs
  go_enter Tryd.func8, Tryd.ntmps8
  go_wp2_with fail
  refine (awake_calls w he.out).mono ?_
  rintro e w1 ⟨rfl, bb⟩
  have hB := Lib.hid bb
  replace hT := Lib.hid (hT.out.next bb)
  replace he := Lib.hid (he.out.next bb)
  clear bb
  go_wp2_with fail
  refine (great_calls a cap b off l w1 hT.out hl hs.out).mono ?_
  rintro e w2 ⟨⟨g, rfl, hg⟩, rfl⟩
  cases g with
  | true =>
    clear hg
    go_wp2
    go_ret
    exact ⟨rfl, hB.out⟩
  | false =>
    obtain ⟨hl2, hs2⟩ := hg rfl
    clear hg
    by_cases hy : y = 0
    · subst hy
      go_wp2
      go_ret
      exact ⟨rfl, hB.out⟩
    · have hy0 : (((y.toNat : Int)) == 0) = false := by
        rw [beq_eq_false_iff_ne]
        intro e
        exact hy (UInt8.toNat_inj.1 (by simpa using e))
      have hM := Lib.hid (Make_calls a cap b off l w1 hT.out he.out (by omega) (by omega))
      by_cases hc : (mk l).2 = 0
      · obtain ⟨z1, z2, z3, hgd⟩ := size_bound hl2 hs2 hc
        rw [(mk_ok hc).2.2.2] at hM
        have hsl := Lib.hid (pack_sealed hgd)
        replace z3 := Lib.hid z3
        generalize pack (srt l) = P at *
        go_wp2_with fail
        refine hM.out.mono ?_
        rintro e w3 ⟨rfl, bb⟩
        replace hB := Lib.hid (below_next hB.out bb)
        replace he := Lib.hid (he.out.next bb)
        clear bb hM hT hs
        obtain ⟨k, hk, hkP⟩ := place i P.size (by omega) z2
        go_upto_region 9 with (fail)
        have k0 : (k : Int) ≤ P.size := by omega
        have k1 : (k : Int) < P.size := by omega
        have k2 : IntKind.i64.wrap ((k : Int) + 1) = ((k + 1 : Nat) : Int) := by simp [IntKind.wrap, IntKind.bits, IntKind.signed]; omega
        have k3 : ((k + 1 : Nat) : Int) ≤ P.size := by omega
        obtain ⟨c, hcP⟩ : ∃ c, P[k]'hkP = c := ⟨_, rfl⟩
        have hx := Crc.b_xor c y
        obtain ⟨A, hA⟩ : ∃ A, P.extract 0 k = A := ⟨_, rfl⟩
        obtain ⟨C, hC⟩ : ∃ C, P.extract (k + 1) P.size = C := ⟨_, rfl⟩
        have zA := piece_size P 0 k (by omega)
        have zC := piece_size P (k + 1) P.size (Nat.le_refl _)
        rw [hA] at zA
        rw [hC] at zC
        have s1 : ¬ 9223372036854775807 < A.size + (⟨#[c ^^^ y]⟩ : ByteArray).size := by show ¬ _ < A.size + 1; omega
        have s2 : ¬ 9223372036854775807 < (A ++ (⟨#[c ^^^ y]⟩ : ByteArray)).size + C.size := by rw [ByteArray.size_append]; show ¬ _ < A.size + 1 + _; omega
        have s3 : ¬ 9223372036854775807 < A.size + (⟨#[c ^^^ y]⟩ : ByteArray).size + C.size := by show ¬ _ < A.size + 1 + _; omega
        obtain ⟨x, hxx⟩ : ∃ x, c ^^^ y = x := ⟨_, rfl⟩
        rw [hxx] at hx s1 s2 s3
        have hcv := conv1 (w3.alloc (.cells #[.int .u8 (x.toNat : Int)] 5)).drew w3.heap.size x (by show (w3.alloc _).cell? ⟨w3.heap.size, 0, none⟩ = _; simp)
        have hxc : Hid (x ≠ c) := Lib.hid fun e => hy (by
          have h2 : c ^^^ (c ^^^ y) = 0 := by rw [hxx, e]; exact UInt8.xor_self
          rw [← UInt8.xor_assoc, UInt8.xor_self, UInt8.zero_xor] at h2
          exact h2)
        replace hxx := Lib.hid hxx
        replace zA := Lib.hid zA
        replace zC := Lib.hid zC
        generalize hkk : k + 1 = k' at *
        replace hkk := Lib.hid hkk
        have bb := (show Below w3.heap.size w3 (w3.alloc (.cells #[.int .u8 (x.toNat : Int)] 5)).drew from below_next (b_alloc w3 _) (b_drew _))
        replace hB := Lib.hid (below_next hB.out bb)
        replace he := Lib.hid (he.out.next bb)
        clear bb
        have hPl : Hid (P.data.toList = A.data.toList ++ c :: C.data.toList) := Lib.hid (by
          have hl := size_toList P
          have hkk' := hkk.out
          rw [← hA, ← hC, extract_toList, extract_toList, List.drop_zero, Nat.sub_zero, ← hkk', List.take_of_length_le (l := P.data.toList.drop (k + 1)) (by rw [List.length_drop]; omega)]
          have e1 : c = P.data.toList[k]'(by omega) := by rw [← hcP]; rfl
          rw [e1, ← List.drop_eq_getElem_cons, List.take_append_drop])
        go_region
        all_goals
          generalize (w3.alloc (.cells #[.int .u8 (x.toNat : Int)] 5)).drew = w4 at *
          obtain ⟨T, hT⟩ : ∃ T, A ++ (⟨#[x]⟩ : ByteArray) ++ C = T := ⟨_, rfl⟩
          have hTl : Hid (T.data.toList = A.data.toList ++ x :: C.data.toList) := Lib.hid (by rw [← hT, append_toList, append_toList]; simp)
          have hTs : T.size = P.size := by
            have h1 := congrArg List.length hTl.out
            have h2 := congrArg List.length hPl.out
            rw [size_toList, List.length_append, List.length_cons] at h1 h2
            omega
          rw [hT]
          have hAk : Hid (A.size = k) := Lib.hid (by have := zA.out; omega)
          have hR := Lib.hid (Read_calls T w4 (by omega) he.out)
          have htl : Hid (Sealed T → k < P.size - 32 ∧ dig (T.extract 0 (P.size - 32)) = dig (P.extract 0 (P.size - 32))) := Lib.hid fun h => tells hPl.out hTl.out hAk.out hxc.out (by omega) hsl.out h
          clear hcv s1 s2 s3 hx hA hC hcP zA zC hxx hxc hkk k2 k3 hPl hTl hAk hT hy0 hy
          by_cases hr : (rd T).2 = 0
          · have hlt := htl.out (rd_sealed hr)
            obtain ⟨n, hn⟩ : ∃ n, P.size - 32 = n := ⟨_, rfl⟩
            rw [hn] at hlt
            have e1 : IntKind.i64.wrap ((P.size : Int) - 32) = (n : Nat) := by simp [IntKind.wrap, IntKind.bits, IntKind.signed]; omega
            have e2 : (n : Int) ≤ P.size := by omega
            have e3 : (n : Int) ≤ T.size := by omega
            have e4 : (k : Int) < n := by omega
            have hS : Hid (∀ (t : ByteArray) (w : World), (t = T.extract 0 n ∨ t = P.extract 0 n) → Ev w → Calls Tryd.prog 19 #[.string t] w fun e w' => e = .returned (.string (dig (P.extract 0 n))) ∧ Below w.heap.size w w') := Lib.hid fun t w ht hev => by
              rcases ht with rfl | rfl
              · rw [← hlt.2]
                exact Sum_calls _ w hev (by rw [piece_size _ _ _ (by omega)]; omega)
              · exact Sum_calls _ w hev (by rw [piece_size _ _ _ (by omega)]; omega)
            have q0 : ((rd T).2 != 0) = false := by simpa using hr
            replace hr := Lib.hid hr
            replace hlt := Lib.hid hlt
            replace hn := Lib.hid hn
            replace hTs := Lib.hid hTs
            generalize dig (P.extract 0 n) = D at *
            generalize rd T = R at *
            go_wp2_with fail
            refine hR.out.mono ?_
            rintro e w5 ⟨⟨a2, cap2, b2, off2, rfl, _⟩, bb⟩
            replace hB := Lib.hid (below_next hB.out bb)
            replace he := Lib.hid (he.out.next bb)
            clear bb hR
            have bc : Below w5.heap.size w5 w5.drew := b_drew w5
            go_upto_region 14 with (fail)
            go_region_held3 (fun _ => True) (exact trivial)
              (first
                | (go_at_call 19; refine (hS.out _ _ (by first | exact Or.inl rfl | exact Or.inr rfl) (he.out.next bc)).mono ?_; rintro e w6 ⟨rfl, bb⟩; replace bc := below_next bc bb; clear bb))
            all_goals
              go_wp2
              go_ret
              exact ⟨rfl, below_next hB.out bc⟩
          · have q0 : ((rd T).2 != 0) = true := by simpa using hr
            have q1 : (rd T).1.length = 0 := by rw [rd_bad hr]; rfl
            generalize rd T = R at *
            go_wp2_with fail
            refine hR.out.mono ?_
            rintro e w5 ⟨⟨a2, cap2, b2, off2, rfl, _⟩, bb⟩
            replace hB := Lib.hid (below_next hB.out bb)
            clear bb hR
            go_wp2
            go_ret
            exact ⟨rfl, hB.out⟩
      · have q0 : ((mk l).2 != 0) = true := by simpa using hc
        generalize (mk l).1 = m1 at *
        generalize (mk l).2 = m2 at *
        go_wp2_with fail
        refine hM.out.mono ?_
        rintro e w3 ⟨rfl, bb⟩
        replace hB := Lib.hid (below_next hB.out bb)
        clear bb
        go_wp2
        go_ret
        exact ⟨rfl, hB.out⟩

theorem own : ownKnob Tryd.prog.godebug = none := by kernel_rfl
theorem laidOut : laidOutB Tryd.prog = true := by kernel_rfl
set_option maxRecDepth 100000 in
theorem lifted (os : Os) (started : os.Started) (H : Type) (enc : TypeId × Value → H) :
    ReturnsInHanded {} Tryd.checked os 8 .any (fun w args => (Rows.packTellsSpec.pre enc Tryd.prog Tryd.f8 [] false w args ∧ laidMetH Tryd.prog Rows.packTellsRow.laid w) ∧ sizedMet enc Tryd.prog Tryd.f8 (OpenSpec.ofChange Rows.packTellsSpec) false w args) (Rows.packTellsSpec.post enc Tryd.prog Tryd.f8 false true false false) := by
  refine returnsInHanded_of_change_and (C := Tryd.checked) (X := (fun w _ => laidMetH Tryd.prog Rows.packTellsRow.laid w)) (fun _ _ _ hh h => h.of_heap hh) own started (by kernel_rfl) Tryd.func8
    (ChangeSpec.witness_shaped (enc := enc) (C := Tryd.checked) (os := os) (X := (fun w _ => laidMetH Tryd.prog Rows.packTellsRow.laid w)) false (World.laidAll Tryd.prog os Rows.packTellsRow.laid) #[.slice none 0 0, .int .i64 0, .int .u8 0] 8 (World.laidAll_os _ _ _) (World.shaped_of_ZipB (by kernel_rfl) (by kernel_rfl)) (by kernel_rfl) (by kernel_rfl) (by kernel_rfl)
      (by rw [MakeChecks.laidMetH_plain _ _ _ (by kernel_rfl)]; exact laidMet_laidAll _ (by kernel_rfl) (by kernel_rfl))) ?_
  intro W base args ds gs before hval0 hW hcnd hsz0 hL _
  have hval : ∀ (j : Nat) t v, Tryd.f8.params[j]? = some t → args[j]? = some v → Value.okWide Tryd.prog W .any base t v := hval0
  have hsz : (DataW.weightsEach Tryd.prog (Tryd.f8.params.toList ++ Rows.packTellsSpec.plain.varTypes Tryd.prog) (ds ++ gs)).all (· ≤ reachBytes) = true := hsz0
  have hW' := hW
  obtain ⟨p, q, hA0, hV, rfl, hfz, hnd⟩ := hW
  have hA : DataW.TrodAll enc Tryd.prog W 0 (fun _ => true) true Tryd.f8.params.toList args.toList ds p := hA0
  rw [Tryd.params8] at hA hval hsz
  obtain ⟨v0, vs0, d0, ds0, p0, q0, hargs, rfl, rfl, h0, r0⟩ := trodAll_cons hA
  obtain ⟨v1, vs1, d1, ds1, p1, q1, rfl, rfl, rfl, h1, r1⟩ := trodAll_cons r0
  obtain ⟨v2, vs2, d2, ds2, p2, q2, rfl, rfl, rfl, h2, r2⟩ := trodAll_cons r1
  obtain ⟨rfl, rfl, rfl⟩ := trodAll_nil r2
  obtain rfl : args = #[v0, v1, v2] := by cases args; simp_all
  obtain ⟨rfl, rfl⟩ := trodVars_none hV
  have k0 := h0
  have lt0 : ∀ x ∈ p0, x.block < W.heap.size := by obtain ⟨m, hm⟩ := k0; exact DataW.trod_lt m _ _ _ hm
  have ok0 := hval 0 22 v0 rfl rfl
  have k1 := h1
  have lt1 : ∀ x ∈ p1, x.block < W.heap.size := by obtain ⟨m, hm⟩ := k1; exact DataW.trod_lt m _ _ _ hm
  have ok1 := hval 1 3 v1 rfl rfl
  have k2 := h2
  have lt2 : ∀ x ∈ p2, x.block < W.heap.size := by obtain ⟨m, hm⟩ := k2; exact DataW.trod_lt m _ _ _ hm
  have ok2 := hval 2 5 v2 rfl rfl
  clear hA0 hval0 hsz0
  obtain ⟨a0, len, cap, b, off, T, rfl, hT, hl⟩ := Oct.open_texts Tryd.underlying22 Tryd.underlying9 (by kernel_rfl) (of_decide_eq_true (by kernel_rfl)) ok0 h0 (Oct.arg_weights hsz (j := 0) (t := 22) rfl rfl)
  obtain ⟨a1, rfl, rfl, rfl, w1⟩ := open_int Tryd.underlying3 ok1 h1
  obtain ⟨a2, rfl, rfl, rfl, w2⟩ := open_int Tryd.underlying5 ok2 h2
  obtain ⟨y, rfl⟩ : ∃ y : UInt8, a2 = (y.toNat : Int) := byte_of w2
  have hW2 := walk a0 cap b off (txs len T) a1 y W (txs_at hT) (by rw [txs_length]; exact hl) (txs_size hT) (ev_of_laid hL)
  rw [txs_length] at hW2
  refine hW2.mono fun e W' ⟨he, bel⟩ => ?_
  subst he
  exact ⟨_, rfl, _, _, _, [], _, [], hW', trodAll_mk1 (shut_bool Tryd.underlying4 _), (trodAll_cons_mk (Below.trod laidOut (by kernel_rfl) (of_decide_eq_true (by kernel_rfl)) k0 bel lt0) (trodAll_cons_mk (Below.trod laidOut (by kernel_rfl) (of_decide_eq_true (by kernel_rfl)) k1 bel lt1) (trodAll_cons_mk (Below.trod laidOut (by kernel_rfl) (of_decide_eq_true (by kernel_rfl)) k2 bel lt2) trodAll_mk0))), rfl, bel.frame _, fun h => by cases h⟩

/-- the row -/
theorem row_proved : Rows.PackTellsSaid :=
  OpenClaim.holds_of_wide 8 Tryd.f8 rfl rfl rfl rfl rfl rfl rfl ⟨rfl, rfl, rfl, rfl, rfl⟩ rfl rfl rfl rfl rfl (by kernel_rfl) Tryd.func8 (by kernel_rfl)
    (of_decide_eq_true (by kernel_rfl)) (by unfold Func.isWrapper; first | (rw [if_pos (by decide +kernel)]; kernel_rfl) | (rw [if_neg (by decide +kernel)]; exact ⟨rfl, rfl⟩))
    (fun os started H enc _ => lifted os started H enc)
/-- the statement: the tied card -/
theorem proved : Rows.PackTellsCardSaid :=
  Claim7.holds_tied_plain_at .later [] Rows.packTellsCard.laidKinds true Rows.packTellsCard.stood.harness Rows.packTellsCard.stood.looks row_proved (fun _ h => by cases h) (by kernel_rfl) (fun _ h => by cases h) packTells_row_tie rfl ⟨rfl, rfl⟩ (by kernel_rfl) rfl
    (fun f fn hf hfn => by
      obtain rfl : f = 8 := Option.some.inj ((show Tryd.prog.funcNamed Rows.packTellsRow.func = some 8 by kernel_rfl).symm.trans hf) |>.symm
      obtain rfl : fn = Tryd.f8 := (Option.some.inj (Tryd.func8.symm.trans hfn)).symm
      exact ⟨by kernel_rfl, fun j t ht => by
        rw [Tryd.params8] at ht
        have hm : t ∈ [22, 3, 5] := by simpa using Array.mem_of_getElem? ht
        have hall : ([22, 3, 5].all fun u => !Tryd.prog.wantsStandIn u) = true := by kernel_rfl
        exact (show Tryd.prog.wantsStandIn t = false by simpa using List.all_eq_true.1 hall t hm)⟩)
    (by kernel_rfl)
end Go.Proofs.YtliojhhiadfmiaaDoor.packTells
