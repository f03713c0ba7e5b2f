/-
  Proved: for every list and turn, PackSize returns true and turns nothing of what it was given. Conditions: none beyond the form's own (the tables are what the program's text lays: the card ties them).
-/
import Derived.Test.YtliojhhiadfmiaaDoorRows
import Derived.Test.YtliojhhiadfmiaaDoorCards
import Derived.Test.YtliojhhiadfmiaaDoorTie
import Derived.Test.YtliojhhiadfmiaaDoorOctKit
import Derived.SevenTiedAt
import Derived.Test.YtliojhhiadfmiaaDoorPkAwake
import Derived.WalkKit
import Derived.WalkSpells
import Derived.WalkLawsBesides
import Derived.ProofKit
import Derived.OpenShut
import Derived.Laws.BytesArg
import Derived.Deep.QuietTactic
import Derived.BigQuiet
import Derived.BigRegion
import Derived.Lib.Hide
import Derived.LaidMore
import Derived.Stop.Joined
import Derived.MakeChecks
import Derived.Deep.RegionHeld3
import Derived.Deep.RegionLaw
import Derived.StillTailTactics
import Derived.Lay
import Derived.Deep.DeepHandedRow
namespace Go.Proofs.YtliojhhiadfmiaaDoor.packSize
open Go Go.ChangeShapes Go.WideShapes Go.ChangeAt Go.RowKit Pk
open Oct (empty append_toList extract_toList ext_toList size_toList)
open Go.ChangeMaps (open_string)

theorem cap_of {H : Type} {enc : TypeId × Value → H} {P : Program} {w : World} {base : Nat} {held : Bool} {t e : TypeId} {a : Option Addr} {len cap : Nat} {d : DataW H} {p : List MemPlace}
    (ht : P.underlying t = some (.slice e)) (he : P.underlying e = some .string) (hc : P.cellsOf e = 1)
    (h : DataW.Trod enc P w base (fun _ => true) held t (.slice a len cap) d p) : len ≤ cap := by
  obtain ⟨fuel, hf⟩ := h
  rcases open_strings ht he hc hf with ⟨hcs, _⟩ | ⟨x, l, c, ss, hcs, _, hl, _⟩
  · simp [Value.cells] at hcs
    obtain ⟨rfl, rfl, rfl⟩ := hcs
    exact Nat.le_refl _
  · simp [Value.cells] at hcs
    obtain ⟨rfl, rfl, rfl⟩ := hcs
    exact hl
theorem size_is {l : List ByteArray} (hl : l.length ≤ 60) (hs : sumB l ≤ 262144) (h : (mk l).2 = 0) : (mk l).1.size = 1068 + 44 * l.length + sumB l := by
  have hg := made_good h (by omega) (by omega)
  have hz := pack_size _ hg.id32
  rw [srt_length, srt_sum] at hz
  rw [(mk_ok h).2.2.2]
  exact hz
theorem place (i : Int) (n : Nat) (h0 : 0 < n) (h1 : n ≤ 270000) : ∃ k : Nat, wrap64 ((IntKind.u64.wrap i).tmod n) = k ∧ k < n := by
  have hu : 0 ≤ IntKind.u64.wrap i := by simp [IntKind.wrap, IntKind.bits, IntKind.signed]; omega
  have e : (IntKind.u64.wrap i).tmod n = (IntKind.u64.wrap i) % n := Int.tmod_eq_emod_of_nonneg hu
  have p0 : 0 ≤ (IntKind.u64.wrap i) % (n : Int) := Int.emod_nonneg _ (by omega)
  have p1 : (IntKind.u64.wrap i) % (n : Int) < n := Int.emod_lt_of_pos _ (by omega)
  rw [e]
  generalize (IntKind.u64.wrap i) % (n : Int) = m at *
  refine ⟨m.toNat, ?_, by omega⟩
  unfold wrap64
  omega
/-- append(texts, more...) of texts that lie elsewhere, in a drawn region -/
theorem step_append_txs {ops : Array Oper} {o : Oper} {a : Act} {w : World} {K : Act → World → Prop} {Q : Exit → Act → World → Prop} {E : Prop} (hgd : o.guard = none) (s x : Operand)
    (ho : o.op = .call { callee := .builtin .append, args := #[s, x], argTypes := #[22, 22] })
    (B : Nat) (v : Value) (L M : List ByteArray) (b off m cap : Nat) (hm : M.length = m) (hs : a.eval s = v) (hx : a.eval x = .slice (some ⟨b, off, none⟩) m cap)
    (hown : OwnT B w v L) (hM : ∀ j t, M[j]? = some t → w.cell? ⟨b, off + j, none⟩ = some (.string t)) (hB : B ≤ w.heap.size) (hlen : L.length + M.length ≤ 1000000)
    (hK : ∀ v' w', OwnT B w' v' (L ++ M) → (∀ u, Below B u w → Below B u w') → K (a.put o.dst v') w') : if Region.wanted o (yielded ops a.tmps) = true then Oper.wp Tryd.prog o a w K Q else E := by
  subst hm
  obtain ⟨i0, hi, hz0, hz1, hz2⟩ := info_parts infoStr
  have hw : Region.wanted o (yielded ops a.tmps) = true := by simp [Region.wanted, hgd]
  rw [if_pos hw]
  refine wp_append_own w s x 22 ho B 9 i0 (.string ⟨#[]⟩) 1 16 Tryd.underlying22 hi hz0 hz1 hz2 rfl (by decide) v L.length (L.map Value.string) hs hown ⟨b, off, none⟩ M.length cap (M.map Value.string) hx (by simp) (fun j u hj => ?_)
    (fun u hu => by obtain ⟨t, _, rfl⟩ := List.mem_map.1 hu; rfl) (by unfold maxLen; omega) (by omega) hB ?_
  · rw [List.getElem?_map] at hj
    cases hm : M[j]? with
    | none => rw [hm] at hj; cases hj
    | some t =>
      rw [hm] at hj
      simp only [Option.map_some, Option.some.injEq] at hj
      subst hj
      rw [Addr.add_mid]
      exact hM j t hm
  · intro v' w' hown' hgrow hnil
    refine hK v' w' (by unfold OwnT; rw [List.map_append, List.length_append]; exact hown') fun u hu => ?_
    exact hu.grown hgrow hB (fun k hk => (World.ownsRow.lt hown k hk).1)
set_option maxRecDepth 100000 in
set_option maxHeartbeats 4000000 in
theorem walk (a : Option Addr) (cap b off : Nat) (l : List ByteArray) (i : Int) (w : World) (hT : TxAt w a b off l) (hl : l.length ≤ 140737488351232) (hs : ∀ s ∈ l, s.size ≤ 140737488351232) (he : Ev w) (hcap : l.length ≤ cap) :
    Calls Tryd.prog 9 #[.slice a l.length cap, .int .i64 i] w fun e w' => e = .returned (.bool true) ∧ Below w.heap.size w w' := by
  replace hT := Lib.hid hT
  replace he := Lib.hid he
  replace hs := Lib.hid hs
  go_enter Tryd.func9, Tryd.ntmps9
  go_wp2_with fail
  refine (awake_calls w he.out).mono ?_
  rintro e w1 ⟨rfl, bb⟩
  have hB := Lib.hid bb
  replace hT := Lib.hid (hT.out.next bb)
  replace he := Lib.hid (he.out.next bb)
  clear bb
  go_wp2_with fail
  refine (great_calls a cap b off l w1 hT.out hl hs.out).mono ?_
  rintro e w2 ⟨⟨g, rfl, hg⟩, rfl⟩
  cases g with
  | true =>
    clear hg
    go_wp2
    go_ret
    exact ⟨rfl, hB.out⟩
  | false =>
    obtain ⟨hl2, hs2⟩ := hg rfl
    clear hg
    by_cases h0 : l.length = 0
    · have q0 : ((l.length : Int) == 0) = true := by rw [h0]; rfl
      replace h0 := Lib.hid h0
      go_wp2
      go_ret
      exact ⟨rfl, hB.out⟩
    · have q0 : ((l.length : Int) == 0) = false := by rw [beq_eq_false_iff_ne]; omega
      have hM := Lib.hid (Make_calls a cap b off l w1 hT.out he.out (by omega) (by omega))
      obtain ⟨k, hk, hkl⟩ := place i l.length (by omega) (by omega)
      have hperm : Hid (mk (l.drop k ++ l.take k) = mk l) := Lib.hid (mk_perm (by
        have h1 : (l.drop k ++ l.take k).Perm (l.take k ++ l.drop k) := List.perm_append_comm
        rw [List.take_append_drop] at h1
        exact h1))
      have hbad := Lib.hid (mk_bad (l := l))
      have hsz := Lib.hid (size_is hl2 hs2)
      obtain ⟨R, hR⟩ : ∃ R, mk l = R := ⟨_, rfl⟩
      rw [hR] at hM hperm hbad hsz
      replace hR := Lib.hid hR
      obtain rfl := hT.out.addr (by omega)
      go_wp2_with fail
      refine hM.out.mono ?_
      rintro e w3 ⟨rfl, bb⟩
      replace hB := Lib.hid (below_next hB.out bb)
      replace he := Lib.hid (he.out.next bb)
      replace hT := Lib.hid (hT.out.next bb)
      clear bb hM
      go_upto_region 7 with (fail)
      have k0 : (k : Int) ≤ l.length := by omega
      have k1 : (k : Int) ≤ cap := by omega
      have k2 : ¬ cap = k := by omega
      have hO0 := Lib.hid ((OwnT.new w3 w3.heap.size (Nat.le_refl _)).next (b_drew _))
      have hB0 := Lib.hid (below_next (b_alloc w3 (.cells #[] 9)) (b_drew _))
      have hT0 := Lib.hid (hT.out.next hB0.out)
      have hM0 : Hid (∀ j t, (l.drop k)[j]? = some t → (w3.alloc (.cells #[] 9)).drew.cell? ⟨b, off + k + j, none⟩ = some (.string t)) := Lib.hid fun j t h => by
        rw [Nat.add_assoc]
        exact hT0.out.cell (k + j) t (by rw [List.getElem?_drop] at h; exact h)
      have hd1 : Hid ((l.drop k).length = l.length - k) := Lib.hid (List.length_drop)
      have hd2 : Hid ((l.take k).length = k) := Lib.hid (by rw [List.length_take]; omega)
      obtain ⟨N, hN⟩ : ∃ N, l.drop k ++ l.take k = N := ⟨_, rfl⟩
      have hlN : N.length ≤ 60 := by rw [← hN, List.length_append, hd1.out, hd2.out]; omega
      have hsN : sumB N ≤ 262144 := by
        have h1 : (l.drop k ++ l.take k).Perm (l.take k ++ l.drop k) := List.perm_append_comm
        rw [List.take_append_drop, hN] at h1
        rw [sumB_perm h1]; exact hs2
      rw [hN] at hperm
      have hMk : Hid (∀ (a : Option Addr) (c b o : Nat) (w : World), TxAt w a b o N → Ev w → Calls Tryd.prog 12 #[.slice a N.length c] w fun e w' => e = .returned (.tuple #[.string R.1, .int .i64 R.2]) ∧ Below w.heap.size w w') := Lib.hid fun a c b o w h he => by
        have := Make_calls a c b o N w h he (by omega) (by omega)
        rw [hperm.out] at this
        exact this
      replace hN := Lib.hid hN
      go_region_law (first
        | (refine step_append_txs (by rfl) _ _ (by rfl) w3.heap.size _ [] (l.drop k) b (off + k) (l.length - k) (cap - k) hd1.out (by rfl) (by rfl) hO0.out hM0.out hB0.out.size (by have := hd1.out; simp only [List.length_nil]; omega) ?_; intro v1 w5 hO1 hB1; rw [List.nil_append] at hO1; have bb1 := hB1 _ hB0.out; have hT1 := hT.out.next bb1)
        | (refine step_append_txs (by rfl) _ _ (by rfl) w3.heap.size _ (l.drop k) (l.take k) b off k cap hd2.out (by rfl) (by rfl) hO1 (fun j t h => hT1.cell j t (by rw [List.getElem?_take] at h; split at h; exact h; cases h)) bb1.size (by have := hd1.out; have := hd2.out; omega) ?_; intro v2 w6 hO2 hB2; rw [hN.out] at hO2; have bb2 := hB2 _ bb1; obtain ⟨ia, icap, ib, ioff, hv2, hTx, _, _⟩ := hO2.at_; subst hv2)
        | (go_simp; go_at_call 12; refine (hMk.out ia icap ib ioff _ hTx (he.out.next bb2)).mono ?_; rintro e w7 ⟨rfl, bb3⟩))
      all_goals
        replace hB := Lib.hid (below_next hB.out (below_next bb2 bb3))
        replace hT := Lib.hid (hT.out.next (below_next bb2 bb3))
        clear hO0 hB0 hT0 hM0 hd1 hd2 hMk hO1 hB1 bb1 hT1 hO2 hB2 bb2 hTx bb3 he
        rename_i hx1 hx2
        clear hx1 hx2
        have r1 := str_eq (show R.1 = R.1 from rfl)
        have r2 : (R.1.toList != R.1.toList) = false := by rw [bne, r1]; rfl
        go_wp2
        go_loopw [10, 11] (fun v i wr => ∃ j n : Nat, j ≤ l.length ∧ i = .int .i64 j ∧ v = .int .i64 n ∧ Hid (n = 1068 + 44 * l.length + sumB (l.take j)) ∧ wr = w7) (fun _ i _ => l.length - (intOf i).toNat)
        case atStart => exact ⟨0, 1068 + 44 * l.length, by omega, rfl, by go_num, Lib.hid rfl, rfl⟩
        case round =>
          obtain ⟨j, n, hj, rfl, rfl, hn, rfl⟩ := hrel
          by_cases hlt : j < l.length
          · have i1 : (j : Int) < l.length := by omega
            have i0 : 0 ≤ (j : Int) := by omega
            have c0 := hT.out.cell j _ (List.getElem?_eq_getElem hlt)
            have hnx := sumB_next hlt
            have hsl : sumB (l.take (j + 1)) ≤ sumB l := by
              have := sumB_append (l.take (j + 1)) (l.drop (j + 1))
              rw [List.take_append_drop] at this
              omega
            have hn2 : Hid (n + l[j].size = 1068 + 44 * l.length + sumB (l.take (j + 1))) := Lib.hid (by have := hn.out; omega)
            have hnb : n ≤ 300000 := by have := hn.out; omega
            have hsb : l[j].size ≤ 300000 := by omega
            clear hnx hsl
            generalize l[j] = s at *
            go_wp2
            exact ⟨⟨j + 1, n + s.size, by omega, by go_num, by go_num, hn2, trivial⟩, by simp [intOf]; omega⟩
          · have d0 : decide ((j : Int) < l.length) = false := decide_eq_false (by omega)
            have d1 : (l.length : Int) ≤ j := by omega
            obtain rfl : j = l.length := by omega
            rw [List.take_length] at hn
            by_cases hr : R.2 = 0
            · have s1 : (R.2 != 0) = false := by simpa using hr
              have s2 : (R.2 == 0) = true := by simpa using hr
              have s3 : ((R.1.size : Int) == (n : Nat)) = true := by
                have h1 := hsz.out hr
                have h2 := hn.out
                rw [beq_iff_eq]; omega
              replace hr := Lib.hid hr
              clear r1 r2
              go_wp2
              go_ret
              exact ⟨rfl, hB.out⟩
            · have s1 : (R.2 != 0) = true := by simpa using hr
              have s3 : R.1 = empty := hbad.out hr
              replace hr := Lib.hid hr
              obtain ⟨R1, R2⟩ := R
              dsimp only at *
              subst s3
              clear r1 r2
              go_wp2
              go_ret
              exact ⟨rfl, hB.out⟩

theorem own : ownKnob Tryd.prog.godebug = none := by kernel_rfl
theorem laidOut : laidOutB Tryd.prog = true := by kernel_rfl
set_option maxRecDepth 100000 in
theorem lifted (os : Os) (started : os.Started) (H : Type) (enc : TypeId × Value → H) :
    ReturnsInHanded {} Tryd.checked os 9 .any (fun w args => (Rows.packSizeSpec.pre enc Tryd.prog Tryd.f9 [] false w args ∧ laidMetH Tryd.prog Rows.packSizeRow.laid w) ∧ sizedMet enc Tryd.prog Tryd.f9 (OpenSpec.ofChange Rows.packSizeSpec) false w args) (Rows.packSizeSpec.post enc Tryd.prog Tryd.f9 false true false false) := by
  refine returnsInHanded_of_change_and (C := Tryd.checked) (X := (fun w _ => laidMetH Tryd.prog Rows.packSizeRow.laid w)) (fun _ _ _ hh h => h.of_heap hh) own started (by kernel_rfl) Tryd.func9
    (ChangeSpec.witness_shaped (enc := enc) (C := Tryd.checked) (os := os) (X := (fun w _ => laidMetH Tryd.prog Rows.packSizeRow.laid w)) false (World.laidAll Tryd.prog os Rows.packSizeRow.laid) #[.slice none 0 0, .int .i64 0] 8 (World.laidAll_os _ _ _) (World.shaped_of_ZipB (by kernel_rfl) (by kernel_rfl)) (by kernel_rfl) (by kernel_rfl) (by kernel_rfl)
      (by rw [MakeChecks.laidMetH_plain _ _ _ (by kernel_rfl)]; exact laidMet_laidAll _ (by kernel_rfl) (by kernel_rfl))) ?_
  intro W base args ds gs before hval0 hW hcnd hsz0 hL _
  have hval : ∀ (j : Nat) t v, Tryd.f9.params[j]? = some t → args[j]? = some v → Value.okWide Tryd.prog W .any base t v := hval0
  have hsz : (DataW.weightsEach Tryd.prog (Tryd.f9.params.toList ++ Rows.packSizeSpec.plain.varTypes Tryd.prog) (ds ++ gs)).all (· ≤ reachBytes) = true := hsz0
  have hW' := hW
  obtain ⟨p, q, hA0, hV, rfl, hfz, hnd⟩ := hW
  have hA : DataW.TrodAll enc Tryd.prog W 0 (fun _ => true) true Tryd.f9.params.toList args.toList ds p := hA0
  rw [Tryd.params9] at hA hval hsz
  obtain ⟨v0, vs0, d0, ds0, p0, q0, hargs, rfl, rfl, h0, r0⟩ := trodAll_cons hA
  obtain ⟨v1, vs1, d1, ds1, p1, q1, rfl, rfl, rfl, h1, r1⟩ := trodAll_cons r0
  obtain ⟨rfl, rfl, rfl⟩ := trodAll_nil r1
  obtain rfl : args = #[v0, v1] := by cases args; simp_all
  obtain ⟨rfl, rfl⟩ := trodVars_none hV
  have k0 := h0
  have lt0 : ∀ x ∈ p0, x.block < W.heap.size := by obtain ⟨m, hm⟩ := k0; exact DataW.trod_lt m _ _ _ hm
  have ok0 := hval 0 22 v0 rfl rfl
  have k1 := h1
  have lt1 : ∀ x ∈ p1, x.block < W.heap.size := by obtain ⟨m, hm⟩ := k1; exact DataW.trod_lt m _ _ _ hm
  have ok1 := hval 1 3 v1 rfl rfl
  clear hA0 hval0 hsz0
  obtain ⟨a0, len, cap, b, off, T, rfl, hT, hl⟩ := Oct.open_texts Tryd.underlying22 Tryd.underlying9 (by kernel_rfl) (of_decide_eq_true (by kernel_rfl)) ok0 h0 (Oct.arg_weights hsz (j := 0) (t := 22) rfl rfl)
  have hcap := cap_of Tryd.underlying22 Tryd.underlying9 (by kernel_rfl) h0
  obtain ⟨a1, rfl, rfl, rfl, w1⟩ := open_int Tryd.underlying3 ok1 h1
  have hW2 := walk a0 cap b off (txs len T) a1 W (txs_at hT) (by rw [txs_length]; exact hl) (txs_size hT) (ev_of_laid hL) (by rw [txs_length]; exact hcap)
  rw [txs_length] at hW2
  refine hW2.mono fun e W' ⟨he, bel⟩ => ?_
  subst he
  exact ⟨_, rfl, _, _, _, [], _, [], hW', trodAll_mk1 (shut_bool Tryd.underlying4 _), (trodAll_cons_mk (Below.trod laidOut (by kernel_rfl) (of_decide_eq_true (by kernel_rfl)) k0 bel lt0) (trodAll_cons_mk (Below.trod laidOut (by kernel_rfl) (of_decide_eq_true (by kernel_rfl)) k1 bel lt1) trodAll_mk0)), rfl, bel.frame _, fun h => by cases h⟩

/-- the row -/
theorem row_proved : Rows.PackSizeSaid :=
  OpenClaim.holds_of_wide 9 Tryd.f9 rfl rfl rfl rfl rfl rfl rfl ⟨rfl, rfl, rfl, rfl, rfl⟩ rfl rfl rfl rfl rfl (by kernel_rfl) Tryd.func9 (by kernel_rfl)
    (of_decide_eq_true (by kernel_rfl)) (by unfold Func.isWrapper; first | (rw [if_pos (by decide +kernel)]; kernel_rfl) | (rw [if_neg (by decide +kernel)]; exact ⟨rfl, rfl⟩))
    (fun os started H enc _ => lifted os started H enc)
/-- the statement: the tied card -/
theorem proved : Rows.PackSizeCardSaid :=
  Claim7.holds_tied_plain_at .later [] Rows.packSizeCard.laidKinds true Rows.packSizeCard.stood.harness Rows.packSizeCard.stood.looks row_proved (fun _ h => by cases h) (by kernel_rfl) (fun _ h => by cases h) packSize_row_tie rfl ⟨rfl, rfl⟩ (by kernel_rfl) rfl
    (fun f fn hf hfn => by
      obtain rfl : f = 9 := Option.some.inj ((show Tryd.prog.funcNamed Rows.packSizeRow.func = some 9 by kernel_rfl).symm.trans hf) |>.symm
      obtain rfl : fn = Tryd.f9 := (Option.some.inj (Tryd.func9.symm.trans hfn)).symm
      exact ⟨by kernel_rfl, fun j t ht => by
        rw [Tryd.params9] at ht
        have hm : t ∈ [22, 3] := by simpa using Array.mem_of_getElem? ht
        have hall : ([22, 3].all fun u => !Tryd.prog.wantsStandIn u) = true := by kernel_rfl
        exact (show Tryd.prog.wantsStandIn t = false by simpa using List.all_eq_true.1 hall t hm)⟩)
    (by kernel_rfl)
end Go.Proofs.YtliojhhiadfmiaaDoor.packSize
