/-
  Proved: for every list and id, PackFound returns true and turns nothing of what it was given. Conditions: none beyond the form's own (the tables are what the program's text lays: the card ties them).
-/
import Derived.Test.YtliojhhiadfmiaaDoorRows
import Derived.Test.YtliojhhiadfmiaaDoorCards
import Derived.Test.YtliojhhiadfmiaaDoorTie
import Derived.Test.YtliojhhiadfmiaaDoorOctKit
import Derived.SevenTiedAt
import Derived.Test.YtliojhhiadfmiaaDoorPkAwake
import Derived.Test.YtliojhhiadfmiaaDoorIdOpen
import Derived.WalkKit
import Derived.WalkSpells
import Derived.WalkLawsBesides
import Derived.ProofKit
import Derived.OpenShut
import Derived.Laws.BytesArg
import Derived.Laws.IdiomStrings
import Derived.Lib.ConvBytes
import Derived.Deep.QuietTactic
import Derived.BigQuiet
import Derived.BigRegion
import Derived.Lib.Hide
import Derived.LaidMore
import Derived.Stop.Joined
import Derived.MakeChecks
import Derived.Deep.RegionHeld3
import Derived.StillTailTactics
import Derived.Lay
import Derived.Deep.DeepHandedRow
namespace Go.Proofs.YtliojhhiadfmiaaDoor.packFound
open Go Go.ChangeShapes Go.WideShapes Go.ChangeAt Go.RowKit Pk
open Oct (empty append_toList extract_toList ext_toList size_toList)
open Go.ChangeMaps (open_string)

theorem size_bound {l : List ByteArray} (hl : l.length ≤ 60) (hs : sumB l ≤ 262144) (h : (mk l).2 = 0) : (pack (srt l)).size ≤ 270000 ∧ Pk.Good (srt l) := by
  have hg := made_good h (by omega) (by omega)
  have hz := pack_size _ hg.id32
  rw [srt_length, srt_sum] at hz
  exact ⟨by omega, hg⟩
theorem found {l : List ByteArray} (hg : Pk.Good (srt l)) {s : ByteArray} (h : s ∈ l) : fnd (pack (srt l)) (dig s) = (s, true, 0) := fnd_there hg (itm s) (srt_mem.2 ⟨s, h, rfl⟩)
/-- whether one of the first k has this id -/
def has (id : ByteArray) (l : List ByteArray) : Bool := l.any fun s => decide (dig s = id)
theorem found_other {l : List ByteArray} (hg : Pk.Good (srt l)) (id : ByteArray) (h : id.size = 32) : ∃ t, fnd (pack (srt l)) id = (t, has id l, 0) := by
  by_cases hc : ∃ s ∈ l, dig s = id
  · obtain ⟨s, hs, e⟩ := hc
    have : has id l = true := by simp only [has, List.any_eq_true, decide_eq_true_eq]; exact ⟨s, hs, e⟩
    rw [this, ← e]
    exact ⟨s, found hg hs⟩
  · have : has id l = false := by
      rw [← Bool.not_eq_true]
      simp only [has, List.any_eq_true, decide_eq_true_eq]
      exact hc
    rw [this]
    exact ⟨empty, fnd_none hg id h fun x hx e => by
      obtain ⟨s, hs, rfl⟩ := srt_mem.1 hx
      exact hc ⟨s, hs, e⟩⟩
theorem has_next {l : List ByteArray} (id : ByteArray) {k : Nat} (h : k < l.length) : has id (l.take (k + 1)) = (has id (l.take k) || decide (dig l[k] = id)) := by
  rw [take_next h]; unfold has; rw [List.any_append]; simp only [List.any_cons, List.any_nil, Bool.or_false]
theorem beq_dig (a b : ByteArray) : (a.toList == b.toList) = decide (a = b) := by
  by_cases h : a = b
  · rw [str_eq h, decide_eq_true h]
  · rw [str_ne h, decide_eq_false h]
/-- the text of 32 bytes -/
def txt (f : Nat → UInt8) : ByteArray := ⟨((List.range 32).map f).toArray⟩
theorem txt_size (f : Nat → UInt8) : (txt f).size = 32 := by unfold txt; rw [ByteArray.size]; simp
theorem conv32 {w : World} {b : Nat} {f : Nat → UInt8} {cs : Array Value} (h : Blk w b cs 39) (hc : Ident.ArrV cs f) : (convert 40 9 (.slice (some ⟨b, 0, none⟩) 32 32)).run Tryd.prog w = .ok (.string (txt f)) w := by
  have := run_convert_bytes_back (P := Tryd.prog) w 40 9 5 ⟨b, 0, none⟩ 32 ((List.range 32).map f) Tryd.underlying40 Tryd.underlying5 Tryd.underlying9 (fun j hj => by
    simp only [List.length_map, List.length_range] at hj
    rw [Addr.add_mid, Nat.zero_add, h.cell j (hc.cell j hj)]
    simp)
  simp only [List.length_map, List.length_range] at this
  exact this
set_option maxRecDepth 100000 in
set_option maxHeartbeats 4000000 in
theorem walk (a : Option Addr) (cap b off : Nat) (l : List ByteArray) (cs : Array Value) (f : Nat → UInt8) (w : World) (hT : TxAt w a b off l) (hl : l.length ≤ 140737488351232) (hs : ∀ s ∈ l, s.size ≤ 140737488351232) (he : Ev w) (hcs : Ident.ArrV cs f) :
    Calls Tryd.prog 7 #[.slice a l.length cap, .agg cs] w fun e w' => e = .returned (.bool true) ∧ Below w.heap.size w w' := by
  have hB := Lib.hid (b_alloc w (.cells cs 39))
  have hX := Lib.hid (Blk.new w cs 39)
  replace hT := Lib.hid (hT.next hB.out)
  replace he := Lib.hid (he.next hB.out)
  replace hs := Lib.hid hs
  replace hcs := Lib.hid hcs
  have hid := txt_size f
  go_enter Tryd.func7, Tryd.ntmps7
  go_wp2_with fail
  generalize w.alloc (.cells cs 39) = w0 at *
  refine (awake_calls w0 he.out).mono ?_
  rintro e w1 ⟨rfl, bb⟩
  replace hB := Lib.hid (below_next hB.out bb)
  replace hT := Lib.hid (hT.out.next bb)
  replace he := Lib.hid (he.out.next bb)
  replace hX := Lib.hid (hX.out.next bb)
  clear bb
  go_wp2_with fail
  refine (great_calls a cap b off l w1 hT.out hl hs.out).mono ?_
  rintro e w2 ⟨⟨g, rfl, hg⟩, rfl⟩
  cases g with
  | true =>
    clear hg
    go_wp2
    go_ret
    exact ⟨rfl, hB.out⟩
  | false =>
    obtain ⟨hl2, hs2⟩ := hg rfl
    clear hg
    have hM := Lib.hid (Make_calls a cap b off l w1 hT.out he.out (by omega) (by omega))
    by_cases hc : (mk l).2 = 0
    · obtain ⟨z2, hgd⟩ := size_bound hl2 hs2 hc
      have hfd := Lib.hid fun s (h : s ∈ l) => found hgd h
      obtain ⟨ot, hfo⟩ := found_other hgd (txt f) hid
      have hfx := fnd_arg (pack (srt l)) ⟨#[120]⟩ (by decide)
      rw [(mk_ok hc).2.2.2] at hM
      have hFs := Lib.hid fun id w he => Find_calls (pack (srt l)) id w he (by omega)
      generalize pack (srt l) = P at *
      have hF1 := Lib.hid fun w he => hFs.out (txt f) w he
      have hF2 := Lib.hid fun w he => hFs.out ⟨#[120]⟩ w he
      rw [hfo] at hF1
      rw [hfx] at hF2
      clear hfo hfx
      go_wp2_with fail
      refine hM.out.mono ?_
      rintro e w3 ⟨rfl, bb⟩
      replace hB := Lib.hid (below_next hB.out bb)
      replace he := Lib.hid (he.out.next bb)
      replace hT := Lib.hid (hT.out.next bb)
      replace hX := Lib.hid (hX.out.next bb)
      clear bb hM
      have hcv := conv32 hX.out hcs.out
      generalize txt f = id at *
      go_wp2
      clear hcv
      go_loopw [8, 9, 10, 11, 12] (fun v i _ _ _ wr => ∃ k : Nat, k ≤ l.length ∧ i = .int .i64 k ∧ v = .bool (has id (l.take k)) ∧ Hid (Below w3.heap.size w3 wr)) (fun _ i _ _ _ _ => l.length - (intOf i).toNat)
      case atStart => exact ⟨0, by omega, rfl, rfl, Lib.hid (Below.refl _ _)⟩
      case round =>
        obtain ⟨k, hk, rfl, rfl, hBr⟩ := hrel
        by_cases hlt : k < l.length
        · have i1 : (k : Int) < l.length := by omega
          have i0 : 0 ≤ (k : Int) := by omega
          have hTr := Lib.hid (hT.out.next hBr.out)
          obtain rfl := hTr.out.addr (by omega)
          have c0 := hTr.out.cell k _ (List.getElem?_eq_getElem hlt)
          have hnx := Lib.hid (has_next id hlt)
          have hff := Lib.hid (hfd.out _ (List.getElem_mem hlt))
          have hsz : l[k].size ≤ 262144 := Nat.le_trans (sumB_le (List.getElem_mem hlt)) hs2
          have hgt : l[k]? = some l[k] := List.getElem?_eq_getElem hlt
          have hSm := Lib.hid fun w he => Sum_calls l[k] w he (by omega)
          have hFk := Lib.hid fun w he => hFs.out (dig l[k]) w he
          rw [hff.out] at hFk
          have hq := beq_dig (dig l[k]) id
          have hself := str_eq (show l[k] = l[k] from rfl)
          have hself2 : (l[k].toList != l[k].toList) = false := by rw [bne, hself]; rfl
          replace hgt := Lib.hid hgt
          clear hff
          generalize l[k] = s at *
          generalize has id (l.take k) = hk0 at *
          go_wp2_with fail
          refine (hSm.out _ (he.out.next hBr.out)).mono ?_
          rintro e w5 ⟨rfl, bb⟩
          replace hBr := Lib.hid (below_next hBr.out bb)
          clear bb c0 hTr
          go_wp2_with fail
          refine (hFk.out _ (he.out.next hBr.out)).mono ?_
          rintro e w6 ⟨rfl, bb⟩
          replace hBr := Lib.hid (below_next hBr.out bb)
          have hTr := Lib.hid (hT.out.next hBr.out)
          have c0 := hTr.out.cell k _ hgt.out
          clear bb
          cases hk0 with
          | true =>
            go_wp2
            exact ⟨⟨k + 1, by omega, by go_num, by rw [hnx.out]; rfl, hBr⟩, by simp [intOf]; omega⟩
          | false =>
            go_wp2_with fail
            refine (hSm.out _ (he.out.next hBr.out)).mono ?_
            rintro e w7 ⟨rfl, bb⟩
            replace hBr := Lib.hid (below_next hBr.out bb)
            clear bb c0 hTr
            go_wp2
            exact ⟨⟨k + 1, by omega, by go_num, by rw [hnx.out, ← hq]; rfl, hBr⟩, by simp [intOf]; omega⟩
        · have d0 : decide ((k : Int) < l.length) = false := decide_eq_false (by omega)
          have d1 : (l.length : Int) ≤ k := by omega
          obtain rfl : k = l.length := by omega
          rw [List.take_length]
          generalize has id l = hh at *
          go_wp2_with fail
          refine (hF1.out _ (he.out.next hBr.out)).mono ?_
          rintro e w5 ⟨rfl, bb⟩
          replace hBr := Lib.hid (below_next hBr.out bb)
          clear bb
          go_wp2_with fail
          refine (hF2.out _ (he.out.next hBr.out)).mono ?_
          rintro e w6 ⟨rfl, bb⟩
          replace hBr := Lib.hid (below_next hBr.out bb)
          clear bb
          go_wp2
          go_ret
          exact ⟨rfl, below_next hB.out hBr.out⟩
    · have q0 : ((mk l).2 != 0) = true := by simpa using hc
      generalize (mk l).1 = m1 at *
      generalize (mk l).2 = m2 at *
      go_wp2_with fail
      refine hM.out.mono ?_
      rintro e w3 ⟨rfl, bb⟩
      replace hB := Lib.hid (below_next hB.out bb)
      clear bb
      go_wp2
      go_ret
      exact ⟨rfl, hB.out⟩

theorem own : ownKnob Tryd.prog.godebug = none := by kernel_rfl
theorem laidOut : laidOutB Tryd.prog = true := by kernel_rfl
set_option maxRecDepth 100000 in
theorem lifted (os : Os) (started : os.Started) (H : Type) (enc : TypeId × Value → H) :
    ReturnsInHanded {} Tryd.checked os 7 .any (fun w args => (Rows.packFoundSpec.pre enc Tryd.prog Tryd.f7 [] false w args ∧ laidMetH Tryd.prog Rows.packFoundRow.laid w) ∧ sizedMet enc Tryd.prog Tryd.f7 (OpenSpec.ofChange Rows.packFoundSpec) false w args) (Rows.packFoundSpec.post enc Tryd.prog Tryd.f7 false true false false) := by
  refine returnsInHanded_of_change_and (C := Tryd.checked) (X := (fun w _ => laidMetH Tryd.prog Rows.packFoundRow.laid w)) (fun _ _ _ hh h => h.of_heap hh) own started (by kernel_rfl) Tryd.func7
    (ChangeSpec.witness_shaped (enc := enc) (C := Tryd.checked) (os := os) (X := (fun w _ => laidMetH Tryd.prog Rows.packFoundRow.laid w)) false (World.laidAll Tryd.prog os Rows.packFoundRow.laid) #[.slice none 0 0, .agg (Array.replicate 32 (.int .u8 0))] 8 (World.laidAll_os _ _ _) (World.shaped_of_ZipB (by kernel_rfl) (by kernel_rfl)) (by kernel_rfl) (by kernel_rfl) (by kernel_rfl)
      (by rw [MakeChecks.laidMetH_plain _ _ _ (by kernel_rfl)]; exact laidMet_laidAll _ (by kernel_rfl) (by kernel_rfl))) ?_
  intro W base args ds gs before hval0 hW hcnd hsz0 hL _
  have hval : ∀ (j : Nat) t v, Tryd.f7.params[j]? = some t → args[j]? = some v → Value.okWide Tryd.prog W .any base t v := hval0
  have hsz : (DataW.weightsEach Tryd.prog (Tryd.f7.params.toList ++ Rows.packFoundSpec.plain.varTypes Tryd.prog) (ds ++ gs)).all (· ≤ reachBytes) = true := hsz0
  have hW' := hW
  obtain ⟨p, q, hA0, hV, rfl, hfz, hnd⟩ := hW
  have hA : DataW.TrodAll enc Tryd.prog W 0 (fun _ => true) true Tryd.f7.params.toList args.toList ds p := hA0
  rw [Tryd.params7] at hA hval hsz
  obtain ⟨v0, vs0, d0, ds0, p0, q0, hargs, rfl, rfl, h0, r0⟩ := trodAll_cons hA
  obtain ⟨v1, vs1, d1, ds1, p1, q1, rfl, rfl, rfl, h1, r1⟩ := trodAll_cons r0
  obtain ⟨rfl, rfl, rfl⟩ := trodAll_nil r1
  obtain rfl : args = #[v0, v1] := by cases args; simp_all
  obtain ⟨rfl, rfl⟩ := trodVars_none hV
  have k0 := h0
  have lt0 : ∀ x ∈ p0, x.block < W.heap.size := by obtain ⟨m, hm⟩ := k0; exact DataW.trod_lt m _ _ _ hm
  have ok0 := hval 0 22 v0 rfl rfl
  have k1 := h1
  have lt1 : ∀ x ∈ p1, x.block < W.heap.size := by obtain ⟨m, hm⟩ := k1; exact DataW.trod_lt m _ _ _ hm
  have ok1 := hval 1 39 v1 rfl rfl
  clear hA0 hval0 hsz0
  obtain ⟨a0, len, cap, b, off, T, rfl, hT, hl⟩ := Oct.open_texts Tryd.underlying22 Tryd.underlying9 (by kernel_rfl) (of_decide_eq_true (by kernel_rfl)) ok0 h0 (Oct.arg_weights hsz (j := 0) (t := 22) rfl rfl)
  obtain ⟨a1, f1, rfl, v1⟩ := Ident.open_arr Tryd.underlying39 Tryd.underlying5 (by kernel_rfl) (by kernel_rfl) ok1 h1
  have hW2 := walk a0 cap b off (txs len T) a1 f1 W (txs_at hT) (by rw [txs_length]; exact hl) (txs_size hT) (ev_of_laid hL) v1
  rw [txs_length] at hW2
  refine hW2.mono fun e W' ⟨he, bel⟩ => ?_
  subst he
  exact ⟨_, rfl, _, _, _, [], _, [], hW', trodAll_mk1 (shut_bool Tryd.underlying4 _), (trodAll_cons_mk (Below.trod laidOut (by kernel_rfl) (of_decide_eq_true (by kernel_rfl)) k0 bel lt0) (trodAll_cons_mk (Below.trod laidOut (by kernel_rfl) (of_decide_eq_true (by kernel_rfl)) k1 bel lt1) trodAll_mk0)), rfl, bel.frame _, fun h => by cases h⟩

/-- the row -/
theorem row_proved : Rows.PackFoundSaid :=
  OpenClaim.holds_of_wide 7 Tryd.f7 rfl rfl rfl rfl rfl rfl rfl ⟨rfl, rfl, rfl, rfl, rfl⟩ rfl rfl rfl rfl rfl (by kernel_rfl) Tryd.func7 (by kernel_rfl)
    (of_decide_eq_true (by kernel_rfl)) (by unfold Func.isWrapper; first | (rw [if_pos (by decide +kernel)]; kernel_rfl) | (rw [if_neg (by decide +kernel)]; exact ⟨rfl, rfl⟩))
    (fun os started H enc _ => lifted os started H enc)
/-- the statement: the tied card -/
theorem proved : Rows.PackFoundCardSaid :=
  Claim7.holds_tied_plain_at .later [] Rows.packFoundCard.laidKinds true Rows.packFoundCard.stood.harness Rows.packFoundCard.stood.looks row_proved (fun _ h => by cases h) (by kernel_rfl) (fun _ h => by cases h) packFound_row_tie rfl ⟨rfl, rfl⟩ (by kernel_rfl) rfl
    (fun f fn hf hfn => by
      obtain rfl : f = 7 := Option.some.inj ((show Tryd.prog.funcNamed Rows.packFoundRow.func = some 7 by kernel_rfl).symm.trans hf) |>.symm
      obtain rfl : fn = Tryd.f7 := (Option.some.inj (Tryd.func7.symm.trans hfn)).symm
      exact ⟨by kernel_rfl, fun j t ht => by
        rw [Tryd.params7] at ht
        have hm : t ∈ [22, 39] := by simpa using Array.mem_of_getElem? ht
        have hall : ([22, 39].all fun u => !Tryd.prog.wantsStandIn u) = true := by kernel_rfl
        exact (show Tryd.prog.wantsStandIn t = false by simpa using List.all_eq_true.1 hall t hm)⟩)
    (by kernel_rfl)
end Go.Proofs.YtliojhhiadfmiaaDoor.packFound
