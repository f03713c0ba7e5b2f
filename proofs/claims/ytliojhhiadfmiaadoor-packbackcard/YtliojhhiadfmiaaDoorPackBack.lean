/-
  Proved: for every list, PackBack returns true and turns nothing of what it was given. Conditions: none beyond the form's own (the tables are what the program's text lays: the card ties them).
-/
import Derived.Test.YtliojhhiadfmiaaDoorRows
import Derived.Test.YtliojhhiadfmiaaDoorCards
import Derived.Test.YtliojhhiadfmiaaDoorTie
import Derived.Test.YtliojhhiadfmiaaDoorOctKit
import Derived.SevenTiedAt
import Derived.Test.YtliojhhiadfmiaaDoorPkAwake
import Derived.WalkKit
import Derived.WalkSpells
import Derived.WalkLawsBesides
import Derived.ProofKit
import Derived.OpenShut
import Derived.Laws.BytesArg
import Derived.Deep.QuietTactic
import Derived.BigQuiet
import Derived.BigRegion
import Derived.Lib.Hide
import Derived.LaidMore
import Derived.Stop.Joined
import Derived.MakeChecks
import Derived.Deep.RegionHeld3
import Derived.StillTailTactics
import Derived.Lay
import Derived.Deep.DeepHandedRow
namespace Go.Proofs.YtliojhhiadfmiaaDoor.packBack
open Go Go.ChangeShapes Go.WideShapes Go.ChangeAt Go.RowKit Pk
open Oct (empty append_toList extract_toList ext_toList size_toList)
open Go.ChangeMaps (open_string)

/-- the data of a list, the last first -/
def rdat (S : List Itm) : List ByteArray := (S.map (·.data)).reverse
theorem rdat_length (S : List Itm) : (rdat S).length = S.length := by simp [rdat]
theorem rdat_next {S : List Itm} {q : Nat} (h : q < S.length) : (rdat S).take (S.length - q) = (rdat S).take (S.length - (q + 1)) ++ [S[q].data] := by
  have e : S.length - q = (S.length - (q + 1)) + 1 := by omega
  rw [e, take_next (by rw [rdat_length]; omega)]
  congr 2
  simp only [rdat, List.getElem_reverse, List.getElem_map, List.length_map]
  congr 2
  omega
theorem rdat_perm {l : List ByteArray} : (rdat (srt l)).Perm l := by
  unfold rdat
  refine (List.reverse_perm _).trans ?_
  have := (srt_perm l).map (·.data)
  rw [List.map_map] at this
  have e : l.map ((·.data) ∘ itm) = l := by
    conv => rhs; rw [← List.map_id l]
    exact List.map_congr_left fun s _ => rfl
  rw [e] at this
  exact this
def has (d : ByteArray) (l : List ByteArray) : Bool := l.any fun s => decide (s = d)
theorem has_next {l : List ByteArray} (d : ByteArray) {k : Nat} (h : k < l.length) : has d (l.take (k + 1)) = (has d (l.take k) || decide (l[k] = d)) := by
  rw [take_next h]; unfold has; rw [List.any_append]; simp only [List.any_cons, List.any_nil, Bool.or_false]
theorem has_all {l : List ByteArray} {d : ByteArray} (h : d ∈ l) : has d l = true := by simp only [has, List.any_eq_true, decide_eq_true_eq]; exact ⟨d, h, rfl⟩
theorem beq_dec (a b : ByteArray) : (a.toList == b.toList) = decide (a = b) := by
  by_cases h : a = b
  · rw [str_eq h, decide_eq_true h]
  · rw [str_ne h, decide_eq_false h]
theorem size_bound {l : List ByteArray} (hl : l.length ≤ 60) (hs : sumB l ≤ 262144) (h : (mk l).2 = 0) : (pack (srt l)).size ≤ 270000 ∧ Pk.Good (srt l) := by
  have hg := made_good h (by omega) (by omega)
  have hz := pack_size _ hg.id32
  rw [srt_length, srt_sum] at hz
  exact ⟨by omega, hg⟩
set_option maxRecDepth 100000 in
set_option maxHeartbeats 8000000 in
theorem walk (a : Option Addr) (cap b off : Nat) (l : List ByteArray) (w : World) (hT : TxAt w a b off l) (hl : l.length ≤ 140737488351232) (hs : ∀ s ∈ l, s.size ≤ 140737488351232) (he : Ev w) :
    Calls Tryd.prog 6 #[.slice a l.length cap] w fun e w' => e = .returned (.bool true) ∧ Below w.heap.size w w' := by
  replace hT := Lib.hid hT
  replace he := Lib.hid he
  replace hs := Lib.hid hs
  go_enter Tryd.func6, Tryd.ntmps6
  go_wp2_with fail
  refine (awake_calls w he.out).mono ?_
  rintro e w1 ⟨rfl, bb⟩
  have hB := Lib.hid bb
  replace hT := Lib.hid (hT.out.next bb)
  replace he := Lib.hid (he.out.next bb)
  clear bb
  go_wp2_with fail
  refine (great_calls a cap b off l w1 hT.out hl hs.out).mono ?_
  rintro e w2 ⟨⟨g, rfl, hg⟩, rfl⟩
  cases g with
  | true =>
    clear hg
    go_wp2
    go_ret
    exact ⟨rfl, hB.out⟩
  | false =>
    obtain ⟨hl2, hs2⟩ := hg rfl
    clear hg
    have hM := Lib.hid (Make_calls a cap b off l w1 hT.out he.out (by omega) (by omega))
    by_cases hc : (mk l).2 = 0
    · obtain ⟨z2, hgd⟩ := size_bound hl2 hs2 hc
      have hmk := Lib.hid (mk_ok hc).2.2.2
      rw [hmk.out] at hM
      have hRd := Lib.hid fun w he => Read_calls (pack (srt l)) w (by omega) he
      rw [rd_pack hgd] at hRd
      have hMa : Hid (∀ (a : Option Addr) (c b o : Nat) (w : World), TxAt w a b o (rdat (srt l)) → Ev w → Calls Tryd.prog 12 #[.slice a (rdat (srt l)).length c] w fun e w' => e = .returned (.tuple #[.string (pack (srt l)), .int .i64 0]) ∧ Below w.heap.size w w') := Lib.hid fun a c b o w h he => by
        have hp := rdat_perm (l := l)
        have := Make_calls a c b o (rdat (srt l)) w h he (by rw [hp.length_eq]; omega) (by rw [sumB_perm hp]; omega)
        rw [mk_perm hp, hmk.out] at this
        exact this
      have hSl := srt_length l
      have hmem : Hid (∀ x ∈ srt l, x.data ∈ l) := Lib.hid fun x hx => by
        obtain ⟨s, h1, rfl⟩ := srt_mem.1 hx
        exact h1
      have hids := Lib.hid hgd.id
      have hups := Lib.hid hgd.up
      have hszs : Hid (∀ x ∈ srt l, x.data.size ≤ 131072) := Lib.hid hgd.sz
      clear hgd
      generalize pack (srt l) = P at *
      generalize srt l = S at *
      have q0 : ((S.length : Int) != (l.length : Int)) = false := by rw [hSl]; simp
      have hS60 : S.length ≤ 60 := by omega
      replace hSl := Lib.hid hSl
      go_wp2_with fail
      refine hM.out.mono ?_
      rintro e w3 ⟨rfl, bb⟩
      replace hB := Lib.hid (below_next hB.out bb)
      replace he := Lib.hid (he.out.next bb)
      replace hT := Lib.hid (hT.out.next bb)
      clear bb hM
      go_wp2_with fail
      refine (hRd.out _ he.out).mono ?_
      rintro e w4 ⟨⟨ia, icap, ib, ioff, rfl, hI⟩, bb⟩
      replace hB := Lib.hid (below_next hB.out bb)
      replace he := Lib.hid (he.out.next bb)
      replace hT := Lib.hid (hT.out.next bb)
      replace hI := Lib.hid hI
      clear bb hRd
      have hO := Lib.hid (OwnT.new w4 w4.heap.size (Nat.le_refl _))
      have hB4 := Lib.hid (b_alloc w4 (.cells #[] 9))
      have e0 : IntKind.i64.wrap ((S.length : Int) - 1) = (S.length : Int) - 1 := by simp [IntKind.wrap, IntKind.bits, IntKind.signed]; omega
      go_wp2
      have hs5 := Lib.hid hB4.out.size
      have hT5 := Lib.hid (hT.out.next hB4.out)
      have hI5 := Lib.hid (hI.out.next hB4.out)
      have he5 := Lib.hid (he.out.next hB4.out)
      have hp4 := Lib.hid he.out.pos
      have hib : Hid (0 < S.length → ib < w4.heap.size) := Lib.hid hI.out.where_
      have hbb : Hid (0 < l.length → b < w4.heap.size) := Lib.hid hT.out.where_
      generalize w4.alloc (.cells #[] 9) = w5 at *
      go_loopw [6, 7, 8, 9] (fun v i _ _ wr => ∃ m : Nat, m ≤ S.length ∧ i = .int .i64 ((m : Int) - 1) ∧ Hid (OwnT w4.heap.size wr v ((rdat S).take (S.length - m))) ∧ Hid (Below w4.heap.size w5 wr)) (fun _ i _ _ _ => (intOf i + 1).toNat)
      case atStart => exact ⟨S.length, Nat.le_refl _, rfl, Lib.hid (by rw [Nat.sub_self]; exact hO.out), Lib.hid (Below.refl _ _)⟩
      case round =>
        clear hO
        obtain ⟨m, hm, rfl, hO, hBr⟩ := hrel
        have hTr := Lib.hid (hT5.out.below hBr.out hbb.out)
        have hIr := Lib.hid (hI5.out.below hBr.out hib.out)
        have hszr : Hid (w4.heap.size ≤ wr.heap.size) := Lib.hid (Nat.le_trans hs5.out hBr.out.size)
        have her := Lib.hid (he5.out.mono hBr.out hp4.out)
        by_cases hm0 : m = 0
        · have j0 : decide ((0 : Int) ≤ (m : Int) - 1) = false := decide_eq_false (by omega)
          have j1 : (m : Int) - 1 < 0 := by omega
          have hOe : Hid (OwnT w4.heap.size wr u6 (rdat S)) := Lib.hid (by
            have := hO.out
            rw [hm0, Nat.sub_zero, List.take_of_length_le (by rw [rdat_length]; exact Nat.le_refl _)] at this
            exact this)
          obtain ⟨ya, ycap, yb, yoff, hv, hTx, _, _⟩ := hOe.out.at_
          subst hv
          have hMb := Lib.hid (hMa.out ya ycap yb yoff wr hTx her.out)
          have r1 := str_eq (show P = P from rfl)
          replace hm0 := Lib.hid hm0
          clear hO hOe hTx
          generalize (rdat S).length = rl at *
          go_wp2_with fail
          refine hMb.out.mono ?_
          rintro e w6 ⟨rfl, bb⟩
          have hfin := Lib.hid (hB.out.trans ((hB4.out.trans (hBr.out.trans (bb.mono hszr.out))).mono hB.out.size))
          clear bb
          go_wp2
          go_ret
          exact ⟨rfl, hfin.out⟩
        · obtain ⟨q, rfl⟩ : ∃ q, m = q + 1 := ⟨m - 1, by omega⟩
          have hq : q < S.length := by omega
          have e1 : ((q + 1 : Nat) : Int) - 1 = (q : Nat) := by omega
          rw [e1]
          have i0 : (0 : Int) ≤ q := by omega
          have i1 : (q : Int) < S.length := by omega
          obtain rfl := hIr.out.addr (by omega)
          obtain rfl := hTr.out.addr (by have := hSl.out; omega)
          have hgl : S[q]? = some S[q] := List.getElem?_eq_getElem hq
          have hin := hmem.out _ (List.getElem_mem hq)
          have hid := hids.out _ (List.getElem_mem hq)
          have hxz := hszs.out _ (List.getElem_mem hq)
          have hnx := Lib.hid (rdat_next hq)
          have hal := Lib.hid (has_all hin)
          have hlenM : ((rdat S).take (S.length - (q + 1))).length ≤ 1099511627776 := by rw [List.length_take, rdat_length]; omega
          have hupq : Hid (∀ p, p + 1 = q → ∃ y, S[p]? = some y ∧ lt y.id S[q].id = true) := Lib.hid fun p hp => ⟨S[p]'(by omega), List.getElem?_eq_getElem (by omega), List.pairwise_iff_getElem.1 hups.out p q (by omega) hq (by omega)⟩
          replace hgl := Lib.hid hgl
          replace hin := Lib.hid hin
          generalize S[q] = x at *
          obtain ⟨xi, xd⟩ := x
          dsimp only at hid hxz hnx hal hupq
          generalize (rdat S).take (S.length - (q + 1)) = M at *
          obtain ⟨W6, hW6⟩ : ∃ W6, W6 = wr := ⟨_, rfl⟩
          subst hW6
          go_wp2
          go_loopw [8, 9] (fun d k wz => ∃ kk : Nat, kk ≤ l.length ∧ k = .int .i64 kk ∧ d = .bool (has xd (l.take kk)) ∧ Hid (Below W6.heap.size W6 wz)) (fun _ k _ => l.length - (intOf k).toNat)
          case atStart => exact ⟨0, by omega, rfl, rfl, Lib.hid (Below.refl _ _)⟩
          case round =>
            obtain ⟨kk, hkk, rfl, rfl, hBz⟩ := hrel
            have hTz := Lib.hid (hTr.out.next hBz.out)
            have hIz := Lib.hid (hIr.out.next hBz.out)
            by_cases hlt : kk < l.length
            · have k1 : (kk : Int) < l.length := by omega
              have k0 : (0 : Int) ≤ kk := by omega
              have c0 := hTz.out.cell kk _ (List.getElem?_eq_getElem hlt)
              have c1 := hIz.out.dat q _ hgl.out
              dsimp only at c1
              have hn2 := Lib.hid (has_next xd hlt)
              have hbd := beq_dec l[kk] xd
              generalize l[kk] = s at *
              generalize has xd (l.take kk) = hh at *
              have hBe := Lib.hid fun n => below_next hBz.out (b_drewN wr n)
              clear hTz hIz
              cases hh with
              | true =>
                go_wp2_with fail
                go_quiet (fail)
                go_wp2
                exact ⟨⟨kk + 1, by omega, by go_num, by rw [hn2.out]; rfl, Lib.hid (hBe.out _)⟩, by simp [intOf]; omega⟩
              | false =>
                rw [← hbd] at hn2
                clear hbd
                go_wp2_with fail
                go_quiet (fail)
                go_wp2
                exact ⟨⟨kk + 1, by omega, by go_num, by rw [hn2.out]; rfl, Lib.hid (hBe.out _)⟩, by simp [intOf]; omega⟩
            · have j0 : decide ((kk : Int) < l.length) = false := decide_eq_false (by omega)
              have j1 : (l.length : Int) ≤ kk := by omega
              obtain rfl : kk = l.length := by omega
              rw [List.take_length, hal.out]
              have hSm := Lib.hid fun w he => Sum_calls xd w he (by omega)
              rw [← hid] at hSm
              have r3 := str_eq (show xi = xi from rfl)
              have r4 : (xi.toList != xi.toList) = false := by rw [bne, r3]; rfl
              have hOz := Lib.hid (hO.out.next hBz.out)
              have hBzz := Lib.hid (hBr.out.trans (hBz.out.mono hszr.out))
              have hszz := Lib.hid (Nat.le_trans hszr.out hBz.out.size)
              have hez := Lib.hid (her.out.next hBz.out)
              clear hTz
              replace hid := Lib.hid hid
              have bc : Below wr.heap.size wr wr.drew := b_drew wr
              by_cases hq0 : q = 0
              · have q1 : decide ((0 : Int) < q) = false := decide_eq_false (by omega)
                have q2 : ¬ (0 : Int) < q := by omega
                have q3 : ¬ 0 < q := by omega
                have q4 : decide (0 < q) = false := decide_eq_false q3
                replace hq0 := Lib.hid hq0
                have hkeep : Hid (∀ w', Below wr.heap.size wr w' → (w'.cell? ⟨ib, ioff + q * 2, none⟩ = some (.string xi) ∧ w'.cell? ⟨ib, ioff + q * 2 + 1, none⟩ = some (.string xd))) := Lib.hid fun w' h => ⟨(hIz.out.next h).id q _ hgl.out, (hIz.out.next h).dat q _ hgl.out⟩
                have hk0 := hkeep.out _ bc
                go_upto_region 20 with (fail)
                refine wp_region_held_drew (S := (fun w' => w'.cell? ⟨ib, ioff + q * 2, none⟩ = some (.string xi) ∧ w'.cell? ⟨ib, ioff + q * 2 + 1, none⟩ = some (.string xd))) (by kernel_rfl) (hk0) (fun hHeld => ?_)
                refine wpAnyH_take (i := 0) (oi := { dst := some 65, op := _, type := _, pos := _, after := _, guard := none }) (v := ?vr1_0) rfl (by kernel_rfl) (by kernel_rfl) (by kernel_rfl) (fun _ _ _ h => h) (Or.inl ⟨by rfl, ?hyr1_0⟩) (by assumption) ?restr1_0
                case hyr1_0 => (intro w hSw; (try dsimp only at hSw); go_simp <;> with_reducible rfl)
                (try simp only [Act.put, List.setIfInBounds_toArray, List.set_cons_zero, List.set_cons_succ])
                refine wpAnyH_take (i := 1) (oi := { dst := some 66, op := _, type := _, pos := _, after := _, guard := none }) (v := ?vr1_1) rfl (by kernel_rfl) (by kernel_rfl) (by kernel_rfl) (fun _ _ _ h => h) (Or.inl ⟨by rfl, ?hyr1_1⟩) (by assumption) ?restr1_1
                case hyr1_1 => (intro w hSw; (try dsimp only at hSw); go_simp <;> with_reducible rfl)
                (try simp only [Act.put, List.setIfInBounds_toArray, List.set_cons_zero, List.set_cons_succ])
                refine wpAnyH_take (i := 2) (oi := { dst := some 67, op := _, type := _, pos := _, after := _, guard := none }) (v := ?vr1_2) rfl (by kernel_rfl) (by kernel_rfl) (by kernel_rfl) (fun _ _ _ h => h) (Or.inl ⟨by rfl, ?hyr1_2⟩) (by assumption) ?restr1_2
                case hyr1_2 => (intro w hSw; (try dsimp only at hSw); go_simp <;> with_reducible rfl)
                (try simp only [Act.put, List.setIfInBounds_toArray, List.set_cons_zero, List.set_cons_succ])
                refine wpAnyH_take (i := 3) (oi := { dst := some 68, op := _, type := _, pos := _, after := _, guard := some (2, false) }) (v := ?vr1_3) rfl (by kernel_rfl) (by kernel_rfl) (by kernel_rfl) (fun _ _ _ h => h) (Or.inl ⟨by rfl, ?hyr1_3⟩) (by assumption) ?restr1_3
                case hyr1_3 => (intro w hSw; (try dsimp only at hSw); go_simp <;> with_reducible rfl)
                (try simp only [Act.put, List.setIfInBounds_toArray, List.set_cons_zero, List.set_cons_succ])
                refine wpAnyH_take (i := 4) (oi := { dst := some 69, op := _, type := _, pos := _, after := _, guard := some (2, false) }) (v := ?vr1_4) rfl (by kernel_rfl) (by kernel_rfl) (by kernel_rfl) (fun _ _ _ h => h) (Or.inl ⟨by rfl, ?hyr1_4⟩) (by assumption) ?restr1_4
                case hyr1_4 => (intro w hSw; (try dsimp only at hSw); go_simp <;> with_reducible rfl)
                (try simp only [Act.put, List.setIfInBounds_toArray, List.set_cons_zero, List.set_cons_succ])
                refine wpAnyH_take (i := 5) (oi := { dst := some 70, op := _, type := _, pos := _, after := _, guard := some (2, false) }) (v := ?vr1_5) rfl (by kernel_rfl) (by kernel_rfl) (by kernel_rfl) (fun _ _ _ h => h) (Or.inl ⟨by rfl, ?hyr1_5⟩) (by assumption) ?restr1_5
                case hyr1_5 => (intro w hSw; (try dsimp only at hSw); go_simp <;> with_reducible rfl)
                (try simp only [Act.put, List.setIfInBounds_toArray, List.set_cons_zero, List.set_cons_succ])
                refine wpAnyH_take (i := 6) (oi := { dst := some 71, op := _, type := _, pos := _, after := _, guard := some (2, false) }) (v := ?vr1_6) rfl (by kernel_rfl) (by kernel_rfl) (by kernel_rfl) (fun _ _ _ h => h) (Or.inl ⟨by rfl, ?hyr1_6⟩) (by assumption) ?restr1_6
                case hyr1_6 => (intro w hSw; (try dsimp only at hSw); go_simp <;> with_reducible rfl)
                (try simp only [Act.put, List.setIfInBounds_toArray, List.set_cons_zero, List.set_cons_succ])
                refine wpAnyH_take (i := 7) (oi := { dst := some 72, op := _, type := _, pos := _, after := _, guard := some (2, false) }) (v := ?vr1_7) rfl (by kernel_rfl) (by kernel_rfl) (by kernel_rfl) (fun _ _ _ h => h) (Or.inl ⟨by rfl, ?hyr1_7⟩) (by assumption) ?restr1_7
                case hyr1_7 => (intro w hSw; (try dsimp only at hSw); go_simp <;> with_reducible rfl)
                (try simp only [Act.put, List.setIfInBounds_toArray, List.set_cons_zero, List.set_cons_succ])
                refine wpAnyH_take (i := 8) (oi := { dst := some 73, op := _, type := _, pos := _, after := _, guard := some (2, false) }) (v := ?vr1_8) rfl (by kernel_rfl) (by kernel_rfl) (by kernel_rfl) (fun _ _ _ h => h) (Or.inl ⟨by rfl, ?hyr1_8⟩) (by assumption) ?restr1_8
                case hyr1_8 => (intro w hSw; (try dsimp only at hSw); go_simp <;> with_reducible rfl)
                (try simp only [Act.put, List.setIfInBounds_toArray, List.set_cons_zero, List.set_cons_succ])
                refine wpAnyH_take (i := 9) (oi := { dst := some 74, op := _, type := _, pos := _, after := _, guard := some (2, false) }) (v := ?vr1_9) rfl (by kernel_rfl) (by kernel_rfl) (by kernel_rfl) (fun _ _ _ h => h) (Or.inl ⟨by rfl, ?hyr1_9⟩) (by assumption) ?restr1_9
                case hyr1_9 => (intro w hSw; (try dsimp only at hSw); go_simp <;> with_reducible rfl)
                (try simp only [Act.put, List.setIfInBounds_toArray, List.set_cons_zero, List.set_cons_succ])
                refine wpAnyH_take (i := 10) (oi := { dst := some 75, op := _, type := _, pos := _, after := _, guard := some (2, false) }) (v := ?vr1_10) rfl (by kernel_rfl) (by kernel_rfl) (by kernel_rfl) (fun _ _ _ h => h) (Or.inl ⟨by rfl, ?hyr1_10⟩) (by assumption) ?restr1_10
                case hyr1_10 => (intro w hSw; (try dsimp only at hSw); go_simp <;> with_reducible rfl)
                (try simp only [Act.put, List.setIfInBounds_toArray, List.set_cons_zero, List.set_cons_succ])
                refine wpAnyH_take (i := 11) (oi := { dst := some 76, op := _, type := _, pos := _, after := _, guard := some (2, false) }) (v := ?vr1_11) rfl (by kernel_rfl) (by kernel_rfl) (by kernel_rfl) (fun _ _ _ h => h) (Or.inl ⟨by rfl, ?hyr1_11⟩) (by assumption) ?restr1_11
                case hyr1_11 => (intro w hSw; (try dsimp only at hSw); go_simp <;> with_reducible rfl)
                (try simp only [Act.put, List.setIfInBounds_toArray, List.set_cons_zero, List.set_cons_succ])
                refine wpAnyH_take (i := 12) (oi := { dst := some 77, op := _, type := _, pos := _, after := _, guard := some (2, false) }) (v := ?vr1_12) rfl (by kernel_rfl) (by kernel_rfl) (by kernel_rfl) (fun _ _ _ h => h) (Or.inl ⟨by rfl, ?hyr1_12⟩) (by assumption) ?restr1_12
                case hyr1_12 => (intro w hSw; (try dsimp only at hSw); go_simp <;> with_reducible rfl)
                (try simp only [Act.put, List.setIfInBounds_toArray, List.set_cons_zero, List.set_cons_succ])
                refine wpAnyH_ready (rs := [13]) (by kernel_rfl) (by simp) ?_
                refine AllReadyH.cons (o := { dst := some 78, op := _, type := _, pos := _, after := _, guard := some (2, false) }) rfl (fun K hK => ?_) AllReadyH.nil
                go_simp
                (refine (hSm.out _ (hez.out.next bc)).mono ?_; rintro e w7 ⟨rfl, bb⟩; replace bc := below_next bc bb; clear bb)
                (try go_wp2_with fail)
                refine hK.out _ _ ((hkeep.out _ bc)) (fun hHeld => ?_)
                clear hK K
                (try simp only [Act.put, List.setIfInBounds_toArray, List.set_cons_zero, List.set_cons_succ])
                refine wpAnyH_take (i := 14) (oi := { dst := some 79, op := _, type := _, pos := _, after := _, guard := some (2, false) }) (v := ?vr1_13) rfl (by kernel_rfl) (by kernel_rfl) (by kernel_rfl) (fun _ _ _ h => h) (Or.inl ⟨by rfl, ?hyr1_13⟩) (by assumption) ?restr1_13
                case hyr1_13 => (intro w hSw; (try dsimp only at hSw); go_simp <;> with_reducible rfl)
                (try simp only [Act.put, List.setIfInBounds_toArray, List.set_cons_zero, List.set_cons_succ])
                refine wpAnyH_take (i := 15) (oi := { dst := some 80, op := _, type := _, pos := _, after := _, guard := none }) (v := ?vr1_14) rfl (by kernel_rfl) (by kernel_rfl) (by kernel_rfl) (fun _ _ _ h => h) (Or.inl ⟨by rfl, ?hyr1_14⟩) (by assumption) ?restr1_14
                case hyr1_14 => (intro w hSw; (try dsimp only at hSw); go_simp <;> with_reducible rfl)
                (try simp only [Act.put, List.setIfInBounds_toArray, List.set_cons_zero, List.set_cons_succ])
                refine wpAnyH_take (i := 16) (oi := { dst := some 81, op := _, type := _, pos := _, after := _, guard := none }) (v := ?vr1_15) rfl (by kernel_rfl) (by kernel_rfl) (by kernel_rfl) (fun _ _ _ h => h) (Or.inl ⟨by rfl, ?hyr1_15⟩) (by assumption) ?restr1_15
                case hyr1_15 => (intro w hSw; (try dsimp only at hSw); go_simp <;> with_reducible rfl)
                (try simp only [Act.put, List.setIfInBounds_toArray, List.set_cons_zero, List.set_cons_succ])
                refine wpAnyH_take (i := 17) (oi := { dst := some 82, op := _, type := _, pos := _, after := _, guard := some (16, false) }) (v := ?vr1_16) rfl (by kernel_rfl) (by kernel_rfl) (by kernel_rfl) (fun _ _ _ h => h) (Or.inl ⟨by rfl, ?hyr1_16⟩) (by assumption) ?restr1_16
                case hyr1_16 => (intro w hSw; (try dsimp only at hSw); go_simp <;> with_reducible rfl)
                (try simp only [Act.put, List.setIfInBounds_toArray, List.set_cons_zero, List.set_cons_succ])
                refine wpAnyH_take (i := 18) (oi := { dst := some 83, op := _, type := _, pos := _, after := _, guard := some (16, false) }) (v := ?vr1_17) rfl (by kernel_rfl) (by kernel_rfl) (by kernel_rfl) (fun _ _ _ h => h) (Or.inl ⟨by rfl, ?hyr1_17⟩) (by assumption) ?restr1_17
                case hyr1_17 => (intro w hSw; (try dsimp only at hSw); go_simp <;> with_reducible rfl)
                (try simp only [Act.put, List.setIfInBounds_toArray, List.set_cons_zero, List.set_cons_succ])
                refine wpAnyH_take (i := 19) (oi := { dst := some 84, op := _, type := _, pos := _, after := _, guard := some (16, false) }) (v := ?vr1_18) rfl (by kernel_rfl) (by kernel_rfl) (by kernel_rfl) (fun _ _ _ h => h) (Or.inl ⟨by rfl, ?hyr1_18⟩) (by assumption) ?restr1_18
                case hyr1_18 => (intro w hSw; (try dsimp only at hSw); go_simp <;> with_reducible rfl)
                (try simp only [Act.put, List.setIfInBounds_toArray, List.set_cons_zero, List.set_cons_succ])
                refine wpAnyH_take (i := 20) (oi := { dst := some 85, op := _, type := _, pos := _, after := _, guard := some (19, true) }) (v := undef) rfl (by kernel_rfl) (by kernel_rfl) (by kernel_rfl) (fun _ _ _ h => h) (Or.inr ⟨by rfl, rfl⟩) (by assumption) ?_
                (try simp only [Act.put, List.setIfInBounds_toArray, List.set_cons_zero, List.set_cons_succ])
                refine wpAnyH_take (i := 21) (oi := { dst := some 86, op := _, type := _, pos := _, after := _, guard := some (19, true) }) (v := undef) rfl (by kernel_rfl) (by kernel_rfl) (by kernel_rfl) (fun _ _ _ h => h) (Or.inr ⟨by rfl, rfl⟩) (by assumption) ?_
                (try simp only [Act.put, List.setIfInBounds_toArray, List.set_cons_zero, List.set_cons_succ])
                refine wpAnyH_take (i := 22) (oi := { dst := some 87, op := _, type := _, pos := _, after := _, guard := some (19, true) }) (v := undef) rfl (by kernel_rfl) (by kernel_rfl) (by kernel_rfl) (fun _ _ _ h => h) (Or.inr ⟨by rfl, rfl⟩) (by assumption) ?_
                (try simp only [Act.put, List.setIfInBounds_toArray, List.set_cons_zero, List.set_cons_succ])
                refine wpAnyH_take (i := 23) (oi := { dst := some 88, op := _, type := _, pos := _, after := _, guard := some (19, true) }) (v := undef) rfl (by kernel_rfl) (by kernel_rfl) (by kernel_rfl) (fun _ _ _ h => h) (Or.inr ⟨by rfl, rfl⟩) (by assumption) ?_
                (try simp only [Act.put, List.setIfInBounds_toArray, List.set_cons_zero, List.set_cons_succ])
                refine wpAnyH_take (i := 24) (oi := { dst := some 89, op := _, type := _, pos := _, after := _, guard := some (19, true) }) (v := undef) rfl (by kernel_rfl) (by kernel_rfl) (by kernel_rfl) (fun _ _ _ h => h) (Or.inr ⟨by rfl, rfl⟩) (by assumption) ?_
                (try simp only [Act.put, List.setIfInBounds_toArray, List.set_cons_zero, List.set_cons_succ])
                refine wpAnyH_take (i := 25) (oi := { dst := some 90, op := _, type := _, pos := _, after := _, guard := some (19, true) }) (v := undef) rfl (by kernel_rfl) (by kernel_rfl) (by kernel_rfl) (fun _ _ _ h => h) (Or.inr ⟨by rfl, rfl⟩) (by assumption) ?_
                (try simp only [Act.put, List.setIfInBounds_toArray, List.set_cons_zero, List.set_cons_succ])
                refine wpAnyH_take (i := 26) (oi := { dst := some 91, op := _, type := _, pos := _, after := _, guard := some (19, true) }) (v := undef) rfl (by kernel_rfl) (by kernel_rfl) (by kernel_rfl) (fun _ _ _ h => h) (Or.inr ⟨by rfl, rfl⟩) (by assumption) ?_
                (try simp only [Act.put, List.setIfInBounds_toArray, List.set_cons_zero, List.set_cons_succ])
                refine wpAnyH_take (i := 27) (oi := { dst := some 92, op := _, type := _, pos := _, after := _, guard := some (19, true) }) (v := undef) rfl (by kernel_rfl) (by kernel_rfl) (by kernel_rfl) (fun _ _ _ h => h) (Or.inr ⟨by rfl, rfl⟩) (by assumption) ?_
                (try simp only [Act.put, List.setIfInBounds_toArray, List.set_cons_zero, List.set_cons_succ])
                refine wpAnyH_take (i := 28) (oi := { dst := some 93, op := _, type := _, pos := _, after := _, guard := some (19, true) }) (v := undef) rfl (by kernel_rfl) (by kernel_rfl) (by kernel_rfl) (fun _ _ _ h => h) (Or.inr ⟨by rfl, rfl⟩) (by assumption) ?_
                (try simp only [Act.put, List.setIfInBounds_toArray, List.set_cons_zero, List.set_cons_succ])
                refine wpAnyH_take (i := 29) (oi := { dst := some 94, op := _, type := _, pos := _, after := _, guard := some (19, true) }) (v := undef) rfl (by kernel_rfl) (by kernel_rfl) (by kernel_rfl) (fun _ _ _ h => h) (Or.inr ⟨by rfl, rfl⟩) (by assumption) ?_
                (try simp only [Act.put, List.setIfInBounds_toArray, List.set_cons_zero, List.set_cons_succ])
                refine wpAnyH_take (i := 30) (oi := { dst := some 95, op := _, type := _, pos := _, after := _, guard := some (19, true) }) (v := undef) rfl (by kernel_rfl) (by kernel_rfl) (by kernel_rfl) (fun _ _ _ h => h) (Or.inr ⟨by rfl, rfl⟩) (by assumption) ?_
                (try simp only [Act.put, List.setIfInBounds_toArray, List.set_cons_zero, List.set_cons_succ])
                refine wpAnyH_take (i := 31) (oi := { dst := some 96, op := _, type := _, pos := _, after := _, guard := some (19, true) }) (v := undef) rfl (by kernel_rfl) (by kernel_rfl) (by kernel_rfl) (fun _ _ _ h => h) (Or.inr ⟨by rfl, rfl⟩) (by assumption) ?_
                (try simp only [Act.put, List.setIfInBounds_toArray, List.set_cons_zero, List.set_cons_succ])
                refine wpAnyH_take (i := 32) (oi := { dst := some 97, op := _, type := _, pos := _, after := _, guard := some (16, false) }) (v := ?vr1_31) rfl (by kernel_rfl) (by kernel_rfl) (by kernel_rfl) (fun _ _ _ h => h) (Or.inl ⟨by rfl, ?hyr1_31⟩) (by assumption) ?restr1_31
                case hyr1_31 => (intro w hSw; (try dsimp only at hSw); go_simp <;> with_reducible rfl)
                (try simp only [Act.put, List.setIfInBounds_toArray, List.set_cons_zero, List.set_cons_succ])
                refine wpAnyH_take (i := 33) (oi := { dst := some 98, op := _, type := _, pos := _, after := _, guard := none }) (v := ?vr1_32) rfl (by kernel_rfl) (by kernel_rfl) (by kernel_rfl) (fun _ _ _ h => h) (Or.inl ⟨by rfl, ?hyr1_32⟩) (by assumption) ?restr1_32
                case hyr1_32 => (intro w hSw; (try dsimp only at hSw); go_simp <;> with_reducible rfl)
                (try simp only [Act.put, List.setIfInBounds_toArray, List.set_cons_zero, List.set_cons_succ])
                refine wpAnyH_done (by kernel_rfl) ?_ _
                replace hOz := Lib.hid (hOz.out.next bc)
                replace hBzz := Lib.hid (hBzz.out.trans (bc.mono hszz.out))
                replace hszz := Lib.hid (Nat.le_trans hszz.out bc.size)
                have c1 := (hkeep.out _ bc).2
                clear hkeep hk0 bc hSm hez hHeld
                go_wp2_with (at_builtin; refine wp_append_tx rfl _ _ rfl w4.heap.size u6 M xd rfl rfl hOz.out hszz.out hlenM ?_)
                intro v' w8 hO8 hB8
                have hB9 := Lib.hid (hB8 _ hBzz.out)
                rw [← hnx.out] at hO8
                replace hO8 := Lib.hid hO8
                clear hOz hBzz hB8 hlenM c1
                go_wp2
                exact ⟨⟨q, by omega, by go_num, hO8, hB9⟩, by first | (simp [intOf]; done) | (simp [intOf]; omega)⟩
              · obtain ⟨p, hp⟩ : ∃ p, p + 1 = q := ⟨q - 1, by omega⟩
                have q1 : (0 : Int) < q := by omega
                have q3 : 0 < q := by omega
                have q4 : decide (0 < q) = true := decide_eq_true q3
                have p1 : IntKind.i64.wrap ((q : Int) - 1) = (p : Nat) := by simp [IntKind.wrap, IntKind.bits, IntKind.signed]; omega
                have p2 : (p : Int) < S.length := by omega
                have p3 : (0 : Int) ≤ p := by omega
                obtain ⟨y, hy1, hy2⟩ := hupq.out p hp
                obtain ⟨yi, yd⟩ := y
                dsimp only at hy2
                have p4 : Op.bytesLess yi.toList xi.toList = true := by rw [lt_str]; exact hy2
                have p5 : (yi.toList == xi.toList) = false := str_ne fun e => by rw [e, lt_irrefl] at hy2; cases hy2
                have p6 : Op.bytesLess xi.toList yi.toList = false := by rw [lt_str]; exact lt_asymm hy2
                replace hy1 := Lib.hid hy1
                replace hy2 := Lib.hid hy2
                replace hp := Lib.hid hp
                have hkeep : Hid (∀ w', Below wr.heap.size wr w' → (w'.cell? ⟨ib, ioff + q * 2, none⟩ = some (.string xi) ∧ w'.cell? ⟨ib, ioff + q * 2 + 1, none⟩ = some (.string xd) ∧ w'.cell? ⟨ib, ioff + p * 2, none⟩ = some (.string yi))) := Lib.hid fun w' h => ⟨(hIz.out.next h).id q _ hgl.out, (hIz.out.next h).dat q _ hgl.out, (hIz.out.next h).id p _ hy1.out⟩
                have hk0 := hkeep.out _ bc
                go_upto_region 20 with (fail)
                refine wp_region_held_drew (S := (fun w' => w'.cell? ⟨ib, ioff + q * 2, none⟩ = some (.string xi) ∧ w'.cell? ⟨ib, ioff + q * 2 + 1, none⟩ = some (.string xd) ∧ w'.cell? ⟨ib, ioff + p * 2, none⟩ = some (.string yi))) (by kernel_rfl) (hk0) (fun hHeld => ?_)
                refine wpAnyH_take (i := 0) (oi := { dst := some 65, op := _, type := _, pos := _, after := _, guard := none }) (v := ?vr2_0) rfl (by kernel_rfl) (by kernel_rfl) (by kernel_rfl) (fun _ _ _ h => h) (Or.inl ⟨by rfl, ?hyr2_0⟩) (by assumption) ?restr2_0
                case hyr2_0 => (intro w hSw; (try dsimp only at hSw); go_simp <;> with_reducible rfl)
                (try simp only [Act.put, List.setIfInBounds_toArray, List.set_cons_zero, List.set_cons_succ])
                refine wpAnyH_take (i := 1) (oi := { dst := some 66, op := _, type := _, pos := _, after := _, guard := none }) (v := ?vr2_1) rfl (by kernel_rfl) (by kernel_rfl) (by kernel_rfl) (fun _ _ _ h => h) (Or.inl ⟨by rfl, ?hyr2_1⟩) (by assumption) ?restr2_1
                case hyr2_1 => (intro w hSw; (try dsimp only at hSw); go_simp <;> with_reducible rfl)
                (try simp only [Act.put, List.setIfInBounds_toArray, List.set_cons_zero, List.set_cons_succ])
                refine wpAnyH_take (i := 2) (oi := { dst := some 67, op := _, type := _, pos := _, after := _, guard := none }) (v := ?vr2_2) rfl (by kernel_rfl) (by kernel_rfl) (by kernel_rfl) (fun _ _ _ h => h) (Or.inl ⟨by rfl, ?hyr2_2⟩) (by assumption) ?restr2_2
                case hyr2_2 => (intro w hSw; (try dsimp only at hSw); go_simp <;> with_reducible rfl)
                (try simp only [Act.put, List.setIfInBounds_toArray, List.set_cons_zero, List.set_cons_succ])
                refine wpAnyH_take (i := 3) (oi := { dst := some 68, op := _, type := _, pos := _, after := _, guard := some (2, false) }) (v := ?vr2_3) rfl (by kernel_rfl) (by kernel_rfl) (by kernel_rfl) (fun _ _ _ h => h) (Or.inl ⟨by rfl, ?hyr2_3⟩) (by assumption) ?restr2_3
                case hyr2_3 => (intro w hSw; (try dsimp only at hSw); go_simp <;> with_reducible rfl)
                (try simp only [Act.put, List.setIfInBounds_toArray, List.set_cons_zero, List.set_cons_succ])
                refine wpAnyH_take (i := 4) (oi := { dst := some 69, op := _, type := _, pos := _, after := _, guard := some (2, false) }) (v := ?vr2_4) rfl (by kernel_rfl) (by kernel_rfl) (by kernel_rfl) (fun _ _ _ h => h) (Or.inl ⟨by rfl, ?hyr2_4⟩) (by assumption) ?restr2_4
                case hyr2_4 => (intro w hSw; (try dsimp only at hSw); go_simp <;> with_reducible rfl)
                (try simp only [Act.put, List.setIfInBounds_toArray, List.set_cons_zero, List.set_cons_succ])
                refine wpAnyH_take (i := 5) (oi := { dst := some 70, op := _, type := _, pos := _, after := _, guard := some (2, false) }) (v := ?vr2_5) rfl (by kernel_rfl) (by kernel_rfl) (by kernel_rfl) (fun _ _ _ h => h) (Or.inl ⟨by rfl, ?hyr2_5⟩) (by assumption) ?restr2_5
                case hyr2_5 => (intro w hSw; (try dsimp only at hSw); go_simp <;> with_reducible rfl)
                (try simp only [Act.put, List.setIfInBounds_toArray, List.set_cons_zero, List.set_cons_succ])
                refine wpAnyH_take (i := 6) (oi := { dst := some 71, op := _, type := _, pos := _, after := _, guard := some (2, false) }) (v := ?vr2_6) rfl (by kernel_rfl) (by kernel_rfl) (by kernel_rfl) (fun _ _ _ h => h) (Or.inl ⟨by rfl, ?hyr2_6⟩) (by assumption) ?restr2_6
                case hyr2_6 => (intro w hSw; (try dsimp only at hSw); go_simp <;> with_reducible rfl)
                (try simp only [Act.put, List.setIfInBounds_toArray, List.set_cons_zero, List.set_cons_succ])
                refine wpAnyH_take (i := 7) (oi := { dst := some 72, op := _, type := _, pos := _, after := _, guard := some (2, false) }) (v := ?vr2_7) rfl (by kernel_rfl) (by kernel_rfl) (by kernel_rfl) (fun _ _ _ h => h) (Or.inl ⟨by rfl, ?hyr2_7⟩) (by assumption) ?restr2_7
                case hyr2_7 => (intro w hSw; (try dsimp only at hSw); go_simp <;> with_reducible rfl)
                (try simp only [Act.put, List.setIfInBounds_toArray, List.set_cons_zero, List.set_cons_succ])
                refine wpAnyH_take (i := 8) (oi := { dst := some 73, op := _, type := _, pos := _, after := _, guard := some (2, false) }) (v := ?vr2_8) rfl (by kernel_rfl) (by kernel_rfl) (by kernel_rfl) (fun _ _ _ h => h) (Or.inl ⟨by rfl, ?hyr2_8⟩) (by assumption) ?restr2_8
                case hyr2_8 => (intro w hSw; (try dsimp only at hSw); go_simp <;> with_reducible rfl)
                (try simp only [Act.put, List.setIfInBounds_toArray, List.set_cons_zero, List.set_cons_succ])
                refine wpAnyH_take (i := 9) (oi := { dst := some 74, op := _, type := _, pos := _, after := _, guard := some (2, false) }) (v := ?vr2_9) rfl (by kernel_rfl) (by kernel_rfl) (by kernel_rfl) (fun _ _ _ h => h) (Or.inl ⟨by rfl, ?hyr2_9⟩) (by assumption) ?restr2_9
                case hyr2_9 => (intro w hSw; (try dsimp only at hSw); go_simp <;> with_reducible rfl)
                (try simp only [Act.put, List.setIfInBounds_toArray, List.set_cons_zero, List.set_cons_succ])
                refine wpAnyH_take (i := 10) (oi := { dst := some 75, op := _, type := _, pos := _, after := _, guard := some (2, false) }) (v := ?vr2_10) rfl (by kernel_rfl) (by kernel_rfl) (by kernel_rfl) (fun _ _ _ h => h) (Or.inl ⟨by rfl, ?hyr2_10⟩) (by assumption) ?restr2_10
                case hyr2_10 => (intro w hSw; (try dsimp only at hSw); go_simp <;> with_reducible rfl)
                (try simp only [Act.put, List.setIfInBounds_toArray, List.set_cons_zero, List.set_cons_succ])
                refine wpAnyH_take (i := 11) (oi := { dst := some 76, op := _, type := _, pos := _, after := _, guard := some (2, false) }) (v := ?vr2_11) rfl (by kernel_rfl) (by kernel_rfl) (by kernel_rfl) (fun _ _ _ h => h) (Or.inl ⟨by rfl, ?hyr2_11⟩) (by assumption) ?restr2_11
                case hyr2_11 => (intro w hSw; (try dsimp only at hSw); go_simp <;> with_reducible rfl)
                (try simp only [Act.put, List.setIfInBounds_toArray, List.set_cons_zero, List.set_cons_succ])
                refine wpAnyH_take (i := 12) (oi := { dst := some 77, op := _, type := _, pos := _, after := _, guard := some (2, false) }) (v := ?vr2_12) rfl (by kernel_rfl) (by kernel_rfl) (by kernel_rfl) (fun _ _ _ h => h) (Or.inl ⟨by rfl, ?hyr2_12⟩) (by assumption) ?restr2_12
                case hyr2_12 => (intro w hSw; (try dsimp only at hSw); go_simp <;> with_reducible rfl)
                (try simp only [Act.put, List.setIfInBounds_toArray, List.set_cons_zero, List.set_cons_succ])
                refine wpAnyH_ready (rs := [13]) (by kernel_rfl) (by simp) ?_
                refine AllReadyH.cons (o := { dst := some 78, op := _, type := _, pos := _, after := _, guard := some (2, false) }) rfl (fun K hK => ?_) AllReadyH.nil
                go_simp
                (refine (hSm.out _ (hez.out.next bc)).mono ?_; rintro e w7 ⟨rfl, bb⟩; replace bc := below_next bc bb; clear bb)
                (try go_wp2_with fail)
                refine hK.out _ _ ((hkeep.out _ bc)) (fun hHeld => ?_)
                clear hK K
                (try simp only [Act.put, List.setIfInBounds_toArray, List.set_cons_zero, List.set_cons_succ])
                refine wpAnyH_take (i := 14) (oi := { dst := some 79, op := _, type := _, pos := _, after := _, guard := some (2, false) }) (v := ?vr2_13) rfl (by kernel_rfl) (by kernel_rfl) (by kernel_rfl) (fun _ _ _ h => h) (Or.inl ⟨by rfl, ?hyr2_13⟩) (by assumption) ?restr2_13
                case hyr2_13 => (intro w hSw; (try dsimp only at hSw); go_simp <;> with_reducible rfl)
                (try simp only [Act.put, List.setIfInBounds_toArray, List.set_cons_zero, List.set_cons_succ])
                refine wpAnyH_take (i := 15) (oi := { dst := some 80, op := _, type := _, pos := _, after := _, guard := none }) (v := ?vr2_14) rfl (by kernel_rfl) (by kernel_rfl) (by kernel_rfl) (fun _ _ _ h => h) (Or.inl ⟨by rfl, ?hyr2_14⟩) (by assumption) ?restr2_14
                case hyr2_14 => (intro w hSw; (try dsimp only at hSw); go_simp <;> with_reducible rfl)
                (try simp only [Act.put, List.setIfInBounds_toArray, List.set_cons_zero, List.set_cons_succ])
                refine wpAnyH_take (i := 16) (oi := { dst := some 81, op := _, type := _, pos := _, after := _, guard := none }) (v := ?vr2_15) rfl (by kernel_rfl) (by kernel_rfl) (by kernel_rfl) (fun _ _ _ h => h) (Or.inl ⟨by rfl, ?hyr2_15⟩) (by assumption) ?restr2_15
                case hyr2_15 => (intro w hSw; (try dsimp only at hSw); go_simp <;> with_reducible rfl)
                (try simp only [Act.put, List.setIfInBounds_toArray, List.set_cons_zero, List.set_cons_succ])
                refine wpAnyH_take (i := 17) (oi := { dst := some 82, op := _, type := _, pos := _, after := _, guard := some (16, false) }) (v := ?vr2_16) rfl (by kernel_rfl) (by kernel_rfl) (by kernel_rfl) (fun _ _ _ h => h) (Or.inl ⟨by rfl, ?hyr2_16⟩) (by assumption) ?restr2_16
                case hyr2_16 => (intro w hSw; (try dsimp only at hSw); go_simp <;> with_reducible rfl)
                (try simp only [Act.put, List.setIfInBounds_toArray, List.set_cons_zero, List.set_cons_succ])
                refine wpAnyH_take (i := 18) (oi := { dst := some 83, op := _, type := _, pos := _, after := _, guard := some (16, false) }) (v := ?vr2_17) rfl (by kernel_rfl) (by kernel_rfl) (by kernel_rfl) (fun _ _ _ h => h) (Or.inl ⟨by rfl, ?hyr2_17⟩) (by assumption) ?restr2_17
                case hyr2_17 => (intro w hSw; (try dsimp only at hSw); go_simp <;> with_reducible rfl)
                (try simp only [Act.put, List.setIfInBounds_toArray, List.set_cons_zero, List.set_cons_succ])
                refine wpAnyH_take (i := 19) (oi := { dst := some 84, op := _, type := _, pos := _, after := _, guard := some (16, false) }) (v := ?vr2_18) rfl (by kernel_rfl) (by kernel_rfl) (by kernel_rfl) (fun _ _ _ h => h) (Or.inl ⟨by rfl, ?hyr2_18⟩) (by assumption) ?restr2_18
                case hyr2_18 => (intro w hSw; (try dsimp only at hSw); go_simp <;> with_reducible rfl)
                (try simp only [Act.put, List.setIfInBounds_toArray, List.set_cons_zero, List.set_cons_succ])
                refine wpAnyH_take (i := 20) (oi := { dst := some 85, op := _, type := _, pos := _, after := _, guard := some (19, true) }) (v := ?vr2_19) rfl (by kernel_rfl) (by kernel_rfl) (by kernel_rfl) (fun _ _ _ h => h) (Or.inl ⟨by rfl, ?hyr2_19⟩) (by assumption) ?restr2_19
                case hyr2_19 => (intro w hSw; (try dsimp only at hSw); go_simp <;> with_reducible rfl)
                (try simp only [Act.put, List.setIfInBounds_toArray, List.set_cons_zero, List.set_cons_succ])
                refine wpAnyH_take (i := 21) (oi := { dst := some 86, op := _, type := _, pos := _, after := _, guard := some (19, true) }) (v := ?vr2_20) rfl (by kernel_rfl) (by kernel_rfl) (by kernel_rfl) (fun _ _ _ h => h) (Or.inl ⟨by rfl, ?hyr2_20⟩) (by assumption) ?restr2_20
                case hyr2_20 => (intro w hSw; (try dsimp only at hSw); go_simp <;> with_reducible rfl)
                (try simp only [Act.put, List.setIfInBounds_toArray, List.set_cons_zero, List.set_cons_succ])
                refine wpAnyH_take (i := 22) (oi := { dst := some 87, op := _, type := _, pos := _, after := _, guard := some (19, true) }) (v := ?vr2_21) rfl (by kernel_rfl) (by kernel_rfl) (by kernel_rfl) (fun _ _ _ h => h) (Or.inl ⟨by rfl, ?hyr2_21⟩) (by assumption) ?restr2_21
                case hyr2_21 => (intro w hSw; (try dsimp only at hSw); go_simp <;> with_reducible rfl)
                (try simp only [Act.put, List.setIfInBounds_toArray, List.set_cons_zero, List.set_cons_succ])
                refine wpAnyH_take (i := 23) (oi := { dst := some 88, op := _, type := _, pos := _, after := _, guard := some (19, true) }) (v := ?vr2_22) rfl (by kernel_rfl) (by kernel_rfl) (by kernel_rfl) (fun _ _ _ h => h) (Or.inl ⟨by rfl, ?hyr2_22⟩) (by assumption) ?restr2_22
                case hyr2_22 => (intro w hSw; (try dsimp only at hSw); go_simp <;> with_reducible rfl)
                (try simp only [Act.put, List.setIfInBounds_toArray, List.set_cons_zero, List.set_cons_succ])
                refine wpAnyH_take (i := 24) (oi := { dst := some 89, op := _, type := _, pos := _, after := _, guard := some (19, true) }) (v := ?vr2_23) rfl (by kernel_rfl) (by kernel_rfl) (by kernel_rfl) (fun _ _ _ h => h) (Or.inl ⟨by rfl, ?hyr2_23⟩) (by assumption) ?restr2_23
                case hyr2_23 => (intro w hSw; (try dsimp only at hSw); go_simp <;> with_reducible rfl)
                (try simp only [Act.put, List.setIfInBounds_toArray, List.set_cons_zero, List.set_cons_succ])
                refine wpAnyH_take (i := 25) (oi := { dst := some 90, op := _, type := _, pos := _, after := _, guard := some (19, true) }) (v := ?vr2_24) rfl (by kernel_rfl) (by kernel_rfl) (by kernel_rfl) (fun _ _ _ h => h) (Or.inl ⟨by rfl, ?hyr2_24⟩) (by assumption) ?restr2_24
                case hyr2_24 => (intro w hSw; (try dsimp only at hSw); go_simp <;> with_reducible rfl)
                (try simp only [Act.put, List.setIfInBounds_toArray, List.set_cons_zero, List.set_cons_succ])
                refine wpAnyH_take (i := 26) (oi := { dst := some 91, op := _, type := _, pos := _, after := _, guard := some (19, true) }) (v := ?vr2_25) rfl (by kernel_rfl) (by kernel_rfl) (by kernel_rfl) (fun _ _ _ h => h) (Or.inl ⟨by rfl, ?hyr2_25⟩) (by assumption) ?restr2_25
                case hyr2_25 => (intro w hSw; (try dsimp only at hSw); go_simp <;> with_reducible rfl)
                (try simp only [Act.put, List.setIfInBounds_toArray, List.set_cons_zero, List.set_cons_succ])
                refine wpAnyH_take (i := 27) (oi := { dst := some 92, op := _, type := _, pos := _, after := _, guard := some (19, true) }) (v := ?vr2_26) rfl (by kernel_rfl) (by kernel_rfl) (by kernel_rfl) (fun _ _ _ h => h) (Or.inl ⟨by rfl, ?hyr2_26⟩) (by assumption) ?restr2_26
                case hyr2_26 => (intro w hSw; (try dsimp only at hSw); go_simp <;> with_reducible rfl)
                (try simp only [Act.put, List.setIfInBounds_toArray, List.set_cons_zero, List.set_cons_succ])
                refine wpAnyH_take (i := 28) (oi := { dst := some 93, op := _, type := _, pos := _, after := _, guard := some (19, true) }) (v := ?vr2_27) rfl (by kernel_rfl) (by kernel_rfl) (by kernel_rfl) (fun _ _ _ h => h) (Or.inl ⟨by rfl, ?hyr2_27⟩) (by assumption) ?restr2_27
                case hyr2_27 => (intro w hSw; (try dsimp only at hSw); go_simp <;> with_reducible rfl)
                (try simp only [Act.put, List.setIfInBounds_toArray, List.set_cons_zero, List.set_cons_succ])
                refine wpAnyH_take (i := 29) (oi := { dst := some 94, op := _, type := _, pos := _, after := _, guard := some (19, true) }) (v := ?vr2_28) rfl (by kernel_rfl) (by kernel_rfl) (by kernel_rfl) (fun _ _ _ h => h) (Or.inl ⟨by rfl, ?hyr2_28⟩) (by assumption) ?restr2_28
                case hyr2_28 => (intro w hSw; (try dsimp only at hSw); go_simp <;> with_reducible rfl)
                (try simp only [Act.put, List.setIfInBounds_toArray, List.set_cons_zero, List.set_cons_succ])
                refine wpAnyH_take (i := 30) (oi := { dst := some 95, op := _, type := _, pos := _, after := _, guard := some (19, true) }) (v := ?vr2_29) rfl (by kernel_rfl) (by kernel_rfl) (by kernel_rfl) (fun _ _ _ h => h) (Or.inl ⟨by rfl, ?hyr2_29⟩) (by assumption) ?restr2_29
                case hyr2_29 => (intro w hSw; (try dsimp only at hSw); go_simp <;> with_reducible rfl)
                (try simp only [Act.put, List.setIfInBounds_toArray, List.set_cons_zero, List.set_cons_succ])
                refine wpAnyH_take (i := 31) (oi := { dst := some 96, op := _, type := _, pos := _, after := _, guard := some (19, true) }) (v := ?vr2_30) rfl (by kernel_rfl) (by kernel_rfl) (by kernel_rfl) (fun _ _ _ h => h) (Or.inl ⟨by rfl, ?hyr2_30⟩) (by assumption) ?restr2_30
                case hyr2_30 => (intro w hSw; (try dsimp only at hSw); go_simp <;> with_reducible rfl)
                (try simp only [Act.put, List.setIfInBounds_toArray, List.set_cons_zero, List.set_cons_succ])
                refine wpAnyH_take (i := 32) (oi := { dst := some 97, op := _, type := _, pos := _, after := _, guard := some (16, false) }) (v := ?vr2_31) rfl (by kernel_rfl) (by kernel_rfl) (by kernel_rfl) (fun _ _ _ h => h) (Or.inl ⟨by rfl, ?hyr2_31⟩) (by assumption) ?restr2_31
                case hyr2_31 => (intro w hSw; (try dsimp only at hSw); go_simp <;> with_reducible rfl)
                (try simp only [Act.put, List.setIfInBounds_toArray, List.set_cons_zero, List.set_cons_succ])
                refine wpAnyH_take (i := 33) (oi := { dst := some 98, op := _, type := _, pos := _, after := _, guard := none }) (v := ?vr2_32) rfl (by kernel_rfl) (by kernel_rfl) (by kernel_rfl) (fun _ _ _ h => h) (Or.inl ⟨by rfl, ?hyr2_32⟩) (by assumption) ?restr2_32
                case hyr2_32 => (intro w hSw; (try dsimp only at hSw); go_simp <;> with_reducible rfl)
                (try simp only [Act.put, List.setIfInBounds_toArray, List.set_cons_zero, List.set_cons_succ])
                refine wpAnyH_done (by kernel_rfl) ?_ _
                replace hOz := Lib.hid (hOz.out.next bc)
                replace hBzz := Lib.hid (hBzz.out.trans (bc.mono hszz.out))
                replace hszz := Lib.hid (Nat.le_trans hszz.out bc.size)
                have c1 := (hkeep.out _ bc).2.1
                clear hkeep hk0 bc hSm hez hHeld
                go_wp2_with (at_builtin; refine wp_append_tx rfl _ _ rfl w4.heap.size u6 M xd rfl rfl hOz.out hszz.out hlenM ?_)
                intro v' w8 hO8 hB8
                have hB9 := Lib.hid (hB8 _ hBzz.out)
                rw [← hnx.out] at hO8
                replace hO8 := Lib.hid hO8
                clear hOz hBzz hB8 hlenM c1
                go_wp2
                exact ⟨⟨q, by omega, by rw [show ((q : Int) - 1) = (p : Nat) by have := hp.out; omega], hO8, hB9⟩, by have := hp.out; simp [intOf]; omega⟩
    · have q0 : ((mk l).2 != 0) = true := by simpa using hc
      have q1 : (mk l).1 = empty := mk_bad hc
      rw [q1] at hM
      generalize (mk l).2 = m2 at *
      go_wp2_with fail
      refine hM.out.mono ?_
      rintro e w3 ⟨rfl, bb⟩
      replace hB := Lib.hid (below_next hB.out bb)
      clear bb
      go_wp2
      go_ret
      exact ⟨rfl, hB.out⟩

theorem own : ownKnob Tryd.prog.godebug = none := by kernel_rfl
theorem laidOut : laidOutB Tryd.prog = true := by kernel_rfl
set_option maxRecDepth 100000 in
theorem lifted (os : Os) (started : os.Started) (H : Type) (enc : TypeId × Value → H) :
    ReturnsInHanded {} Tryd.checked os 6 .any (fun w args => (Rows.packBackSpec.pre enc Tryd.prog Tryd.f6 [] false w args ∧ laidMetH Tryd.prog Rows.packBackRow.laid w) ∧ sizedMet enc Tryd.prog Tryd.f6 (OpenSpec.ofChange Rows.packBackSpec) false w args) (Rows.packBackSpec.post enc Tryd.prog Tryd.f6 false true false false) := by
  refine returnsInHanded_of_change_and (C := Tryd.checked) (X := (fun w _ => laidMetH Tryd.prog Rows.packBackRow.laid w)) (fun _ _ _ hh h => h.of_heap hh) own started (by kernel_rfl) Tryd.func6
    (ChangeSpec.witness_shaped (enc := enc) (C := Tryd.checked) (os := os) (X := (fun w _ => laidMetH Tryd.prog Rows.packBackRow.laid w)) false (World.laidAll Tryd.prog os Rows.packBackRow.laid) #[.slice none 0 0] 8 (World.laidAll_os _ _ _) (World.shaped_of_ZipB (by kernel_rfl) (by kernel_rfl)) (by kernel_rfl) (by kernel_rfl) (by kernel_rfl)
      (by rw [MakeChecks.laidMetH_plain _ _ _ (by kernel_rfl)]; exact laidMet_laidAll _ (by kernel_rfl) (by kernel_rfl))) ?_
  intro W base args ds gs before hval0 hW hcnd hsz0 hL _
  have hval : ∀ (j : Nat) t v, Tryd.f6.params[j]? = some t → args[j]? = some v → Value.okWide Tryd.prog W .any base t v := hval0
  have hsz : (DataW.weightsEach Tryd.prog (Tryd.f6.params.toList ++ Rows.packBackSpec.plain.varTypes Tryd.prog) (ds ++ gs)).all (· ≤ reachBytes) = true := hsz0
  have hW' := hW
  obtain ⟨p, q, hA0, hV, rfl, hfz, hnd⟩ := hW
  have hA : DataW.TrodAll enc Tryd.prog W 0 (fun _ => true) true Tryd.f6.params.toList args.toList ds p := hA0
  rw [Tryd.params6] at hA hval hsz
  obtain ⟨v0, vs0, d0, ds0, p0, q0, hargs, rfl, rfl, h0, r0⟩ := trodAll_cons hA
  obtain ⟨rfl, rfl, rfl⟩ := trodAll_nil r0
  obtain rfl : args = #[v0] := by cases args; simp_all
  obtain ⟨rfl, rfl⟩ := trodVars_none hV
  have k0 := h0
  have lt0 : ∀ x ∈ p0, x.block < W.heap.size := by obtain ⟨m, hm⟩ := k0; exact DataW.trod_lt m _ _ _ hm
  have ok0 := hval 0 22 v0 rfl rfl
  clear hA0 hval0 hsz0
  obtain ⟨a0, len, cap, b, off, T, rfl, hT, hl⟩ := Oct.open_texts Tryd.underlying22 Tryd.underlying9 (by kernel_rfl) (of_decide_eq_true (by kernel_rfl)) ok0 h0 (Oct.arg_weights hsz (j := 0) (t := 22) rfl rfl)
  have hW2 := walk a0 cap b off (txs len T) W (txs_at hT) (by rw [txs_length]; exact hl) (txs_size hT) (ev_of_laid hL)
  rw [txs_length] at hW2
  refine hW2.mono fun e W' ⟨he, bel⟩ => ?_
  subst he
  exact ⟨_, rfl, _, _, _, [], _, [], hW', trodAll_mk1 (shut_bool Tryd.underlying4 _), (trodAll_cons_mk (Below.trod laidOut (by kernel_rfl) (of_decide_eq_true (by kernel_rfl)) k0 bel lt0) trodAll_mk0), rfl, bel.frame _, fun h => by cases h⟩

/-- the row -/
theorem row_proved : Rows.PackBackSaid :=
  OpenClaim.holds_of_wide 6 Tryd.f6 rfl rfl rfl rfl rfl rfl rfl ⟨rfl, rfl, rfl, rfl, rfl⟩ rfl rfl rfl rfl rfl (by kernel_rfl) Tryd.func6 (by kernel_rfl)
    (of_decide_eq_true (by kernel_rfl)) (by unfold Func.isWrapper; first | (rw [if_pos (by decide +kernel)]; kernel_rfl) | (rw [if_neg (by decide +kernel)]; exact ⟨rfl, rfl⟩))
    (fun os started H enc _ => lifted os started H enc)
/-- the statement: the tied card -/
theorem proved : Rows.PackBackCardSaid :=
  Claim7.holds_tied_plain_at .later [] Rows.packBackCard.laidKinds true Rows.packBackCard.stood.harness Rows.packBackCard.stood.looks row_proved (fun _ h => by cases h) (by kernel_rfl) (fun _ h => by cases h) packBack_row_tie rfl ⟨rfl, rfl⟩ (by kernel_rfl) rfl
    (fun f fn hf hfn => by
      obtain rfl : f = 6 := Option.some.inj ((show Tryd.prog.funcNamed Rows.packBackRow.func = some 6 by kernel_rfl).symm.trans hf) |>.symm
      obtain rfl : fn = Tryd.f6 := (Option.some.inj (Tryd.func6.symm.trans hfn)).symm
      exact ⟨by kernel_rfl, fun j t ht => by
        rw [Tryd.params6] at ht
        have hm : t ∈ [22] := by simpa using Array.mem_of_getElem? ht
        have hall : ([22].all fun u => !Tryd.prog.wantsStandIn u) = true := by kernel_rfl
        exact (show Tryd.prog.wantsStandIn t = false by simpa using List.all_eq_true.1 hall t hm)⟩)
    (by kernel_rfl)
end Go.Proofs.YtliojhhiadfmiaaDoor.packBack
