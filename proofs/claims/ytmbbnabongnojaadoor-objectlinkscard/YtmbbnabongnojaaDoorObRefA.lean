/-
  The reference's Good answers as the plain function says; old memory stays. Conditions: lists of the form's reach.
-/
import Derived.Test.YtmbbnabongnojaaDoorRows
import Derived.Test.YtmbbnabongnojaaDoorObPlain
import Derived.Test.YtmbbnabongnojaaDoorObGood
import Derived.Test.YtmbbnabongnojaaDoorObWrite
import Derived.Test.YtmbbnabongnojaaDoorObOwn
import Derived.Test.YtmbbnabongnojaaDoorObDec
import Derived.Test.YtmbbnabongnojaaDoorObHave
import Derived.Test.YtmbbnabongnojaaDoorObSame
import Derived.Test.YtmbbnabongnojaaDoorPaRefA
import Derived.Test.YtmbbnabongnojaaDoorOctKit
import Derived.WalkKit
import Derived.WalkSpells
import Derived.WalkLawsBesides
import Derived.ProofKit
import Derived.OpenShut
import Derived.Laws.BytesArg
import Derived.Laws.Externs
import Derived.Deep.QuietTactic
import Derived.BigQuiet
import Derived.BigRegion
import Derived.Lib.Hide
import Derived.IntWalk
import Derived.Deep.LoopGhost
namespace Go.Proofs.YtmbbnabongnojaaDoor.Ob
open Go Go.RowKit
open Oct (empty)

/-- the name ahead of place k -/
def pn (L : List Ent) (k : Nat) : ByteArray := if k = 0 then empty else (L.getD (k - 1) default).name
def pp (L : List ByteArray) (k : Nat) : ByteArray := if k = 0 then empty else L.getD (k - 1) empty
theorem pn_next {L : List Ent} {k : Nat} (h : k < L.length) : pn L (k + 1) = L[k].name := by
  unfold pn
  rw [if_neg (by omega), Nat.add_sub_cancel, List.getD_eq_getElem?_getD, List.getElem?_eq_getElem h]; rfl
theorem pp_next {L : List ByteArray} {k : Nat} (h : k < L.length) : pp L (k + 1) = L[k] := by
  unfold pp
  rw [if_neg (by omega), Nat.add_sub_cancel, List.getD_eq_getElem?_getD, List.getElem?_eq_getElem h]; rfl
theorem up_empty {n : ByteArray} (h : n.size ≠ 0) : up empty n = true := by
  unfold up
  have := Oct.size_toList n
  cases hl : n.data.toList with
  | nil => rw [hl] at this; simp at this; omega
  | cons a l => rfl
theorem drewN_below (w : World) (n : Nat) : Below w.heap.size w (w.drewN n) := ⟨rfl, rfl, rfl, Nat.le_refl _, fun _ _ => rfl⟩
theorem size_ne (s : ByteArray) (n : Nat) : ((s.size : Int) != (n : Int)) = !decide (s.size = n) := by
  show (!((s.size : Int) == (n : Int))) = _
  rw [size_beq]
set_option maxRecDepth 100000 in
set_option maxHeartbeats 4000000 in
theorem RGood_calls (x : Obj) (ea : Option Addr) (ec : Nat) (pa : Option Addr) (pc : Nat) (w : World) (hO : ObAt w x ea ec pa pc) (hl1 : x.ents.length ≤ maxLen) (hl2 : x.pars.length ≤ maxLen) :
    Calls Tryd.prog 15 #[val x ea ec pa pc] w fun r w' => r = .returned (.bool (good x)) ∧ Below w.heap.size w w' := by
  have hX := Lib.hid (Have.new hO)
  have hB := Lib.hid (b_alloc w (.cells (cellsOf x ea ec pa pc) 25))
  replace hl1 : x.ents.length ≤ 9223372036854775807 := by unfold maxLen at hl1; omega
  replace hl2 : x.pars.length ≤ 9223372036854775807 := by unfold maxLen at hl2; omega
  have hg : good x = if x.kind = 1 then decide (x.data.size ≤ 65536) else if x.kind = 2 then decide (x.ents.length ≤ 256) && goodEnts empty x.ents else if x.kind = 3 then goodCommit x else false := rfl
  rw [hg]
  clear hg
  by_cases k1 : x.kind = 1
  · have d1 : (x.kind == 1) = true := by simpa using k1
    rw [if_pos k1]
    replace k1 := Lib.hid k1
    go_enter Tryd.func15, Tryd.ntmps15
    go_wp2
    go_ret
    refine ⟨ret_b ?_, hB.out⟩
    rw [Bool.eq_iff_iff]; simp; omega
  · have d1 : (x.kind == 1) = false := by simpa using k1
    rw [if_neg k1]
    by_cases k2 : x.kind = 2
    · have d2 : (x.kind == 2) = true := by simpa using k2
      rw [if_pos k2]
      replace k1 := Lib.hid k1
      replace k2 := Lib.hid k2
      go_enter Tryd.func15, Tryd.ntmps15
      go_wp2
      generalize w.alloc (.cells (cellsOf x ea ec pa pc) 25) = w1 at *
      go_loopw [3, 4] (fun i _ wr => ∃ k : Nat, k ≤ x.ents.length ∧ i = .int .i64 k ∧ Hid (goodEnts empty x.ents = goodEnts (pn x.ents k) (x.ents.drop k)) ∧ Have w.heap.size wr x ea ec pa pc ∧ Below w.heap.size w wr) (fun i _ _ => x.ents.length - (intOf i).toNat)
      case atStart => exact ⟨0, by omega, rfl, Lib.hid (by rw [List.drop_zero]; rfl), hX.out, hB.out⟩
      case round =>
        clear hX hB
        obtain ⟨k, hk, rfl, hG, hX, hB⟩ := hrel
        obtain ⟨eb, eo, hE⟩ := hX.at_.ents
        have cx2 := hX.cells.2.2.1
        by_cases hlt : k < x.ents.length
        · have i1 : (k : Int) < x.ents.length := by omega
          have i0 : 0 ≤ (k : Int) := by omega
          obtain rfl := hE.addr (by omega)
          have c0 := hE.name k _ (List.getElem?_eq_getElem hlt)
          have c1 := hE.kind k _ (List.getElem?_eq_getElem hlt)
          have c2 := hE.id k _ (List.getElem?_eq_getElem hlt)
          have hd : x.ents.drop k = x.ents[k] :: x.ents.drop (k + 1) := List.drop_eq_getElem_cons hlt
          have hpn := pn_next hlt
          replace hG := hG.out
          rw [hd, goodEnts] at hG
          -- what stands ahead
          have hprev : k ≠ 0 → ∃ p, pn x.ents k = p ∧ wr.cell? ⟨eb, eo + (k - 1) * 3, none⟩ = some (.string p) := fun h0 => by
            refine ⟨_, rfl, ?_⟩
            have h1 : k - 1 < x.ents.length := by omega
            have := hE.name (k - 1) _ (List.getElem?_eq_getElem h1)
            unfold pn
            rw [if_neg h0, List.getD_eq_getElem?_getD, List.getElem?_eq_getElem h1]
            exact this
          generalize x.ents[k] = e at *
          obtain ⟨n, kd, i⟩ := e
          dsimp only at c0 c1 c2 hpn hG
          have hX2 := Lib.hid (hX.next (b_alloc wr (.cells #[.string n, .int .i64 kd, .string i] 47)))
          have hB2 := Lib.hid (below_next hB (b_alloc wr (.cells #[.string n, .int .i64 kd, .string i] 47)))
          have hx := Lib.hid (Blk.new wr #[.string n, .int .i64 kd, .string i] 47)
          have hpr2 : Hid (k ≠ 0 → ∃ p, pn x.ents k = p ∧ (wr.alloc (.cells #[.string n, .int .i64 kd, .string i] 47)).cell? ⟨eb, eo + (k - 1) * 3, none⟩ = some (.string p)) := Lib.hid fun h0 => by
            obtain ⟨p, h1, h2⟩ := hprev h0
            exact ⟨p, h1, Oct.cell_alloc h2⟩
          have hN := Lib.hid fun w => Pa.RGood_calls n w
          have hge : goodEnt ⟨n, kd, i⟩ = ((decide (kd = 1) || decide (kd = 2)) && Pa.isName n.data.toList && decide (i.size = 32)) := rfl
          rw [hge] at hG
          clear hge hprev hd
          have hn0 : Hid (Pa.isName n.data.toList = true → n.size ≠ 0) := Lib.hid fun h e => Pa.name_ne h (List.length_eq_zero_iff.1 (by rw [Oct.size_toList]; exact e))
          replace hX := Lib.hid hX
          replace hB := Lib.hid hB
          replace hE := Lib.hid hE
          replace hG := Lib.hid hG
          replace hpn := Lib.hid hpn
          go_upto_region 9 with (fail)
          generalize wr.alloc (.cells #[.string n, .int .i64 kd, .string i] 47) = w2 at *
          clear c0 c1 c2 cx2 hX hB hE
          have c0 := hx.out.cell 0 (v := .string n) rfl
          have c1 := hx.out.cell 1 (v := .int .i64 kd) rfl
          have c2 := hx.out.cell 2 (v := .string i) rfl
          have cx2 := hX2.out.cells.2.2.1
          clear hx
          generalize hin : Pa.isName n.data.toList = y at *
          cases y with
          | false =>
            replace hG : Hid (goodEnts empty x.ents = false) := Lib.hid (by rw [hG.out]; simp)
            go_quiet ((go_at_call 36; exact Calls.quiet_of ((hN.out _).mono fun _ _ ⟨h, g⟩ => ⟨h, 0, g.symm⟩)))
            go_wp2
            go_ret
            exact ⟨by rw [hG.out, Bool.and_false]; rfl, below_next hB2.out (drewN_below _ _)⟩
          | true =>
            have hn1 := hn0.out rfl
            clear hn0
            have hk12 : (kd != 1) = false ∨ ((kd != 1) = true ∧ (kd != 2) = false) ∨ ((kd != 1) = true ∧ (kd != 2) = true) := by
              cases h1 : (kd != 1) <;> cases h2 : (kd != 2) <;> simp
            have hko : Hid ((decide (kd = 1) || decide (kd = 2)) = !((kd != 1) && (kd != 2))) := Lib.hid (by
              rw [Bool.eq_iff_iff]
              simp only [Bool.or_eq_true, decide_eq_true_eq, Bool.not_eq_true', Bool.and_eq_false_iff, bne_eq_false_iff_eq])
            rw [hko.out] at hG
            clear hko
            by_cases hi : i.size = 32
            · have e3 : ((i.size : Int) != 32) = false := by have := size_ne i 32; rw [decide_eq_true hi] at this; exact this
              rw [decide_eq_true hi] at hG
              replace hi := Lib.hid hi
              rcases hk12 with e1 | ⟨e1, e2⟩ | ⟨e1, e2⟩
              all_goals (first | rw [e1, e2] at hG | rw [e1] at hG)
              all_goals simp only [Bool.false_and, Bool.and_false, Bool.not_false, Bool.true_and, Bool.and_true, Bool.not_true] at hG
              rotate_left 2
              go_quiet ((go_at_call 36; exact Calls.quiet_of ((hN.out _).mono fun _ _ ⟨h, g⟩ => ⟨h, 0, g.symm⟩)))
              go_wp2
              go_ret
              exact ⟨by rw [hG.out, Bool.and_false]; rfl, below_next hB2.out (drewN_below _ _)⟩
              all_goals
                by_cases h0 : k = 0
                · subst h0
                  replace hG : Hid (goodEnts empty x.ents = goodEnts n (x.ents.drop 1)) := Lib.hid (by rw [hG.out, show pn x.ents 0 = empty from rfl, up_empty hn1]; rfl)
                  go_quiet ((go_at_call 36; exact Calls.quiet_of ((hN.out _).mono fun _ _ ⟨h, g⟩ => ⟨h, 0, g.symm⟩)))
                  go_wp2
                  exact ⟨⟨1, by omega, by first | rfl | go_num, Lib.hid (by rw [hpn.out]; exact hG.out), hX2.out.next (drewN_below _ _), below_next hB2.out (drewN_below _ _)⟩, by simp [intOf]; omega⟩
                · obtain ⟨j, rfl⟩ : ∃ j, k = j + 1 := ⟨k - 1, by omega⟩
                  have j0 : (0 : Int) < ((j + 1 : Nat) : Int) := by omega
                  have j0' : (0 : Int) < (j : Int) + 1 := by omega
                  have j2 : (j : Int) < x.ents.length := by omega
                  have j3 : (0 : Int) ≤ (j : Int) := by omega
                  obtain ⟨p, hp, cp⟩ := hpr2.out h0
                  rw [Nat.add_sub_cancel] at cp
                  rw [hp] at hG
                  generalize hu : up p n = u at *
                  cases u with
                  | true =>
                    obtain ⟨u1, u2, u3⟩ := up_yes hu
                    have u4 : Op.bytesLess p.toList n.toList = true := by rw [ByteArray.toList_eq, ByteArray.toList_eq]; exact hu
                    have u5 : (p.toList == n.toList) = false := by simpa using fun e => u3 e.symm
                    replace hG : Hid (goodEnts empty x.ents = goodEnts n (x.ents.drop (j + 1 + 1))) := Lib.hid (by rw [hG.out]; rfl)
                    replace hu := Lib.hid hu
                    go_quiet ((go_at_call 36; exact Calls.quiet_of ((hN.out _).mono fun _ _ ⟨h, g⟩ => ⟨h, 0, g.symm⟩)))
                    go_wp2
                    exact ⟨⟨j + 1 + 1, by omega, by go_num, Lib.hid (by rw [hpn.out]; exact hG.out), hX2.out.next (drewN_below _ _), below_next hB2.out (drewN_below _ _)⟩, by simp [intOf]; omega⟩
                  | false =>
                    have u4 : Op.bytesLess p.toList n.toList = false := by rw [ByteArray.toList_eq, ByteArray.toList_eq]; exact hu
                    replace hG : Hid (goodEnts empty x.ents = false) := Lib.hid (by rw [hG.out]; rfl)
                    rcases up_no hu with u1 | u1
                    · replace hu := Lib.hid hu
                      go_quiet ((go_at_call 36; exact Calls.quiet_of ((hN.out _).mono fun _ _ ⟨h, g⟩ => ⟨h, 0, g.symm⟩)))
                      go_wp2
                      go_ret
                      exact ⟨by rw [hG.out, Bool.and_false]; rfl, below_next hB2.out (drewN_below _ _)⟩
                    · subst u1
                      replace hu := Lib.hid hu
                      go_quiet ((go_at_call 36; exact Calls.quiet_of ((hN.out _).mono fun _ _ ⟨h, g⟩ => ⟨h, 0, g.symm⟩)))
                      go_wp2
                      go_ret
                      exact ⟨by rw [hG.out, Bool.and_false]; rfl, below_next hB2.out (drewN_below _ _)⟩
            · have e3 : ((i.size : Int) != 32) = true := by have := size_ne i 32; rw [decide_eq_false hi] at this; exact this
              rw [decide_eq_false hi] at hG
              replace hi := Lib.hid hi
              replace hG : Hid (goodEnts empty x.ents = false) := Lib.hid (by rw [hG.out]; simp)
              rcases hk12 with e1 | ⟨e1, e2⟩ | ⟨e1, e2⟩
              all_goals
                go_quiet ((go_at_call 36; exact Calls.quiet_of ((hN.out _).mono fun _ _ ⟨h, g⟩ => ⟨h, 0, g.symm⟩)))
                go_wp2
                go_ret
                exact ⟨by rw [hG.out, Bool.and_false]; rfl, below_next hB2.out (drewN_below _ _)⟩
        · have d3 : decide ((k : Int) < x.ents.length) = false := decide_eq_false (by omega)
          have d4 : (x.ents.length : Int) ≤ k := by omega
          obtain rfl : k = x.ents.length := by omega
          replace hG : Hid (goodEnts empty x.ents = true) := Lib.hid (by rw [hG.out, List.drop_length, goodEnts])
          replace hB := Lib.hid hB
          replace hE := Lib.hid hE
          replace hX := Lib.hid hX
          go_wp2
          go_ret
          refine ⟨ret_b ?_, hB.out⟩
          rw [hG.out, Bool.and_true, Bool.eq_iff_iff]; simp; omega
    · have d2 : (x.kind == 2) = false := by simpa using k2
      rw [if_neg k2]
      by_cases k3 : x.kind = 3
      · have d3 : (x.kind == 3) = true := by simpa using k3
        rw [if_pos k3]
        have hgc : goodCommit x = (goodPars empty x.pars && (decide (x.tree.size = 32) && (decide (x.pars.length ≤ 8) && (decide (0 ≤ x.height) && (decide (x.height ≤ 1073741824) && ((decide (x.height = 0) == decide (x.pars.length = 0)) && decide (x.note.size ≤ 1000))))))) := by
          unfold goodCommit
          rw [Bool.eq_iff_iff]
          simp only [Bool.and_eq_true, decide_eq_true_eq, beq_iff_eq, decide_eq_decide]
          constructor
          · rintro ⟨⟨⟨⟨h1, h2, h3⟩, h4, h5⟩, h6⟩, h7⟩; exact ⟨h3, h1, h2, h4, h5, h6.symm, h7⟩
          · rintro ⟨h3, h1, h2, h4, h5, h6, h7⟩; exact ⟨⟨⟨⟨h1, h2, h3⟩, h4, h5⟩, h6.symm⟩, h7⟩
        rw [hgc]
        clear hgc
        replace k1 := Lib.hid k1
        replace k2 := Lib.hid k2
        replace k3 := Lib.hid k3
        go_enter Tryd.func15, Tryd.ntmps15
        go_wp2
        generalize w.alloc (.cells (cellsOf x ea ec pa pc) 25) = w1 at *
        go_loopw [5] (fun i wr => ∃ k : Nat, k ≤ x.pars.length ∧ i = .int .i64 k ∧ Hid (goodPars empty x.pars = goodPars (pp x.pars k) (x.pars.drop k)) ∧ Have w.heap.size wr x ea ec pa pc ∧ Below w.heap.size w wr) (fun i _ => x.pars.length - (intOf i).toNat)
        case atStart => exact ⟨0, by omega, rfl, Lib.hid (by rw [List.drop_zero]; rfl), hX.out, hB.out⟩
        case round =>
          clear hX hB
          obtain ⟨k, hk, rfl, hG, hX, hB⟩ := hrel
          obtain ⟨eb, eo, hE⟩ := hX.at_.pars
          have cx4 := hX.cells.2.2.2.2.1
          by_cases hlt : k < x.pars.length
          · have i1 : (k : Int) < x.pars.length := by omega
            have i0 : 0 ≤ (k : Int) := by omega
            obtain rfl := hE.addr (by omega)
            have c0 := hE.cell k _ (List.getElem?_eq_getElem hlt)
            have hd : x.pars.drop k = x.pars[k] :: x.pars.drop (k + 1) := List.drop_eq_getElem_cons hlt
            have hpn := pp_next hlt
            replace hG := hG.out
            rw [hd, goodPars] at hG
            have hprev : k ≠ 0 → ∃ p, pp x.pars k = p ∧ wr.cell? ⟨eb, eo + (k - 1), none⟩ = some (.string p) := fun h0 => by
              refine ⟨_, rfl, ?_⟩
              have h1 : k - 1 < x.pars.length := by omega
              have := hE.cell (k - 1) _ (List.getElem?_eq_getElem h1)
              unfold pp
              rw [if_neg h0, List.getD_eq_getElem?_getD, List.getElem?_eq_getElem h1]
              exact this
            generalize x.pars[k] = n at *
            replace hX := Lib.hid hX
            replace hB := Lib.hid hB
            replace hE := Lib.hid hE
            replace hG := Lib.hid hG
            replace hpn := Lib.hid hpn
            replace hprev := Lib.hid hprev
            clear hd
            by_cases hi : n.size = 32
            · have e3 : ((n.size : Int) != 32) = false := by have := size_ne n 32; rw [decide_eq_true hi] at this; exact this
              have hn1 : n.size ≠ 0 := by omega
              rw [decide_eq_true hi, Bool.and_true] at hG
              replace hi := Lib.hid hi
              by_cases h0 : k = 0
              · subst h0
                rw [Nat.add_zero] at c0
                replace hG : Hid (goodPars empty x.pars = goodPars n (x.pars.drop 1)) := Lib.hid (by rw [hG.out, show pp x.pars 0 = empty from rfl, up_empty hn1]; rfl)
                go_wp2
                go_quiet (fail)
                go_wp2
                exact ⟨⟨1, by omega, by first | rfl | go_num, Lib.hid (by rw [hpn.out]; exact hG.out), hX.out.next (drewN_below _ _), below_next hB.out (drewN_below _ _)⟩, by simp [intOf]; omega⟩
              · obtain ⟨j, rfl⟩ : ∃ j, k = j + 1 := ⟨k - 1, by omega⟩
                have j0 : (0 : Int) < ((j + 1 : Nat) : Int) := by omega
                have j0' : (0 : Int) < (j : Int) + 1 := by omega
                have j2 : (j : Int) < x.pars.length := by omega
                have j3 : (0 : Int) ≤ (j : Int) := by omega
                obtain ⟨p, hp, cp⟩ := hprev.out h0
                rw [Nat.add_sub_cancel] at cp
                rw [hp] at hG
                generalize hu : up p n = u at *
                cases u with
                | true =>
                  obtain ⟨u1, u2, u3⟩ := up_yes hu
                  have u4 : Op.bytesLess p.toList n.toList = true := by rw [ByteArray.toList_eq, ByteArray.toList_eq]; exact hu
                  have u5 : (p.toList == n.toList) = false := by simpa using fun e => u3 e.symm
                  replace hG : Hid (goodPars empty x.pars = goodPars n (x.pars.drop (j + 1 + 1))) := Lib.hid (by rw [hG.out]; rfl)
                  replace hu := Lib.hid hu
                  go_wp2
                  go_quiet (fail)
                  go_wp2
                  exact ⟨⟨j + 1 + 1, by omega, by go_num, Lib.hid (by rw [hpn.out]; exact hG.out), hX.out.next (drewN_below _ _), below_next hB.out (drewN_below _ _)⟩, by simp [intOf]; omega⟩
                | false =>
                  have u4 : Op.bytesLess p.toList n.toList = false := by rw [ByteArray.toList_eq, ByteArray.toList_eq]; exact hu
                  replace hG : Hid (goodPars empty x.pars = false) := Lib.hid (by rw [hG.out]; rfl)
                  rcases up_no hu with u1 | u1
                  · replace hu := Lib.hid hu
                    go_wp2
                    go_quiet (fail)
                    go_wp2
                    go_ret
                    exact ⟨by rw [hG.out]; rfl, below_next hB.out (drewN_below _ _)⟩
                  · subst u1
                    replace hu := Lib.hid hu
                    go_wp2
                    go_quiet (fail)
                    go_wp2
                    go_ret
                    exact ⟨by rw [hG.out]; rfl, below_next hB.out (drewN_below _ _)⟩
            · have e3 : ((n.size : Int) != 32) = true := by have := size_ne n 32; rw [decide_eq_false hi] at this; exact this
              rw [decide_eq_false hi] at hG
              replace hi := Lib.hid hi
              replace hG : Hid (goodPars empty x.pars = false) := Lib.hid (by rw [hG.out]; simp)
              go_wp2
              go_quiet (fail)
              go_wp2
              go_ret
              exact ⟨by rw [hG.out]; rfl, below_next hB.out (drewN_below _ _)⟩
          · have d5 : decide ((k : Int) < x.pars.length) = false := decide_eq_false (by omega)
            have d4 : (x.pars.length : Int) ≤ k := by omega
            obtain rfl : k = x.pars.length := by omega
            replace hG : Hid (goodPars empty x.pars = true) := Lib.hid (by rw [hG.out, List.drop_length, goodPars])
            obtain ⟨cy0, cy1, cy2, cy3, cy4, cy5, cy6⟩ := hX.cells
            replace hB := Lib.hid hB
            replace hE := Lib.hid hE
            replace hX := Lib.hid hX
            have hsb := bool_same x.pars.length x.height
            by_cases t1 : x.tree.size = 32
            · have q1 : ((x.tree.size : Int) == 32) = true := by have := size_beq x.tree 32; rw [decide_eq_true t1] at this; exact this
              have r1 := decide_eq_true t1
              replace t1 := Lib.hid t1
              by_cases t2 : x.pars.length ≤ 8
              · have q2 : (x.pars.length : Int) ≤ 8 := by omega
                have r2 := decide_eq_true t2
                by_cases t3 : 0 ≤ x.height
                · have r3 := decide_eq_true t3
                  by_cases t4 : x.height ≤ 1073741824
                  · have r4 := decide_eq_true t4
                    have q5 : ((x.height == 0) == ((x.pars.length : Int) == 0)) = (decide (x.height = 0) == decide (x.pars.length = 0)) := by
                      have h1 : ((x.pars.length : Int) == 0) = decide (x.pars.length = 0) := by rw [Bool.eq_iff_iff]; simp
                      rw [h1]; rfl
                    generalize hy : (decide (x.height = 0) == decide (x.pars.length = 0)) = y at *
                    replace hy := Lib.hid hy
                    cases y with
                    | true =>
                      go_wp2
                      go_ret
                      refine ⟨ret_b ?_, hB.out⟩
                      rw [hG.out, r1, r2, r3, r4, hy.out]
                      simp only [Bool.true_and]
                      rw [Bool.eq_iff_iff]; simp; omega
                    | false =>
                      go_wp2
                      go_ret
                      exact ⟨ret_b (by rw [hG.out, r1, r2, r3, r4, hy.out]; rfl), hB.out⟩
                  · have r4 := decide_eq_false t4
                    go_wp2
                    go_ret
                    exact ⟨ret_b (by first | rfl | (rw [hG.out]; rw [r4]; simp)), hB.out⟩
                · have r3 := decide_eq_false t3
                  go_wp2
                  go_ret
                  exact ⟨ret_b (by first | rfl | (rw [hG.out]; rw [r3]; simp)), hB.out⟩
              · have q2 : ¬ (x.pars.length : Int) ≤ 8 := by omega
                have r2 := decide_eq_false t2
                go_wp2
                go_ret
                exact ⟨ret_b (by first | rfl | (rw [hG.out]; rw [r2]; simp)), hB.out⟩
            · have q1 : ((x.tree.size : Int) == 32) = false := by have := size_beq x.tree 32; rw [decide_eq_false t1] at this; exact this
              have r1 := decide_eq_false t1
              replace t1 := Lib.hid t1
              go_wp2
              go_ret
              exact ⟨ret_b (by first | rfl | (rw [hG.out]; rw [r1]; simp)), hB.out⟩
      · have d3 : (x.kind == 3) = false := by simpa using k3
        rw [if_neg k3]
        replace k1 := Lib.hid k1
        replace k2 := Lib.hid k2
        replace k3 := Lib.hid k3
        go_enter Tryd.func15, Tryd.ntmps15
        go_wp2
        go_ret
        exact ⟨rfl, hB.out⟩
end Go.Proofs.YtmbbnabongnojaaDoor.Ob
