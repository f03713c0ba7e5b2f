/-
  pack's cut, numAt, count, nth, bytes, span and tell: what stands in bytes; old memory stays. Conditions: the bytes are long enough, and of a size that the form's numbers bear.
-/
import Derived.Test.YtliojhhiadfmiaaDoorRows
import Derived.Test.YtliojhhiadfmiaaDoorPkOwn
import Derived.Test.YtliojhhiadfmiaaDoorPkSort
import Derived.Test.YtliojhhiadfmiaaDoorPaLib
import Derived.Test.YtliojhhiadfmiaaDoorOctCalls
import Derived.Test.YtliojhhiadfmiaaDoorOctKit
import Derived.WalkKit
import Derived.WalkSpells
import Derived.WalkLawsBesides
import Derived.ProofKit
import Derived.OpenShut
import Derived.Laws.BytesArg
import Derived.Laws.Externs
import Derived.Deep.QuietTactic
import Derived.BigQuiet
import Derived.BigRegion
import Derived.Lib.Hide
import Derived.IntWalk
import Derived.Deep.LoopGhost
import Derived.StillTailTactics
import Derived.Handy
namespace Go.Proofs.YtliojhhiadfmiaaDoor.Pk
open Go Go.RowKit
open Oct (empty num4 num4_size rd4 Only Rd)

theorem only_below {w w1 w2 : World} (h : Below w.heap.size w w1) {b : Nat} (o : Only b w1 w2) (hb : w.heap.size ≤ b) : Below w.heap.size w w2 := h.trans (o.below hb)
theorem pre_title (s : ByteArray) : Pa.pre title.data.toList s.data.toList = decide (s.extract 0 8 = title) := by
  rw [Pa.prefix_take, decide_eq_decide]
  constructor
  · intro h
    apply Oct.ext_toList
    rw [Oct.extract_toList, List.drop_zero]
    exact h
  · intro h
    have h2 : (s.extract 0 8).data.toList = title.data.toList := by rw [h]
    rw [Oct.extract_toList, List.drop_zero] at h2
    exact h2
set_option maxRecDepth 100000 in
theorem numAt_calls (s : ByteArray) (p : Nat) (w : World) (hp : p + 4 ≤ s.size) (_hs : s.size ≤ 140737488351232) :
    Calls Tryd.prog 60 #[.string s, .int .i64 p] w fun e w' => e = .returned (.int .u32 (rdAt s p)) ∧ Below w.heap.size w w' := by
  have i0 : 0 ≤ (p : Int) := by omega
  have i1 : (p : Int) ≤ s.size := by omega
  have hq : Oct.num ⟨s.extract p s.size, false⟩ = (rdAt s p, ⟨(s.extract p s.size).extract 4 (s.extract p s.size).size, false⟩) := Oct.num_ok ⟨s.extract p s.size, false⟩ rfl (by show 4 ≤ (s.extract p s.size).size; rw [Oct.extract_size s p s.size (Nat.le_refl _)]; omega)
  replace hq := Lib.hid hq
  go_enter Tryd.func60, Tryd.ntmps60
  go_wp2_with fail
  refine (Oct.New_calls (s.extract p s.size) w).mono ?_
  rintro e w1 ⟨rfl, rfl⟩
  have hB := Lib.hid (b_alloc w (.cells #[.string (s.extract p s.size), .bool false] 117))
  have hR := Lib.hid (Rd.new (s.extract p s.size) w)
  generalize w.alloc (.cells #[.string (s.extract p s.size), .bool false] 117) = w1 at *
  go_wp2_with fail
  refine (Oct.RNum_calls w.heap.size ⟨s.extract p s.size, false⟩ w1 hR.out).mono ?_
  rintro e w2 ⟨rfl, _, ho⟩
  rw [hq.out]
  replace hB := Lib.hid (only_below hB.out ho (Nat.le_refl _))
  clear ho
  go_wp2
  go_ret
  exact ⟨rfl, hB.out⟩
/-- the parts -/
def pfan (s : ByteArray) : ByteArray := s.extract 12 1036
def pidx (s : ByteArray) : ByteArray := s.extract 1036 (start s)
def pdat (s : ByteArray) : ByteArray := s.extract (start s) (s.size - 32)
abbrev partsV (f i d : ByteArray) : Value := .agg #[.string f, .string i, .string d]
theorem cnt_num {s : ByteArray} : cnt s = (num s : Nat) := by
  have := (rdAt_range s 8).1
  unfold num cnt at *
  omega
theorem results_cell2 {P : Program} {fn : Func} {a u : Nat} {t : TypeId} {tmps : Array Value} {w : World} {b o : Nat} {cs : List Value} {d : TypeDesc} (h : fn.results = #[.cell a t, .tmp u])
    (hx : tmps.getD a undef = .pointer (some ⟨b, o, none⟩)) (hc : w.rangeAt b o cs) (hu : P.underlying t = some d) (hd : d.isRow = true) (hi : (P.info? t).map (·.size) = some cs.length) :
    (results fn tmps).run P w = .ok (.tuple #[.agg cs.toArray, tmps.getD u undef]) w := by
  have e : (loadVar t ⟨b, o, none⟩).run P w = _ := run_loadVar_mid w b o t cs d hc hu hd hi
  simp only [results, h]
  simp [asAddr, -Array.getD_eq_getD_getElem?, hx, e]
theorem Blk.range {w : World} {b : Nat} {cs : List Value} {T : TypeId} (h : Blk w b cs.toArray T) : w.rangeAt b 0 cs := fun j v hv => by
  rw [Nat.zero_add]
  exact h.cell j (by simpa using hv)
theorem Blk.set3 {w : World} {b : Nat} {T : TypeId} {x y z x' y' z' : Value} (h : Blk w b #[x, y, z] T) : Blk (((w.setCell ⟨b, 0, none⟩ x').setCell ⟨b, 1, none⟩ y').setCell ⟨b, 2, none⟩ z') b #[x', y', z'] T := by
  have := ((h.set 0 x').set 1 y').set 2 z'
  simpa using this
theorem set3 {w w1 : World} {b : Nat} (h : Below w.heap.size w w1) (hb : w.heap.size ≤ b) (x y z : Value) : Below w.heap.size w (((w1.setCell ⟨b, 0, none⟩ x).setCell ⟨b, 1, none⟩ y).setCell ⟨b, 2, none⟩ z) :=
  ((h.setCell (p := ⟨b, 0, none⟩) hb x).setCell (p := ⟨b, 1, none⟩) hb y).setCell (p := ⟨b, 2, none⟩) hb z
set_option maxRecDepth 100000 in
set_option maxHeartbeats 2000000 in
theorem cut_calls (s : ByteArray) (w : World) (hs : 1112 ≤ s.size) (hs2 : s.size ≤ 1000000000) :
    Calls Tryd.prog 29 #[.string s] w fun e w' => e = .returned (.tuple #[if Begins s then partsV (pfan s) (pidx s) (pdat s) else partsV empty empty empty, .bool (decide (Begins s))]) ∧ Below w.heap.size w w' := by
  have hB := Lib.hid (b_alloc w (.cells #[.string empty, .string empty, .string empty] 53))
  have hX := Lib.hid (Blk.new w #[.string empty, .string empty, .string empty] 53)
  have hH := Lib.hid fun w => Pa.HasPrefix_calls s title w
  rw [pre_title] at hH
  have hN := Lib.hid fun w => numAt_calls s 8 w (by omega) (by omega)
  rw [show rdAt s 8 = (num s : Nat) from cnt_num] at hN
  by_cases h1 : s.extract 0 8 = title
  · rw [decide_eq_true h1] at hH
    by_cases h2 : num s < 1 ∨ 1024 < num s
    · have hb : Hid (¬ Begins s) := Lib.hid fun g => by
        have := g.least
        have := g.most
        rw [cnt_num] at *; omega
      rw [if_neg hb.out, decide_eq_false hb.out]
      generalize num s = n at *
      have h3 : ((n : Int) < 1) ∨ (decide ((n : Int) < 1) = false ∧ 1 ≤ (n : Int) ∧ 1024 < (n : Int)) := by
        by_cases g : n < 1
        · exact Or.inl (by omega)
        · exact Or.inr ⟨decide_eq_false (by omega), by omega, by omega⟩
      replace h1 := Lib.hid h1
      replace h2 := Lib.hid h2
      go_enter Tryd.func29, Tryd.ntmps29
      go_wp2_with fail
      refine (hH.out _).mono ?_
      rintro e w1 ⟨rfl, rfl⟩
      go_wp2_with fail
      generalize w.alloc (.cells #[.string empty, .string empty, .string empty] 53) = w1 at *
      refine (hN.out _).mono ?_
      rintro e w2 ⟨rfl, bb⟩
      replace hB := Lib.hid (below_next hB.out bb)
      replace hX := Lib.hid (hX.out.next bb)
      have hfin := Lib.hid (set3 hB.out (Nat.le_refl _) (.string empty) (.string empty) (.string empty))
      have hbk := Lib.hid (hX.out.set3 (x' := .string empty) (y' := .string empty) (z' := .string empty))
      have c0 := hX.out.cell 0 (v := .string empty) rfl
      have c1 := hX.out.cell 1 (v := .string empty) rfl
      have c2 := hX.out.cell 2 (v := .string empty) rfl
      have f0 := hX.out.frozen 0
      have f1 := hX.out.frozen 1
      have f2 := hX.out.frozen 2
      clear bb hN hH hB hX
      rcases h3 with j0 | ⟨j0, j1, j2⟩
      all_goals
        go_wp2
        (try simp only [Exit.inBlock, Exit.then])
        exact bodyPost_ret (results_cell2 Tryd.results29 rfl (Blk.range (cs := [_, _, _]) hbk.out) Tryd.underlying53 rfl (by kernel_rfl)) rfl ⟨rfl, hfin.out⟩
    · have l1 : 1 ≤ num s := by omega
      have l2 : num s ≤ 1024 := by omega
      have hRs : (s.extract 1036 (s.size - 32)).size = s.size - 32 - 1036 := piece_size s _ _ (by omega)
      have hst : start s = 1036 + 44 * num s := rfl
      obtain ⟨E, hE⟩ : ∃ E, E + 32 = s.size := ⟨s.size - 32, by omega⟩
      have hE2 : s.size - 32 = E := by omega
      obtain ⟨M, hM⟩ : ∃ M, M = 44 * num s := ⟨_, rfl⟩
      have e1 : Hid (IntKind.i64.wrap ((s.size : Int) - 32) = (E : Nat)) := Lib.hid (by simp [IntKind.wrap, IntKind.bits, IntKind.signed]; omega)
      have e2 : Hid ((num s : Int) * 44 = (M : Nat)) := Lib.hid (by omega)
      have hbg : Hid (Begins s ↔ M ≤ (s.extract 1036 E).size) := Lib.hid ⟨fun g => by
        have := g.room
        rw [piece_size s _ _ (by omega)]; omega, fun g => by
        rw [piece_size s _ _ (by omega)] at g
        exact ⟨h1, by rw [cnt_num]; omega, by rw [cnt_num]; omega, by omega⟩⟩
      have hdt : Hid (Begins s → pdat s = (s.extract 1036 E).extract M (s.extract 1036 E).size ∧ pidx s = (s.extract 1036 E).extract 0 M) := Lib.hid fun g => by
        have := g.room
        have hz := piece_size s 1036 E (by omega)
        unfold pdat pidx
        rw [hz, ext_ext s 1036 E _ _ (by omega) (by omega), ext_ext s 1036 E _ _ (by omega) (by omega), hE2, hst, ← hM, show 1036 + (E - 1036) = E by omega]
        exact ⟨rfl, rfl⟩
      have hE3 : E ≤ s.size := by omega
      have hE4 : 1036 ≤ E := by omega
      have hMb : M ≤ 50000 := by omega
      replace h1 := Lib.hid h1
      replace hst := Lib.hid hst
      replace hRs := Lib.hid hRs
      replace hE := Lib.hid hE
      replace hE2 := Lib.hid hE2
      replace hM := Lib.hid hM
      have k1 : decide ((num s : Int) < 1) = false := decide_eq_false (by omega)
      have k2 : 1 ≤ (num s : Int) := by omega
      have k3 : decide (1024 < (num s : Int)) = false := decide_eq_false (by omega)
      have k4 : (num s : Int) ≤ 1024 := by omega
      clear h2
      generalize num s = n at *
      by_cases hg : M ≤ (s.extract 1036 E).size
      · have hb := Lib.hid (hbg.out.2 hg)
        obtain ⟨hd1, hd2⟩ := hdt.out hb.out
        rw [if_pos hb.out, decide_eq_true hb.out, hd1, hd2]
        unfold pfan
        clear hdt hbg hd1 hd2
        generalize hRR : s.extract 1036 E = R at *
        have g1 : decide ((R.size : Int) < (M : Nat)) = false := decide_eq_false (by omega)
        have g2 : ((M : Nat) : Int) ≤ (R.size : Int) := by omega
        have e1' := e1.out
        have e2' := e2.out
        go_enter Tryd.func29, Tryd.ntmps29
        go_wp2_with fail
        refine (hH.out _).mono ?_
        rintro e w1 ⟨rfl, rfl⟩
        go_wp2_with fail
        generalize w.alloc (.cells #[.string empty, .string empty, .string empty] 53) = w1 at *
        refine (hN.out _).mono ?_
        rintro e w2 ⟨rfl, bb⟩
        replace hB := Lib.hid (below_next hB.out bb)
        replace hX := Lib.hid (hX.out.next bb)
        have hfin := Lib.hid fun x y z => set3 (below_next hB.out (b_drew w2)) (Nat.le_refl _) x y z
        have hbk := Lib.hid fun x y z => (show Blk w2.drew w.heap.size #[.string empty, .string empty, .string empty] 53 from hX.out).set3 (x' := x) (y' := y) (z' := z)
        have c0 := hX.out.cell 0 (v := .string empty) rfl
        have c1 := hX.out.cell 1 (v := .string empty) rfl
        have c2 := hX.out.cell 2 (v := .string empty) rfl
        have f0 := hX.out.frozen 0
        have f1 := hX.out.frozen 1
        have f2 := hX.out.frozen 2
        clear bb hN hH hB hX
        go_wp2
        go_region
        all_goals
          go_wp2
          (try simp only [Exit.inBlock, Exit.then])
          exact bodyPost_ret (results_cell2 Tryd.results29 rfl (Blk.range (cs := [_, _, _]) (hbk.out _ _ _)) Tryd.underlying53 rfl (by kernel_rfl)) rfl ⟨rfl, hfin.out _ _ _⟩
      · have hb : Hid (¬ Begins s) := Lib.hid fun g => hg (hbg.out.1 g)
        rw [if_neg hb.out, decide_eq_false hb.out]
        clear hdt hbg
        generalize hRR : s.extract 1036 E = R at *
        have g1 : (R.size : Int) < (M : Nat) := by omega
        replace hg := Lib.hid hg
        have e1' := e1.out
        have e2' := e2.out
        go_enter Tryd.func29, Tryd.ntmps29
        go_wp2_with fail
        refine (hH.out _).mono ?_
        rintro e w1 ⟨rfl, rfl⟩
        go_wp2_with fail
        generalize w.alloc (.cells #[.string empty, .string empty, .string empty] 53) = w1 at *
        refine (hN.out _).mono ?_
        rintro e w2 ⟨rfl, bb⟩
        replace hB := Lib.hid (below_next hB.out bb)
        replace hX := Lib.hid (hX.out.next bb)
        have hfin := Lib.hid (set3 hB.out (Nat.le_refl _) (.string empty) (.string empty) (.string empty))
        have hbk := Lib.hid (hX.out.set3 (x' := .string empty) (y' := .string empty) (z' := .string empty))
        have c0 := hX.out.cell 0 (v := .string empty) rfl
        have c1 := hX.out.cell 1 (v := .string empty) rfl
        have c2 := hX.out.cell 2 (v := .string empty) rfl
        have f0 := hX.out.frozen 0
        have f1 := hX.out.frozen 1
        have f2 := hX.out.frozen 2
        clear bb hN hH hB hX
        go_wp2
        (try simp only [Exit.inBlock, Exit.then])
        exact bodyPost_ret (results_cell2 Tryd.results29 rfl (Blk.range (cs := [_, _, _]) hbk.out) Tryd.underlying53 rfl (by kernel_rfl)) rfl ⟨rfl, hfin.out⟩
  · rw [decide_eq_false h1] at hH
    have hb : Hid (¬ Begins s) := Lib.hid fun g => h1 g.title
    rw [if_neg hb.out, decide_eq_false hb.out]
    go_enter Tryd.func29, Tryd.ntmps29
    go_wp2_with fail
    refine (hH.out _).mono ?_
    rintro e w1 ⟨rfl, rfl⟩
    go_wp2
    go_returns
    exact ⟨rfl, hB.out⟩
end Go.Proofs.YtliojhhiadfmiaaDoor.Pk
