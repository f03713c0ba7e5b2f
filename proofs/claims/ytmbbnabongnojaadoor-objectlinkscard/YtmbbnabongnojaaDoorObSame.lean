/-
  The reference's Same tells whether two objects have the same fields, Bare leaves those away that play no part; nothing is turned. Conditions: lists of the form's reach.
-/
import Derived.Test.YtmbbnabongnojaaDoorRows
import Derived.Test.YtmbbnabongnojaaDoorObPlain
import Derived.Test.YtmbbnabongnojaaDoorObGood
import Derived.Test.YtmbbnabongnojaaDoorObWrite
import Derived.Test.YtmbbnabongnojaaDoorObOwn
import Derived.Test.YtmbbnabongnojaaDoorObRead
import Derived.Test.YtmbbnabongnojaaDoorObDec
import Derived.Test.YtmbbnabongnojaaDoorObHave
import Derived.Test.YtmbbnabongnojaaDoorOctKit
import Derived.WalkKit
import Derived.WalkSpells
import Derived.WalkLawsBesides
import Derived.ProofKit
import Derived.OpenShut
import Derived.Laws.BytesArg
import Derived.Laws.Externs
import Derived.Deep.QuietTactic
import Derived.BigQuiet
import Derived.BigRegion
import Derived.Lib.Hide
import Derived.IntWalk
import Derived.Deep.LoopGhost
namespace Go.Proofs.YtmbbnabongnojaaDoor.Ob
open Go Go.RowKit
open Oct (empty)

/-- it tells whether p holds -/
def Tells (e : Ending) (p : Prop) : Prop := ∃ b, e = .returned (.bool b) ∧ (b = true ↔ p)
theorem Tells.yes {p : Prop} (h : p) : Tells (.returned (.bool true)) p := ⟨true, rfl, by simp [h]⟩
theorem Tells.no {p : Prop} (h : ¬ p) : Tells (.returned (.bool false)) p := ⟨false, rfl, by simp [h]⟩
theorem str_ne {s t : ByteArray} (h : s ≠ t) : (s.toList == t.toList) = false := by rw [Oct.beq_toList]; exact decide_eq_false h
theorem str_eq {s t : ByteArray} (h : s = t) : (s.toList == t.toList) = true := by rw [h]; simp
theorem take_all_eq {α : Type} {L M : List α} (hl : L.length = M.length) (h : L.take L.length = M.take L.length) : L = M := by
  rw [List.take_length, hl, List.take_length] at h; exact h
theorem take_succ_eq {α : Type} {L M : List α} {k : Nat} (h1 : k < L.length) (h2 : k < M.length) (h : L.take k = M.take k) (e : L[k] = M[k]) : L.take (k + 1) = M.take (k + 1) := by
  rw [← List.take_append_getElem h1, ← List.take_append_getElem h2, h, e]
set_option maxRecDepth 100000 in
set_option maxHeartbeats 4000000 in
theorem Same_calls (x y : Obj) (ea : Option Addr) (ec : Nat) (pa : Option Addr) (pc : Nat) (fa : Option Addr) (fc : Nat) (qa : Option Addr) (qc : Nat) (w : World) (hO : ObAt w x ea ec pa pc) (hQ : ObAt w y fa fc qa qc) (hl1 : x.ents.length ≤ maxLen) (hl2 : x.pars.length ≤ maxLen) :
    Calls Tryd.prog 21 #[val x ea ec pa pc, val y fa fc qa qc] w fun r w' => Tells r (x = y) ∧ Below w.heap.size w w' := by
  have hX := Lib.hid (Have.new hO)
  have hB1 := Lib.hid (b_alloc w (.cells (cellsOf x ea ec pa pc) 25))
  have hY := Lib.hid (Have.new (hQ.below hB1.out))
  replace hX := Lib.hid (hX.out.next (b_alloc _ (.cells (cellsOf y fa fc qa qc) 25)))
  have hs1 : (w.alloc (.cells (cellsOf x ea ec pa pc) 25)).heap.size = w.heap.size + 1 := by simp
  have hB2 := Lib.hid (below_next hB1.out (b_alloc _ (.cells (cellsOf y fa fc qa qc) 25)))
  rw [hs1] at hY
  clear hs1
  by_cases h1 : x.kind = y.kind
  · have f1 : (x.kind != y.kind) = false := by simp [h1]
    by_cases h2 : x.data = y.data
    · have f2 := str_eq h2
      by_cases h3 : x.ents.length = y.ents.length
      · have f3 : ((x.ents.length : Int) != y.ents.length) = false := by simp [h3]
        by_cases h4 : x.tree = y.tree
        · have f4 := str_eq h4
          by_cases h5 : x.pars.length = y.pars.length
          · have f5 : ((x.pars.length : Int) != y.pars.length) = false := by simp [h5]
            by_cases h6 : x.height = y.height
            · have f6 : (x.height != y.height) = false := by simp [h6]
              by_cases h7 : x.note = y.note
              · have f7 := str_eq h7
                have hall : Hid (x.ents = y.ents → x.pars = y.pars → x = y) := Lib.hid (by
                  intro he hp
                  obtain ⟨a1, a2, a3, a4, a5, a6, a7⟩ := x
                  obtain ⟨b1, b2, b3, b4, b5, b6, b7⟩ := y
                  dsimp only at h1 h2 h4 h6 h7 he hp
                  subst h1 h2 h4 h6 h7 he hp
                  rfl)
                replace h1 := Lib.hid h1
                replace h2 := Lib.hid h2
                replace h3 := Lib.hid h3
                replace h4 := Lib.hid h4
                replace h5 := Lib.hid h5
                replace h6 := Lib.hid h6
                replace h7 := Lib.hid h7
                go_enter Tryd.func21, Tryd.ntmps21
                go_wp2
                generalize (w.alloc (.cells (cellsOf x ea ec pa pc) 25)).alloc (.cells (cellsOf y fa fc qa qc) 25) = w2 at *
                obtain ⟨⟨eb, eo, hE⟩, ⟨pb, po, hP⟩, _, _⟩ := hX.out.at_
                obtain ⟨⟨gb, go, hF⟩, ⟨qb, qo, hR⟩, _, _⟩ := hY.out.at_
                have cx2 := hX.out.cells.2.2.1
                have cy2 := hY.out.cells.2.2.1
                have cx4 := hX.out.cells.2.2.2.2.1
                have cy4 := hY.out.cells.2.2.2.2.1
                replace hE := Lib.hid hE
                replace hP := Lib.hid hP
                replace hF := Lib.hid hF
                replace hR := Lib.hid hR
                clear hX hY hB1
                go_loopw [5] (fun i wr => ∃ k n : Nat, k ≤ x.ents.length ∧ i = .int .i64 k ∧ Hid (x.ents.take k = y.ents.take k) ∧ wr = w2.drewN n) (fun i _ => x.ents.length - (intOf i).toNat)
                case atStart => exact ⟨0, 0, by omega, rfl, Lib.hid (by simp), rfl⟩
                case round =>
                  obtain ⟨k, n, hk, rfl, hd, rfl⟩ := hrel
                  by_cases hlt : k < x.ents.length
                  · have i1 : (k : Int) < x.ents.length := by omega
                    have i2 : (k : Int) < y.ents.length := by have := h3.out; omega
                    have i0 : 0 ≤ (k : Int) := by omega
                    have hlt' : k < y.ents.length := by omega
                    have hmx : (k : Int) + 1 ≤ 9223372036854775807 := by unfold maxLen at hl1; omega
                    obtain rfl := hE.out.addr (by omega)
                    obtain rfl := hF.out.addr (by omega)
                    have c0 := hE.out.name k _ (List.getElem?_eq_getElem hlt)
                    have c1 := hE.out.kind k _ (List.getElem?_eq_getElem hlt)
                    have c2 := hE.out.id k _ (List.getElem?_eq_getElem hlt)
                    have g0 := hF.out.name k _ (List.getElem?_eq_getElem hlt')
                    have g1 := hF.out.kind k _ (List.getElem?_eq_getElem hlt')
                    have g2 := hF.out.id k _ (List.getElem?_eq_getElem hlt')
                    have hnx := Lib.hid (take_succ_eq hlt hlt' hd.out)
                    have hno := Lib.hid (fun (h : x.ents[k] ≠ y.ents[k]) (e : x = y) => h (by simp only [e]))
                    generalize x.ents[k] = e at *
                    generalize y.ents[k] = f at *
                    obtain ⟨n1, k1, i1'⟩ := e
                    obtain ⟨n2, k2, i2'⟩ := f
                    dsimp only at c0 c1 c2 g0 g1 g2
                    by_cases he : (⟨n1, k1, i1'⟩ : Ent) = ⟨n2, k2, i2'⟩
                    · replace hnx := Lib.hid (hnx.out he)
                      injection he with e1 e2 e3
                      subst e1 e2 e3
                      clear hno
                      go_wp2
                      go_quiet (fail)
                      go_wp2
                      exact ⟨⟨k + 1, _, by omega, rfl, hnx, rfl⟩, by simp [intOf]; omega⟩
                    · replace hno := Lib.hid (hno.out he)
                      clear hnx
                      by_cases e1 : n1 = n2
                      · subst e1
                        by_cases e2 : k1 = k2
                        · subst e2
                          have e3 : i1' ≠ i2' := fun e => he (by rw [e])
                          have q3 := str_ne e3
                          replace e3 := Lib.hid e3
                          clear he
                          go_wp2
                          go_quiet (fail)
                          go_wp2
                          go_ret
                          exact ⟨.no hno.out, Pa.below_drewN (Pa.below_drewN hB2.out _) _⟩
                        · have q2 : (k1 == k2) = false := by simpa using e2
                          replace e2 := Lib.hid e2
                          clear he
                          go_wp2
                          go_quiet (fail)
                          go_wp2
                          go_ret
                          exact ⟨.no hno.out, Pa.below_drewN (Pa.below_drewN hB2.out _) _⟩
                      · have q1 := str_ne e1
                        replace e1 := Lib.hid e1
                        clear he
                        go_wp2
                        go_quiet (fail)
                        go_wp2
                        go_ret
                        exact ⟨.no hno.out, Pa.below_drewN (Pa.below_drewN hB2.out _) _⟩
                  · have d0 : decide ((k : Int) < x.ents.length) = false := decide_eq_false (by omega)
                    have d1 : (x.ents.length : Int) ≤ k := by omega
                    obtain rfl : k = x.ents.length := by omega
                    replace hall := Lib.hid (hall.out (take_all_eq h3.out hd.out))
                    clear hE hF hd
                    go_wp2
                    go_loopw [6] (fun i wr => ∃ j n' : Nat, j ≤ x.pars.length ∧ i = .int .i64 j ∧ Hid (x.pars.take j = y.pars.take j) ∧ wr = w2.drewN n') (fun i _ => x.pars.length - (intOf i).toNat)
                    case atStart => exact ⟨0, n, by omega, rfl, Lib.hid (by simp), rfl⟩
                    case round =>
                      obtain ⟨j, n', hj, rfl, hd, rfl⟩ := hrel
                      by_cases hlt2 : j < x.pars.length
                      · have i1 : (j : Int) < x.pars.length := by omega
                        have i2 : (j : Int) < y.pars.length := by have := h5.out; omega
                        have i0 : 0 ≤ (j : Int) := by omega
                        have hlt' : j < y.pars.length := by omega
                        have hmx : (j : Int) + 1 ≤ 9223372036854775807 := by unfold maxLen at hl2; omega
                        obtain rfl := hP.out.addr (by omega)
                        obtain rfl := hR.out.addr (by omega)
                        have c0 := hP.out.cell j _ (List.getElem?_eq_getElem hlt2)
                        have g0 := hR.out.cell j _ (List.getElem?_eq_getElem hlt')
                        have hnx := Lib.hid (take_succ_eq hlt2 hlt' hd.out)
                        have hno := Lib.hid (fun (h : x.pars[j] ≠ y.pars[j]) (e : x = y) => h (by simp only [e]))
                        generalize x.pars[j] = e at *
                        generalize y.pars[j] = f at *
                        by_cases he : e = f
                        · replace hnx := Lib.hid (hnx.out he)
                          subst he
                          clear hno
                          go_wp2
                          go_quiet (fail)
                          go_wp2
                          exact ⟨⟨j + 1, _, by omega, rfl, hnx, rfl⟩, by simp [intOf]; omega⟩
                        · replace hno := Lib.hid (hno.out he)
                          have q1 := str_ne he
                          replace he := Lib.hid he
                          clear hnx
                          go_wp2
                          go_quiet (fail)
                          go_wp2
                          go_ret
                          exact ⟨.no hno.out, Pa.below_drewN (Pa.below_drewN hB2.out _) _⟩
                      · have d2 : decide ((j : Int) < x.pars.length) = false := decide_eq_false (by omega)
                        have d3 : (x.pars.length : Int) ≤ j := by omega
                        obtain rfl : j = x.pars.length := by omega
                        replace hall := Lib.hid (hall.out (take_all_eq h5.out hd.out))
                        go_wp2
                        go_ret
                        exact ⟨.yes hall.out, Pa.below_drewN hB2.out _⟩
              · have f7 := str_ne h7
                have hne : Hid (x ≠ y) := Lib.hid (fun e => h7 (by rw [e]))
                replace h1 := Lib.hid h1
                replace h2 := Lib.hid h2
                replace h3 := Lib.hid h3
                replace h4 := Lib.hid h4
                replace h5 := Lib.hid h5
                replace h6 := Lib.hid h6
                clear h7
                go_enter Tryd.func21, Tryd.ntmps21
                go_wp2
                go_ret
                exact ⟨.no hne.out, hB2.out⟩
            · have f6 : (x.height != y.height) = true := by simpa using h6
              have hne : Hid (x ≠ y) := Lib.hid (fun e => h6 (by rw [e]))
              replace h1 := Lib.hid h1
              replace h2 := Lib.hid h2
              replace h3 := Lib.hid h3
              replace h4 := Lib.hid h4
              replace h5 := Lib.hid h5
              clear h6
              go_enter Tryd.func21, Tryd.ntmps21
              go_wp2
              go_ret
              exact ⟨.no hne.out, hB2.out⟩
          · have f5 : ((x.pars.length : Int) != y.pars.length) = true := by simp only [bne_iff_ne]; omega
            have hne : Hid (x ≠ y) := Lib.hid (fun e => h5 (by rw [e]))
            replace h1 := Lib.hid h1
            replace h2 := Lib.hid h2
            replace h3 := Lib.hid h3
            replace h4 := Lib.hid h4
            clear h5
            go_enter Tryd.func21, Tryd.ntmps21
            go_wp2
            go_ret
            exact ⟨.no hne.out, hB2.out⟩
        · have f4 := str_ne h4
          have hne : Hid (x ≠ y) := Lib.hid (fun e => h4 (by rw [e]))
          replace h1 := Lib.hid h1
          replace h2 := Lib.hid h2
          replace h3 := Lib.hid h3
          clear h4
          go_enter Tryd.func21, Tryd.ntmps21
          go_wp2
          go_ret
          exact ⟨.no hne.out, hB2.out⟩
      · have f3 : ((x.ents.length : Int) != y.ents.length) = true := by simp only [bne_iff_ne]; omega
        have hne : Hid (x ≠ y) := Lib.hid (fun e => h3 (by rw [e]))
        replace h1 := Lib.hid h1
        replace h2 := Lib.hid h2
        clear h3
        go_enter Tryd.func21, Tryd.ntmps21
        go_wp2
        go_ret
        exact ⟨.no hne.out, hB2.out⟩
    · have f2 := str_ne h2
      have hne : Hid (x ≠ y) := Lib.hid (fun e => h2 (by rw [e]))
      replace h1 := Lib.hid h1
      clear h2
      go_enter Tryd.func21, Tryd.ntmps21
      go_wp2
      go_ret
      exact ⟨.no hne.out, hB2.out⟩
  · have f1 : (x.kind != y.kind) = true := by simpa using h1
    have hne : Hid (x ≠ y) := Lib.hid (fun e => h1 (by rw [e]))
    clear h1
    go_enter Tryd.func21, Tryd.ntmps21
    go_wp2
    go_ret
    exact ⟨.no hne.out, hB2.out⟩
theorem results_one {P : Program} {fn : Func} {a : Nat} {t : TypeId} {tmps : Array Value} {w : World} {b o : Nat} {cs : List Value} {d : TypeDesc} (h : fn.results = #[.cell a t])
    (hx : tmps.getD a undef = .pointer (some ⟨b, o, none⟩)) (hc : w.rangeAt b o cs) (hu : P.underlying t = some d) (hd : d.isRow = true) (hi : (P.info? t).map (·.size) = some cs.length) :
    (results fn tmps).run P w = .ok (.agg cs.toArray) w := by
  have e : (loadVar t ⟨b, o, none⟩).run P w = _ := run_loadVar_mid w b o t cs d hc hu hd hi
  simp only [results, h]
  simp [asAddr, -Array.getD_eq_getD_getElem?, hx, e]
/-- what Bare answers -/
def Bares (x : Obj) (e : Ending) (w' : World) : Prop := ∃ ea ec pa pc, e = .returned (val (bare x) ea ec pa pc) ∧ ObAt w' (bare x) ea ec pa pc
theorem ends_bare {x : Obj} {w w9 : World} {tmps : Array Value} {df : List Deferred} {ea : Option Addr} {ec : Nat} {pa : Option Addr} {pc : Nat} {r : Nat} (hend : Blk w9 r (cellsOf (bare x) ea ec pa pc) 25) (hO : ObAt w9 (bare x) ea ec pa pc) (h4 : Below w.heap.size w w9)
    (hx : tmps.getD 2 undef = .pointer (some ⟨r, 0, none⟩) := by rfl) (hdf : df = [] := by rfl) :
    bodyPost Tryd.prog Tryd.f26 (fun e w' => Bares x e w' ∧ Below w.heap.size w w') .ret ⟨tmps, df⟩ w9 := by
  subst hdf
  exact bodyPost_ret (results_one Tryd.results26 hx (blk_range (cs := [.int .i64 (bare x).kind, .string (bare x).data, .slice ea (bare x).ents.length ec, .string (bare x).tree, .slice pa (bare x).pars.length pc, .int .i64 (bare x).height, .string (bare x).note]) hend) Tryd.underlying25 rfl sizeObject) rfl ⟨⟨ea, ec, pa, pc, rfl, hO⟩, h4⟩
theorem new_two (w : World) (o : Go.Obj) (cs : Array Value) (T : TypeId) : Blk ((w.alloc o).alloc (.cells cs T)) (w.heap.size + 1) cs T := by
  have h := Blk.new (w.alloc o) cs T
  rw [show (w.alloc o).heap.size = w.heap.size + 1 by simp] at h
  exact h
set_option maxRecDepth 100000 in
set_option maxHeartbeats 2000000 in
theorem Bare_calls (x : Obj) (ea : Option Addr) (ec : Nat) (pa : Option Addr) (pc : Nat) (w : World) (hO : ObAt w x ea ec pa pc) :
    Calls Tryd.prog 26 #[val x ea ec pa pc] w fun r w' => Bares x r w' ∧ Below w.heap.size w w' := by
  have hB1 := Lib.hid (b_alloc w (.cells (cellsOf x ea ec pa pc) 25))
  have hB2 := Lib.hid fun o => below_next hB1.out (b_alloc _ o)
  obtain ⟨hE, hP, he, hp⟩ := hO
  replace hE := Lib.hid hE
  replace hP := Lib.hid hP
  by_cases k1 : x.kind = 1
  · have d1 : (x.kind == 1) = true := by simpa using k1
    have hb : Hid (bare x = ⟨1, x.data, [], empty, [], 0, empty⟩) := Lib.hid (by unfold bare; rw [if_pos k1])
    replace k1 := Lib.hid k1
    go_enter Tryd.func26, Tryd.ntmps26
    go_wp2
    exact ends_bare (ea := none) (ec := 0) (pa := none) (pc := 0) (r := w.heap.size + 1) (by rw [hb.out]; exact new_two _ _ _ _) (by rw [hb.out]; exact ⟨⟨0, 0, EntsAt.nil _⟩, ⟨0, 0, ParsAt.nil _⟩, Nat.le_refl _, Nat.le_refl _⟩) (hB2.out _)
  · have d1 : (x.kind == 1) = false := by simpa using k1
    by_cases k2 : x.kind = 2
    · have d2 : (x.kind == 2) = true := by simpa using k2
      have hb : Hid (bare x = ⟨2, empty, x.ents, empty, [], 0, empty⟩) := Lib.hid (by unfold bare; rw [if_neg k1, if_pos k2])
      replace k1 := Lib.hid k1
      replace k2 := Lib.hid k2
      go_enter Tryd.func26, Tryd.ntmps26
      go_wp2
      refine ends_bare (ea := ea) (ec := ec) (pa := none) (pc := 0) (r := w.heap.size + 1) (by rw [hb.out]; exact new_two _ _ _ _) (by rw [hb.out]; obtain ⟨b, o, g⟩ := hE.out; exact ⟨⟨b, o, g.below (hB2.out _)⟩, ⟨0, 0, ParsAt.nil _⟩, he, Nat.le_refl _⟩) (hB2.out _)
    · have d2 : (x.kind == 2) = false := by simpa using k2
      have hb : Hid (bare x = ⟨x.kind, empty, [], x.tree, x.pars, x.height, x.note⟩) := Lib.hid (by unfold bare; rw [if_neg k1, if_neg k2])
      replace k1 := Lib.hid k1
      replace k2 := Lib.hid k2
      go_enter Tryd.func26, Tryd.ntmps26
      go_wp2
      refine ends_bare (ea := none) (ec := 0) (pa := pa) (pc := pc) (r := w.heap.size + 1) (by rw [hb.out]; exact new_two _ _ _ _) (by rw [hb.out]; obtain ⟨b, o, g⟩ := hP.out; exact ⟨⟨0, 0, EntsAt.nil _⟩, ⟨b, o, g.below (hB2.out _)⟩, Nat.le_refl _, hp⟩) (hB2.out _)
end Go.Proofs.YtmbbnabongnojaaDoor.Ob
