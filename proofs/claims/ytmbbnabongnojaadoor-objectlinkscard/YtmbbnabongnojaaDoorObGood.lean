/-
  How objects lie in memory; object's Good, goodTree, goodEntry, goodCommit, goodParents and ident's Good answer as the plain functions say; old memory stays. Conditions: none.
-/
import Derived.Test.YtmbbnabongnojaaDoorRows
import Derived.Test.YtmbbnabongnojaaDoorObPlain
import Derived.Test.YtmbbnabongnojaaDoorPaGood
import Derived.Test.YtmbbnabongnojaaDoorOctKit
import Derived.WalkKit
import Derived.WalkSpells
import Derived.WalkLawsBesides
import Derived.ProofKit
import Derived.OpenShut
import Derived.Laws.BytesArg
import Derived.Laws.Externs
import Derived.Deep.QuietTactic
import Derived.BigQuiet
import Derived.BigRegion
import Derived.Lib.Hide
import Derived.Lib.Bytealg
import Derived.IntWalk
import Derived.Deep.LoopGhost
namespace Go.Proofs.YtmbbnabongnojaaDoor.Ob
open Go.RowKit
open Oct (empty)

/-- the entries of a list in memory -/
structure EntsAt (w : World) (a : Option Addr) (b off : Nat) (L : List Ent) : Prop where
  addr : 0 < L.length → a = some ⟨b, off, none⟩
  name : ∀ i e, L[i]? = some e → w.cell? ⟨b, off + i * 3, none⟩ = some (.string e.name)
  kind : ∀ i e, L[i]? = some e → w.cell? ⟨b, off + i * 3 + 1, none⟩ = some (.int .i64 e.kind)
  id : ∀ i e, L[i]? = some e → w.cell? ⟨b, off + i * 3 + 2, none⟩ = some (.string e.id)
/-- the texts of a list in memory -/
structure ParsAt (w : World) (a : Option Addr) (b off : Nat) (L : List ByteArray) : Prop where
  addr : 0 < L.length → a = some ⟨b, off, none⟩
  cell : ∀ i p, L[i]? = some p → w.cell? ⟨b, off + i, none⟩ = some (.string p)
/-- an object as a value -/
abbrev val (x : Obj) (ea : Option Addr) (ec : Nat) (pa : Option Addr) (pc : Nat) : Value :=
  .agg #[.int .i64 x.kind, .string x.data, .slice ea x.ents.length ec, .string x.tree, .slice pa x.pars.length pc, .int .i64 x.height, .string x.note]
abbrev entVal (e : Ent) : Value := .agg #[.string e.name, .int .i64 e.kind, .string e.id]
/-- an object in memory -/
structure ObAt (w : World) (x : Obj) (ea : Option Addr) (ec : Nat) (pa : Option Addr) (pc : Nat) : Prop where
  ents : ∃ b off, EntsAt w ea b off x.ents
  pars : ∃ b off, ParsAt w pa b off x.pars
  ecap : x.ents.length ≤ ec
  pcap : x.pars.length ≤ pc

theorem EntsAt.below {w w' : World} {a : Option Addr} {b off : Nat} {L : List Ent} (h : EntsAt w a b off L) (t : Below w.heap.size w w') : EntsAt w' a b off L :=
  ⟨h.addr, fun i e he => (t.cell (Oct.lt_of_cell (h.name i e he))).trans (h.name i e he), fun i e he => (t.cell (Oct.lt_of_cell (h.kind i e he))).trans (h.kind i e he), fun i e he => (t.cell (Oct.lt_of_cell (h.id i e he))).trans (h.id i e he)⟩
theorem ParsAt.below {w w' : World} {a : Option Addr} {b off : Nat} {L : List ByteArray} (h : ParsAt w a b off L) (t : Below w.heap.size w w') : ParsAt w' a b off L :=
  ⟨h.addr, fun i e he => (t.cell (Oct.lt_of_cell (h.cell i e he))).trans (h.cell i e he)⟩
theorem ObAt.below {w w' : World} {x : Obj} {ea : Option Addr} {ec : Nat} {pa : Option Addr} {pc : Nat} (h : ObAt w x ea ec pa pc) (t : Below w.heap.size w w') : ObAt w' x ea ec pa pc :=
  ⟨by obtain ⟨b, o, g⟩ := h.ents; exact ⟨b, o, g.below t⟩, by obtain ⟨b, o, g⟩ := h.pars; exact ⟨b, o, g.below t⟩, h.ecap, h.pcap⟩
theorem ret_b {x y : Bool} (h : x = y) : Ending.returned (.bool x) = .returned (.bool y) := by rw [h]
theorem size_beq (s : ByteArray) (n : Nat) : ((s.size : Int) == (n : Int)) = decide (s.size = n) := by
  rw [Bool.eq_iff_iff]; simp; omega
theorem idGood_calls (s : ByteArray) (w : World) :
    Calls Tryd.prog 63 #[.string s] w fun e w' => e = .returned (.bool (decide (s.size = 32))) ∧ w = w' := by
  have e := size_beq s 32
  go_enter Tryd.func63, Tryd.ntmps63
  go_wp2
  go_ret
  exact ⟨ret_b e, rfl⟩
theorem up_yes {p n : ByteArray} (h : up p n = true) : Op.bytesLess n.toList p.toList = false ∧ (n.toList == p.toList) = false ∧ ¬ n.toList = p.toList := by
  unfold up at h
  rw [ByteArray.toList_eq, ByteArray.toList_eq]
  have hne : n.data.toList ≠ p.data.toList := fun e => by rw [e, Pa.less_irrefl] at h; cases h
  have := Pa.less_total _ _ hne
  rw [h] at this
  exact ⟨this, by simpa using hne, hne⟩
theorem up_no {p n : ByteArray} (h : up p n = false) : Op.bytesLess n.toList p.toList = true ∨ n = p := by
  unfold up at h
  rw [ByteArray.toList_eq, ByteArray.toList_eq]
  by_cases hne : n.data.toList = p.data.toList
  · exact Or.inr (Oct.ext_toList hne)
  · have := Pa.less_total _ _ hne
    rw [h] at this
    exact Or.inl this
set_option maxRecDepth 100000 in
set_option maxHeartbeats 1000000 in
theorem goodEntry_calls (e : Ent) (w : World) :
    Calls Tryd.prog 62 #[entVal e] w fun r w' => r = .returned (.bool (goodEnt e)) ∧ Below w.heap.size w w' := by
  obtain ⟨n, k, i⟩ := e
  have hb0 := Lib.hid ((Below.refl w.heap.size w).alloc (Nat.le_refl _) (.cells #[.string n, .int .i64 k, .string i] 47))
  have hr : goodEnt ⟨n, k, i⟩ = ((decide (k = 1) || decide (k = 2)) && (Pa.isName n.data.toList && decide (i.size = 32))) := by unfold goodEnt; rw [Bool.and_assoc]
  rw [hr]
  clear hr
  have hG := Lib.hid fun w => Pa.Good_calls n w
  have c2 : Hid ((w.alloc (.cells #[.string n, .int .i64 k, .string i] 47)).cell? ⟨w.heap.size, 2, none⟩ = some (.string i)) := Lib.hid (by rw [World.cell?_alloc_at _ _ _ _ rfl]; rfl)
  have hz : Hid (w.heap.size < (w.alloc (.cells #[.string n, .int .i64 k, .string i] 47)).heap.size) := Lib.hid (by simp)
  generalize hx : (decide (k = 1) || decide (k = 2)) = x
  generalize Pa.isName n.data.toList = y at *
  cases x with
  | false =>
    simp only [Bool.or_eq_false_iff, decide_eq_false_iff_not] at hx
    obtain ⟨h1, h2⟩ := hx
    have d1 : (k == 1) = false := by simpa using h1
    have d2 : (k == 2) = false := by simpa using h2
    replace h1 := Lib.hid h1
    replace h2 := Lib.hid h2
    go_enter Tryd.func62, Tryd.ntmps62
    go_wp2
    go_ret
    exact ⟨rfl, hb0.out⟩
  | true =>
    simp only [Bool.or_eq_true, decide_eq_true_eq] at hx
    rcases hx with rfl | rfl
    all_goals
      go_enter Tryd.func62, Tryd.ntmps62
      go_wp2_with fail
      refine (hG.out _).mono ?_
      rintro r w1 ⟨rfl, b1⟩
      replace c2 := (b1.cell (p := ⟨w.heap.size, 2, none⟩) hz.out).trans c2.out
      replace hb0 := Lib.hid (hb0.out.trans (b1.mono hb0.out.size))
      clear b1 hz
      cases y with
      | false =>
        go_wp2
        go_ret
        exact ⟨rfl, hb0.out⟩
      | true =>
        go_wp2_with fail
        refine (idGood_calls i _).mono ?_
        rintro r w2 ⟨rfl, rfl⟩
        go_wp2
        go_ret
        exact ⟨rfl, hb0.out⟩
set_option maxRecDepth 100000 in
set_option maxHeartbeats 2000000 in
theorem goodTree_calls (x : Obj) (ea : Option Addr) (ec : Nat) (pa : Option Addr) (pc eb eo : Nat) (w : World) (hE : EntsAt w ea eb eo x.ents) :
    Calls Tryd.prog 34 #[val x ea ec pa pc] w fun r w' => r = .returned (.bool (decide (x.ents.length ≤ 256) && goodEnts empty x.ents)) ∧ Below w.heap.size w w' := by
  obtain ⟨kind, data, L, tree, pars, height, note⟩ := x
  dsimp only at hE ⊢
  have hb0 := Lib.hid ((Below.refl w.heap.size w).alloc (Nat.le_refl _) (.cells #[.int .i64 kind, .string data, .slice ea L.length ec, .string tree, .slice pa pars.length pc, .int .i64 height, .string note] 25))
  by_cases hl : L.length ≤ 256
  · have l0 : ¬ (256 : Int) < L.length := by omega
    rw [decide_eq_true hl, Bool.true_and]
    replace hE := Lib.hid hE
    go_enter Tryd.func34, Tryd.ntmps34
    go_wp2
    clear l0
    go_loopw [3, 5, 13] (fun a _ i wr => ∃ (k : Nat) (p : ByteArray), k ≤ L.length ∧ a = .string p ∧ i = .int .i64 k ∧ Hid (goodEnts empty L = goodEnts p (L.drop k)) ∧ Below w.heap.size w wr) (fun _ _ i _ => L.length - (intOf i).toNat)
    case atStart => exact ⟨0, empty, by omega, rfl, rfl, Lib.hid (by rw [List.drop_zero]), hb0.out⟩
    case round =>
      clear hb0
      obtain ⟨k, p, hk, rfl, rfl, hG, hB⟩ := hrel
      by_cases hlt : k < L.length
      · have i1 : (k : Int) < L.length := by omega
        have i0 : 0 ≤ (k : Int) := by omega
        obtain rfl := hE.out.addr (by omega)
        have hg : L[k]? = some L[k] := List.getElem?_eq_getElem hlt
        have hE' := hE.out.below hB
        have c0 := hE'.name k _ hg
        have c1 := hE'.kind k _ hg
        have c2 := hE'.id k _ hg
        have hd : L.drop k = L[k] :: L.drop (k + 1) := List.drop_eq_getElem_cons hlt
        generalize L[k] = e at *
        replace hG := hG.out
        rw [hd, goodEnts] at hG
        clear hd hg hE'
        obtain ⟨n, kd, i⟩ := e
        dsimp only at c0 c1 c2 hG
        generalize hu : up p n = u at *
        replace hB := Lib.hid hB
        cases u with
        | false =>
          replace hG : Hid (goodEnts empty L = false) := Lib.hid (by rw [hG]; rfl)
          have hb2 := Lib.hid (hB.out.alloc hB.out.size (.cells #[.string n, .int .i64 kd, .string i] 47))
          rcases up_no hu with h1 | h1
          · clear hu
            go_wp2
            go_ret
            exact ⟨by rw [hG.out]; rfl, hb2.out⟩
          · clear hu
            subst h1
            go_wp2
            go_ret
            exact ⟨by rw [hG.out]; rfl, hb2.out⟩
        | true =>
          obtain ⟨u1, u2, u3⟩ := up_yes hu
          have hb2 := Lib.hid (hB.out.alloc hB.out.size (.cells #[.string n, .int .i64 kd, .string i] 47))
          have hz : Hid (wr.heap.size < (wr.alloc (.cells #[.string n, .int .i64 kd, .string i] 47)).heap.size) := Lib.hid (by simp)
          have c3 : Hid ((wr.alloc (.cells #[.string n, .int .i64 kd, .string i] 47)).cell? ⟨wr.heap.size, 0, none⟩ = some (.string n)) := Lib.hid (by rw [World.cell?_alloc_at _ _ _ _ rfl]; rfl)
          have cG := Lib.hid fun w => goodEntry_calls ⟨n, kd, i⟩ w
          replace hG := Lib.hid hG
          clear hu
          go_wp2_with fail
          refine (cG.out _).mono ?_
          rintro r w1 ⟨rfl, b1⟩
          replace c3 := (b1.cell (p := ⟨wr.heap.size, 0, none⟩) hz.out).trans c3.out
          replace hb2 := Lib.hid (hb2.out.trans (b1.mono hb2.out.size))
          clear b1 hz cG u1 u2 u3 hB
          generalize goodEnt ⟨n, kd, i⟩ = y at *
          cases y with
          | false =>
            replace hG : Hid (goodEnts empty L = false) := Lib.hid (by rw [hG.out]; rfl)
            go_wp2
            go_ret
            exact ⟨by rw [hG.out]; rfl, hb2.out⟩
          | true =>
            replace hG : Hid (goodEnts empty L = goodEnts n (L.drop (k + 1))) := Lib.hid (by rw [hG.out]; simp)
            go_wp2
            exact ⟨⟨k + 1, n, by omega, rfl, by go_num, hG, hb2.out⟩, by simp [intOf]; omega⟩
      · have d0 : decide ((k : Int) < L.length) = false := decide_eq_false (by omega)
        have d1 : (L.length : Int) ≤ k := by omega
        obtain rfl : k = L.length := by omega
        replace hG : Hid (goodEnts empty L = true) := Lib.hid (by rw [hG.out, List.drop_length, goodEnts])
        replace hB := Lib.hid hB
        go_wp2
        go_ret
        exact ⟨by rw [hG.out]; rfl, hB.out⟩
  · have l0 : (256 : Int) < L.length := by omega
    rw [decide_eq_false hl, Bool.false_and]
    replace hE := Lib.hid hE
    go_enter Tryd.func34, Tryd.ntmps34
    go_wp2
    go_ret
    exact ⟨rfl, hb0.out⟩
set_option maxRecDepth 100000 in
set_option maxHeartbeats 2000000 in
theorem goodParents_calls (L : List ByteArray) (a : Option Addr) (cap b off : Nat) (w : World) (hE : ParsAt w a b off L) :
    Calls Tryd.prog 64 #[.slice a L.length cap] w fun r w' => r = .returned (.bool (decide (L.length ≤ 8) && goodPars empty L)) ∧ w = w' := by
  by_cases hl : L.length ≤ 8
  · have l0 : ¬ (8 : Int) < L.length := by omega
    rw [decide_eq_true hl, Bool.true_and]
    replace hE := Lib.hid hE
    go_enter Tryd.func64, Tryd.ntmps64
    go_wp2
    clear l0
    go_loopw [3, 5, 11] (fun a _ i wr => ∃ (k : Nat) (p : ByteArray), k ≤ L.length ∧ a = .string p ∧ i = .int .i64 k ∧ Hid (goodPars empty L = goodPars p (L.drop k)) ∧ w = wr) (fun _ _ i _ => L.length - (intOf i).toNat)
    case atStart => exact ⟨0, empty, by omega, rfl, rfl, Lib.hid (by rw [List.drop_zero]), rfl⟩
    case round =>
      obtain ⟨k, p, hk, rfl, rfl, hG, rfl⟩ := hrel
      by_cases hlt : k < L.length
      · have i1 : (k : Int) < L.length := by omega
        have i0 : 0 ≤ (k : Int) := by omega
        obtain rfl := hE.out.addr (by omega)
        have hg : L[k]? = some L[k] := List.getElem?_eq_getElem hlt
        have c0 := hE.out.cell k _ hg
        have hd : L.drop k = L[k] :: L.drop (k + 1) := List.drop_eq_getElem_cons hlt
        generalize L[k] = n at *
        replace hG := hG.out
        rw [hd, goodPars] at hG
        clear hd hg
        generalize hu : up p n = u at *
        cases u with
        | false =>
          replace hG : Hid (goodPars empty L = false) := Lib.hid (by rw [hG]; rfl)
          rcases up_no hu with h1 | h1
          · clear hu
            go_wp2
            go_ret
            exact ⟨by rw [hG.out]; rfl, rfl⟩
          · clear hu
            subst h1
            go_wp2
            go_ret
            exact ⟨by rw [hG.out]; rfl, rfl⟩
        | true =>
          obtain ⟨u1, u2, u3⟩ := up_yes hu
          have cG := Lib.hid (idGood_calls n w)
          replace hG := Lib.hid hG
          clear hu
          go_wp2_with fail
          refine cG.out.mono ?_
          rintro r w1 ⟨rfl, rfl⟩
          clear cG u1 u2 u3
          generalize decide (n.size = 32) = y at *
          cases y with
          | false =>
            replace hG : Hid (goodPars empty L = false) := Lib.hid (by rw [hG.out]; rfl)
            go_wp2
            go_ret
            exact ⟨by rw [hG.out]; rfl, rfl⟩
          | true =>
            replace hG : Hid (goodPars empty L = goodPars n (L.drop (k + 1))) := Lib.hid (by rw [hG.out]; simp)
            go_wp2
            exact ⟨⟨k + 1, n, by omega, rfl, by go_num, hG, by first | rfl | trivial⟩, by simp [intOf]; omega⟩
      · have d0 : decide ((k : Int) < L.length) = false := decide_eq_false (by omega)
        have d1 : (L.length : Int) ≤ k := by omega
        obtain rfl : k = L.length := by omega
        replace hG : Hid (goodPars empty L = true) := Lib.hid (by rw [hG.out, List.drop_length, goodPars])
        go_wp2
        go_ret
        exact ⟨by rw [hG.out]; rfl, rfl⟩
  · have l0 : (8 : Int) < L.length := by omega
    rw [decide_eq_false hl, Bool.false_and]
    replace hE := Lib.hid hE
    go_enter Tryd.func64, Tryd.ntmps64
    go_wp2
    go_ret
    exact ⟨rfl, rfl⟩
theorem bool_same (m : Nat) (h : Int) : (((m : Int) == 0) == (h == 0)) = (decide (m = 0) == decide (h = 0)) := by
  have : ((m : Int) == 0) = decide (m = 0) := by rw [Bool.eq_iff_iff]; simp
  rw [this]; rfl
set_option maxRecDepth 100000 in
set_option maxHeartbeats 2000000 in
theorem goodCommit_calls (x : Obj) (ea : Option Addr) (ec : Nat) (pa : Option Addr) (pc pb po : Nat) (w : World) (hE : ParsAt w pa pb po x.pars) :
    Calls Tryd.prog 35 #[val x ea ec pa pc] w fun r w' => r = .returned (.bool (goodCommit x)) ∧ Below w.heap.size w w' := by
  obtain ⟨kind, data, L, tree, pars, height, note⟩ := x
  have hb0 := Lib.hid ((Below.refl w.heap.size w).alloc (Nat.le_refl _) (.cells #[.int .i64 kind, .string data, .slice ea L.length ec, .string tree, .slice pa pars.length pc, .int .i64 height, .string note] 25))
  have hP := Lib.hid fun w' => goodParents_calls pars pa pc pb po w'
  have hE' := Lib.hid (hE.below (hb0.out))
  have hgc : goodCommit ⟨kind, data, L, tree, pars, height, note⟩ = (decide (tree.size = 32) && ((decide (pars.length ≤ 8) && goodPars empty pars) && (decide (0 ≤ height) && (decide (height ≤ 1073741824) && ((decide (pars.length = 0) == decide (height = 0)) && decide (note.size ≤ 1000)))))) := by
    unfold goodCommit
    simp only [Bool.and_assoc]
  rw [hgc]
  clear hgc
  have cG := Lib.hid fun w => idGood_calls tree w
  have hs := bool_same pars.length height
  generalize decide (tree.size = 32) = y1 at *
  generalize (decide (pars.length ≤ 8) && goodPars empty pars) = y2 at *
  generalize (decide (pars.length = 0) == decide (height = 0)) = y3 at *
  cases y1 with
  | false =>
    go_enter Tryd.func35, Tryd.ntmps35
    go_wp2_with fail
    refine (cG.out _).mono ?_
    rintro r w1 ⟨rfl, rfl⟩
    go_wp2
    go_ret
    exact ⟨rfl, hb0.out⟩
  | true =>
    go_enter Tryd.func35, Tryd.ntmps35
    go_wp2_with fail
    refine (cG.out _).mono ?_
    rintro r w1 ⟨rfl, rfl⟩
    go_wp2_with fail
    refine (hP.out _ hE'.out).mono ?_
    rintro r w1 ⟨rfl, rfl⟩
    clear hP hE' cG
    cases y2 with
    | false =>
      go_wp2
      go_ret
      exact ⟨rfl, hb0.out⟩
    | true =>
      by_cases h0 : 0 ≤ height
      · by_cases h1 : height ≤ 1073741824
        · cases y3 with
          | false =>
            go_wp2
            go_ret
            exact ⟨by simp [h0, h1], hb0.out⟩
          | true =>
            go_wp2
            go_ret
            refine ⟨ret_b ?_, hb0.out⟩
            simp only [decide_eq_true h0, decide_eq_true h1, Bool.true_and]
            rw [Bool.eq_iff_iff]; simp; omega
        · have g1 : decide (height ≤ 1073741824) = false := decide_eq_false h1
          go_wp2
          go_ret
          exact ⟨ret_b (by rw [g1]; simp), hb0.out⟩
      · have g0 : decide (0 ≤ height) = false := decide_eq_false h0
        go_wp2
        go_ret
        exact ⟨ret_b (by rw [g0]; simp), hb0.out⟩
set_option maxRecDepth 100000 in
set_option maxHeartbeats 2000000 in
theorem Good_calls (x : Obj) (ea : Option Addr) (ec : Nat) (pa : Option Addr) (pc : Nat) (w : World) (hO : ObAt w x ea ec pa pc) :
    Calls Tryd.prog 14 #[val x ea ec pa pc] w fun r w' => r = .returned (.bool (good x)) ∧ Below w.heap.size w w' := by
  obtain ⟨⟨eb, eo, hE⟩, ⟨pb, po, hP⟩, _, _⟩ := hO
  have cT := Lib.hid fun w hE => goodTree_calls x ea ec pa pc eb eo w hE
  have cC := Lib.hid fun w hP => goodCommit_calls x ea ec pa pc pb po w hP
  have hg : good x = if x.kind = 1 then decide (x.data.size ≤ 65536) else if x.kind = 2 then decide (x.ents.length ≤ 256) && goodEnts empty x.ents else if x.kind = 3 then goodCommit x else false := rfl
  rw [hg]
  clear hg
  generalize (decide (x.ents.length ≤ 256) && goodEnts empty x.ents) = y1 at *
  generalize goodCommit x = y2 at *
  obtain ⟨kind, data, L, tree, pars, height, note⟩ := x
  have hb0 := Lib.hid ((Below.refl w.heap.size w).alloc (Nat.le_refl _) (.cells #[.int .i64 kind, .string data, .slice ea L.length ec, .string tree, .slice pa pars.length pc, .int .i64 height, .string note] 25))
  have hE' := Lib.hid (hE.below (hb0.out))
  have hP' := Lib.hid (hP.below (hb0.out))
  dsimp only at cT cC hE' hP' ⊢
  clear hE hP
  by_cases h1 : kind = 1
  · subst h1
    clear cT cC hE' hP'
    go_enter Tryd.func14, Tryd.ntmps14
    go_wp2
    go_ret
    refine ⟨ret_b ?_, hb0.out⟩
    rw [Bool.eq_iff_iff]; simp; omega
  · have d1 : (kind == 1) = false := by simpa using h1
    rw [if_neg h1]
    by_cases h2 : kind = 2
    · subst h2
      clear cC hP'
      rw [if_pos rfl]
      go_enter Tryd.func14, Tryd.ntmps14
      go_wp2_with fail
      refine (cT.out _ hE'.out).mono ?_
      rintro r w1 ⟨rfl, b1⟩
      replace hb0 := Lib.hid (hb0.out.trans (b1.mono hb0.out.size))
      clear cT hE' b1
      go_wp2
      go_ret
      exact ⟨rfl, hb0.out⟩
    · have d2 : (kind == 2) = false := by simpa using h2
      rw [if_neg h2]
      clear cT hE'
      by_cases h3 : kind = 3
      · subst h3
        rw [if_pos rfl]
        go_enter Tryd.func14, Tryd.ntmps14
        go_wp2_with fail
        refine (cC.out _ hP'.out).mono ?_
        rintro r w1 ⟨rfl, b1⟩
        replace hb0 := Lib.hid (hb0.out.trans (b1.mono hb0.out.size))
        clear cC hP' b1
        go_wp2
        go_ret
        exact ⟨rfl, hb0.out⟩
      · have d3 : (kind == 3) = false := by simpa using h3
        rw [if_neg h3]
        replace h1 := Lib.hid h1
        replace h2 := Lib.hid h2
        replace h3 := Lib.hid h3
        clear cC hP'
        go_enter Tryd.func14, Tryd.ntmps14
        go_wp2
        go_ret
        exact ⟨rfl, hb0.out⟩
end Go.Proofs.YtmbbnabongnojaaDoor.Ob
