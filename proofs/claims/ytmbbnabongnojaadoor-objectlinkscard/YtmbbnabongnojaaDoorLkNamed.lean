/-
  object's named makes the list of what an object names, in memory of its own; old memory stays. Conditions: an object whose lists are short.
-/
import Derived.Test.YtmbbnabongnojaaDoorRows
import Derived.Test.YtmbbnabongnojaaDoorObPlain
import Derived.Test.YtmbbnabongnojaaDoorLkPlain
import Derived.Test.YtmbbnabongnojaaDoorObGood
import Derived.Test.YtmbbnabongnojaaDoorObWrite
import Derived.Test.YtmbbnabongnojaaDoorObOwn
import Derived.Test.YtmbbnabongnojaaDoorObHave
import Derived.Test.YtmbbnabongnojaaDoorOctKit
import Derived.WalkKit
import Derived.WalkSpells
import Derived.WalkLawsBesides
import Derived.ProofKit
import Derived.OpenShut
import Derived.Laws.BytesArg
import Derived.Laws.Externs
import Derived.Deep.QuietTactic
import Derived.BigQuiet
import Derived.BigRegion
import Derived.Lib.Hide
import Derived.IntWalk
import Derived.Deep.LoopGhost
import Derived.Laws.AppendOwn
namespace Go.Proofs.YtmbbnabongnojaaDoor.Lk
open Go Go.RowKit Ob
open Oct (empty)

theorem infoLnk : (Tryd.prog.info? 45).map (fun i => (i.zero, i.size, i.bytes)) = some (some (.agg #[.int .i64 0, .string ⟨#[]⟩]), 2, 24) := by kernel_rfl
def cellsL (l : Lnk) : List Value := [.int .i64 l.kind, .string l.id]
def rowL (L : List Lnk) : List Value := L.flatMap cellsL
theorem rowL_snoc (L : List Lnk) (l : Lnk) : rowL L ++ cellsL l = rowL (L ++ [l]) := by simp [rowL]
theorem rowL_at : ∀ (L : List Lnk) (i : Nat) (l : Lnk), L[i]? = some l → (rowL L)[i * 2]? = some (.int .i64 l.kind) ∧ (rowL L)[i * 2 + 1]? = some (.string l.id)
  | [], i, e, h => by simp at h
  | x :: L, 0, e, h => by simp at h; subst h; simp [rowL, cellsL]
  | x :: L, i + 1, e, h => by
    have ih := rowL_at L i e (by simpa using h)
    have hc : rowL (x :: L) = cellsL x ++ rowL L := by simp [rowL]
    have hl : (cellsL x).length = 2 := rfl
    rw [hc, show (i + 1) * 2 = i * 2 + 2 by omega]
    refine ⟨?_, ?_⟩
    · rw [List.getElem?_append_right (by omega), hl]; exact ih.1
    · rw [List.getElem?_append_right (by omega), hl, show i * 2 + 2 + 1 - 2 = i * 2 + 1 by omega]; exact ih.2
/-- the links of a list in memory -/
structure LinksAt (w : World) (a : Option Addr) (b off : Nat) (L : List Lnk) : Prop where
  addr : 0 < L.length → a = some ⟨b, off, none⟩
  kind : ∀ i l, L[i]? = some l → w.cell? ⟨b, off + i * 2, none⟩ = some (.int .i64 l.kind)
  id : ∀ i l, L[i]? = some l → w.cell? ⟨b, off + i * 2 + 1, none⟩ = some (.string l.id)
theorem LinksAt.nil (w : World) (a : Option Addr) : LinksAt w a 0 0 [] := ⟨fun h => absurd h (Nat.lt_irrefl _), fun i e he => by simp at he, fun i e he => by simp at he⟩
theorem LinksAt.where_ {w : World} {a : Option Addr} {b off : Nat} {L : List Lnk} (h : LinksAt w a b off L) (h0 : 0 < L.length) : b < w.heap.size := Oct.lt_of_cell (h.kind 0 _ (List.getElem?_eq_getElem h0))
theorem LinksAt.turn {w w' : World} {a : Option Addr} {b off : Nat} {L : List Lnk} (h : LinksAt w a b off L) (t : 0 < L.length → w'.heap[b]? = w.heap[b]?) : LinksAt w' a b off L := by
  have hpos : ∀ i l, L[i]? = some l → 0 < L.length := fun i l he => by have := (List.getElem?_eq_some_iff.1 he).1; omega
  exact ⟨h.addr, fun i l he => (World.cell?_of_block (w := w) (a := ⟨b, off + i * 2, none⟩) (t (hpos i l he))).trans (h.kind i l he), fun i l he => (World.cell?_of_block (w := w) (a := ⟨b, off + i * 2 + 1, none⟩) (t (hpos i l he))).trans (h.id i l he)⟩
theorem LinksAt.below {w w' : World} {a : Option Addr} {b off : Nat} {L : List Lnk} (h : LinksAt w a b off L) (t : Below w.heap.size w w') : LinksAt w' a b off L := h.turn fun h0 => t.block b (h.where_ h0)
/-- a slice of links in a row of the call's own -/
def OwnK (B : Nat) (w : World) (v : Value) (L : List Lnk) : Prop := w.ownsRow B 45 2 v L.length (rowL L)
theorem OwnK.nil (B : Nat) (w : World) : OwnK B w (.slice none 0 0) [] := World.ownsRow_nil _ _ _ _
theorem OwnK.new (w : World) (B : Nat) (hB : B ≤ w.heap.size) : OwnK B (w.alloc (.cells #[] 45)) (.slice (some ⟨w.heap.size, 0, none⟩) 0 0) [] := by
  refine ⟨by simp [rowL], Or.inr ⟨w.heap.size, 0, #[], rfl, hB, (show _ = _ by show (w.heap.push _)[w.heap.size]? = _; simp), by simp, by simp [maxLen], by simp, by simp [rowL]⟩⟩
theorem OwnK.below {B : Nat} {w w' : World} {v : Value} {L : List Lnk} (h : OwnK B w v L) (b : Below w.heap.size w w') : OwnK B w' v L := owns_turn h fun g hg => b.block g (h.lt g hg).2
theorem OwnK.mono {B C : Nat} {w : World} {v : Value} {L : List Lnk} (h : OwnK B w v L) (hC : C ≤ B) : OwnK C w v L := by
  refine ⟨h.1, ?_⟩
  rcases h.2 with g | ⟨g, cap, cur, e1, e2, e3⟩
  · exact Or.inl g
  · exact Or.inr ⟨g, cap, cur, e1, Nat.le_trans hC e2, e3⟩
theorem OwnK.links {B : Nat} {w : World} {v : Value} {L : List Lnk} (h : OwnK B w v L) : ∃ a cap b off, v = .slice a L.length cap ∧ LinksAt w a b off L ∧ L.length ≤ cap := by
  rcases h.2 with ⟨hv, h0⟩ | ⟨g, cap, cur, hv, h1, h2, h3, _⟩
  · refine ⟨none, 0, 0, 0, by rw [hv, h0], ⟨fun h => by omega, fun i e he => ?_, fun i e he => ?_⟩, by omega⟩
    all_goals (have := (List.getElem?_eq_some_iff.1 he).1; omega)
  · have hb : v.ownBlock = some g := by rw [hv]; rfl
    refine ⟨some ⟨g, 0, none⟩, cap, g, 0, hv, ⟨fun _ => rfl, fun i e he => ?_, fun i e he => ?_⟩, h3⟩
    · have := World.ownsRow.cells h hb _ _ (rowL_at L i e he).1; rwa [Addr.add_mid] at this
    · have := World.ownsRow.cells h hb _ _ (rowL_at L i e he).2; rw [Addr.add_mid] at this; rw [Nat.add_assoc]; exact this
/-- append(links, l), as the walk stands at it -/
theorem wp_append_link {ops : Array Oper} {rest : List Oper} {o : Oper} {a : Act} {Q : Exit → Act → World → Prop} {w : World} (hgd : o.guard = none) (s x : Operand)
    (ho : o.op = .call { callee := .builtin .append, args := #[s, x], argTypes := #[32, 32] })
    (B : Nat) (v : Value) (L : List Lnk) (l : Lnk) (hs : a.eval s = v) (hx : a.eval x = .slice (some ⟨w.heap.size, 0, none⟩) 1 1)
    (hown : OwnK B w v L) (hB : B ≤ w.heap.size) (hlen : L.length ≤ 1099511627776)
    (h : ∀ v' w', OwnK B w' v' (L ++ [l]) → (∀ u, Below B u w → Below B u w') → wpList Tryd.prog ops Q rest (a.put o.dst v') w') : wpList Tryd.prog ops Q (o :: rest) a (w.alloc (.cells #[.int .i64 l.kind, .string l.id] 45)) := by
  obtain ⟨i0, hi, hz0, hz1, hz2⟩ := info_parts infoLnk
  have hoA := World.ownsRow.alloc hown (.cells #[.int .i64 l.kind, .string l.id] 45)
  have hnews : ∀ (j : Nat) (u : Value), (cellsL l)[j]? = some u → (w.alloc (.cells #[.int .i64 l.kind, .string l.id] 45)).cell? ((⟨w.heap.size, 0, none⟩ : Addr).add j) = some u := fun j u hj => by
    match j, hj with
    | 0, hj => simp [cellsL] at hj; subst hj; simp [Addr.add]
    | 1, hj => simp [cellsL] at hj; subst hj; simp [Addr.add]
    | j + 2, hj => simp [cellsL] at hj
  refine wpList_append_own _ hgd s x 32 ho B 45 i0 (.agg #[.int .i64 0, .string ⟨#[]⟩]) 2 24 Tryd.underlying32 hi hz0 hz1 hz2 rfl (by decide) v L.length (rowL L) hs hoA ⟨w.heap.size, 0, none⟩ 1 1 (cellsL l) hx rfl hnews
    (fun u hu => by simp [cellsL] at hu; rcases hu with rfl | rfl <;> rfl) (by unfold maxLen; omega) (by omega) (by simp; omega) ?_
  intro v' w' hown' hgrow hnil
  refine h v' w' (by unfold OwnK; rw [← rowL_snoc, List.length_append]; exact hown') fun u hu => ?_
  exact (hu.alloc hB (.cells #[.int .i64 l.kind, .string l.id] 45)).grown hgrow (by simp; omega) (fun k hk => (World.ownsRow.lt hoA k hk).1)
theorem take_snoc {α β : Type} (f : α → β) {L : List α} {k : Nat} (h : k < L.length) : (L.take k).map f ++ [f L[k]] = (L.take (k + 1)).map f := by
  rw [List.take_succ_eq_append_getElem h, List.map_append]; rfl
set_option maxRecDepth 100000 in
set_option maxHeartbeats 2000000 in
theorem named_calls (x : Ob.Obj) (ea : Option Addr) (ec : Nat) (pa : Option Addr) (pc : Nat) (w : World) (hO : ObAt w x ea ec pa pc) (hl1 : x.kind = 2 → x.ents.length ≤ 100000) (hl2 : x.kind = 3 → x.pars.length ≤ 100000) :
    Calls Tryd.prog 37 #[val x ea ec pa pc] w fun e w' => (∃ v, e = .returned v ∧ OwnK (w.heap.size + 1) w' v (ofObj x)) ∧ Below w.heap.size w w' := by
  have hX := Lib.hid (Have.new hO)
  have hB := Lib.hid (b_alloc w (.cells (cellsOf x ea ec pa pc) 25))
  have hs1 : Hid ((w.alloc (.cells (cellsOf x ea ec pa pc) 25)).heap.size = w.heap.size + 1) := Lib.hid (by simp)
  unfold ofObj
  by_cases k2 : x.kind = 2
  · rw [if_pos k2]
    have d2 : (x.kind == 2) = true := by simpa using k2
    replace hl1 := hl1 k2
    clear hl2
    replace k2 := Lib.hid k2
    go_enter Tryd.func37, Tryd.ntmps37
    go_wp2
    generalize w.alloc (.cells (cellsOf x ea ec pa pc) 25) = w1 at *
    obtain ⟨eb, eo, hE⟩ := hX.out.at_.ents
    replace hE := Lib.hid hE
    go_loopw [3, 5, 15] (fun l _ i wr => ∃ k : Nat, k ≤ x.ents.length ∧ i = .int .i64 k ∧ OwnK (w.heap.size + 1) wr l ((x.ents.take k).map fun e => ⟨e.kind, e.id⟩) ∧ Below (w.heap.size + 1) w1 wr) (fun _ _ i _ => x.ents.length - (intOf i).toNat)
    case atStart => exact ⟨0, by omega, rfl, OwnK.nil _ _, Below.refl _ _⟩
    case round =>
      obtain ⟨k, hk, rfl, hown, hBr⟩ := hrel
      have hsr := hBr.size
      have hs1' := hs1.out
      by_cases hlt : k < x.ents.length
      · have i1 : (k : Int) < x.ents.length := by omega
        have i0 : 0 ≤ (k : Int) := by omega
        obtain rfl := hE.out.addr (by omega)
        have hgk : x.ents[k]? = some x.ents[k] := List.getElem?_eq_getElem hlt
        have hE' := hE.out.keep hBr (fun h => by have := hE.out.where_ h; omega)
        have c0 := hE'.name k _ hgk
        have c1 := hE'.kind k _ hgk
        have c2 := hE'.id k _ hgk
        have hnx := Lib.hid (take_snoc (fun e : Ent => (⟨e.kind, e.id⟩ : Lnk)) hlt)
        have hlen : ((x.ents.take k).map fun e : Ent => (⟨e.kind, e.id⟩ : Lnk)).length ≤ 1099511627776 := by rw [List.length_map, List.length_take]; omega
        generalize x.ents[k] = e at *
        obtain ⟨n, kd, i⟩ := e
        dsimp only at c0 c1 c2 hnx
        generalize ((x.ents.take k).map fun e : Ent => (⟨e.kind, e.id⟩ : Lnk)) = M at *
        have ho2 := Lib.hid (hown.below (b_alloc wr (.cells #[.string n, .int .i64 kd, .string i] 47)))
        have hB2 := Lib.hid (hBr.trans ((b_alloc wr (.cells #[.string n, .int .i64 kd, .string i] 47)).mono (by omega)))
        have hsz2 : Hid (w.heap.size + 1 ≤ (wr.alloc (.cells #[.string n, .int .i64 kd, .string i] 47)).heap.size) := Lib.hid (by simp; omega)
        have hx3 := Lib.hid (Blk.new wr #[.string n, .int .i64 kd, .string i] 47)
        clear hown hBr hE' hgk
        go_upto_region 7 with (fail)
        generalize wr.alloc (.cells #[.string n, .int .i64 kd, .string i] 47) = w3 at *
        clear c0 c1 c2
        have c1 := hx3.out.cell 1 (v := .int .i64 kd) rfl
        have c2 := hx3.out.cell 2 (v := .string i) rfl
        go_wp2_with (at_builtin; refine wp_append_link rfl _ _ rfl (w.heap.size + 1) u3 M ⟨kd, i⟩ rfl rfl ho2.out hsz2.out hlen ?_)
        intro v' w5 hO5 hB5
        have hB6 := Lib.hid (hB5 _ hB2.out)
        rw [hnx.out] at hO5
        replace hO5 := Lib.hid hO5
        clear ho2 hB2 hB5 hlen c1 c2 hx3
        go_wp2
        exact ⟨⟨k + 1, by omega, by go_num, hO5.out, hB6.out⟩, by simp [intOf]; omega⟩
      · have d3 : decide ((k : Int) < x.ents.length) = false := decide_eq_false (by omega)
        have d4 : (x.ents.length : Int) ≤ k := by omega
        obtain rfl : k = x.ents.length := by omega
        rw [List.take_length] at hown
        replace hown := Lib.hid hown
        replace hB := Lib.hid (hB.out.trans (hBr.mono (by omega)))
        clear hBr
        go_wp2
        go_ret
        exact ⟨⟨_, rfl, hown.out⟩, hB.out⟩
  · rw [if_neg k2]
    have d2 : (x.kind == 2) = false := by simpa using k2
    replace k2 := Lib.hid k2
    by_cases k3 : x.kind = 3
    · rw [if_pos k3]
      have d3 : (x.kind == 3) = true := by simpa using k3
      replace hl2 := hl2 k3
      clear hl1
      replace k3 := Lib.hid k3
      have hle1 : Hid (w.heap.size + 1 ≤ (w.alloc (.cells (cellsOf x ea ec pa pc) 25)).heap.size) := Lib.hid (by simp)
      go_enter Tryd.func37, Tryd.ntmps37
      go_upto_region 10 with (fail)
      generalize w.alloc (.cells (cellsOf x ea ec pa pc) 25) = w1 at *
      have c3 := hX.out.cells.2.2.2.1
      go_wp2_with (at_builtin; refine wp_append_link rfl _ _ rfl (w.heap.size + 1) _ _ ⟨2, x.tree⟩ rfl rfl (OwnK.nil _ _) hle1.out (by decide) ?_)
      intro v1 w2 hO2 hB2
      clear c3
      have hBa := Lib.hid (hB2 w1 (Below.refl _ _))
      replace hO2 := Lib.hid hO2
      have hX2 := Lib.hid ((hBa.out.block w.heap.size (by omega)).trans hX.out.blk)
      obtain ⟨pb, po, hE⟩ := hX.out.at_.pars
      replace hE := Lib.hid hE
      have c4 : w2.cell? ⟨w.heap.size, 4, none⟩ = some (.slice pa x.pars.length pc) := Blk.cell hX2.out 4 rfl
      clear hB2
      go_wp2
      go_loopw [3, 7, 39] (fun l _ i wr => ∃ k : Nat, k ≤ x.pars.length ∧ i = .int .i64 k ∧ OwnK (w.heap.size + 1) wr l (⟨2, x.tree⟩ :: (x.pars.take k).map fun e => ⟨3, e⟩) ∧ Below (w.heap.size + 1) w1 wr) (fun _ _ i _ => x.pars.length - (intOf i).toNat)
      case atStart => exact ⟨0, by omega, rfl, hO2.out, hBa.out⟩
      case round =>
        clear hO2 hBa hX2 c4
        obtain ⟨k, hk, rfl, hown, hBr⟩ := hrel
        have hsr := hBr.size
        have hs1' := hs1.out
        by_cases hlt : k < x.pars.length
        · have i1 : (k : Int) < x.pars.length := by omega
          have i0 : 0 ≤ (k : Int) := by omega
          obtain rfl := hE.out.addr (by omega)
          have hgk : x.pars[k]? = some x.pars[k] := List.getElem?_eq_getElem hlt
          have hE' := hE.out.keep hBr (fun h => by have := hE.out.where_ h; omega)
          have c0 := hE'.cell k _ hgk
          have hnx := Lib.hid (congrArg (List.cons (⟨2, x.tree⟩ : Lnk)) (take_snoc (fun e : ByteArray => (⟨3, e⟩ : Lnk)) hlt))
          have hlen : ((⟨2, x.tree⟩ : Lnk) :: (x.pars.take k).map fun e : ByteArray => (⟨3, e⟩ : Lnk)).length ≤ 1099511627776 := by rw [List.length_cons, List.length_map, List.length_take]; omega
          generalize x.pars[k] = e at *
          rw [← List.cons_append] at hnx
          generalize ((⟨2, x.tree⟩ : Lnk) :: (x.pars.take k).map fun e : ByteArray => (⟨3, e⟩ : Lnk)) = M at *
          have hsz2 : Hid (w.heap.size + 1 ≤ wr.heap.size) := Lib.hid (by omega)
          replace hown := Lib.hid hown
          replace hBr := Lib.hid hBr
          clear hE' hgk hs1'
          go_wp2_with (at_builtin; refine wp_append_link rfl _ _ rfl (w.heap.size + 1) u3 M ⟨3, e⟩ rfl rfl hown.out hsz2.out hlen ?_)
          intro v' w5 hO5 hB5
          have hB6 := Lib.hid (hB5 _ hBr.out)
          rw [hnx.out] at hO5
          replace hO5 := Lib.hid hO5
          clear hown hBr hB5 hlen c0
          go_wp2
          exact ⟨⟨k + 1, by omega, by go_num, hO5.out, hB6.out⟩, by simp [intOf]; omega⟩
        · have d3 : decide ((k : Int) < x.pars.length) = false := decide_eq_false (by omega)
          have d4 : (x.pars.length : Int) ≤ k := by omega
          obtain rfl : k = x.pars.length := by omega
          rw [List.take_length] at hown
          replace hown := Lib.hid hown
          replace hB := Lib.hid (hB.out.trans (hBr.mono (by omega)))
          clear hBr hs1'
          go_wp2
          go_ret
          exact ⟨⟨_, rfl, hown.out⟩, hB.out⟩
    · rw [if_neg k3]
      have d3 : (x.kind == 3) = false := by simpa using k3
      clear hl1 hl2
      replace k3 := Lib.hid k3
      go_enter Tryd.func37, Tryd.ntmps37
      go_wp2
      go_ret
      exact ⟨⟨_, rfl, OwnK.nil _ _⟩, hB.out⟩
end Go.Proofs.YtmbbnabongnojaaDoor.Lk
