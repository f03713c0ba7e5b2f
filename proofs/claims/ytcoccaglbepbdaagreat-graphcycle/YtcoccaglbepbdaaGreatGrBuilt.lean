/-
  Both graphs built from the same nodes: they are one. Conditions: none.
-/
import Derived.Test.YtcoccaglbepbdaaGreatRows
import Derived.Test.YtcoccaglbepbdaaGreatGrRefF
import Derived.Test.YtcoccaglbepbdaaGreatShOpen
import Derived.OwnWalk
namespace Go.Proofs.YtcoccaglbepbdaaGreat.Rg
open Go.RowKit Sh Gr
open Key (lt)
open Ent (key)
open Ti (keysV keysV_len keysV_snoc info_key IsOf)
open Rf (Sl sl_of_owns reads_sl)
attribute [local go_sem] fold_none

/-- an order is no longer than the keys -/
theorem _root_.Go.Proofs.YtcoccaglbepbdaaGreat.Gr.OrdIs.len {G : Gph} {K L : List Int} {c : Int} (h : OrdIs G K L c) : L.length ≤ K.length := by
  rcases h with ⟨_, rfl, _⟩ | ⟨_, S, h2, h3, ⟨_, rfl, _⟩ | ⟨h4, _⟩⟩
  · exact Nat.zero_le _
  · exact Nat.zero_le _
  · rw [(order_stand _ rfl h2 h4).len]
    exact nodup_len S K (rises_nodup h2) fun x hx => (h3 x).1 hx

/-- the set of a list -/
def setOf (M : List Int) : List Int := M.foldl (fun d x => ins x d) []
theorem setOf_of {M L : List Int} (h : IsOf M L) : L = setOf M := (Rf.fold_of h).symm
theorem setOf_one {M L : List Int} (hR : Rises L) (h : ∀ x, x ∈ L ↔ x ∈ M) : L = setOf M := rises_one hR (Rf.fold_rises M List.Pairwise.nil) fun x => by rw [h]; unfold setOf; rw [Rf.fold_mem M List.Pairwise.nil x]; simp
theorem setOf_len (M : List Int) : (setOf M).length ≤ M.length := by have := Rf.fold_len M []; simpa [setOf] using this
/-- the graph of the first n nodes -/
def gph (P : List (Int × Value)) (T : Nat → List Int) : Nat → Gph
  | 0 => Gph.empty
  | i + 1 => (gph P T i).put ((P[i]?.map fun p => p.1).getD 0) (setOf (T i))
theorem gph_len (P : List (Int × Value)) (T : Nat → List Int) : ∀ n, (gph P T n).D.length ≤ n
  | 0 => Nat.le_refl _
  | n + 1 => Nat.le_trans (Gph.put_len _ _ _) (by have := gph_len P T n; omega)
theorem gph_to {P : List (Int × Value)} {T : Nat → List Int} : ∀ n, (∀ i, i < n → (T i).length ≤ 40) → ∀ k, ((gph P T n).T k).length ≤ 40
  | 0, _, _ => Nat.zero_le _
  | n + 1, h, k => by
    show (if k = _ then setOf (T n) else (gph P T n).T k).length ≤ 40
    split
    · exact Nat.le_trans (setOf_len _) (h n (by omega))
    · exact gph_to n (fun i hi => h i (by omega)) k
theorem gph_small {P : List (Int × Value)} {T : Nat → List Int} {n : Nat} (hn : n ≤ 60) (h : ∀ i, i < n → (T i).length ≤ 40) : Small (gph P T n) := ⟨Nat.le_trans (gph_len P T n) hn, gph_to n h⟩

/-- a number is not in a block of one pointer -/
theorem int_not_box {W : World} {m g o : Nat} {t : TypeId} {p : Option Addr} {x : Int} (hm : Boxed W m t (.pointer p)) (hc : W.cell? ⟨g, o, none⟩ = some (.int .i64 x)) : g ≠ m := fun e => by
  subst e
  simp only [World.cell?, show W.heap[g]? = _ from hm] at hc
  cases o with
  | zero => simp at hc
  | succ o => simp at hc
theorem sl_box_grown {W W' : World} {m : Nat} {t : TypeId} {p : Option Addr} {u : Value} {A : List Int} (h : Sl W u A) (hm : Boxed W m t (.pointer p)) (hg : W.grownBy W' (some m)) : Sl W' u A := by
  refine sl_grown2 h hg fun h0 q hq e => ?_
  obtain ⟨s, c, rfl, h1⟩ := h
  obtain ⟨g, o, rfl, hlt, hc⟩ := h1 h0
  have := int_not_box hm (hc 0 h0)
  simp [Value.ownBlock] at e hq
  omega
/-- the document's graph when another's map is written -/
theorem RefAt.grown {W W' : World} {b m : Nat} {t : TypeId} {G : Gph} {p : Option Addr} (h : RefAt W b G) (hm : Boxed W m t (.pointer p)) (hg : W.grownBy W' (some m)) : RefAt W' b G := by
  obtain ⟨s, cap, g, off, P, h1, h2, h3, h4⟩ := h.all
  refine ⟨h.ok, s, cap, g, off, P, (hg.block b h1.lt fun e => ?_).trans h1, h2.turn hg.size fun h0 => hg.block g (h2.addr h0).2 fun e => ?_, h3, fun p hp => sl_box_grown (h4 p hp) hm hg⟩
  · have e : b = m := by simpa using e
    subst e
    have := h1.symm.trans hm
    simp at this
  · have e : g = m := by simpa using e
    have hp0 : P[0]? = some (P[0]'h0) := List.getElem?_eq_getElem h0
    exact int_not_box hm (h2.key 0 _ hp0) e
theorem sl_below {w w' : World} {u : Value} {A : List Int} (h : Sl w u A) (hb : Below w.heap.size w w') : Sl w' u A := h.next hb
/-- both graphs in memory that the call made -/
structure Both (w wr : World) (b m b2 : Nat) (G : Gph) : Prop where
  gr : GraphAt wr b m G
  rf : RefAt wr b2 G
  bel : Below w.heap.size w wr
  lm : w.heap.size ≤ m
  l2 : w.heap.size ≤ b2
theorem Both.next {w wr w' : World} {b m b2 : Nat} {G : Gph} (h : Both w wr b m b2 G) (hb : Below wr.heap.size wr w') : Both w w' b m b2 G :=
  ⟨h.gr.next hb, h.rf.next hb, b_next h.bel hb (Nat.le_refl _), h.lm, h.l2⟩
theorem b_drew1 (w : World) : Below w.heap.size w w.drew := ⟨rfl, rfl, rfl, Nat.le_refl _, fun _ _ => rfl⟩
/-- the one written, the other not yet -/
structure Half (w wr : World) (b m b2 : Nat) (G G' : Gph) : Prop where
  gr : GraphAt wr b m G'
  rf : RefAt wr b2 G
  bel : Below w.heap.size w wr
  lm : w.heap.size ≤ m
  l2 : w.heap.size ≤ b2
theorem Both.half {w wr w' : World} {b m b2 : Nat} {G G' : Gph} (h : Both w wr b m b2 G) (hG : GraphAt w' b m G') (hg : wr.grownBy w' (some m)) : Half w w' b m b2 G G' := by
  obtain ⟨p, hp⟩ := h.gr.mbox
  exact ⟨hG, h.rf.grown hp hg, h.bel.grown hg h.bel.size (fun q e => by simp at e; have := h.lm; omega), h.lm, h.l2⟩
theorem Half.next {w wr w' : World} {b m b2 : Nat} {G G' : Gph} (h : Half w wr b m b2 G G') (hb : Below wr.heap.size wr w') : Half w w' b m b2 G G' :=
  ⟨h.gr.next hb, h.rf.next hb, b_next h.bel hb (Nat.le_refl _), h.lm, h.l2⟩
theorem Half.both {w wr w' : World} {b m b2 : Nat} {G G' : Gph} (h : Half w wr b m b2 G G') (hR : RefAt w' b2 G') (hg : wr.grownBy w' (some b2)) : Both w w' b m b2 G' := by
  obtain ⟨s, cap, g, off, P, h1, -⟩ := h.rf.all
  exact ⟨h.gr.stays (stays_grown (by decide) h1 hg) (stays_grown (by decide) h1 hg) (stays_grown (by decide) h1 hg) (stays_grown (by decide) h1 hg) (stays_grown (by decide) h1 hg), hR, h.bel.grown hg h.bel.size (fun q e => by simp at e; have := h.l2; omega), h.lm, h.l2⟩

/-- what built answers -/
def Built (w : World) (P : List (Int × Value)) (T : Nat → List Int) (e : Ending) (w' : World) : Prop :=
  ∃ b m b2 ok, e = .returned (.tuple #[.pointer (some ⟨b, 0, none⟩), .pointer (some ⟨b2, 0, none⟩), .bool ok]) ∧ Below w.heap.size w w' ∧
    ((ok = false ∧ ¬ (P.length ≤ 60 ∧ ∀ i, i < P.length → (T i).length ≤ 40)) ∨ (ok = true ∧ Small (gph P T P.length) ∧ Both w w' b m b2 (gph P T P.length)))
theorem Built.no {w w' : World} {P : List (Int × Value)} {T : Nat → List Int} {b b2 : Nat} (hb : Below w.heap.size w w') (h : ¬ (P.length ≤ 60 ∧ ∀ i, i < P.length → (T i).length ≤ 40)) : Built w P T (.returned (.tuple #[.pointer (some ⟨b, 0, none⟩), .pointer (some ⟨b2, 0, none⟩), .bool false])) w' := ⟨b, 0, b2, false, rfl, hb, Or.inl ⟨rfl, h⟩⟩
set_option maxRecDepth 100000 in
set_option maxHeartbeats 4000000 in
theorem built_calls (w : World) (s : Option Addr) (cap g off : Nat) (P : List (Int × Value)) (T : Nat → List Int) (hN : NodesAt w s g off P) (hT : ∀ i p, P[i]? = some p → Sl w p.2 (T i)) :
    Calls Tryz.prog 10 #[.slice s P.length cap] w (Built w P T) := by
  have hNew := Lib.hid (New_calls w)
  replace hN := Lib.hid hN
  replace hT := Lib.hid hT
  obtain ⟨n, hn⟩ : ∃ n, Hid (P.length = n) := ⟨_, Lib.hid rfl⟩
  rw [hn.out]
  go_enter Tryz.func10, Tryz.ntmps10
  go_wp2_with fail
  refine hNew.out.mono ?_
  rintro e w1 ⟨b, m, rfl, hbl, hml, hG, b1⟩
  have hB0 : Hid (Both w (w1.alloc (.cells #[.slice none 0 0] 56)) b m w1.heap.size (gph P T 0)) := Lib.hid ⟨hG.next (b_alloc _ _), ⟨Gph.empty_ok, none, 0, 0, 0, [], Boxed.new w1 _ _, ⟨fun h => by simp at h, fun i p h => by simp at h, fun i p h => by simp at h⟩, ⟨List.nodup_nil, fun x => by simp [gph, Gph.empty]⟩, fun p hp => by cases hp⟩, b_then b1 (b_alloc _ _), hml, b1.size⟩
  have b02 := Lib.hid (b_then b1 (b_alloc w1 (.cells #[.slice none 0 0] 56)))
  obtain ⟨b2, hb2⟩ : ∃ b2, Hid (w1.heap.size = b2) := ⟨_, Lib.hid rfl⟩
  rw [hb2.out] at hB0
  clear hbl hml hG b1 hNew
  by_cases hbig : 60 < n
  · have l1 : (60 : Int) < n := by omega
    have hend : Hid (Built w P T (.returned (.tuple #[.pointer (some ⟨b, 0, none⟩), .pointer (some ⟨b2, 0, none⟩), .bool false])) (w1.alloc (.cells #[.slice none 0 0] 56))) := Lib.hid (Built.no b02.out fun h => by have := hn.out; omega)
    clear hbig hB0
    go_wp2
    rw [hb2.out]
    go_ret3
    exact hend.out
  · have l1 : ¬ (60 : Int) < n := by omega
    have hn60 : n ≤ 60 := by omega
    clear hbig
    go_wp2
    rw [hb2.out]
    go_loopw [7] (fun s7 wr => ∃ i : Nat, s7 = .int .i64 (i : Int) ∧ i ≤ n ∧ Hid (∀ j, j < i → (T j).length ≤ 40) ∧ Hid (Both w wr b m b2 (gph P T i))) (fun s7 _ => n - (intOf s7).toNat)
    case atStart => exact ⟨0, rfl, by omega, Lib.hid (fun j h => by omega), hB0⟩
    case round =>
      clear hB0 b02
      obtain ⟨i, rfl, hi, hle, hB⟩ := hrel
      by_cases hlt : i < n
      · have hip : P[i]? = some (P[i]'(by rw [hn.out]; exact hlt)) := List.getElem?_eq_getElem _
        obtain ⟨rfl, hg⟩ := hN.out.addr (by rw [hn.out]; omega)
        have ck := (hB.out.bel.cell (p := ⟨g, off + i * 2, none⟩) hg).trans (hN.out.key i _ hip)
        have cv := (hB.out.bel.cell (p := ⟨g, off + i * 2 + 1, none⟩) hg).trans (hN.out.val i _ hip)
        have hsl := hT.out i _ hip
        have hnx : gph P T (i + 1) = (gph P T i).put (P[i]'(by rw [hn.out]; exact hlt)).1 (setOf (T i)) := by show Gph.put _ ((P[i]?.map fun p => p.1).getD 0) _ = _; rw [hip]; rfl
        generalize P[i]'(by rw [hn.out]; exact hlt) = p at *
        obtain ⟨k, v⟩ := p
        dsimp only at ck cv hsl hnx
        obtain ⟨sv, cv2, rfl, -⟩ := sl_box hsl
        have l2 : (i : Int) < n := by omega
        have l3 : (0 : Int) ≤ i := by omega
        have hw1 : IntKind.i64.wrap ((i : Int) + 1) = ((i + 1 : Nat) : Int) := wrap_nat (i + 1) (by omega)
        have hms : Hid (n - (i + 1) < n - i) := Lib.hid (by omega)
        have hi2 : Hid (i + 1 ≤ n) := Lib.hid (by omega)
        by_cases hl : 40 < (T i).length
        · have l4 : (40 : Int) < (T i).length := by omega
          have hend : Hid (Built w P T (.returned (.tuple #[.pointer (some ⟨b, 0, none⟩), .pointer (some ⟨b2, 0, none⟩), .bool false])) wr) := Lib.hid (Built.no hB.out.bel fun h => by have := h.2 i (by rw [hn.out]; exact hlt); omega)
          clear hB hnx hlt hi hl hip hg hsl
          go_wp2
          go_ret3
          exact hend.out
        · have l4 : ¬ (40 : Int) < (T i).length := by omega
          have hle2 : Hid (∀ j, j < i + 1 → (T j).length ≤ 40) := Lib.hid fun j hj => by
            by_cases e : j = i
            · subst e; omega
            · exact hle.out j (by omega)
          have hDl := gph_len P T i
          have hBd := hB.out.next (b_drew1 wr)
          have hsw : Sl wr (.slice sv (T i).length cv2) (T i) := sl_below hsl hB.out.bel
          have hPut := Lib.hid (Put_calls wr.drew b m _ k sv cv2 (T i) hBd.gr (by omega) (by omega) (reads_sl rfl (hsw.next (b_drew1 wr))))
          have hRP := Lib.hid fun w' (hw : Sl w' (.slice sv (T i).length cv2) (T i)) (hR : RefAt w' b2 (gph P T i)) => RPutG_calls w' b2 _ k _ (T i) hR (by omega) (by omega) hw
          have hcells := Lib.hid fun w' (hb : Below w.heap.size w w') => And.intro ((hb.cell (p := ⟨g, off + i * 2, none⟩) hg).trans (hN.out.key i _ hip)) (And.intro ((hb.cell (p := ⟨g, off + i * 2 + 1, none⟩) hg).trans (hN.out.val i _ hip)) (sl_below hsl hb))
          replace hBd := Lib.hid hBd
          replace hnx := Lib.hid hnx
          clear hB hlt hi hl hip hg hsl hsw hDl
          go_wp2_with fail
          go_still_tail 11, (by kernel_rfl)
          change wpList _ _ _ _ _ wr.drew
          go_wp2_with (go_at_call 35; refine hPut.out.mono ?_; rintro e w3 ⟨rfl, L, hL, hG3, g3⟩; obtain rfl := setOf_of hL; have hH3 := Lib.hid ((hBd.out.half hG3 g3).next (b_drew1 w3)); obtain ⟨ck, cv, hs3⟩ := hcells.out w3.drew hH3.out.bel; have hRP2 := Lib.hid (hRP.out w3.drew hs3 hH3.out.rf); clear hL hG3 g3 hPut hRP hs3 hcells hBd)
          go_still_tail 11, (by kernel_rfl)
          change wpList _ _ _ _ _ w3.drew
          go_wp2_with (go_at_call 36; refine hRP2.out.mono ?_; rintro e w4 ⟨rfl, L, hLR, hLm, hR4, g4⟩; obtain rfl := setOf_one hLR hLm; have hB4 := Lib.hid (hH3.out.both hR4 g4); rw [← hnx.out] at hB4; clear hLR hLm hR4 g4 hRP2 hH3)
          exact ⟨⟨i + 1, by simp, hi2.out, hle2, hB4⟩, by have := hms.out; simp [intOf]; omega⟩
      · obtain rfl : i = n := by omega
        have l2 : ¬ (i : Int) < i := by omega
        have hend : Hid (Built w P T (.returned (.tuple #[.pointer (some ⟨b, 0, none⟩), .pointer (some ⟨b2, 0, none⟩), .bool true])) wr) := Lib.hid ⟨b, m, b2, true, rfl, hB.out.bel, Or.inr ⟨rfl, by rw [hn.out]; exact gph_small hn60 hle.out, by rw [hn.out]; exact hB.out⟩⟩
        clear hB hi
        go_wp2
        go_ret3
        exact hend.out
end Go.Proofs.YtcoccaglbepbdaaGreat.Rg
