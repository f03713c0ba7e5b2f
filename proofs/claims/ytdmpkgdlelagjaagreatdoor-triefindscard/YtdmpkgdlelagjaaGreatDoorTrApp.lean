/-
  A list of texts appended to a row of the call's own; a list but for its first text; a row of one text; memory in which one block was turned. Conditions: the lists are not too long.
-/
import Derived.Test.YtdmpkgdlelagjaaGreatDoorRows
import Derived.Test.YtdmpkgdlelagjaaGreatDoorTrAlike
import Derived.Test.YtdmpkgdlelagjaaGreatDoorTrTails
import Derived.Deep.AppendSrc
import Derived.Maps.AppendAt
namespace Go.Proofs.YtdmpkgdlelagjaaGreatDoor.Tr
open Go Go.RowKit
open Ident (by_ val dg digit has digits)
open Sh (b_alloc b_drew b_drewN b_next b_then Rises)

theorem OwnT.one (w : World) (B : Nat) (s : ByteArray) (hB : B ≤ w.heap.size) : OwnT B (w.alloc (.cells #[.string s] 9)) (.slice (some ⟨w.heap.size, 0, none⟩) 1 1) [s] := by
  unfold OwnT
  refine ⟨by simp, Or.inr ⟨w.heap.size, 1, #[.string s], rfl, hB, heap_new w _, by simp, by simp [maxLen], by simp, by simp⟩⟩
theorem text_cells {M : List ByteArray} {j : Nat} {u : Value} (h : (M.map Value.string)[j]? = some u) : ∃ s, M[j]? = some s ∧ u = .string s := by
  rw [List.getElem?_map] at h
  cases hM : M[j]? with
  | none => rw [hM] at h; simp at h
  | some s => rw [hM] at h; simp at h; exact ⟨s, rfl, h.symm⟩
/-- append(texts, list...), as the walk stands at it -/
theorem wpl_append_tx {ops : Array Oper} {rest : List Oper} {o : Oper} {a : Act} {Q : Exit → Act → World → Prop} {w : World} (hgd : o.guard = none) (s x : Operand)
    (ho : o.op = .call { callee := .builtin .append, args := #[s, x], argTypes := #[22, 22] }) (B g cap nA : Nat) (A M : List ByteArray) (u : Value) (hA : A.length = nA)
    (hs : a.eval s = .slice (some ⟨g, 0, none⟩) nA cap) (hx : a.eval x = u) (hown : OwnT B w (.slice (some ⟨g, 0, none⟩) nA cap) A) (hM : Lst w u M) (hlen : A.length + M.length ≤ 1000000) (hbase : B ≤ w.heap.size)
    (h : ∀ g' cap' w', OwnT B w' (.slice (some ⟨g', 0, none⟩) (A ++ M).length cap') (A ++ M) → w.grownBy w' (some g) → wpList Tryz.prog ops Q rest (a.put o.dst (.slice (some ⟨g', 0, none⟩) (A ++ M).length cap')) w') :
    wpList Tryz.prog ops Q (o :: rest) a w := by
  subst hA
  obtain ⟨i0, hi, hz0, hz1, hz2⟩ := info_parts infoStr
  obtain ⟨sB, cB, bB, oB, rfl, hcB, hT⟩ := hM
  have hne : (Value.slice (some ⟨g, 0, none⟩) A.length cap) ≠ .slice none 0 0 := by simp
  have fin : ∀ v' w', w'.ownsRow B 9 1 v' (A.length + M.length) (A.map Value.string ++ M.map Value.string) → w.grownBy w' (Value.slice (some ⟨g, 0, none⟩) A.length cap).ownBlock → v' ≠ .slice none 0 0 → wpList Tryz.prog ops Q rest (a.put o.dst v') w' := fun v' w' h1 h2 h3 => by
    rw [← List.map_append, ← List.length_append] at h1
    rcases h1.2 with ⟨e1, _⟩ | ⟨g', cap', cur, hv, _⟩
    · exact absurd e1 h3
    · subst hv
      exact h g' cap' w' h1 h2
  by_cases h0 : ∃ ad, sB = some ad
  · obtain ⟨ad, rfl⟩ := h0
    refine wpList_append_own w hgd s x 22 ho B 9 i0 (.string ⟨#[]⟩) 1 16 Tryz.underlying22 hi hz0 hz1 hz2 rfl (by decide) _ _ _ hs hown ad M.length cB (M.map Value.string) hx (by simp) (fun j u hj => ?_)
      (fun u hu => by obtain ⟨y, _, rfl⟩ := List.mem_map.1 hu; rfl) (by simp [maxLen]; omega) (by omega) hbase fun v' w' h1 h2 h3 => fin v' w' h1 h2 fun e => hne (h3.1 e).1
    obtain ⟨y, hy, rfl⟩ := text_cells hj
    have hl : 0 < M.length := by have := (List.getElem?_eq_some_iff.1 hy).1; omega
    have e := hT.addr hl
    cases e
    rw [Addr.add_mid]
    exact hT.cell j y hy
  · have hn : sB = none := by cases sB with
      | none => rfl
      | some ad => exact absurd ⟨ad, rfl⟩ h0
    subst hn
    have hB0 : M.length = 0 := by
      by_cases hp : 0 < M.length
      · have e := hT.addr hp
        cases e
      · omega
    obtain rfl := List.length_eq_zero_iff.1 hB0
    have hcap : A.length ≤ cap := by
      rcases hown.2 with ⟨e, _⟩ | ⟨g', cap', cur, hv, h1, h2, h3, _⟩
      · exact absurd e hne
      · simp only [Value.slice.injEq] at hv
        omega
    have hrun := run_append_room_src (P := Tryz.prog) w 22 22 o.type 9 i0 Tryz.underlying22 hi g 0 A.length cap (.slice none 0 cB) 0 [] (Src.ofNil w Tryz.underlying22 cB) (by omega) (fun j hj => by simp at hj) (fun j hj => by simp at hj)
    refine wpList_plain hgd fun K hK => ?_
    unfold Oper.wp execOp
    simp only [ho, resolve, invoke, builtin, Sem.run_bind, Sem.run_pure, Result.andThen_ok, List.map_toArray, List.map_cons, List.map_nil, hs, hx]
    have hx2 : (Value.slice none ([] : List ByteArray).length cB) = .slice none 0 cB := rfl
    rw [hx2, hrun]
    refine hK _ _ (fin _ w (by simpa [OwnT] using hown) ⟨rfl, rfl, rfl, Nat.le_refl _, fun _ _ _ => rfl⟩ (by simp))
/-- a row's block is as it was where another one was turned -/
theorem OwnT.turned {B f : Nat} {w w' : World} {v : Value} {L : List ByteArray} (h : OwnT B w v L) (hg : w.grownBy w' (some f)) (hf : ∀ g, v.ownBlock = some g → g ≠ f) : OwnT B w' v L :=
  owns_turn h fun g he => hg.block g (World.ownsRow.lt h g he).2 fun e => hf g he (Option.some.inj e)
theorem TxAt.turned {f off b : Nat} {w w' : World} {a : Option Addr} {L : List ByteArray} (h : TxAt w a b off L) (hg : w.grownBy w' (some f)) (hf : 0 < L.length → b ≠ f) : TxAt w' a b off L :=
  h.turn fun h0 => hg.block b (h.where_ h0) fun e => hf h0 (Option.some.inj e)
/-- a set's box holds one pointer: no text lies there -/
theorem box_not_text {w : World} {f : Nat} {L : List ByteArray} (h : Ts.SetAt w (some ⟨f, 0, none⟩) L) {b o : Nat} {s : ByteArray} (hc : w.cell? ⟨b, o, none⟩ = some (.string s)) : b ≠ f := by
  rintro rfl
  rcases h with ⟨h, _⟩ | ⟨b', p, T, h1, h2, _⟩
  · cases h
  · cases h1
    have hb : w.heap[b]? = some (.cells #[.pointer p] 107) := h2
    simp only [World.cell?, hb] at hc
    match o with
    | 0 => simp at hc
    | o + 1 => simp at hc
theorem box_not_row {w : World} {f B : Nat} {L M : List ByteArray} {v : Value} (h : Ts.SetAt w (some ⟨f, 0, none⟩) L) (ho : OwnT B w v M) : ∀ g, v.ownBlock = some g → g ≠ f := by
  rintro g hg rfl
  rcases h with ⟨h, _⟩ | ⟨b', p, T, h1, h2, _⟩
  · cases h
  · cases h1
    have hb : w.heap[g]? = some (.cells #[.pointer p] 107) := h2
    rcases ho.2 with ⟨e, _⟩ | ⟨g', cap, cur, e, _, e2, _⟩
    · rw [e] at hg; cases hg
    · rw [e] at hg
      cases hg
      rw [hb] at e2
      simp at e2
theorem Lst.turned {f : Nat} {w w' : World} {v : Value} {L M : List ByteArray} (h : Lst w v L) (hg : w.grownBy w' (some f)) (hs : Ts.SetAt w (some ⟨f, 0, none⟩) M) : Lst w' v L := by
  obtain ⟨a, cap, b, off, e, hc, hT⟩ := h
  exact ⟨a, cap, b, off, e, hc, hT.turned hg fun h0 => box_not_text hs (hT.cell 0 _ (List.getElem?_eq_getElem h0))⟩
/-- a set stays where a row of texts was turned -/
theorem set_row {w w' : World} {f g B : Nat} {L M : List ByteArray} {v : Value} (h : Ts.SetAt w (some ⟨f, 0, none⟩) L) (ho : OwnT B w v M) (hv : v.ownBlock = some g) (hg : w.grownBy w' (some g)) : Ts.SetAt w' (some ⟨f, 0, none⟩) L := by
  have hne := box_not_row h ho g hv
  rcases h with ⟨e, _⟩ | ⟨x', px, Tx, e, gx, hx, hf⟩
  · cases e
  · obtain rfl : f = x' := by simpa using e
    refine Or.inr ⟨f, px, Tx, rfl, ?_, hx.kept fun k c z hk => ?_, hf⟩
    · exact (hg.block f gx.lt fun e => hne (by simpa using e.symm)).trans gx
    · refine (hg.block k (Array.getElem?_eq_some_iff.1 hk).1 fun e => ?_).trans hk
      obtain rfl : k = g := by simpa using e
      rcases ho.2 with ⟨e, _⟩ | ⟨g', cap, cur, e, _, e2, _⟩
      · rw [e] at hv; cases hv
      · rw [e] at hv
        cases hv
        rw [hk] at e2
        simp at e2
/-- a list but for its first text, as 's[1:]' lies -/
theorem lst_rest {w : World} {g cap n : Nat} {p : ByteArray} {r : List ByteArray} (h : TxAt w (some ⟨g, 0, none⟩) g 0 (p :: r)) (hn : r.length = n) (hc : n + 1 ≤ cap) : Lst w (.slice (some ⟨g, 1, none⟩) n (cap - 1)) r := by
  subst hn
  refine ⟨some ⟨g, 1, none⟩, cap - 1, g, 1, rfl, by omega, fun _ => rfl, fun i s hs => ?_⟩
  have := h.cell (i + 1) s (by simpa using hs)
  rwa [show 0 + (i + 1) = 1 + i by omega] at this
theorem own_tx {B g n cap : Nat} {w : World} {L : List ByteArray} (h : OwnT B w (.slice (some ⟨g, 0, none⟩) n cap) L) : TxAt w (some ⟨g, 0, none⟩) g 0 L ∧ n = L.length ∧ n ≤ cap ∧ B ≤ g := by
  rcases h.2 with ⟨hv, h0⟩ | ⟨g', cap', cur, hv, h1, h2, h3, _⟩
  · simp at hv
  · have hb : (Value.slice (some ⟨g, 0, none⟩) n cap).ownBlock = some g := rfl
    simp only [Value.slice.injEq, Option.some.injEq, Addr.mk.injEq] at hv
    obtain ⟨⟨rfl, -, -⟩, rfl, rfl⟩ := hv
    refine ⟨⟨fun _ => rfl, fun i e he => ?_⟩, rfl, h3, h1⟩
    have := World.ownsRow.cells h hb i (.string e) (by rw [List.getElem?_map, he]; rfl)
    rwa [Addr.add_mid] at this
end Go.Proofs.YtdmpkgdlelagjaaGreatDoor.Tr
