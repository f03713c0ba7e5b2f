/-
  A kid's prefix made of bytes written out; texts gathered ahead of a sum; a list of texts appended to a row of the call's own, nil or not; what stays where one block was turned. Conditions: lists are not too long.
-/
import Derived.Test.YtdmpkgdlelagjaaGreatDoorRows
import Derived.Test.YtdmpkgdlelagjaaGreatDoorTrHex
import Derived.Test.YtdmpkgdlelagjaaGreatDoorTrAwk
import Derived.Test.YtdmpkgdlelagjaaGreatDoorTrAlike
import Derived.Deep.AppendSrc
import Derived.Maps.AppendAt
namespace Go.Proofs.YtdmpkgdlelagjaaGreatDoor.Tr
open Go Go.RowKit
open Ident (by_ val dg digit has digits hex)
open Sh (b_alloc b_drew b_drewN b_next b_then Rises)

/-- what is summed: a letter and the texts of a list -/
def acc (c : UInt8) (L : List ByteArray) : ByteArray := ⟨(c :: jn L).toArray⟩
theorem acc_nil (c : UInt8) : acc c [] = ⟨#[c]⟩ := rfl
theorem acc_list (c : UInt8) (L : List ByteArray) : (acc c L).data.toList = c :: jn L := rfl
theorem acc_snoc (c : UInt8) (L : List ByteArray) (x : ByteArray) : acc c L ++ x = acc c (L ++ [x]) := by
  apply ByteArray.ext
  apply Array.toList_inj.1
  rw [ByteArray.data_append, Array.toList_append, acc_list, acc_list]
  unfold jn
  rw [List.flatMap_append]
  simp
theorem acc_size (c : UInt8) (L : List ByteArray) (h : ∀ x ∈ L, x.size = 32) : (acc c L).size = 32 * L.length + 1 := by
  rw [Ident.size_list, acc_list, List.length_cons, jn_len h]
theorem acc_few (L : List ByteArray) (h : ∀ x ∈ L, x.size = 32) (hn : L.length ≤ 30000) (w : World) (hk : Sha.Kc w) :
    Calls Tryz.prog 22 #[.string (acc 108 L)] w fun e w' => e = .returned (.string (few L)) ∧ Below w.heap.size w w' :=
  Sha.Sum_calls (acc 108 L) w hk (by rw [acc_size _ _ h]; omega)
theorem acc_many (L : List ByteArray) (h : ∀ x ∈ L, x.size = 32) (hn : L.length ≤ 30000) (w : World) (hk : Sha.Kc w) :
    Calls Tryz.prog 22 #[.string (acc 107 L)] w fun e w' => e = .returned (.string (many L)) ∧ Below w.heap.size w w' :=
  Sha.Sum_calls (acc 107 L) w hk (by rw [acc_size _ _ h]; omega)
theorem take_next' {L : List ByteArray} {k : Nat} (h : k < L.length) : L.take (k + 1) = L.take k ++ [L[k]] := by
  rw [List.take_add_one, List.getElem?_eq_getElem h]; rfl
/-- a block of zero bytes, a block of one byte -/
abbrev Z31 : Go.Obj := .cells (Array.replicate 31 (.int .u8 0)) 5
abbrev O1 (i : Nat) : Go.Obj := .cells #[.int .u8 (i : Int)] 5
theorem make31 (w : World) : (Instr.makeSlice 42 (.int .i64 31) (.int .i64 31)).run Tryz.prog w = .ok (.slice (some ⟨w.heap.size, 0, none⟩) 31 31) (w.alloc Z31) := make_zs 31 31 rfl (by decide) w
/-- five cells of a block written over -/
theorem CellAt.over {W : World} {b : Nat} {z0 z1 z2 z3 z4 : Value} (h : CellAt W b z0 z1 z2 z3 z4) (u0 u1 u2 u3 u4 : Value) :
    CellAt (((((W.setCell ⟨b, 0, none⟩ u0).setCell ⟨b, 1, none⟩ u1).setCell ⟨b, 2, none⟩ u2).setCell ⟨b, 3, none⟩ u3).setCell ⟨b, 4, none⟩ u4) b u0 u1 u2 u3 u4 := by
  obtain ⟨h0, h1, h2, h3, h4⟩ := h
  have hr := five_range (W := W) (b := b) (fun j hj => by
    match j, hj with
    | 0, _ => exact ⟨_, h0⟩
    | 1, _ => exact ⟨_, h1⟩
    | 2, _ => exact ⟨_, h2⟩
    | 3, _ => exact ⟨_, h3⟩
    | 4, _ => exact ⟨_, h4⟩
    | j + 5, hj => omega) u0 u1 u2 u3 u4
  have r0 := hr 0 u0 rfl
  have r1 := hr 1 u1 rfl
  have r2 := hr 2 u2 rfl
  have r3 := hr 3 u3 rfl
  have r4 := hr 4 u4 rfl
  exact ⟨r0, r1, r2, r3, r4⟩
theorem below_over {w W : World} {b : Nat} (h : Below w.heap.size w W) (hb : w.heap.size ≤ b) (u0 u1 u2 u3 u4 : Value) :
    Below w.heap.size w (((((W.setCell ⟨b, 0, none⟩ u0).setCell ⟨b, 1, none⟩ u1).setCell ⟨b, 2, none⟩ u2).setCell ⟨b, 3, none⟩ u3).setCell ⟨b, 4, none⟩ u4) :=
  (((((h.setCell (p := ⟨b, 0, none⟩) hb _).setCell (p := ⟨b, 1, none⟩) hb _).setCell (p := ⟨b, 2, none⟩) hb _).setCell (p := ⟨b, 3, none⟩) hb _).setCell (p := ⟨b, 4, none⟩) hb _)
theorem new_free (w : World) (u0 u1 u2 u3 u4 : Value) (t : TypeId) {w' : World} (h : Below (w.alloc (.cells #[u0, u1, u2, u3, u4] t)).heap.size (w.alloc (.cells #[u0, u1, u2, u3, u4] t)) w') (o : Nat) : w'.frozen? ⟨w.heap.size, o, none⟩ = false :=
  (h.frozen (p := ⟨w.heap.size, o, none⟩) (by simp)).trans (by simp [go_sem])
/-- a cell's block of zeros -/
abbrev C0 : Go.Obj := .cells #[.string ⟨#[]⟩, .int .i64 0, .string ⟨#[]⟩, .slice none 0 0, .slice none 0 0] 25
structure ZAt (W : World) (b : Nat) : Prop where
  cell : ∀ j, j < 31 → W.cell? ⟨b, j, none⟩ = some (.int .u8 0)
structure OAt (W : World) (b i : Nat) : Prop where
  cell : W.cell? ⟨b, 0, none⟩ = some (.int .u8 (i : Int))
structure Blank (W : World) (b : Nat) : Prop where
  cell : CellAt W b (.string ⟨#[]⟩) (.int .i64 0) (.string ⟨#[]⟩) (.slice none 0 0) (.slice none 0 0)
  free : ∀ o, W.frozen? ⟨b, o, none⟩ = false
theorem ZAt.new (w : World) : ZAt (w.alloc Z31) w.heap.size := ⟨fun j hj => by simp [go_sem, hj]⟩
theorem ZAt.next {w w' : World} {b : Nat} (h : ZAt w b) (t : Below w.heap.size w w') : ZAt w' b := ⟨fun j hj => (t.cell (p := ⟨b, j, none⟩) (Oct.lt_of_cell (h.cell j hj))).trans (h.cell j hj)⟩
theorem OAt.new (w : World) (i : Nat) : OAt (w.alloc (O1 i)) w.heap.size i := ⟨by simp [go_sem]⟩
theorem OAt.next {w w' : World} {b i : Nat} (h : OAt w b i) (t : Below w.heap.size w w') : OAt w' b i := ⟨(t.cell (p := ⟨b, 0, none⟩) (Oct.lt_of_cell h.cell)).trans h.cell⟩
theorem Blank.new (w : World) : Blank (w.alloc C0) w.heap.size := ⟨CellAt.new _ _ _ _ _ _ _, fun o => by simp [go_sem]⟩
theorem Blank.next {w w' : World} {b : Nat} (h : Blank w b) (t : Below w.heap.size w w') : Blank w' b := ⟨h.cell.next t, fun o => (t.frozen (p := ⟨b, o, none⟩) h.cell.lt).trans (h.free o)⟩
theorem ZAt.conv {w : World} {b : Nat} (h : ZAt w b) : (convert 42 9 (.slice (some ⟨b, 0, none⟩) 31 31)).run Tryz.prog w.drew = .ok (.string (zs 31)) w.drew := conv_zs 31 h.cell
theorem OAt.conv {w : World} {b i : Nat} (h : OAt w b i) (hi : i < 16) : (convert 42 9 (.slice (some ⟨b, 0, none⟩) 1 1)).run Tryz.prog w.drew = .ok (.string ⟨#[UInt8.ofNat i]⟩) w.drew := conv_one i (by omega) h.cell
/-! ### a list of texts appended to a row of the call's own; a list but for its first text; memory in which one block was turned -/
theorem OwnT.one (w : World) (B : Nat) (s : ByteArray) (hB : B ≤ w.heap.size) : OwnT B (w.alloc (.cells #[.string s] 9)) (.slice (some ⟨w.heap.size, 0, none⟩) 1 1) [s] := by
  unfold OwnT
  refine ⟨by simp, Or.inr ⟨w.heap.size, 1, #[.string s], rfl, hB, heap_new w _, by simp, by simp [maxLen], by simp, by simp⟩⟩
theorem text_cells {M : List ByteArray} {j : Nat} {u : Value} (h : (M.map Value.string)[j]? = some u) : ∃ s, M[j]? = some s ∧ u = .string s := by
  rw [List.getElem?_map] at h
  cases hM : M[j]? with
  | none => rw [hM] at h; simp at h
  | some s => rw [hM] at h; simp at h; exact ⟨s, rfl, h.symm⟩
/-- append(texts, list...), as the walk stands at it -/
theorem wpl_append_tx {ops : Array Oper} {rest : List Oper} {o : Oper} {a : Act} {Q : Exit → Act → World → Prop} {w : World} (hgd : o.guard = none) (s x : Operand)
    (ho : o.op = .call { callee := .builtin .append, args := #[s, x], argTypes := #[22, 22] }) (B g cap nA : Nat) (A M : List ByteArray) (u : Value) (hA : A.length = nA)
    (hs : a.eval s = .slice (some ⟨g, 0, none⟩) nA cap) (hx : a.eval x = u) (hown : OwnT B w (.slice (some ⟨g, 0, none⟩) nA cap) A) (hM : Lst w u M) (hlen : A.length + M.length ≤ 1000000) (hbase : B ≤ w.heap.size)
    (h : ∀ g' cap' w', OwnT B w' (.slice (some ⟨g', 0, none⟩) (A ++ M).length cap') (A ++ M) → w.grownBy w' (some g) → wpList Tryz.prog ops Q rest (a.put o.dst (.slice (some ⟨g', 0, none⟩) (A ++ M).length cap')) w') :
    wpList Tryz.prog ops Q (o :: rest) a w := by
  subst hA
  obtain ⟨i0, hi, hz0, hz1, hz2⟩ := info_parts infoStr
  obtain ⟨sB, cB, bB, oB, rfl, hcB, hT⟩ := hM
  have hne : (Value.slice (some ⟨g, 0, none⟩) A.length cap) ≠ .slice none 0 0 := by simp
  have fin : ∀ v' w', w'.ownsRow B 9 1 v' (A.length + M.length) (A.map Value.string ++ M.map Value.string) → w.grownBy w' (Value.slice (some ⟨g, 0, none⟩) A.length cap).ownBlock → v' ≠ .slice none 0 0 → wpList Tryz.prog ops Q rest (a.put o.dst v') w' := fun v' w' h1 h2 h3 => by
    rw [← List.map_append, ← List.length_append] at h1
    rcases h1.2 with ⟨e1, _⟩ | ⟨g', cap', cur, hv, _⟩
    · exact absurd e1 h3
    · subst hv
      exact h g' cap' w' h1 h2
  by_cases h0 : ∃ ad, sB = some ad
  · obtain ⟨ad, rfl⟩ := h0
    refine wpList_append_own w hgd s x 22 ho B 9 i0 (.string ⟨#[]⟩) 1 16 Tryz.underlying22 hi hz0 hz1 hz2 rfl (by decide) _ _ _ hs hown ad M.length cB (M.map Value.string) hx (by simp) (fun j u hj => ?_)
      (fun u hu => by obtain ⟨y, _, rfl⟩ := List.mem_map.1 hu; rfl) (by simp [maxLen]; omega) (by omega) hbase fun v' w' h1 h2 h3 => fin v' w' h1 h2 fun e => hne (h3.1 e).1
    obtain ⟨y, hy, rfl⟩ := text_cells hj
    have hl : 0 < M.length := by have := (List.getElem?_eq_some_iff.1 hy).1; omega
    have e := hT.addr hl
    cases e
    rw [Addr.add_mid]
    exact hT.cell j y hy
  · have hn : sB = none := by cases sB with
      | none => rfl
      | some ad => exact absurd ⟨ad, rfl⟩ h0
    subst hn
    have hB0 : M.length = 0 := by
      by_cases hp : 0 < M.length
      · have e := hT.addr hp
        cases e
      · omega
    obtain rfl := List.length_eq_zero_iff.1 hB0
    have hcap : A.length ≤ cap := by
      rcases hown.2 with ⟨e, _⟩ | ⟨g', cap', cur, hv, h1, h2, h3, _⟩
      · exact absurd e hne
      · simp only [Value.slice.injEq] at hv
        omega
    have hrun := run_append_room_src (P := Tryz.prog) w 22 22 o.type 9 i0 Tryz.underlying22 hi g 0 A.length cap (.slice none 0 cB) 0 [] (Src.ofNil w Tryz.underlying22 cB) (by omega) (fun j hj => by simp at hj) (fun j hj => by simp at hj)
    refine wpList_plain hgd fun K hK => ?_
    unfold Oper.wp execOp
    simp only [ho, resolve, invoke, builtin, Sem.run_bind, Sem.run_pure, Result.andThen_ok, List.map_toArray, List.map_cons, List.map_nil, hs, hx]
    have hx2 : (Value.slice none ([] : List ByteArray).length cB) = .slice none 0 cB := rfl
    rw [hx2, hrun]
    refine hK _ _ (fin _ w (by simpa [OwnT] using hown) ⟨rfl, rfl, rfl, Nat.le_refl _, fun _ _ _ => rfl⟩ (by simp))
theorem lst_bare (w : World) (g cap : Nat) : Lst w (.slice (some ⟨g, 0, none⟩) 0 cap) [] := ⟨_, cap, g, 0, rfl, Nat.zero_le _, TxAt.nil _ _ _ _⟩
/-- a row's block is as it was where another one was turned -/
theorem OwnT.turned {B f : Nat} {w w' : World} {v : Value} {L : List ByteArray} (h : OwnT B w v L) (hg : w.grownBy w' (some f)) (hf : ∀ g, v.ownBlock = some g → g ≠ f) : OwnT B w' v L :=
  owns_turn h fun g he => hg.block g (World.ownsRow.lt h g he).2 fun e => hf g he (Option.some.inj e)
theorem TxAt.turned {f off b : Nat} {w w' : World} {a : Option Addr} {L : List ByteArray} (h : TxAt w a b off L) (hg : w.grownBy w' (some f)) (hf : 0 < L.length → b ≠ f) : TxAt w' a b off L :=
  h.turn fun h0 => hg.block b (h.where_ h0) fun e => hf h0 (Option.some.inj e)
/-- a set's box holds one pointer: no text lies there -/
theorem box_not_text {w : World} {f : Nat} {L : List ByteArray} (h : Ts.SetAt w (some ⟨f, 0, none⟩) L) {b o : Nat} {s : ByteArray} (hc : w.cell? ⟨b, o, none⟩ = some (.string s)) : b ≠ f := by
  rintro rfl
  rcases h with ⟨h, _⟩ | ⟨b', p, T, h1, h2, _⟩
  · cases h
  · cases h1
    have hb : w.heap[b]? = some (.cells #[.pointer p] 107) := h2
    simp only [World.cell?, hb] at hc
    match o with
    | 0 => simp at hc
    | o + 1 => simp at hc
theorem box_not_row {w : World} {f B : Nat} {L M : List ByteArray} {v : Value} (h : Ts.SetAt w (some ⟨f, 0, none⟩) L) (ho : OwnT B w v M) : ∀ g, v.ownBlock = some g → g ≠ f := by
  rintro g hg rfl
  rcases h with ⟨h, _⟩ | ⟨b', p, T, h1, h2, _⟩
  · cases h
  · cases h1
    have hb : w.heap[g]? = some (.cells #[.pointer p] 107) := h2
    rcases ho.2 with ⟨e, _⟩ | ⟨g', cap, cur, e, _, e2, _⟩
    · rw [e] at hg; cases hg
    · rw [e] at hg
      cases hg
      rw [hb] at e2
      simp at e2
theorem Lst.turned {f : Nat} {w w' : World} {v : Value} {L M : List ByteArray} (h : Lst w v L) (hg : w.grownBy w' (some f)) (hs : Ts.SetAt w (some ⟨f, 0, none⟩) M) : Lst w' v L := by
  obtain ⟨a, cap, b, off, e, hc, hT⟩ := h
  exact ⟨a, cap, b, off, e, hc, hT.turned hg fun h0 => box_not_text hs (hT.cell 0 _ (List.getElem?_eq_getElem h0))⟩
/-- a set stays where a row of texts was turned -/
theorem set_row {w w' : World} {f g B : Nat} {L M : List ByteArray} {v : Value} (h : Ts.SetAt w (some ⟨f, 0, none⟩) L) (ho : OwnT B w v M) (hv : v.ownBlock = some g) (hg : w.grownBy w' (some g)) : Ts.SetAt w' (some ⟨f, 0, none⟩) L := by
  have hne := box_not_row h ho g hv
  rcases h with ⟨e, _⟩ | ⟨x', px, Tx, e, gx, hx, hf⟩
  · cases e
  · obtain rfl : f = x' := by simpa using e
    refine Or.inr ⟨f, px, Tx, rfl, ?_, hx.kept fun k c z hk => ?_, hf⟩
    · exact (hg.block f gx.lt fun e => hne (by simpa using e.symm)).trans gx
    · refine (hg.block k (Array.getElem?_eq_some_iff.1 hk).1 fun e => ?_).trans hk
      obtain rfl : k = g := by simpa using e
      rcases ho.2 with ⟨e, _⟩ | ⟨g', cap, cur, e, _, e2, _⟩
      · rw [e] at hv; cases hv
      · rw [e] at hv
        cases hv
        rw [hk] at e2
        simp at e2
/-- a list but for its first text, as 's[1:]' lies -/
theorem lst_rest {w : World} {g cap n : Nat} {p : ByteArray} {r : List ByteArray} (h : TxAt w (some ⟨g, 0, none⟩) g 0 (p :: r)) (hn : r.length = n) (hc : n + 1 ≤ cap) : Lst w (.slice (some ⟨g, 1, none⟩) n (cap - 1)) r := by
  subst hn
  refine ⟨some ⟨g, 1, none⟩, cap - 1, g, 1, rfl, by omega, fun _ => rfl, fun i s hs => ?_⟩
  have := h.cell (i + 1) s (by simpa using hs)
  rwa [show 0 + (i + 1) = 1 + i by omega] at this
theorem own_tx {B g n cap : Nat} {w : World} {L : List ByteArray} (h : OwnT B w (.slice (some ⟨g, 0, none⟩) n cap) L) : TxAt w (some ⟨g, 0, none⟩) g 0 L ∧ n = L.length ∧ n ≤ cap ∧ B ≤ g := by
  rcases h.2 with ⟨hv, h0⟩ | ⟨g', cap', cur, hv, h1, h2, h3, _⟩
  · simp at hv
  · have hb : (Value.slice (some ⟨g, 0, none⟩) n cap).ownBlock = some g := rfl
    simp only [Value.slice.injEq, Option.some.injEq, Addr.mk.injEq] at hv
    obtain ⟨⟨rfl, -, -⟩, rfl, rfl⟩ := hv
    refine ⟨⟨fun _ => rfl, fun i e he => ?_⟩, rfl, h3, h1⟩
    have := World.ownsRow.cells h hb i (.string e) (by rw [List.getElem?_map, he]; rfl)
    rwa [Addr.add_mid] at this
end Go.Proofs.YtdmpkgdlelagjaaGreatDoor.Tr
