/-
  Items and texts in memory, rows of them of the call's own that grow by append, blocks of known cells, what a call leaves alone; the program's tables lie where its variables are. Conditions: none.
-/
import Derived.Test.YtliojhhiadfmiaaDoorRows
import Derived.Test.YtliojhhiadfmiaaDoorPkBack
import Derived.Test.YtliojhhiadfmiaaDoorOctCalls
import Derived.Test.YtliojhhiadfmiaaDoorOctKit
import Derived.Test.YtliojhhiadfmiaaDoorShaSum
import Derived.Test.YtliojhhiadfmiaaDoorCrcCalls
import Derived.WalkKit
import Derived.WalkSpells
import Derived.WalkLawsBesides
import Derived.ProofKit
import Derived.OpenShut
import Derived.Lib.Hide
import Derived.Laws.OwnMore
import Derived.Deep.OwnRows
import Derived.Laws.AppendOwn
namespace Go.Proofs.YtliojhhiadfmiaaDoor.Pk
open Go Go.RowKit
open Oct (empty num4 Only)

theorem b_alloc (w : World) (o : Go.Obj) : Below w.heap.size w (w.alloc o) := (Below.refl _ _).alloc (Nat.le_refl _) o
theorem b_refl (w : World) : Below w.heap.size w w := Below.refl _ _
theorem b_drewN (w : World) (n : Nat) : Below w.heap.size w (w.drewN n) := ⟨rfl, rfl, rfl, Nat.le_refl _, fun _ _ => rfl⟩
theorem b_drew (w : World) : Below w.heap.size w w.drew := ⟨rfl, rfl, rfl, Nat.le_refl _, fun _ _ => rfl⟩
theorem below_next {w u v : World} (h : Below w.heap.size w u) (g : Below u.heap.size u v) : Below w.heap.size w v := h.trans (g.mono h.size)
theorem heap_new (w : World) (o : Go.Obj) : (w.alloc o).heap[w.heap.size]? = some o := by show (w.heap.push _)[w.heap.size]? = _; simp
theorem owns_turn {w w' : World} {base : Nat} {e : TypeId} {size n : Nat} {v : Value} {xs : List Value} (h : w.ownsRow base e size v n xs) (t : ∀ g, v.ownBlock = some g → w'.heap[g]? = w.heap[g]?) : w'.ownsRow base e size v n xs := by
  refine ⟨h.1, ?_⟩
  rcases h.2 with g | ⟨g, cap, cur, e1, e2, e3, e4⟩
  · exact Or.inl g
  · exact Or.inr ⟨g, cap, cur, e1, e2, (t g (by rw [e1]; rfl)).trans e3, e4⟩

/-! ### blocks of known cells -/
abbrev Blk (w : World) (b : Nat) (cs : Array Value) (T : TypeId) : Prop := w.heap[b]? = some (.cells cs T (0, 0))
theorem Blk.lt {w : World} {b : Nat} {cs : Array Value} {T : TypeId} (h : Blk w b cs T) : b < w.heap.size := (Array.getElem?_eq_some_iff.1 h).1
theorem Blk.cell {w : World} {b : Nat} {cs : Array Value} {T : TypeId} (h : Blk w b cs T) (j : Nat) {v : Value} (e : cs[j]? = some v) : w.cell? ⟨b, j, none⟩ = some v := by rw [Lib.cell_of_heap h]; exact e
theorem Blk.frozen {w : World} {b : Nat} {cs : Array Value} {T : TypeId} (h : Blk w b cs T) (j : Nat) : w.frozen? ⟨b, j, none⟩ = false := Lib.frozen_of_heap h j
theorem Blk.new (w : World) (cs : Array Value) (T : TypeId) : Blk (w.alloc (.cells cs T)) w.heap.size cs T := heap_new w _
theorem Blk.set {w : World} {b : Nat} {cs : Array Value} {T : TypeId} (h : Blk w b cs T) (j : Nat) (v : Value) : Blk (w.setCell ⟨b, j, none⟩ v) b (cs.setIfInBounds j v) T := by
  unfold Blk at h ⊢
  simp [World.setCell, Array.getElem?_modify, h]
theorem Blk.below {w w' : World} {b B : Nat} {cs : Array Value} {T : TypeId} (h : Blk w b cs T) (o : Below B w w') (hk : b < B) : Blk w' b cs T := (o.block b hk).trans h
theorem Blk.next {w w' : World} {b : Nat} {cs : Array Value} {T : TypeId} (h : Blk w b cs T) (o : Below w.heap.size w w') : Blk w' b cs T := h.below o h.lt
theorem Blk.alloc {w : World} {b : Nat} {cs : Array Value} {T : TypeId} (h : Blk w b cs T) (o : Go.Obj) : Blk (w.alloc o) b cs T := h.next (b_alloc w o)

/-! ### the tables -/
structure Ev (w : World) : Prop where
  kc : Sha.Kc w
  tb : Crc.Tb w
theorem Ev.next {w w' : World} (h : Ev w) (t : Below w.heap.size w w') : Ev w' :=
  ⟨⟨fun i hi => (t.cell (p := ⟨0, i, none⟩) h.kc.pos).trans (h.kc.cell i hi)⟩, h.tb.below t h.tb.pos⟩
theorem Ev.mono {w w' : World} {B : Nat} (h : Ev w) (t : Below B w w') (hB : 3 < B) : Ev w' :=
  ⟨⟨fun i hi => (t.cell (p := ⟨0, i, none⟩) (by show 0 < B; omega)).trans (h.kc.cell i hi)⟩, h.tb.below t (by omega)⟩
theorem Ev.pos {w : World} (h : Ev w) : 3 < w.heap.size := h.tb.pos

/-! ### texts in memory -/
structure TxAt (w : World) (a : Option Addr) (b off : Nat) (L : List ByteArray) : Prop where
  addr : 0 < L.length → a = some ⟨b, off, none⟩
  cell : ∀ i s, L[i]? = some s → w.cell? ⟨b, off + i, none⟩ = some (.string s)
theorem TxAt.nil (w : World) (a : Option Addr) : TxAt w a 0 0 [] := ⟨fun h => absurd h (Nat.lt_irrefl _), fun i e he => by simp at he⟩
theorem TxAt.where_ {w : World} {a : Option Addr} {b off : Nat} {L : List ByteArray} (h : TxAt w a b off L) (h0 : 0 < L.length) : b < w.heap.size := Oct.lt_of_cell (h.cell 0 _ (List.getElem?_eq_getElem h0))
theorem TxAt.turn {w w' : World} {a : Option Addr} {b off : Nat} {L : List ByteArray} (h : TxAt w a b off L) (t : 0 < L.length → w'.heap[b]? = w.heap[b]?) : TxAt w' a b off L := by
  have hpos : ∀ i l, L[i]? = some l → 0 < L.length := fun i l he => by have := (List.getElem?_eq_some_iff.1 he).1; omega
  exact ⟨h.addr, fun i l he => (World.cell?_of_block (w := w) (a := ⟨b, off + i, none⟩) (t (hpos i l he))).trans (h.cell i l he)⟩
theorem TxAt.next {w w' : World} {a : Option Addr} {b off : Nat} {L : List ByteArray} (h : TxAt w a b off L) (t : Below w.heap.size w w') : TxAt w' a b off L := h.turn fun h0 => t.block b (h.where_ h0)
theorem TxAt.below {w w' : World} {a : Option Addr} {b off B : Nat} {L : List ByteArray} (h : TxAt w a b off L) (t : Below B w w') (hb : 0 < L.length → b < B) : TxAt w' a b off L := h.turn fun h0 => t.block b (hb h0)
theorem infoStr : (Tryd.prog.info? 9).map (fun i => (i.zero, i.size, i.bytes)) = some (some (.string ⟨#[]⟩), 1, 16) := by kernel_rfl
def OwnT (B : Nat) (w : World) (v : Value) (L : List ByteArray) : Prop := w.ownsRow B 9 1 v L.length (L.map Value.string)
theorem OwnT.nil (B : Nat) (w : World) : OwnT B w (.slice none 0 0) [] := World.ownsRow_nil w B _ 1
theorem OwnT.next {B : Nat} {w w' : World} {v : Value} {L : List ByteArray} (h : OwnT B w v L) (b : Below w.heap.size w w') : OwnT B w' v L := owns_turn h fun g hg => b.block g (h.lt g hg).2
theorem OwnT.new (w : World) (B : Nat) (hB : B ≤ w.heap.size) : OwnT B (w.alloc (.cells #[] 9)) (.slice (some ⟨w.heap.size, 0, none⟩) 0 0) [] := by
  unfold OwnT
  refine ⟨by simp, Or.inr ⟨w.heap.size, 0, #[], rfl, hB, heap_new w _, by simp, by simp [maxLen], by simp, by simp⟩⟩
theorem OwnT.at_ {B : Nat} {w : World} {v : Value} {L : List ByteArray} (h : OwnT B w v L) : ∃ a cap b off, v = .slice a L.length cap ∧ TxAt w a b off L ∧ L.length ≤ cap ∧ (0 < L.length → B ≤ b) := by
  rcases h.2 with ⟨hv, h0⟩ | ⟨g, cap, cur, hv, h1, h2, h3, _⟩
  · refine ⟨none, 0, 0, 0, by rw [hv, h0], ⟨fun h => by omega, fun i e he => ?_⟩, by omega, fun h => by omega⟩
    have := (List.getElem?_eq_some_iff.1 he).1; omega
  · have hb : v.ownBlock = some g := by rw [hv]; rfl
    refine ⟨some ⟨g, 0, none⟩, cap, g, 0, hv, ⟨fun _ => rfl, fun i e he => ?_⟩, h3, fun _ => h1⟩
    have := World.ownsRow.cells h hb i (.string e) (by rw [List.getElem?_map, he]; rfl)
    rwa [Addr.add_mid] at this
/-- append(texts, t), as the walk stands at it -/
theorem wp_append_tx {ops : Array Oper} {rest : List Oper} {o : Oper} {a : Act} {Q : Exit → Act → World → Prop} {w : World} (hgd : o.guard = none) (s x : Operand)
    (ho : o.op = .call { callee := .builtin .append, args := #[s, x], argTypes := #[22, 22] })
    (B : Nat) (v : Value) (L : List ByteArray) (l : ByteArray) (hs : a.eval s = v) (hx : a.eval x = .slice (some ⟨w.heap.size, 0, none⟩) 1 1)
    (hown : OwnT B w v L) (hB : B ≤ w.heap.size) (hlen : L.length ≤ 1099511627776)
    (h : ∀ v' w', OwnT B w' v' (L ++ [l]) → (∀ u, Below B u w → Below B u w') → wpList Tryd.prog ops Q rest (a.put o.dst v') w') : wpList Tryd.prog ops Q (o :: rest) a (w.alloc (.cells #[.string l] 9)) := by
  obtain ⟨i0, hi, hz0, hz1, hz2⟩ := info_parts infoStr
  have hoA := World.ownsRow.alloc hown (.cells #[.string l] 9)
  have hnews : ∀ (j : Nat) (u : Value), ([.string l] : List Value)[j]? = some u → (w.alloc (.cells #[.string l] 9)).cell? ((⟨w.heap.size, 0, none⟩ : Addr).add j) = some u := fun j u hj => by
    match j, hj with
    | 0, hj => simp at hj; subst hj; simp [Addr.add]
    | j + 1, hj => simp at hj
  refine wpList_append_own _ hgd s x 22 ho B 9 i0 (.string ⟨#[]⟩) 1 16 Tryd.underlying22 hi hz0 hz1 hz2 rfl (by decide) v L.length (L.map Value.string) hs hoA ⟨w.heap.size, 0, none⟩ 1 1 [.string l] hx rfl hnews
    (fun u hu => by simp at hu; subst hu; rfl) (by unfold maxLen; omega) (by omega) (by simp; omega) ?_
  intro v' w' hown' hgrow hnil
  refine h v' w' (by unfold OwnT; rw [List.map_append, List.length_append]; exact hown') fun u hu => ?_
  exact (hu.alloc hB (.cells #[.string l] 9)).grown hgrow (by simp; omega) (fun k hk => (World.ownsRow.lt hoA k hk).1)

/-! ### items in memory -/
theorem infoItm : (Tryd.prog.info? 37).map (fun i => (i.zero, i.size, i.bytes)) = some (some (.agg #[.string ⟨#[]⟩, .string ⟨#[]⟩]), 2, 32) := by kernel_rfl
def cellsI (l : Itm) : List Value := [.string l.id, .string l.data]
def rowI (L : List Itm) : List Value := L.flatMap cellsI
theorem rowI_snoc (L : List Itm) (l : Itm) : rowI L ++ cellsI l = rowI (L ++ [l]) := by simp [rowI]
theorem rowI_at : ∀ (L : List Itm) (i : Nat) (l : Itm), L[i]? = some l → (rowI L)[i * 2]? = some (.string l.id) ∧ (rowI L)[i * 2 + 1]? = some (.string l.data)
  | [], i, e, h => by simp at h
  | x :: L, 0, e, h => by simp at h; subst h; simp [rowI, cellsI]
  | x :: L, i + 1, e, h => by
    have ih := rowI_at L i e (by simpa using h)
    have hc : rowI (x :: L) = cellsI x ++ rowI L := by simp [rowI]
    have hl : (cellsI x).length = 2 := rfl
    rw [hc, show (i + 1) * 2 = i * 2 + 2 by omega]
    refine ⟨?_, ?_⟩
    · rw [List.getElem?_append_right (by omega), hl]; exact ih.1
    · rw [List.getElem?_append_right (by omega), hl, show i * 2 + 2 + 1 - 2 = i * 2 + 1 by omega]; exact ih.2
structure ItAt (w : World) (a : Option Addr) (b off : Nat) (L : List Itm) : Prop where
  addr : 0 < L.length → a = some ⟨b, off, none⟩
  id : ∀ i l, L[i]? = some l → w.cell? ⟨b, off + i * 2, none⟩ = some (.string l.id)
  dat : ∀ i l, L[i]? = some l → w.cell? ⟨b, off + i * 2 + 1, none⟩ = some (.string l.data)
theorem ItAt.nil (w : World) (a : Option Addr) : ItAt w a 0 0 [] := ⟨fun h => absurd h (Nat.lt_irrefl _), fun i e he => by simp at he, fun i e he => by simp at he⟩
theorem ItAt.where_ {w : World} {a : Option Addr} {b off : Nat} {L : List Itm} (h : ItAt w a b off L) (h0 : 0 < L.length) : b < w.heap.size := Oct.lt_of_cell (h.id 0 _ (List.getElem?_eq_getElem h0))
theorem ItAt.turn {w w' : World} {a : Option Addr} {b off : Nat} {L : List Itm} (h : ItAt w a b off L) (t : 0 < L.length → w'.heap[b]? = w.heap[b]?) : ItAt w' a b off L := by
  have hpos : ∀ i l, L[i]? = some l → 0 < L.length := fun i l he => by have := (List.getElem?_eq_some_iff.1 he).1; omega
  exact ⟨h.addr, fun i l he => (World.cell?_of_block (w := w) (a := ⟨b, off + i * 2, none⟩) (t (hpos i l he))).trans (h.id i l he), fun i l he => (World.cell?_of_block (w := w) (a := ⟨b, off + i * 2 + 1, none⟩) (t (hpos i l he))).trans (h.dat i l he)⟩
theorem ItAt.next {w w' : World} {a : Option Addr} {b off : Nat} {L : List Itm} (h : ItAt w a b off L) (t : Below w.heap.size w w') : ItAt w' a b off L := h.turn fun h0 => t.block b (h.where_ h0)
theorem ItAt.below {w w' : World} {a : Option Addr} {b off B : Nat} {L : List Itm} (h : ItAt w a b off L) (t : Below B w w') (hb : 0 < L.length → b < B) : ItAt w' a b off L := h.turn fun h0 => t.block b (hb h0)
def OwnI (B : Nat) (w : World) (v : Value) (L : List Itm) : Prop := w.ownsRow B 37 2 v L.length (rowI L)
theorem OwnI.nil (B : Nat) (w : World) : OwnI B w (.slice none 0 0) [] := World.ownsRow_nil w B _ 2
theorem OwnI.new (w : World) (B : Nat) (hB : B ≤ w.heap.size) : OwnI B (w.alloc (.cells #[] 37)) (.slice (some ⟨w.heap.size, 0, none⟩) 0 0) [] := by
  unfold OwnI
  refine ⟨by simp [rowI], Or.inr ⟨w.heap.size, 0, #[], rfl, hB, heap_new w _, by simp, by simp [maxLen], by simp, by simp [rowI]⟩⟩
theorem OwnI.next {B : Nat} {w w' : World} {v : Value} {L : List Itm} (h : OwnI B w v L) (b : Below w.heap.size w w') : OwnI B w' v L := owns_turn h fun g hg => b.block g (h.lt g hg).2
theorem OwnI.at_ {B : Nat} {w : World} {v : Value} {L : List Itm} (h : OwnI B w v L) : ∃ a cap b off, v = .slice a L.length cap ∧ ItAt w a b off L ∧ L.length ≤ cap ∧ (0 < L.length → B ≤ b) := by
  rcases h.2 with ⟨hv, h0⟩ | ⟨g, cap, cur, hv, h1, h2, h3, _⟩
  · refine ⟨none, 0, 0, 0, by rw [hv, h0], ⟨fun h => by omega, fun i e he => ?_, fun i e he => ?_⟩, by omega, fun h => by omega⟩
    all_goals (have := (List.getElem?_eq_some_iff.1 he).1; omega)
  · have hb : v.ownBlock = some g := by rw [hv]; rfl
    refine ⟨some ⟨g, 0, none⟩, cap, g, 0, hv, ⟨fun _ => rfl, fun i e he => ?_, fun i e he => ?_⟩, h3, fun _ => h1⟩
    · have := World.ownsRow.cells h hb _ _ (rowI_at L i e he).1; rwa [Addr.add_mid] at this
    · have := World.ownsRow.cells h hb _ _ (rowI_at L i e he).2; rw [Addr.add_mid] at this; rw [Nat.add_assoc]; exact this
/-- append(items, l), as the walk stands at it -/
theorem wp_append_it {ops : Array Oper} {rest : List Oper} {o : Oper} {a : Act} {Q : Exit → Act → World → Prop} {w : World} (hgd : o.guard = none) (s x : Operand)
    (ho : o.op = .call { callee := .builtin .append, args := #[s, x], argTypes := #[28, 28] })
    (B : Nat) (v : Value) (L : List Itm) (l : Itm) (hs : a.eval s = v) (hx : a.eval x = .slice (some ⟨w.heap.size, 0, none⟩) 1 1)
    (hown : OwnI B w v L) (hB : B ≤ w.heap.size) (hlen : L.length ≤ 1099511627776)
    (h : ∀ v' w', OwnI B w' v' (L ++ [l]) → (∀ u, Below B u w → Below B u w') → wpList Tryd.prog ops Q rest (a.put o.dst v') w') : wpList Tryd.prog ops Q (o :: rest) a (w.alloc (.cells #[.string l.id, .string l.data] 37)) := by
  obtain ⟨i0, hi, hz0, hz1, hz2⟩ := info_parts infoItm
  have hoA := World.ownsRow.alloc hown (.cells #[.string l.id, .string l.data] 37)
  have hnews : ∀ (j : Nat) (u : Value), (cellsI l)[j]? = some u → (w.alloc (.cells #[.string l.id, .string l.data] 37)).cell? ((⟨w.heap.size, 0, none⟩ : Addr).add j) = some u := fun j u hj => by
    match j, hj with
    | 0, hj => simp [cellsI] at hj; subst hj; simp [Addr.add]
    | 1, hj => simp [cellsI] at hj; subst hj; simp [Addr.add]
    | j + 2, hj => simp [cellsI] at hj
  refine wpList_append_own _ hgd s x 28 ho B 37 i0 (.agg #[.string ⟨#[]⟩, .string ⟨#[]⟩]) 2 32 Tryd.underlying28 hi hz0 hz1 hz2 rfl (by decide) v L.length (rowI L) hs hoA ⟨w.heap.size, 0, none⟩ 1 1 (cellsI l) hx rfl hnews
    (fun u hu => by simp [cellsI] at hu; rcases hu with rfl | rfl <;> rfl) (by unfold maxLen; omega) (by omega) (by simp; omega) ?_
  intro v' w' hown' hgrow hnil
  refine h v' w' (by unfold OwnI; rw [← rowI_snoc, List.length_append]; exact hown') fun u hu => ?_
  exact (hu.alloc hB (.cells #[.string l.id, .string l.data] 37)).grown hgrow (by simp; omega) (fun k hk => (World.ownsRow.lt hoA k hk).1)

/-! ### the digest and the check -/
theorem str_eq {a b : ByteArray} (h : a = b) : (a.toList == b.toList) = true := by rw [h]; simp
theorem str_ne {a b : ByteArray} (h : a ≠ b) : (a.toList == b.toList) = false := by
  rw [beq_eq_false_iff_ne]
  intro e
  rw [ByteArray.toList_eq, ByteArray.toList_eq] at e
  exact h (Oct.ext_toList e)
theorem lt_str (a b : ByteArray) : Op.bytesLess a.toList b.toList = lt a b := by rw [ByteArray.toList_eq, ByteArray.toList_eq]; rfl
theorem dig_is (s : ByteArray) : dig s = ⟨(Sha.sum s.data.toList).toArray⟩ := by unfold dig; rfl
theorem chk_is (s : ByteArray) : chk s = Sha.u (Crc.sum s.data.toList) := by unfold chk; rfl
theorem Sum_calls (s : ByteArray) (w : World) (he : Ev w) (hn : s.size ≤ 140737488351232) :
    Calls Tryd.prog 19 #[.string s] w fun e w' => e = .returned (.string (dig s)) ∧ Below w.heap.size w w' := by
  rw [dig_is]
  exact Sha.Sum_calls s w he.kc hn
theorem Chk_calls (s : ByteArray) (w : World) (he : Ev w) (hn : s.size ≤ 140737488351232) :
    Calls Tryd.prog 52 #[.string s] w fun e w' => e = .returned (.int .u32 (chk s)) ∧ ∃ m, w' = w.drewN m := by
  rw [chk_is]
  exact Crc.Sum_calls s w he.tb (by omega)
theorem Id_calls (s : ByteArray) (w : World) (he : Ev w) (hn : s.size ≤ 140737488351232) :
    Calls Tryd.prog 44 #[.string s] w fun e w' => e = .returned (.string (dig s)) ∧ Below w.heap.size w w' := by
  have hS := Lib.hid (Sum_calls s w he hn)
  clear he
  go_enter Tryd.func44, Tryd.ntmps44
  go_wp2_with fail
  refine hS.out.mono ?_
  rintro e w' ⟨rfl, hb⟩
  replace hb := Lib.hid hb
  go_wp2
  go_ret
  exact ⟨rfl, hb.out⟩
end Go.Proofs.YtliojhhiadfmiaaDoor.Pk
