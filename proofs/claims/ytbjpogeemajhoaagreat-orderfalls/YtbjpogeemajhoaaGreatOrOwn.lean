/-
  Texts in memory, rows of them of the call's own that grow by append (as trie's). Conditions: none.
-/
import Derived.Test.YtbjpogeemajhoaaGreatRows
import Derived.Test.YtbjpogeemajhoaaGreatOrPlain
import Derived.Test.YtbjpogeemajhoaaGreatOctKit
import Derived.WalkKit
import Derived.WalkSpells
import Derived.WalkLawsBesides
import Derived.ProofKit
import Derived.OpenShut
import Derived.Lib.Hide
import Derived.Laws.OwnMore
import Derived.Deep.OwnRows
import Derived.Laws.AppendOwn
import Derived.Deep.MidRow
namespace Go.Proofs.YtbjpogeemajhoaaGreat.Or
open Go Go.RowKit
open Oct (TextsAt)
theorem b_alloc (w : World) (o : Go.Obj) : Below w.heap.size w (w.alloc o) := (Below.refl w.heap.size w).alloc (Nat.le_refl _) o
theorem b_drew (w : World) (n : Nat) : Below w.heap.size w (w.drewN n) := ⟨rfl, rfl, rfl, Nat.le_refl _, fun _ _ => rfl⟩
theorem b_drew1 (w : World) : Below w.heap.size w w.drew := ⟨rfl, rfl, rfl, Nat.le_refl _, fun _ _ => rfl⟩
theorem b_next {n : Nat} {A B C : World} (h : Below n A B) (g : Below B.heap.size B C) (hn : n ≤ A.heap.size) : Below n A C := h.trans (g.mono (Nat.le_trans hn h.size))
theorem b_then {A B C : World} (h : Below A.heap.size A B) (g : Below B.heap.size B C) : Below A.heap.size A C := b_next h g (Nat.le_refl _)

theorem heap_new (w : World) (o : Go.Obj) : (w.alloc o).heap[w.heap.size]? = some o := by show (w.heap.push _)[w.heap.size]? = _; simp
theorem owns_turn {w w' : World} {base : Nat} {e : TypeId} {size n : Nat} {v : Value} {xs : List Value} (h : w.ownsRow base e size v n xs) (t : ∀ g, v.ownBlock = some g → w'.heap[g]? = w.heap[g]?) : w'.ownsRow base e size v n xs := by
  refine ⟨h.1, ?_⟩
  rcases h.2 with g | ⟨g, cap, cur, e1, e2, e3, e4⟩
  · exact Or.inl g
  · exact Or.inr ⟨g, cap, cur, e1, e2, (t g (by rw [e1]; rfl)).trans e3, e4⟩

/-! ### texts in memory -/
structure TxAt (w : World) (a : Option Addr) (b off : Nat) (L : List ByteArray) : Prop where
  addr : 0 < L.length → a = some ⟨b, off, none⟩
  cell : ∀ i s, L[i]? = some s → w.cell? ⟨b, off + i, none⟩ = some (.string s)
theorem TxAt.nil (w : World) (a : Option Addr) (b off : Nat) : TxAt w a b off [] := ⟨fun h => absurd h (Nat.lt_irrefl _), fun i e he => by simp at he⟩
theorem TxAt.where_ {w : World} {a : Option Addr} {b off : Nat} {L : List ByteArray} (h : TxAt w a b off L) (h0 : 0 < L.length) : b < w.heap.size := Oct.lt_of_cell (h.cell 0 _ (List.getElem?_eq_getElem h0))
theorem TxAt.turn {w w' : World} {a : Option Addr} {b off : Nat} {L : List ByteArray} (h : TxAt w a b off L) (t : 0 < L.length → w'.heap[b]? = w.heap[b]?) : TxAt w' a b off L := by
  have hpos : ∀ i l, L[i]? = some l → 0 < L.length := fun i l he => by have := (List.getElem?_eq_some_iff.1 he).1; omega
  exact ⟨h.addr, fun i l he => (World.cell?_of_block (w := w) (a := ⟨b, off + i, none⟩) (t (hpos i l he))).trans (h.cell i l he)⟩
theorem TxAt.next {w w' : World} {a : Option Addr} {b off : Nat} {L : List ByteArray} (h : TxAt w a b off L) (t : Below w.heap.size w w') : TxAt w' a b off L := h.turn fun h0 => t.block b (h.where_ h0)
theorem TxAt.below {w w' : World} {a : Option Addr} {b off B : Nat} {L : List ByteArray} (h : TxAt w a b off L) (t : Below B w w') (hb : 0 < L.length → b < B) : TxAt w' a b off L := h.turn fun h0 => t.block b (hb h0)
theorem TxAt.drop {w : World} {a : Option Addr} {b off : Nat} {L M : List ByteArray} (h : TxAt w a b off (L ++ M)) : TxAt w (some ⟨b, off + L.length, none⟩) b (off + L.length) M :=
  ⟨fun _ => rfl, fun i s hi => by rw [Nat.add_assoc]; exact h.cell _ s (by rw [List.getElem?_append_right (by omega)]; simpa using hi)⟩
theorem TxAt.take {w : World} {a : Option Addr} {b off : Nat} {L M : List ByteArray} (h : TxAt w a b off (L ++ M)) : TxAt w a b off L :=
  ⟨fun h0 => h.addr (by rw [List.length_append]; omega), fun i s hi => h.cell _ s (by rw [List.getElem?_append_left (List.getElem?_eq_some_iff.1 hi).1]; exact hi)⟩
/-- a slice of texts -/
def Lst (w : World) (v : Value) (L : List ByteArray) : Prop := ∃ a cap b off, v = .slice a L.length cap ∧ L.length ≤ cap ∧ TxAt w a b off L
theorem Lst.next {w w' : World} {v : Value} {L : List ByteArray} (h : Lst w v L) (t : Below w.heap.size w w') : Lst w' v L := by
  obtain ⟨a, cap, b, off, e, hc, hT⟩ := h
  exact ⟨a, cap, b, off, e, hc, hT.next t⟩
theorem Lst.nil (w : World) : Lst w (.slice none 0 0) [] := ⟨none, 0, 0, 0, rfl, Nat.le_refl _, .nil w _ 0 0⟩
/-- a list that came in -/
theorem tx_of_texts {w : World} {a : Option Addr} {b off len : Nat} {T : Nat → ByteArray} (h : TextsAt w a b off len T) : TxAt w a b off ((List.range len).map T) ∧ ((List.range len).map T).length = len ∧ ∀ x ∈ (List.range len).map T, x.size ≤ 140737488351232 := by
  refine ⟨⟨fun h0 => h.addr (by simpa using h0), fun i s hs => ?_⟩, by simp, fun x hx => ?_⟩
  · have hi : i < len := by have := (List.getElem?_eq_some_iff.1 hs).1; simpa using this
    rw [List.getElem?_map, List.getElem?_range hi] at hs
    simp only [Option.map_some, Option.some.injEq] at hs
    rw [← hs]; exact h.cell i hi
  · obtain ⟨i, _, rfl⟩ := List.mem_map.1 hx
    exact h.size i

/-! ### texts that grow by append -/
theorem infoStr : (Tryz.prog.info? 9).map (fun i => (i.zero, i.size, i.bytes)) = some (some (.string ⟨#[]⟩), 1, 16) := by kernel_rfl
def OwnT (B : Nat) (w : World) (v : Value) (L : List ByteArray) : Prop := w.ownsRow B 9 1 v L.length (L.map Value.string)
theorem OwnT.nil (B : Nat) (w : World) : OwnT B w (.slice none 0 0) [] := World.ownsRow_nil w B _ 1
theorem OwnT.next {B : Nat} {w w' : World} {v : Value} {L : List ByteArray} (h : OwnT B w v L) (b : Below w.heap.size w w') : OwnT B w' v L := owns_turn h fun g hg => b.block g (h.lt g hg).2
theorem OwnT.new (w : World) (B : Nat) (hB : B ≤ w.heap.size) : OwnT B (w.alloc (.cells #[] 9)) (.slice (some ⟨w.heap.size, 0, none⟩) 0 0) [] := by
  unfold OwnT
  refine ⟨by simp, Or.inr ⟨w.heap.size, 0, #[], rfl, hB, heap_new w _, by simp, by simp [maxLen], by simp, by simp⟩⟩
theorem OwnT.at_ {B : Nat} {w : World} {v : Value} {L : List ByteArray} (h : OwnT B w v L) : ∃ a cap b off, v = .slice a L.length cap ∧ TxAt w a b off L ∧ L.length ≤ cap ∧ (0 < L.length → B ≤ b) := by
  rcases h.2 with ⟨hv, h0⟩ | ⟨g, cap, cur, hv, h1, h2, h3, _⟩
  · refine ⟨none, 0, 0, 0, by rw [hv, h0], ⟨fun h => by omega, fun i e he => ?_⟩, by omega, fun h => by omega⟩
    have := (List.getElem?_eq_some_iff.1 he).1; omega
  · have hb : v.ownBlock = some g := by rw [hv]; rfl
    refine ⟨some ⟨g, 0, none⟩, cap, g, 0, hv, ⟨fun _ => rfl, fun i e he => ?_⟩, h3, fun _ => h1⟩
    have := World.ownsRow.cells h hb i (.string e) (by rw [List.getElem?_map, he]; rfl)
    rwa [Addr.add_mid] at this
theorem OwnT.lst {B : Nat} {w : World} {v : Value} {L : List ByteArray} (h : OwnT B w v L) : Lst w v L := by
  obtain ⟨a, cap, b, off, e, hT, hc, _⟩ := h.at_
  exact ⟨a, cap, b, off, e, hc, hT⟩
theorem OwnT.mono {B C : Nat} {w : World} {v : Value} {L : List ByteArray} (h : OwnT B w v L) (hC : C ≤ B) : OwnT C w v L := by
  refine ⟨h.1, ?_⟩
  rcases h.2 with g | ⟨g, cap, cur, e1, e2, e3⟩
  · exact Or.inl g
  · exact Or.inr ⟨g, cap, cur, e1, Nat.le_trans hC e2, e3⟩
theorem OwnT.box {B : Nat} {w : World} {v : Value} {L : List ByteArray} (h : OwnT B w v L) : ∃ a cap, v = .slice a L.length cap := by
  obtain ⟨a, cap, _, _, e, _⟩ := h.at_
  exact ⟨a, cap, e⟩
/-- append(texts, t), as the walk stands at it -/
theorem wp_append_tx {ops : Array Oper} {rest : List Oper} {o : Oper} {a : Act} {Q : Exit → Act → World → Prop} {w : World} (hgd : o.guard = none) (s x : Operand)
    (ho : o.op = .call { callee := .builtin .append, args := #[s, x], argTypes := #[26, 26] })
    (B : Nat) (v : Value) (L : List ByteArray) (l : ByteArray) (hs : a.eval s = v) (hx : a.eval x = .slice (some ⟨w.heap.size, 0, none⟩) 1 1)
    (hown : OwnT B w v L) (hB : B ≤ w.heap.size) (hlen : L.length ≤ 1099511627776)
    (h : ∀ v' w', OwnT B w' v' (L ++ [l]) → (∀ u, Below B u w → Below B u w') → wpList Tryz.prog ops Q rest (a.put o.dst v') w') : wpList Tryz.prog ops Q (o :: rest) a (w.alloc (.cells #[.string l] 9)) := by
  obtain ⟨i0, hi, hz0, hz1, hz2⟩ := info_parts infoStr
  have hoA := World.ownsRow.alloc hown (.cells #[.string l] 9)
  have hnews : ∀ (j : Nat) (u : Value), ([.string l] : List Value)[j]? = some u → (w.alloc (.cells #[.string l] 9)).cell? ((⟨w.heap.size, 0, none⟩ : Addr).add j) = some u := fun j u hj => by
    match j, hj with
    | 0, hj => simp at hj; subst hj; simp [Addr.add]
    | j + 1, hj => simp at hj
  refine wpList_append_own _ hgd s x 26 ho B 9 i0 (.string ⟨#[]⟩) 1 16 Tryz.underlying26 hi hz0 hz1 hz2 rfl (by decide) v L.length (L.map Value.string) hs hoA ⟨w.heap.size, 0, none⟩ 1 1 [.string l] hx rfl hnews
    (fun u hu => by simp at hu; subst hu; rfl) (by unfold maxLen; omega) (by omega) (by simp; omega) ?_
  intro v' w' hown' hgrow hnil
  refine h v' w' (by unfold OwnT; rw [List.map_append, List.length_append]; exact hown') fun u hu => ?_
  exact (hu.alloc hB (.cells #[.string l] 9)).grown hgrow (by simp; omega) (fun k hk => (World.ownsRow.lt hoA k hk).1)
/-- append(texts, t) in a drawn region -/
theorem step_append_tx {ops : Array Oper} {o : Oper} {a : Act} {w : World} {K : Act → World → Prop} {Q : Exit → Act → World → Prop} {E : Prop} (hgd : o.guard = none) (s x : Operand)
    (ho : o.op = .call { callee := .builtin .append, args := #[s, x], argTypes := #[26, 26] })
    (B : Nat) (v : Value) (L : List ByteArray) (l : ByteArray) (b : Nat) (hs : a.eval s = v) (hx : a.eval x = .slice (some ⟨b, 0, none⟩) 1 1)
    (hown : OwnT B w v L) (hnew : w.cell? ⟨b, 0, none⟩ = some (.string l)) (hB : B ≤ w.heap.size) (hlen : L.length ≤ 1000000)
    (hK : ∀ v' w', OwnT B w' v' (L ++ [l]) → (∀ u, Below B u w → Below B u w') → K (a.put o.dst v') w') : if Region.wanted o (yielded ops a.tmps) = true then Oper.wp Tryz.prog o a w K Q else E := by
  obtain ⟨i0, hi, hz0, hz1, hz2⟩ := info_parts infoStr
  have hw : Region.wanted o (yielded ops a.tmps) = true := by simp [Region.wanted, hgd]
  rw [if_pos hw]
  refine wp_append_own w s x 26 ho B 9 i0 (.string ⟨#[]⟩) 1 16 Tryz.underlying26 hi hz0 hz1 hz2 rfl (by decide) v L.length (L.map Value.string) hs hown ⟨b, 0, none⟩ 1 1 [.string l] hx rfl (fun j u hj => ?_)
    (fun u hu => by simp at hu; subst hu; rfl) (by unfold maxLen; omega) (by omega) hB ?_
  · match j, hj with
    | 0, hj => simp only [List.getElem?_cons_zero, Option.some.injEq] at hj; subst hj; rw [Addr.add_mid, Nat.zero_add]; exact hnew
    | j + 1, hj => simp at hj
  · intro v' w' hown' hgrow hnil
    refine hK v' w' (by unfold OwnT; rw [List.map_append, List.length_append]; exact hown') fun u hu => ?_
    exact hu.grown hgrow hB (fun k hk => (World.ownsRow.lt hown k hk).1)
theorem str_eq {a b : ByteArray} (h : a = b) : (a.toList == b.toList) = true := by rw [h]; simp
theorem str_ne {a b : ByteArray} (h : a ≠ b) : (a.toList == b.toList) = false := by rw [Oct.beq_toList]; exact decide_eq_false h
end Go.Proofs.YtbjpogeemajhoaaGreat.Or
