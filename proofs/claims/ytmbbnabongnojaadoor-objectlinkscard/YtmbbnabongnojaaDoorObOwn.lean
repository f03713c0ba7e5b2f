/-
  Rows of the call's own that grow by append (entries, texts, links), blocks of known cells, what a call leaves alone. Conditions: none.
-/
import Derived.Test.YtmbbnabongnojaaDoorRows
import Derived.Test.YtmbbnabongnojaaDoorObPlain
import Derived.Test.YtmbbnabongnojaaDoorObGood
import Derived.Test.YtmbbnabongnojaaDoorObWrite
import Derived.Test.YtmbbnabongnojaaDoorOctCalls
import Derived.Test.YtmbbnabongnojaaDoorOctKit
import Derived.WalkKit
import Derived.WalkSpells
import Derived.WalkLawsBesides
import Derived.ProofKit
import Derived.OpenShut
import Derived.Lib.Hide
import Derived.Laws.OwnMore
import Derived.Deep.OwnRows
import Derived.Laws.AppendOwn
namespace Go.Proofs.YtmbbnabongnojaaDoor.Ob
open Go Go.RowKit
open Oct (empty num4 St Rd Only)

theorem step_append_own {P : Program} {ops : Array Oper} {o : Oper} {a : Act} {w : World} {K : Act → World → Prop} {Q : Exit → Act → World → Prop} {E : Prop} (hgd : o.guard = none) (s x : Operand) (t : TypeId)
    (ho : o.op = .call { callee := .builtin .append, args := #[s, x], argTypes := #[t, t] })
    (base : Nat) (e : TypeId) (i : TypeInfo) (z : Value) (size bytes : Nat) (ht : P.underlying t = some (.slice e)) (hi : P.info? e = some i) (hz : i.zero = some z) (hsize : i.size = size) (hby : i.bytes = bytes) (hzs : z.cells.size = size) (hsz : 0 < size)
    (v : Value) (n : Nat) (xs : List Value) (hs : a.eval s = v) (hown : w.ownsRow base e size v n xs)
    (ad : Addr) (m c : Nat) (news : List Value) (hx : a.eval x = .slice (some ad) m c) (hl : news.length = m * size) (hnews : ∀ j u, news[j]? = some u → w.cell? (ad.add j) = some u) (h1 : ∀ u ∈ news, u.oneCell' = true)
    (h63 : n + m ≤ maxLen) (hbytes : (n + m) * bytes ≤ 140737488355328) (hbase : base ≤ w.heap.size)
    (hK : ∀ v' w', w'.ownsRow base e size v' (n + m) (xs ++ news) → w.grownBy w' v.ownBlock → (v' = .slice none 0 0 ↔ v = .slice none 0 0 ∧ m = 0) → K (a.put o.dst v') w') : if Region.wanted o (yielded ops a.tmps) = true then Oper.wp P o a w K Q else E := by
  have hw : Region.wanted o (yielded ops a.tmps) = true := by simp [Region.wanted, hgd]
  rw [if_pos hw]
  exact wp_append_own w s x t ho base e i z size bytes ht hi hz hsize hby hzs hsz v n xs hs hown ad m c news hx hl hnews h1 h63 hbytes hbase hK

/-! ### blocks of known cells -/
abbrev Blk (w : World) (b : Nat) (cs : Array Value) (T : TypeId) : Prop := w.heap[b]? = some (.cells cs T (0, 0))
theorem Blk.lt {w : World} {b : Nat} {cs : Array Value} {T : TypeId} (h : Blk w b cs T) : b < w.heap.size := (Array.getElem?_eq_some_iff.1 h).1
theorem Blk.cell {w : World} {b : Nat} {cs : Array Value} {T : TypeId} (h : Blk w b cs T) (j : Nat) {v : Value} (e : cs[j]? = some v) : w.cell? ⟨b, j, none⟩ = some v := by rw [Lib.cell_of_heap h]; exact e
theorem Blk.frozen {w : World} {b : Nat} {cs : Array Value} {T : TypeId} (h : Blk w b cs T) (j : Nat) : w.frozen? ⟨b, j, none⟩ = false := Lib.frozen_of_heap h j
theorem Blk.new (w : World) (cs : Array Value) (T : TypeId) : Blk (w.alloc (.cells cs T)) w.heap.size cs T := heap_new w _
theorem Blk.set {w : World} {b : Nat} {cs : Array Value} {T : TypeId} (h : Blk w b cs T) (j : Nat) (v : Value) : Blk (w.setCell ⟨b, j, none⟩ v) b (cs.setIfInBounds j v) T := by
  unfold Blk at h ⊢
  simp [World.setCell, Array.getElem?_modify, h]
theorem Blk.other {w : World} {b : Nat} {cs : Array Value} {T : TypeId} (h : Blk w b cs T) (k j : Nat) (v : Value) (hk : b ≠ k) : Blk (w.setCell ⟨k, j, none⟩ v) b cs T := (Below.heap_setCell _ _ _ _ hk).trans h
theorem Blk.only {w w' : World} {b k : Nat} {cs : Array Value} {T : TypeId} (h : Blk w b cs T) (o : Only k w w') (hk : b ≠ k) : Blk w' b cs T := (o.block b hk).trans h
theorem Blk.below {w w' : World} {b B : Nat} {cs : Array Value} {T : TypeId} (h : Blk w b cs T) (o : Below B w w') (hk : b < B) : Blk w' b cs T := (o.block b hk).trans h
theorem Blk.alloc {w : World} {b : Nat} {cs : Array Value} {T : TypeId} (h : Blk w b cs T) (o : Go.Obj) : Blk (w.alloc o) b cs T := h.below (b_alloc w o) h.lt

/-! ### what is left alone -/
/-- nothing that was there has turned but block b -/
structure But (b : Nat) (w w' : World) : Prop where
  os : w'.os = w.os
  tape : w'.tape = w.tape
  output : w'.output = w.output
  size : w.heap.size ≤ w'.heap.size
  block : ∀ k, k < w.heap.size → k ≠ b → w'.heap[k]? = w.heap[k]?
theorem But.refl (b : Nat) (w : World) : But b w w := ⟨rfl, rfl, rfl, Nat.le_refl _, fun _ _ _ => rfl⟩
theorem But.trans {b : Nat} {u v w : World} (h : But b u v) (g : But b v w) : But b u w :=
  ⟨g.os.trans h.os, g.tape.trans h.tape, g.output.trans h.output, Nat.le_trans h.size g.size, fun k hk hb => (g.block k (Nat.lt_of_lt_of_le hk h.size) hb).trans (h.block k hk hb)⟩
theorem But.only {b : Nat} {w w' : World} (h : Only b w w') : But b w w' := ⟨h.os, h.tape, h.output, Nat.le_of_eq h.size.symm, fun k _ hb => h.block k hb⟩
theorem But.below {b : Nat} {w w' : World} (h : Below w.heap.size w w') : But b w w' := ⟨h.os, h.tape, h.output, h.size, fun k hk _ => h.block k hk⟩
theorem But.set {b : Nat} {w w' : World} (h : But b w w') {k j : Nat} (v : Value) (hk : w.heap.size ≤ k) : But b w (w'.setCell ⟨k, j, none⟩ v) :=
  ⟨h.os, h.tape, h.output, by simpa [World.setCell] using h.size, fun i hi hb => (Below.heap_setCell _ _ _ _ (by show i ≠ k; omega)).trans (h.block i hi hb)⟩
theorem But.toBelow {b B : Nat} {w w' : World} (h : But b w w') (hB : B ≤ b) (hs : B ≤ w.heap.size) : Below B w w' :=
  ⟨h.os, h.tape, h.output, h.size, fun k hk => h.block k (by omega) (by omega)⟩
/-- below R nothing has turned but blocks b and x -/
structure Mid (R b x : Nat) (w w' : World) : Prop where
  os : w'.os = w.os
  tape : w'.tape = w.tape
  output : w'.output = w.output
  size : w.heap.size ≤ w'.heap.size
  block : ∀ k, k < R → k ≠ b → k ≠ x → w'.heap[k]? = w.heap[k]?
theorem Mid.refl (R b x : Nat) (w : World) : Mid R b x w w := ⟨rfl, rfl, rfl, Nat.le_refl _, fun _ _ _ _ => rfl⟩
theorem Mid.trans {R b x : Nat} {u v w : World} (h : Mid R b x u v) (g : Mid R b x v w) : Mid R b x u w :=
  ⟨g.os.trans h.os, g.tape.trans h.tape, g.output.trans h.output, Nat.le_trans h.size g.size, fun k hk hb hx => (g.block k hk hb hx).trans (h.block k hk hb hx)⟩
theorem Mid.but {R b x : Nat} {w w' : World} (h : But b w w') (hR : R ≤ w.heap.size) : Mid R b x w w' :=
  ⟨h.os, h.tape, h.output, h.size, fun k hk hb _ => h.block k (by omega) hb⟩
theorem Mid.grown {R b x : Nat} {w w' : World} {v : Value} (h : w.grownBy w' v.ownBlock) (hv : ∀ k, v.ownBlock = some k → R ≤ k) (hR : R ≤ w.heap.size) : Mid R b x w w' :=
  ⟨h.os, h.tape, h.output, h.size, fun k hk _ _ => h.block k (by omega) fun e => by have := hv k e.symm; omega⟩
theorem Mid.set (R b x j : Nat) (w : World) (v : Value) : Mid R b x w (w.setCell ⟨x, j, none⟩ v) :=
  ⟨rfl, rfl, rfl, by simp [World.setCell], fun _ _ _ hx => Below.heap_setCell _ _ _ _ hx⟩
theorem Mid.toBelow {R b x B : Nat} {w w' : World} (h : Mid R b x w w') (hb : B ≤ b) (hx : B ≤ x) (hR : B ≤ R) : Below B w w' :=
  ⟨h.os, h.tape, h.output, h.size, fun k hk => h.block k (by omega) (by omega) (by omega)⟩
theorem owns_turn {w w' : World} {base : Nat} {e : TypeId} {size n : Nat} {v : Value} {xs : List Value} (h : w.ownsRow base e size v n xs) (t : ∀ g, v.ownBlock = some g → w'.heap[g]? = w.heap[g]?) : w'.ownsRow base e size v n xs := by
  refine ⟨h.1, ?_⟩
  rcases h.2 with g | ⟨g, cap, cur, e1, e2, e3, e4⟩
  · exact Or.inl g
  · exact Or.inr ⟨g, cap, cur, e1, e2, (t g (by rw [e1]; rfl)).trans e3, e4⟩
theorem owns_but {w w' : World} {base b : Nat} {e : TypeId} {size n : Nat} {v : Value} {xs : List Value} (h : w.ownsRow base e size v n xs) (t : But b w w') (hb : b < base) : w'.ownsRow base e size v n xs :=
  owns_turn h fun g hg => t.block g (h.lt g hg).2 (by have := (h.lt g hg).1; omega)

/-! ### entries -/
def entCells (e : Ent) : List Value := [.string e.name, .int .i64 e.kind, .string e.id]
def entsCells (L : List Ent) : List Value := L.flatMap entCells
theorem entsCells_snoc (L : List Ent) (e : Ent) : entsCells L ++ entCells e = entsCells (L ++ [e]) := by simp [entsCells]
theorem entsCells_at : ∀ (L : List Ent) (i : Nat) (e : Ent), L[i]? = some e → (entsCells L)[i * 3]? = some (.string e.name) ∧ (entsCells L)[i * 3 + 1]? = some (.int .i64 e.kind) ∧ (entsCells L)[i * 3 + 2]? = some (.string e.id)
  | [], i, e, h => by simp at h
  | x :: L, 0, e, h => by simp at h; subst h; simp [entsCells, entCells]
  | x :: L, i + 1, e, h => by
    have ih := entsCells_at L i e (by simpa using h)
    have hc : entsCells (x :: L) = entCells x ++ entsCells L := by simp [entsCells]
    have hl : (entCells x).length = 3 := rfl
    rw [hc, show (i + 1) * 3 = i * 3 + 3 by omega]
    refine ⟨?_, ?_, ?_⟩
    · rw [List.getElem?_append_right (by omega), hl]; exact ih.1
    · rw [List.getElem?_append_right (by omega), hl, show i * 3 + 3 + 1 - 3 = i * 3 + 1 by omega]; exact ih.2.1
    · rw [List.getElem?_append_right (by omega), hl, show i * 3 + 3 + 2 - 3 = i * 3 + 2 by omega]; exact ih.2.2
theorem ents_of_row {w : World} {base : Nat} {v : Value} {L : List Ent} (h : w.ownsRow base 47 3 v L.length (entsCells L)) : ∃ a cap b off, v = .slice a L.length cap ∧ EntsAt w a b off L ∧ L.length ≤ cap := by
  rcases h.2 with ⟨hv, h0⟩ | ⟨g, cap, cur, hv, h1, h2, h3, _⟩
  · refine ⟨none, 0, 0, 0, by rw [hv, h0], ⟨fun h => by omega, fun i e he => ?_, fun i e he => ?_, fun i e he => ?_⟩, by omega⟩
    all_goals (have := (List.getElem?_eq_some_iff.1 he).1; omega)
  · have hb : v.ownBlock = some g := by rw [hv]; rfl
    refine ⟨some ⟨g, 0, none⟩, cap, g, 0, hv, ⟨fun _ => rfl, fun i e he => ?_, fun i e he => ?_, fun i e he => ?_⟩, h3⟩
    · have := h.cells hb _ _ (entsCells_at L i e he).1; rwa [Addr.add_mid] at this
    · have := h.cells hb _ _ (entsCells_at L i e he).2.1; rw [Addr.add_mid] at this; rw [Nat.add_assoc]; exact this
    · have := h.cells hb _ _ (entsCells_at L i e he).2.2; rw [Addr.add_mid] at this; rw [Nat.add_assoc]; exact this
theorem infoEnt : (Tryd.prog.info? 47).map (fun i => (i.zero, i.size, i.bytes)) = some (some (.agg #[.string ⟨#[]⟩, .int .i64 0, .string ⟨#[]⟩]), 3, 40) := by kernel_rfl
theorem infoStr : (Tryd.prog.info? 9).map (fun i => (i.zero, i.size, i.bytes)) = some (some (.string ⟨#[]⟩), 1, 16) := by kernel_rfl
theorem pars_of_row {w : World} {base : Nat} {v : Value} {L : List ByteArray} (h : w.ownsRow base 9 1 v L.length (L.map Value.string)) : ∃ a cap b off, v = .slice a L.length cap ∧ ParsAt w a b off L ∧ L.length ≤ cap := by
  rcases h.2 with ⟨hv, h0⟩ | ⟨g, cap, cur, hv, h1, h2, h3, _⟩
  · refine ⟨none, 0, 0, 0, by rw [hv, h0], ⟨fun h => by omega, fun i e he => ?_⟩, by omega⟩
    have := (List.getElem?_eq_some_iff.1 he).1; omega
  · have hb : v.ownBlock = some g := by rw [hv]; rfl
    refine ⟨some ⟨g, 0, none⟩, cap, g, 0, hv, ⟨fun _ => rfl, fun i e he => ?_⟩, h3⟩
    have := h.cells hb i (.string e) (by rw [List.getElem?_map, he]; rfl)
    rwa [Addr.add_mid] at this
end Go.Proofs.YtmbbnabongnojaaDoor.Ob
