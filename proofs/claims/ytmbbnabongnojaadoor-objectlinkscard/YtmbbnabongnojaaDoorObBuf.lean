/-
  strings.Builder over this program, with what it leaves alone: WriteByte, WriteString and String of a builder that holds bytes; every block but the builder's own and rows of bytes stays. Conditions: the builder is new or was written by its own methods; the length stays within Go's own limit.
-/
import Derived.Test.YtmbbnabongnojaaDoorRows
import Derived.Test.YtmbbnabongnojaaDoorObPlain
import Derived.Test.YtmbbnabongnojaaDoorIdBuf
import Derived.Test.YtmbbnabongnojaaDoorOctKit
import Derived.WalkKit
import Derived.WalkSpells
import Derived.WalkLawsBesides
import Derived.ProofKit
import Derived.OpenShut
import Derived.Laws.BytesArg
import Derived.Deep.QuietTactic
import Derived.BigQuiet
import Derived.BigRegion
import Derived.Lib.Hide
import Derived.Lib.Builder
import Derived.Lib.UnsafeStr
import Derived.Lib.AppendStr
import Derived.Laws.Externs
import Derived.Deep.OwnRows
import Derived.Lib.SlBuf
import Derived.Lib.LazyBuf
import Derived.Deep.Cut
import Derived.Deep.MidRow
import Derived.IntWalk
import Derived.StillTailTactics
namespace Go.Proofs.YtmbbnabongnojaaDoor.Ob
open Go.RowKit
open Oct (empty)
open Ident (infoByte copyCheck_fresh copyCheck_used)

/-- every block but b and rows of bytes stays -/
def Keeps (b : Nat) (w w' : World) : Prop := ∀ k cs T fr, k ≠ b → T ≠ 5 → w.heap[k]? = some (.cells cs T fr) → w'.heap[k]? = some (.cells cs T fr)
theorem Keeps.refl (b : Nat) (w : World) : Keeps b w w := fun _ _ _ _ _ _ h => h
theorem Keeps.trans {b : Nat} {u v w : World} (h : Keeps b u v) (g : Keeps b v w) : Keeps b u w := fun k cs T fr hk hT e => g k cs T fr hk hT (h k cs T fr hk hT e)
theorem Keeps.below {b B : Nat} {w w' : World} (h : Below w.heap.size w w') : Keeps b w w' := fun k cs T fr _ _ e => (h.block k (Array.getElem?_eq_some_iff.1 e).1).trans e
/-- a builder of the call's own that holds bytes -/
abbrev Bd (B b : Nat) (s : ByteArray) (w : World) : Prop := Lib.IsBuilder 53 5 B b (Lib.strCells s) w ∧ (s.size ≠ 0 → Lib.BuilderAt 53 5 B b (.pointer (some ⟨b, 0, none⟩)) (Lib.strCells s) w)
theorem Bd.new (w : World) : Bd w.heap.size w.heap.size empty (w.alloc (.cells #[.pointer none, .slice none 0 0] 53)) := by
  refine ⟨Or.inl ?_, fun h => absurd rfl h⟩
  exact ⟨Nat.le_refl _, .slice none 0 0, (show _ = _ by show (w.heap.push _)[w.heap.size]? = _; simp), World.ownsRow_nil _ _ _ _, fun h => by cases h⟩
theorem BuilderAt.after {T e : TypeId} {B b : Nat} {p : Value} {bs : List Value} {w w' : World} (h : Lib.BuilderAt T e B b p bs w) (t : Below w.heap.size w w') : Lib.BuilderAt T e B b p bs w' := by
  obtain ⟨h1, v, h2, h3, h4⟩ := h
  refine ⟨h1, v, (t.block b (Array.getElem?_eq_some_iff.1 h2).1).trans h2, ⟨h3.1, ?_⟩, h4⟩
  rcases h3.2 with g | ⟨g, cap, cur, e1, e2, e3, e4⟩
  · exact Or.inl g
  · exact Or.inr ⟨g, cap, cur, e1, e2, (t.block g (Array.getElem?_eq_some_iff.1 e3).1).trans e3, e4⟩
theorem Bd.after {B b : Nat} {s : ByteArray} {w w' : World} (h : Bd B b s w) (t : Below w.heap.size w w') : Bd B b s w' :=
  ⟨h.1.elim (fun g => Or.inl (BuilderAt.after g t)) (fun g => Or.inr (BuilderAt.after g t)), fun g => BuilderAt.after (h.2 g) t⟩
theorem Bd.lt {B b : Nat} {s : ByteArray} {w : World} (h : Bd B b s w) : b < w.heap.size := h.1.elim Lib.BuilderAt.lt Lib.BuilderAt.lt
theorem Bd.base {B b : Nat} {s : ByteArray} {w : World} (h : Bd B b s w) : B ≤ b := h.1.elim (fun g => g.1) (fun g => g.1)
theorem copyCheck_all (B b : Nat) (bs : List Value) (w : World) (h : Lib.IsBuilder 53 5 B b bs w) :
    Calls Tryd.prog 59 #[.pointer (some ⟨b, 0, none⟩)] w fun e w' => e = .returned (.tuple #[]) ∧ Lib.BuilderAt 53 5 B b (.pointer (some ⟨b, 0, none⟩)) bs w' ∧ Below B w w' ∧ w'.heap.size = w.heap.size ∧ Keeps b w w' := by
  rcases h with h | h
  · refine (copyCheck_fresh b w h.cell0 h.shape h.frozen0).mono ?_
    rintro e w' ⟨rfl, rfl⟩
    exact ⟨rfl, h.used _, (Below.refl B w).setCell (p := ⟨b, 0, none⟩) h.1 _, by simp [World.setCell], fun k cs T fr hk _ he => (Below.heap_setCell _ _ _ _ hk).trans he⟩
  · refine (copyCheck_used b w h.cell0).mono ?_
    rintro e w' ⟨rfl, rfl⟩
    exact ⟨rfl, h, Below.refl B _, rfl, Keeps.refl _ _⟩
/-- what a row of bytes that has grown leaves alone -/
theorem grown_keeps {B b n : Nat} {w w' : World} {v : Value} {xs : List Value} (hown : w.ownsRow B 5 1 v n xs) (hg : w.grownBy w' v.ownBlock) : Keeps b w w' := fun k cs T fr _ hT he => by
  refine (hg.block k (Array.getElem?_eq_some_iff.1 he).1 fun e => ?_).trans he
  rcases hown.2 with ⟨hv, _⟩ | ⟨g, cap, cur, hv, _, hc, _⟩
  · rw [hv] at e; simp [Value.ownBlock] at e
  · rw [hv] at e
    simp only [Value.ownBlock, Option.some.injEq] at e
    subst e
    rw [hc] at he
    simp only [Option.some.injEq, Obj.cells.injEq] at he
    exact hT he.2.1.symm
set_option maxRecDepth 100000 in
set_option maxHeartbeats 2000000 in
theorem WriteByte_all (B b : Nat) (bs : List Value) (c : Int) (w : World) (h : Lib.IsBuilder 53 5 B b bs w)
    (hlen : bs.length + 1 ≤ 140737488355328) (hBw : B ≤ w.heap.size) :
    Calls Tryd.prog 27 #[.pointer (some ⟨b, 0, none⟩), .int .u8 c] w fun e w' => e = .returned .nilIface ∧ Lib.BuilderAt 53 5 B b (.pointer (some ⟨b, 0, none⟩)) (bs ++ [.int .u8 c]) w' ∧ Below B w w' ∧ Keeps b w w' := by
  obtain ⟨i0, hi, hz0, hz1, hz2⟩ := info_parts infoByte
  go_enter Tryd.func27, Tryd.ntmps27
  go_wp2_with fail
  refine (copyCheck_all B b bs w h).mono ?_
  rintro e w1 ⟨rfl, h', hb1, hz, hc⟩
  have h0 := h'.cell0
  obtain ⟨hB, v, hbk, hown, hne⟩ := h'
  have c1 : w1.cell? ⟨b, 1, none⟩ = some v := by rw [Lib.cell_of_heap hbk]; rfl
  have hlt : b < w1.heap.size := Oct.lt_of_cell (p := ⟨b, 1, none⟩) c1
  have hBw1 : B ≤ w1.heap.size := by omega
  clear hz h
  have hownA := hown.alloc (.cells #[.int .u8 c] 5)
  have hnews : ∀ (j : Nat) (u : Value), ([.int .u8 c] : List Value)[j]? = some u → (w1.alloc (.cells #[.int .u8 c] 5)).cell? ((⟨w1.heap.size, 0, none⟩ : Addr).add j) = some u := fun j u hj => by
    match j, hj with
    | 0, hj => simp at hj; subst hj; simp [Addr.add]
    | j + 1, hj => simp at hj
  have hA : Below B w (w1.alloc (.cells #[.int .u8 c] 5)) := hb1.alloc hBw1 _
  have hK := Lib.hid (hc.trans (Keeps.below (b := b) (B := 0) ((Below.refl w1.heap.size w1).alloc (Nat.le_refl _) (.cells #[.int .u8 c] 5))))
  have hsA : (w1.alloc (.cells #[.int .u8 c] 5)).heap.size = w1.heap.size + 1 := by simp
  have hbkA : (w1.alloc (.cells #[.int .u8 c] 5)).heap[b]? = some (.cells #[.pointer (some ⟨b, 0, none⟩), v] 53 (0, 0)) := (Lib.alloc_old w1 _ b hlt).trans hbk
  clear hb1 hc
  go_wp2_with (at_builtin; refine wpList_append_own _ rfl _ _ 51 rfl B 5 i0 (.int .u8 0) 1 1 Tryd.underlying51 hi hz0 hz1 hz2 rfl (by decide) _ _ _ rfl hownA ⟨w1.heap.size, 0, none⟩ 1 1 [.int .u8 c] rfl rfl hnews ?c1 ?c3 ?c4 ?c5 ?_)
  case c1 => intro u hu; rw [List.mem_singleton] at hu; subst hu; rfl
  case c3 => unfold maxLen; omega
  case c4 => omega
  case c5 => omega
  intro v' w2 hown' hgrow _
  have hb2 : w2.heap[b]? = some (.cells #[.pointer (some ⟨b, 0, none⟩), v] 53 (0, 0)) := by
    rw [hgrow.block b (by omega) (fun e => hne e.symm)]
    exact hbkA
  have d0 : w2.cell? ⟨b, 0, none⟩ = some (.pointer (some ⟨b, 0, none⟩)) := by rw [Lib.cell_of_heap hb2]; rfl
  have d1 : w2.cell? ⟨b, 1, none⟩ = some v := by rw [Lib.cell_of_heap hb2]; rfl
  have f1 : w2.frozen? ⟨b, 1, none⟩ = false := Lib.frozen_of_heap hb2 1
  obtain ⟨ao, n', cap, rfl⟩ : ∃ ao n' cap, v' = .slice ao n' cap := by
    rcases hown'.2 with ⟨hv, _⟩ | ⟨g, cap, cur, hv, _⟩
    · exact ⟨_, _, _, hv⟩
    · exact ⟨_, _, _, hv⟩
  have hfin := Lib.hid (Lib.BuilderAt.put (T := 53) (e := 5) hB hb2 (bs' := bs ++ [.int .u8 c]) (by simpa using hown') (by decide))
  have hbel := Lib.hid (hA.grown hgrow (by omega) (fun k hk => (hown.lt k hk).1))
  replace hK := Lib.hid (hK.out.trans (grown_keeps (b := b) hownA hgrow))
  clear hb2 hbkA hbk hnews hownA hown hown' hgrow hA hsA
  go_wp2
  go_ret
  exact ⟨rfl, hfin.out, hbel.out.setCell (p := ⟨b, 1, none⟩) hB _, fun k cs T fr hk hT he => (Below.heap_setCell _ _ _ _ hk).trans (hK.out k cs T fr hk hT he)⟩
set_option maxRecDepth 100000 in
set_option maxHeartbeats 2000000 in
theorem WriteString_all (B b : Nat) (bs : List Value) (s : ByteArray) (w : World) (h : Lib.IsBuilder 53 5 B b bs w)
    (hlen : bs.length + s.size ≤ 140737488355328) (hBw : B ≤ w.heap.size) :
    Calls Tryd.prog 28 #[.pointer (some ⟨b, 0, none⟩), .string s] w fun e w' => e = .returned (.tuple #[.int .i64 s.size, .nilIface]) ∧ Lib.BuilderAt 53 5 B b (.pointer (some ⟨b, 0, none⟩)) (bs ++ Lib.strCells s) w' ∧ Below B w w' ∧ Keeps b w w' := by
  obtain ⟨i0, hi, hz0, hz1, hz2⟩ := info_parts infoByte
  go_enter Tryd.func28, Tryd.ntmps28
  go_wp2_with fail
  refine (copyCheck_all B b bs w h).mono ?_
  rintro e w1 ⟨rfl, h', hb1, hz, hc⟩
  have h0 := h'.cell0
  obtain ⟨hB, v, hbk, hown, hne⟩ := h'
  have c1 : w1.cell? ⟨b, 1, none⟩ = some v := by rw [Lib.cell_of_heap hbk]; rfl
  have hlt : b < w1.heap.size := Oct.lt_of_cell (p := ⟨b, 1, none⟩) c1
  have hBw1 : B ≤ w1.heap.size := by omega
  clear hz h
  replace hc := Lib.hid hc
  go_wp2_with (at_builtin; refine Lib.wpList_append_own_string _ rfl _ _ 51 9 rfl B 5 i0 Tryd.underlying51 Tryd.underlying9 hi hz0 hz1 hz2 _ _ _ rfl hown s rfl ?c3 ?c4 ?c5 ?_)
  case c3 => unfold maxLen; omega
  case c4 => omega
  case c5 => omega
  intro v' w2 hown' hgrow _
  have hb2 : w2.heap[b]? = some (.cells #[.pointer (some ⟨b, 0, none⟩), v] 53 (0, 0)) := by
    rw [hgrow.block b (by omega) (fun e => hne e.symm)]
    exact hbk
  have d0 : w2.cell? ⟨b, 0, none⟩ = some (.pointer (some ⟨b, 0, none⟩)) := by rw [Lib.cell_of_heap hb2]; rfl
  have d1 : w2.cell? ⟨b, 1, none⟩ = some v := by rw [Lib.cell_of_heap hb2]; rfl
  have f1 : w2.frozen? ⟨b, 1, none⟩ = false := Lib.frozen_of_heap hb2 1
  obtain ⟨ao, n', cap, rfl⟩ : ∃ ao n' cap, v' = .slice ao n' cap := by
    rcases hown'.2 with ⟨hv, _⟩ | ⟨g, cap, cur, hv, _⟩
    · exact ⟨_, _, _, hv⟩
    · exact ⟨_, _, _, hv⟩
  have hfin := Lib.hid (Lib.BuilderAt.put (T := 53) (e := 5) hB hb2 (bs' := bs ++ Lib.strCells s) (by simpa [Lib.strCells_length] using hown') (by decide))
  have hbel := Lib.hid (hb1.grown hgrow (by omega) (fun k hk => (hown.lt k hk).1))
  have hK := Lib.hid (hc.out.trans (grown_keeps (b := b) hown hgrow))
  clear hb2 hbk hown hown' hgrow hb1 hc
  go_wp2
  go_ret2
  exact ⟨rfl, hfin.out, hbel.out.setCell (p := ⟨b, 1, none⟩) hB _, fun k cs T fr hk hT he => (Below.heap_setCell _ _ _ _ hk).trans (hK.out k cs T fr hk hT he)⟩
theorem strCells_app (s t : ByteArray) : Lib.strCells s ++ Lib.strCells t = Lib.strCells (s ++ t) := by
  rw [Lib.strCells_eq, Lib.strCells_eq, Lib.strCells_eq, ← Lib.byteCells_append, Oct.append_toList]
theorem strCells_b1 (k : Int) (h0 : 0 ≤ k) (h1 : k < 256) : Lib.strCells (b1 k) = [.int .u8 k] := by
  have : k.toNat % 256 = k.toNat := by omega
  simp [Lib.strCells, b1, this]; omega
/-- a byte is written -/
theorem Bd.byte {B b : Nat} {s : ByteArray} {w : World} (h : Bd B b s w) (k : Int) (h0 : 0 ≤ k) (h1 : k < 256) (hlen : s.size + 1 ≤ 140737488355328) (hBw : B ≤ w.heap.size) :
    Calls Tryd.prog 27 #[.pointer (some ⟨b, 0, none⟩), .int .u8 k] w fun e w' => e = .returned .nilIface ∧ Bd B b (s ++ b1 k) w' ∧ Below B w w' ∧ Keeps b w w' := by
  refine (WriteByte_all B b _ k w h.1 (by rw [Lib.strCells_length]; exact hlen) hBw).mono ?_
  rintro e w' ⟨rfl, hA, hB⟩
  rw [← strCells_b1 k h0 h1, strCells_app] at hA
  exact ⟨rfl, ⟨Or.inr hA, fun _ => hA⟩, hB⟩
/-- a text is written -/
theorem Bd.text {B b : Nat} {s : ByteArray} {w : World} (h : Bd B b s w) (t : ByteArray) (hlen : s.size + t.size ≤ 140737488355328) (hBw : B ≤ w.heap.size) :
    Calls Tryd.prog 28 #[.pointer (some ⟨b, 0, none⟩), .string t] w fun e w' => e = .returned (.tuple #[.int .i64 t.size, .nilIface]) ∧ Bd B b (s ++ t) w' ∧ Below B w w' ∧ Keeps b w w' := by
  refine (WriteString_all B b _ t w h.1 (by rw [Lib.strCells_length]; exact hlen) hBw).mono ?_
  rintro e w' ⟨rfl, hA, hB⟩
  rw [strCells_app] at hA
  exact ⟨rfl, ⟨Or.inr hA, fun _ => hA⟩, hB⟩
/-- what it holds -/
theorem Bd.string {B b : Nat} {s : ByteArray} {w : World} (h : Bd B b s w) (hs : s.size ≠ 0) :
    Calls Tryd.prog 31 #[.pointer (some ⟨b, 0, none⟩)] w fun e w' => e = .returned (.string s) ∧ Below B w w' := by
  have := h.2 hs
  rw [Lib.strCells_eq] at this
  refine (Ident.String_calls B b s.data.toList w this (fun e => hs (by rw [← Oct.size_toList, e]; rfl))).mono ?_
  rintro e w' ⟨rfl, hB⟩
  exact ⟨by simp, hB⟩
end Go.Proofs.YtmbbnabongnojaaDoor.Ob
