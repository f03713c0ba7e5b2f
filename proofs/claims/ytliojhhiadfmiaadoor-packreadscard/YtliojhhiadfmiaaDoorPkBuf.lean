/-
  strings.Builder over this program, two of them side by side: WriteString, Len and String of a builder that holds bytes, with the row of its bytes named; what it leaves alone. Conditions: the builder is new or was written by its own methods; the length stays within Go's own limit.
-/
import Derived.Test.YtliojhhiadfmiaaDoorRows
import Derived.Test.YtliojhhiadfmiaaDoorPkOwn
import Derived.Test.YtliojhhiadfmiaaDoorIdBuf
import Derived.Test.YtliojhhiadfmiaaDoorOctKit
import Derived.WalkKit
import Derived.WalkSpells
import Derived.WalkLawsBesides
import Derived.ProofKit
import Derived.OpenShut
import Derived.Laws.BytesArg
import Derived.Deep.QuietTactic
import Derived.BigQuiet
import Derived.BigRegion
import Derived.Lib.Hide
import Derived.Lib.Builder
import Derived.Lib.UnsafeStr
import Derived.Lib.AppendStr
import Derived.Laws.Externs
import Derived.Deep.OwnRows
import Derived.Lib.SlBuf
import Derived.Lib.LazyBuf
import Derived.Deep.Cut
import Derived.Deep.MidRow
import Derived.IntWalk
import Derived.StillTailTactics
namespace Go.Proofs.YtliojhhiadfmiaaDoor.Pk
open Go Go.RowKit
open Oct (empty)
open Ident (infoByte copyCheck_fresh copyCheck_used)

/-- where a row of bytes lies behind an append: where it was, or anew -/
theorem place_append {w w' : World} {base : Nat} {ty : TypeId} {i : TypeInfo} (hi : Tryd.prog.info? 5 = some i) (hz : i.zero = some (.int .u8 0)) (hsize : i.size = 1) (hby : i.bytes = 1)
    {v v' : Value} {n : Nat} {xs : List Value} (hown : w.ownsRow base 5 1 v n xs) (s : ByteArray) (hbytes : n + s.size ≤ 140737488355328)
    (hr : (Builtin.append_ #[40, 9] ty #[v, .string s]).run Tryd.prog w = .ok v' w') : v'.ownBlock = v.ownBlock ∨ v'.ownBlock = some w.heap.size := by
  have hxl : xs.length = n := by simpa using hown.1
  rcases hown.2 with ⟨rfl, rfl⟩ | ⟨g, cap, cur, rfl, hbg, hg, hnc, hcm, hcs, htake⟩
  · by_cases hm : s.size = 0
    · have hf := Lib.run_firstCells_string (P := Tryd.prog) w 1 s
      rw [hm] at hf
      have h2 : (Builtin.append_ #[40, 9] ty #[.slice none 0 0, .string s]).run Tryd.prog w = .ok (.slice none 0 0) w := by
        simp [Builtin.append_, run_underlying Tryd.underlying40, run_underlying Tryd.underlying9, sizeOf, typeInfo, hi, hsize, Builtin.lenOf, hm, hf]
      rw [h2] at hr
      simp only [Result.ok.injEq] at hr
      obtain ⟨rfl, _⟩ := hr
      exact Or.inl rfl
    · have h2 := run_append_nil_string (P := Tryd.prog) w 40 9 ty 5 i (.int .u8 0) Tryd.underlying40 Tryd.underlying9 hi hz s (by omega) (by omega) (by rw [hby]; omega)
      rw [h2] at hr
      simp only [Result.ok.injEq] at hr
      obtain ⟨rfl, _⟩ := hr
      exact Or.inr rfl
  · by_cases hroom : n + s.size ≤ cap
    · have hcs' : cur.size = cap := by simpa using hcs
      have h2 := Lib.run_append_room_string (P := Tryd.prog) w 40 9 ty 5 i Tryd.underlying40 Tryd.underlying9 hi hsize g n cap cur hg s hroom (by omega)
      rw [h2] at hr
      simp only [Result.ok.injEq] at hr
      obtain ⟨rfl, _⟩ := hr
      exact Or.inl rfl
    · have holds : ∀ j u, xs[j]? = some u → w.cell? ((⟨g, 0, none⟩ : Addr).add j) = some u := hown.cells (g := g) rfl
      have h2 := Lib.run_append_grow_string (P := Tryd.prog) w 40 9 ty 5 i (.int .u8 0) Tryd.underlying40 Tryd.underlying9 hi hz ⟨g, 0, none⟩ n cap xs (by rw [hsize]; simpa using hxl) holds s (by omega) (by omega) (by rw [hby]; exact growslice_fits (by omega) (by omega))
      rw [h2] at hr
      simp only [Result.ok.injEq] at hr
      obtain ⟨rfl, _⟩ := hr
      exact Or.inr rfl
/-- append(b, s...), as the walk stands at it, with where the row lies -/
theorem wp_append_str {ops : Array Oper} {rest : List Oper} {o : Oper} {a : Act} {Q : Exit → Act → World → Prop} {w : World} (hgd : o.guard = none) (sl x : Operand)
    (ho : o.op = .call { callee := .builtin .append, args := #[sl, x], argTypes := #[40, 9] })
    (base : Nat) (v : Value) (n : Nat) (xs : List Value) (hs : a.eval sl = v) (hown : w.ownsRow base 5 1 v n xs) (s : ByteArray) (hx : a.eval x = .string s)
    (hbytes : n + s.size ≤ 140737488355328) (hbase : base ≤ w.heap.size)
    (h : ∀ v' w', w'.ownsRow base 5 1 v' (n + s.size) (xs ++ Lib.strCells s) → w.grownBy w' v.ownBlock → (v'.ownBlock = v.ownBlock ∨ v'.ownBlock = some w.heap.size) → (v' = .slice none 0 0 ↔ v = .slice none 0 0 ∧ s.size = 0) → wpList Tryd.prog ops Q rest (a.put o.dst v') w') : wpList Tryd.prog ops Q (o :: rest) a w := by
  obtain ⟨i, hi, hz, hsize, hby⟩ := info_parts infoByte
  refine wpList_plain hgd fun K hK => ?_
  obtain ⟨v', w', hr, h2, h3, h4⟩ := Lib.run_append_own_string (P := Tryd.prog) w base 40 9 o.type 5 i Tryd.underlying40 Tryd.underlying9 hi hz hsize hby v n xs hown s (by unfold maxLen; omega) hbytes hbase
  have hp := place_append hi hz hsize hby hown s hbytes hr
  unfold Oper.wp execOp
  simp only [ho, resolve, invoke, builtin, Sem.run_bind, Sem.run_pure, Result.andThen_ok, List.map_toArray, List.map_cons, List.map_nil, hs, hx, hr]
  exact hK _ _ (h v' w' h2 h3 hp h4)

/-- a builder of the call's own that holds bytes, with the row of its bytes -/
structure Bv (B b : Nat) (p v : Value) (s : ByteArray) (w : World) : Prop where
  base : B ≤ b
  blk : Blk w b #[p, v] 78
  ptr : p = .pointer none ∨ p = .pointer (some ⟨b, 0, none⟩)
  own : w.ownsRow B 5 1 v s.size (Lib.strCells s)
  ne : v.ownBlock ≠ some b
  nil : s.size = 0 → v = .slice none 0 0
/-- what a write turned: the builder's own block, its row -/
structure Wrote (b : Nat) (v v' : Value) (w w' : World) : Prop where
  os : w'.os = w.os
  tape : w'.tape = w.tape
  output : w'.output = w.output
  size : w.heap.size ≤ w'.heap.size
  block : ∀ k, k < w.heap.size → k ≠ b → v.ownBlock ≠ some k → w'.heap[k]? = w.heap[k]?
  place : v'.ownBlock = v.ownBlock ∨ ∀ k, v'.ownBlock = some k → w.heap.size ≤ k
theorem Bv.lt {B b : Nat} {p v : Value} {s : ByteArray} {w : World} (h : Bv B b p v s w) : b < w.heap.size := h.blk.lt
theorem Bv.new (w : World) : Bv w.heap.size w.heap.size (.pointer none) (.slice none 0 0) empty (w.alloc (.cells #[.pointer none, .slice none 0 0] 78)) :=
  ⟨Nat.le_refl _, Blk.new w _ _, Or.inl rfl, World.ownsRow_nil _ _ _ _, fun h => (by cases h), fun _ => rfl⟩
theorem Bv.next {B b : Nat} {p v : Value} {s : ByteArray} {w w' : World} (h : Bv B b p v s w) (t : Below w.heap.size w w') : Bv B b p v s w' :=
  ⟨h.base, h.blk.next t, h.ptr, owns_turn h.own fun g hg => t.block g (h.own.lt g hg).2, h.ne, h.nil⟩
theorem Bv.turn {B b : Nat} {p v : Value} {s : ByteArray} {w w' : World} (h : Bv B b p v s w) (t1 : w'.heap[b]? = w.heap[b]?) (t2 : ∀ g, v.ownBlock = some g → w'.heap[g]? = w.heap[g]?) : Bv B b p v s w' :=
  ⟨h.base, t1.trans h.blk, h.ptr, owns_turn h.own t2, h.ne, h.nil⟩
theorem Wrote.below {B b : Nat} {p v v' : Value} {s : ByteArray} {w w' : World} (t : Wrote b v v' w w') (h : Bv B b p v s w) : Below B w w' :=
  ⟨t.os, t.tape, t.output, t.size, fun k hk => t.block k (Nat.lt_of_lt_of_le hk (Nat.le_trans h.base (Nat.le_of_lt h.lt))) (by have := h.base; omega) (fun e => by have := (h.own.lt k e).1; omega)⟩
/-- blocks that are neither the builder nor bytes stay -/
theorem Wrote.keep {B b : Nat} {p v v' : Value} {s : ByteArray} {w w' : World} (t : Wrote b v v' w w') (h : Bv B b p v s w) {k : Nat} {cs : Array Value} {T : TypeId} {fr : Nat × Nat} (hk : k ≠ b) (hT : T ≠ 5) (he : w.heap[k]? = some (.cells cs T fr)) : w'.heap[k]? = some (.cells cs T fr) := by
  refine (t.block k (Array.getElem?_eq_some_iff.1 he).1 hk fun e => ?_).trans he
  rcases h.own.2 with ⟨hv, _⟩ | ⟨g, cap, cur, hv, _, hc, _⟩
  · rw [hv] at e; simp [Value.ownBlock] at e
  · rw [hv] at e
    simp only [Value.ownBlock, Option.some.injEq] at e
    subst e
    rw [hc] at he
    simp only [Option.some.injEq, Obj.cells.injEq] at he
    exact hT he.2.1.symm
theorem strCells_app (s t : ByteArray) : Lib.strCells s ++ Lib.strCells t = Lib.strCells (s ++ t) := by
  rw [Lib.strCells_eq, Lib.strCells_eq, Lib.strCells_eq, ← Lib.byteCells_append, Oct.append_toList]
theorem copyCheck_v (B b : Nat) (p v : Value) (s : ByteArray) (w : World) (h : Bv B b p v s w) :
    Calls Tryd.prog 76 #[.pointer (some ⟨b, 0, none⟩)] w fun e w' => e = .returned (.tuple #[]) ∧ Bv B b (.pointer (some ⟨b, 0, none⟩)) v s w' ∧ Wrote b v v w w' ∧ w'.heap.size = w.heap.size := by
  have c0 := h.blk.cell 0 (v := p) rfl
  rcases h.ptr with rfl | rfl
  · refine (copyCheck_fresh b w c0 (by have := h.blk; simp [World.shape?, this]) (h.blk.frozen 0)).mono ?_
    rintro e w' ⟨rfl, rfl⟩
    refine ⟨rfl, ⟨h.base, h.blk.set 0 _, Or.inr rfl, owns_turn h.own fun g hg => Below.heap_setCell _ _ _ _ (fun e => h.ne (by rw [hg, e])), h.ne, h.nil⟩, ⟨rfl, rfl, rfl, by simp [World.setCell], fun k _ hk _ => Below.heap_setCell _ _ _ _ hk, Or.inl rfl⟩, by simp [World.setCell]⟩
  · refine (copyCheck_used b w c0).mono ?_
    rintro e w' ⟨rfl, rfl⟩
    exact ⟨rfl, h, ⟨rfl, rfl, rfl, Nat.le_refl _, fun _ _ _ _ => rfl, Or.inl rfl⟩, rfl⟩
set_option maxRecDepth 100000 in
set_option maxHeartbeats 2000000 in
theorem Write_v (B b : Nat) (p v : Value) (s t : ByteArray) (w : World) (h : Bv B b p v s w) (hlen : s.size + t.size ≤ 140737488355328) :
    Calls Tryd.prog 48 #[.pointer (some ⟨b, 0, none⟩), .string t] w fun e w' => e = .returned (.tuple #[.int .i64 t.size, .nilIface]) ∧ ∃ p' v', Bv B b p' v' (s ++ t) w' ∧ Wrote b v v' w w' := by
  go_enter Tryd.func48, Tryd.ntmps48
  go_wp2_with fail
  refine (copyCheck_v B b p v s w h).mono ?_
  rintro e w1 ⟨rfl, h', hw1, hz⟩
  have hlt := h'.lt
  have hB := h'.base
  have hbk := h'.blk
  have hown := h'.own
  have hne := h'.ne
  have hnl := Lib.hid h'.nil
  have h0 := hbk.cell 0 (v := .pointer (some ⟨b, 0, none⟩)) rfl
  have c1 := hbk.cell 1 (v := v) rfl
  replace hw1 := Lib.hid hw1
  clear h h'
  replace hz := Lib.hid hz
  go_wp2_with (at_builtin; refine wp_append_str rfl _ _ rfl B v s.size _ rfl hown t rfl hlen (by omega) ?_)
  intro v' w2 hown' hgrow hpl hiff
  have hb2 : Blk w2 b #[.pointer (some ⟨b, 0, none⟩), v] 78 := (hgrow.block b hlt (fun e => hne e.symm)).trans hbk
  have d0 := hb2.cell 0 (v := .pointer (some ⟨b, 0, none⟩)) rfl
  have d1 := hb2.cell 1 (v := v) rfl
  have f1 := hb2.frozen 1
  obtain ⟨ao, n', cap, rfl⟩ : ∃ ao n' cap, v' = .slice ao n' cap := by
    rcases hown'.2 with ⟨hv, _⟩ | ⟨g, cap, cur, hv, _⟩
    · exact ⟨_, _, _, hv⟩
    · exact ⟨_, _, _, hv⟩
  have hnb : (Value.slice ao n' cap).ownBlock ≠ some b := by
    rcases hpl with e | e
    · rw [e]; exact hne
    · rw [e]; intro g; simp only [Option.some.injEq] at g; omega
  have hfin := Lib.hid (show Bv B b (.pointer (some ⟨b, 0, none⟩)) (.slice ao n' cap) (s ++ t) (w2.setCell ⟨b, 1, none⟩ (.slice ao n' cap)) from
    ⟨hB, hb2.set 1 _, Or.inr rfl, by
      rw [← strCells_app, ByteArray.size_append]
      exact owns_turn hown' fun g hg => Below.heap_setCell _ _ _ _ (fun e => hnb (by rw [hg, e])), hnb, fun h0 => by
      have h1 : (s ++ t).size = 0 := h0
      rw [ByteArray.size_append] at h1
      exact hiff.2 ⟨hnl.out (Nat.eq_zero_of_add_eq_zero_right h1), ByteArray.size_eq_zero_iff.1 (Nat.eq_zero_of_add_eq_zero_left h1)⟩⟩)
  have hwr := Lib.hid (show Wrote b v (.slice ao n' cap) w (w2.setCell ⟨b, 1, none⟩ (.slice ao n' cap)) from
    ⟨hgrow.os.trans hw1.out.os, hgrow.tape.trans hw1.out.tape, hgrow.output.trans hw1.out.output, by
      have := hgrow.size
      have := hz.out
      simp only [World.setCell, Array.size_modify]; omega,
     fun k hk hkb hkv => (Below.heap_setCell _ _ _ _ hkb).trans ((hgrow.block k (by have := hz.out; omega) (fun e => hkv e.symm)).trans (hw1.out.block k hk hkb hkv)),
     hpl.elim Or.inl fun e => Or.inr fun k hk => by rw [e] at hk; have := hz.out; simp only [Option.some.injEq] at hk; omega⟩)
  clear hb2 hbk hown hown' hgrow hw1 hiff
  go_wp2
  go_ret2
  exact ⟨rfl, _, _, hfin.out, hwr.out⟩
theorem Len_v (B b : Nat) (p v : Value) (s : ByteArray) (w : World) (h : Bv B b p v s w) :
    Calls Tryd.prog 51 #[.pointer (some ⟨b, 0, none⟩)] w fun e w' => e = .returned (.int .i64 s.size) ∧ w = w' := by
  have c1 := h.blk.cell 1 (v := v) rfl
  obtain ⟨ao, cap, rfl⟩ : ∃ ao cap, v = .slice ao s.size cap := by
    rcases h.own.2 with ⟨hv, hn⟩ | ⟨g, cap, cur, hv, _⟩
    · exact ⟨_, _, by rw [hv, hn]⟩
    · exact ⟨_, _, hv⟩
  clear h
  go_enter Tryd.func51, Tryd.ntmps51
  go_wp2
  go_ret
  exact ⟨rfl, rfl⟩
/-- the row of bytes, frozen or not -/
def Row (w : World) (v : Value) (s : ByteArray) : Prop := (v = .slice none 0 0 ∧ s.size = 0) ∨ ∃ g cap cur fr, v = .slice (some ⟨g, 0, none⟩) s.size cap ∧ w.heap[g]? = some (.cells cur 5 fr) ∧ s.size ≤ cap ∧ cap ≤ maxLen ∧ cur.size = cap ∧ cur.toList.take s.size = Lib.strCells s
theorem Bv.row {B b : Nat} {p v : Value} {s : ByteArray} {w : World} (h : Bv B b p v s w) : Row w v s := by
  rcases h.own.2 with ⟨hv, hn⟩ | ⟨g, cap, cur, hv, _, h2, h3, h4, h5, h6⟩
  · exact Or.inl ⟨hv, hn⟩
  · exact Or.inr ⟨g, cap, cur, _, hv, h2, h3, h4, by omega, by rw [Nat.mul_one] at h6; exact h6⟩
theorem Row.turn {w w' : World} {v : Value} {s : ByteArray} (h : Row w v s) (t : ∀ g, v.ownBlock = some g → w'.heap[g]? = w.heap[g]?) : Row w' v s := by
  rcases h with h | ⟨g, cap, cur, fr, hv, h2, h3⟩
  · exact Or.inl h
  · exact Or.inr ⟨g, cap, cur, fr, hv, (t g (by rw [hv]; rfl)).trans h2, h3⟩
theorem freeze_heap (w : World) (g n k : Nat) (hk : k ≠ g) : (w.freeze ⟨g, 0, none⟩ n).heap[k]? = w.heap[k]? := by
  unfold World.freeze
  split
  · rfl
  · simp only [Array.getElem?_modify]
    rw [if_neg (fun e => hk e.symm)]
theorem freeze_size (w : World) (g n : Nat) : (w.freeze ⟨g, 0, none⟩ n).heap.size = w.heap.size := by
  unfold World.freeze
  split <;> simp
theorem freeze_cells {w : World} {g : Nat} {cur : Array Value} {T : TypeId} {fr : Nat × Nat} (h : w.heap[g]? = some (.cells cur T fr)) (n : Nat) : ∃ fr', (w.freeze ⟨g, 0, none⟩ n).heap[g]? = some (.cells cur T fr') := by
  unfold World.freeze
  split
  · exact ⟨_, h⟩
  · obtain ⟨lo, hi⟩ := fr
    simp [Array.getElem?_modify, h]
theorem Row.freeze {w : World} {g cap : Nat} {s : ByteArray} (h : Row w (.slice (some ⟨g, 0, none⟩) s.size cap) s) (n : Nat) : Row (w.freeze ⟨g, 0, none⟩ n) (.slice (some ⟨g, 0, none⟩) s.size cap) s := by
  rcases h with ⟨h, _⟩ | ⟨g', cap', cur, fr, hv, h2, h3⟩
  · cases h
  · simp only [Value.slice.injEq, Option.some.injEq, Addr.mk.injEq, and_true, true_and] at hv
    obtain ⟨rfl, rfl⟩ := hv
    obtain ⟨fr', hf⟩ := freeze_cells h2 n
    exact Or.inr ⟨g, cap, cur, fr', rfl, hf, h3⟩
/-- what String turns: at most the mark of the row -/
structure Still (v : Value) (w w' : World) : Prop where
  os : w'.os = w.os
  tape : w'.tape = w.tape
  output : w'.output = w.output
  size : w'.heap.size = w.heap.size
  block : ∀ k, v.ownBlock ≠ some k → w'.heap[k]? = w.heap[k]?
theorem Still.below {B : Nat} {v : Value} {w w' : World} (t : Still v w w') (h : ∀ k, v.ownBlock = some k → B ≤ k) : Below B w w' :=
  ⟨t.os, t.tape, t.output, Nat.le_of_eq t.size.symm, fun k hk => t.block k fun e => by have := h k e; omega⟩
theorem Still.trans {v : Value} {u w x : World} (h : Still v u w) (g : Still v w x) : Still v u x :=
  ⟨g.os.trans h.os, g.tape.trans h.tape, g.output.trans h.output, g.size.trans h.size, fun k hk => (g.block k hk).trans (h.block k hk)⟩
set_option maxRecDepth 100000 in
set_option maxHeartbeats 2000000 in
theorem String_v (b : Nat) (v : Value) (s : ByteArray) (w : World) (c1 : w.cell? ⟨b, 1, none⟩ = some v) (h : Row w v s) (hs : s.size ≠ 0) :
    Calls Tryd.prog 53 #[.pointer (some ⟨b, 0, none⟩)] w fun e w' => e = .returned (.string s) ∧ Row w' v s ∧ Still v w w' := by
  have hrow := h
  obtain ⟨g, cap, cur, fr, rfl, hg, hnc, hcm, hcs, htake⟩ : ∃ g cap cur fr, v = .slice (some ⟨g, 0, none⟩) s.size cap ∧ w.heap[g]? = some (.cells cur 5 fr) ∧ s.size ≤ cap ∧ cap ≤ maxLen ∧ cur.size = cap ∧ cur.toList.take s.size = Lib.strCells s := by
    rcases h with ⟨_, hz⟩ | h
    · exact absurd hz hs
    · exact h
  have hl : s.data.toList.length = s.size := Oct.size_toList s
  have hSD : (Builtin.unsafeSliceData_ #[40] 112 #[.slice (some ⟨g, 0, none⟩) s.size cap]).run Tryd.prog w.drew = .ok (.pointer (some ⟨g, 0, none⟩)) w.drew :=
    Lib.run_unsafeSliceData_row _ _ _ _ _ _ (by omega)
  have hUS : (Builtin.unsafeString_ #[112, 3] 9 #[.pointer (some ⟨g, 0, none⟩), .int .i64 s.size]).run Tryd.prog w.drew = .ok (.string s) (w.drew.freeze ⟨g, 0, none⟩ s.size) := by
    have := Lib.run_unsafeString_row (P := Tryd.prog) w.drew 112 3 9 5 Tryd.underlying112 Ident.cellsByte g cur.size (by have hg' : w.drew.heap[g]? = some (.cells cur 5 fr) := hg; simp [World.shape?, hg']) s.data.toList (fun e => hs (by rw [← hl, e]; rfl)) (by omega) (by unfold maxLen at hcm; omega) (by
      intro j x hx
      rw [Addr.add_mid]
      have hj : j < s.size := by rw [← hl]; exact (List.getElem?_eq_some_iff.1 hx).1
      have e1 : cur[j]? = (cur.toList.take s.size)[j]? := by rw [List.getElem?_take, if_pos hj, Array.getElem?_toList]
      have e2 : cur[j]? = some (.int .u8 x.toNat) := by rw [e1, htake, Lib.strCells, List.getElem?_map, hx]; rfl
      have hg' : w.drew.heap[g]? = some (.cells cur 5 fr) := hg
      simp [World.cell?, hg', e2])
    rw [hl] at this
    exact this
  have hst := Lib.hid (show Still (.slice (some ⟨g, 0, none⟩) s.size cap) w (w.drew.freeze ⟨g, 0, none⟩ s.size) from
    ⟨by unfold World.freeze; split <;> rfl, by unfold World.freeze; split <;> rfl, by unfold World.freeze; split <;> rfl, freeze_size _ _ _, fun k hk => freeze_heap _ _ _ _ (fun e => hk (by rw [e]; rfl))⟩)
  have hr2 := Lib.hid ((show Row w.drew (.slice (some ⟨g, 0, none⟩) s.size cap) s from hrow).freeze s.size)
  clear hg htake hcs hrow h
  go_enter Tryd.func53, Tryd.ntmps53
  go_wp2
  go_region
  all_goals (go_wp2; go_ret; exact ⟨rfl, hr2.out, hst.out⟩)
set_option maxRecDepth 100000 in
theorem String_none (b : Nat) (w : World) (c1 : w.cell? ⟨b, 1, none⟩ = some (.slice none 0 0)) :
    Calls Tryd.prog 53 #[.pointer (some ⟨b, 0, none⟩)] w fun e w' => e = .returned (.string empty) ∧ Still (.slice none 0 0) w w' := by
  have hSD : (Builtin.unsafeSliceData_ #[40] 112 #[.slice none 0 0]).run Tryd.prog w.drew = .ok (.pointer none) w.drew := Lib.run_unsafeSliceData_nil _ _ _ _ _
  have hUS : (Builtin.unsafeString_ #[112, 3] 9 #[.pointer none, .int .i64 0]).run Tryd.prog w.drew = .ok (.string empty) w.drew := Lib.run_unsafeString_none _ _ _ _ _
  go_enter Tryd.func53, Tryd.ntmps53
  go_wp2
  go_region
  all_goals (go_wp2; go_ret; exact ⟨rfl, rfl, rfl, rfl, rfl, fun _ _ => rfl⟩)
theorem Bv.text {B b : Nat} {p v : Value} {s : ByteArray} {w : World} (h : Bv B b p v s w) :
    Calls Tryd.prog 53 #[.pointer (some ⟨b, 0, none⟩)] w fun e w' => e = .returned (.string s) ∧ Row w' v s ∧ Still v w w' := by
  have c1 := h.blk.cell 1 (v := v) rfl
  by_cases hs : s.size = 0
  · have hv := h.nil hs
    subst hv
    refine (String_none b w c1).mono ?_
    rintro e w' ⟨rfl, hst⟩
    exact ⟨by rw [show s = empty from Oct.ext_toList (List.eq_nil_of_length_eq_zero (by rw [Oct.size_toList]; exact hs))], Or.inl ⟨rfl, hs⟩, hst⟩
  · exact String_v b v s w c1 h.row hs
end Go.Proofs.YtliojhhiadfmiaaDoor.Pk
