/-
  What the functions of a shelf's map do: how many keys there are, what one has, one put in, one taken out. Conditions: a map is not too great for its count; its keys rise.
-/
import Derived.Test.YtdmpkgdlelagjaaGreatDoorRows
import Derived.Test.YtdmpkgdlelagjaaGreatDoorShWith
import Derived.Test.YtdmpkgdlelagjaaGreatDoorShLess
import Derived.Deep.RegionLaw
namespace Go.Proofs.YtdmpkgdlelagjaaGreatDoor.Sh
open Go.RowKit
theorem results_empty {P : Program} {fn : Func} {a d : Nat} {t : TypeId} {tmps : Array Value} {w : World} {ad : Addr} (h : fn.results = #[.cell a t, .tmp d]) (hx : tmps.getD a undef = .pointer (some ad)) (he : (loadVar t ad).run P w = .ok (.agg #[]) w) :
    (results fn tmps).run P w = .ok (.tuple #[.agg #[], tmps.getD d undef]) w := by
  simp only [results, h]
  simp [asAddr, -Array.getD_eq_getD_getElem?, hx, he]
theorem load_none (w : World) (ad : Addr) : (loadVar 85 ad).run Tryz.prog w = .ok (.agg #[]) w := by
  simp [loadVar, go_sem]
end Go.Proofs.YtdmpkgdlelagjaaGreatDoor.Sh
namespace Go.Proofs.YtdmpkgdlelagjaaGreatDoor.Ti
open Go.RowKit Sh
open Key (lt)
open Ent (key)
attribute [local go_sem] fold_none

end Go.Proofs.YtdmpkgdlelagjaaGreatDoor.Ti
namespace Go.Proofs.YtdmpkgdlelagjaaGreatDoor.Ts
open Go.RowKit Sh
open Key (lt)
open Ent (key)
attribute [local go_sem] fold_none

/-- a map's (or a set's) address, and what it holds; a nil one holds nothing -/
def At (W : World) (t : TypeId) (a : Option Addr) (L : List ByteArray) : Prop :=
  (a = none ∧ L = []) ∨ ∃ (b : Nat) (p : Option Addr) (T : Tr ByteArray), a = some ⟨b, 0, none⟩ ∧ Boxed W b t (.pointer p) ∧ IsTree W p T ∧ T.flat = L
theorem At.next {W W' : World} {t : TypeId} {a : Option Addr} {L : List ByteArray} (h : At W t a L) (hb : Below W.heap.size W W') : At W' t a L := by
  rcases h with h | ⟨b, p, T, rfl, h1, h2, h3⟩
  · exact Or.inl h
  · exact Or.inr ⟨b, p, T, rfl, (hb.block b h1.lt).trans h1, h2.next hb, h3⟩

set_option maxHeartbeats 2000000 in
theorem tree_calls (w : World) (t : TypeId) (a : Option Addr) (L : List ByteArray) (h : At w t a L) :
    Calls Tryz.prog 90 #[.pointer a] w fun e w' => (∃ p T, e = .returned (.pointer p) ∧ IsTree w p T ∧ T.flat = L) ∧ w' = w := by
  rcases h with ⟨rfl, rfl⟩ | ⟨b, p, T, rfl, h1, h2, h3⟩
  · go_enter Tryz.func90, Tryz.ntmps90
    go_wp2
    go_ret
    exact ⟨⟨none, .nil, rfl, rfl, rfl⟩, rfl⟩
  · have c := h1.cell
    replace h2 := Lib.hid h2
    replace h3 := Lib.hid h3
    clear h1
    go_enter Tryz.func90, Tryz.ntmps90
    go_wp2
    go_ret
    exact ⟨⟨p, T, rfl, h2.out, h3.out⟩, rfl⟩

theorem Len_calls (w : World) (t : TypeId) (a : Option Addr) (L : List ByteArray) (h : At w t a L) :
    Calls Tryz.prog 64 #[.pointer a] w fun e w' => e = .returned (.int .i64 (L.length : Int)) ∧ w' = w := by
  have hT := Lib.hid (tree_calls w t a L h)
  clear h
  generalize hn : L.length = n
  go_enter Tryz.func64, Tryz.ntmps64
  go_wp2_with fail
  refine hT.out.mono ?_
  rintro e w1 ⟨⟨p, T, rfl, h2, h3⟩, rfl⟩
  have hc := Lib.hid (count_calls w1 p T h2)
  have hk : Hid (T.num = n) := Lib.hid (by rw [← hn, ← h3]; rfl)
  clear h2 h3 hn
  go_wp2_with fail
  refine hc.out.mono ?_
  rintro e w2 ⟨rfl, rfl⟩
  go_wp2
  go_ret
  exact ⟨by rw [hk.out]; rfl, rfl⟩

set_option maxHeartbeats 2000000 in
theorem Get_calls (w : World) (t : TypeId) (a : Option Addr) (L : List ByteArray) (k : ByteArray) (h : At w t a L) (hR : Rises L) :
    Calls Tryz.prog 88 #[.pointer a, .string k] w fun e w' => e = .returned (.tuple #[.agg #[], .bool (has k L)]) ∧ Below w.heap.size w w' := by
  have b0 := b_alloc w (.cells #[] 85)
  have hT := Lib.hid (tree_calls _ t a L (h.next b0))
  have hF := Lib.hid fun p T (h2 : IsTree _ p T) (h3 : T.flat = L) => find_calls (w.alloc (.cells #[] 85)) p T k h2 (h3 ▸ hR)
  have hh : Hid (has k L = (fnd k L).isSome) := Lib.hid (has_fnd k L)
  clear h hR
  generalize has k L = z at *
  go_enter Tryz.func88, Tryz.ntmps88
  go_wp2_with fail
  refine hT.out.mono ?_
  rintro e w1 ⟨⟨p, T, rfl, h2, h3⟩, rfl⟩
  have hF2 := Lib.hid (hF.out p T h2 h3)
  replace h3 := Lib.hid h3
  clear hF h2 hT
  go_wp2_with fail
  refine hF2.out.mono ?_
  rintro e w2 ⟨hf, rfl⟩
  rw [h3.out] at hf
  rcases hf with ⟨h4, rfl⟩ | ⟨x, b, pl, pr, n, h4, rfl, hN⟩
  · have hz : z = false := by rw [hh.out, h4]; rfl
    subst hz
    clear h4 hh h3
    go_wp2
    refine bodyPost_ret (results_empty rfl rfl (load_none _ _)) rfl ?_
    exact ⟨rfl, b0⟩
  · have hz : z = true := by rw [hh.out, h4]; rfl
    subst hz
    have c1 := part_run hN
    clear h4 hh h3
    go_wp2
    refine bodyPost_ret (results_empty rfl rfl (load_none _ _)) rfl ?_
    exact ⟨rfl, b0⟩

/-- the block of a map alone has changed, and it holds another list -/
def Turns (w : World) (t : TypeId) (b : Nat) (L : List ByteArray) (w' : World) : Prop := At w' t (some ⟨b, 0, none⟩) L ∧ w.grownBy w' (some b)
theorem turns_mk {w w1 : World} {t : TypeId} {b : Nat} {p p' : Option Addr} {T : Tr ByteArray} {L : List ByteArray} (hne : t ≠ 137) (hB : Boxed w b t (.pointer p)) (hb : Below w.heap.size w w1) (hT : IsTree w1 p' T) (hL : T.flat = L) :
    Turns w t b L (w1.setCell ⟨b, 0, none⟩ (.pointer p')) := by
  have h1 : Boxed w1 b t (.pointer p) := (hb.block b hB.lt).trans hB
  have hk : Nodes w1 (w1.setCell ⟨b, 0, none⟩ (.pointer p')) := fun k c z hk => by
    refine (Below.heap_setCell _ _ _ k fun e => ?_).trans hk
    subst e
    have := hk.symm.trans h1
    simp at this
    exact hne this.2.1.symm
  refine ⟨Or.inr ⟨b, p', T, rfl, h1.set _, hT.kept hk, hL⟩, ⟨hb.os, hb.tape, hb.output, ?_, fun k hk hne => ?_⟩⟩
  · have := (grownBy_setCell' w1 b (.pointer p')).size; have := hb.size; omega
  · exact (Below.heap_setCell _ _ _ k (fun e => hne (by rw [e]))).trans (hb.block k hk)
theorem Turns.drew {w : World} {t : TypeId} {b : Nat} {L : List ByteArray} {w' : World} (h : Turns w t b L w') : Turns w t b L w'.drew := ⟨h.1.next (b_drew _), ⟨h.2.os, h.2.tape, h.2.output, h.2.size, h.2.block⟩⟩

set_option maxHeartbeats 4000000 in
set_option maxRecDepth 100000 in
theorem Put_calls (w : World) (t : TypeId) (b : Nat) (L : List ByteArray) (e : ByteArray) (hne : t ≠ 137) (h : At w t (some ⟨b, 0, none⟩) L) (hR : Rises L) (hb : L.length < 600000) :
    Calls Tryz.prog 59 #[.pointer (some ⟨b, 0, none⟩), .string e, .agg #[]] w fun r w' => r = .returned (.bool (!has (key e) L)) ∧ Turns w t b (ins e L) w' := by
  have b0 := b_alloc w (.cells #[] 85)
  have hK := Lib.hid fun w' (hb : Below w.heap.size w w') => Len_calls w' t _ L (h.next hb)
  have hM := Lib.hid fun w' (hT : Turns w t b (ins e L) w') => Len_calls w' t _ _ hT.1
  rcases h with ⟨h, _⟩ | ⟨b', p, T, h1, h2, h3, h4⟩
  · cases h
  obtain rfl : b = b' := by simpa using h1
  have hW := Lib.hid fun w' (hb' : Below w.heap.size w w') => with_calls e T w' p (h3.next hb') (h4 ▸ hR) (by show T.flat.length < _; rw [h4]; omega)
  have hX := Lib.hid fun w' (hb' : Below w.heap.size w w') => (show Boxed w' b t (.pointer p) from (hb'.block b h2.lt).trans h2)
  have hE : Hid (∀ w1 p' T', Below w.heap.size w w1 → IsTree w1 p' T' → T'.flat = ins e T.flat → Turns w t b (ins e L) (w1.setCell ⟨b, 0, none⟩ (.pointer p'))) := Lib.hid fun w1 p' T' hb' hT' hf => turns_mk hne h2 hb' hT' (by rw [hf, h4])
  have hl := length_ins e hR
  have hz : Hid (decide (L.length < (ins e L).length) = !has (key e) L) := Lib.hid (by rw [hl]; cases has (key e) L <;> simp)
  clear h1 h2 h3 h4 hl hR hb hne
  generalize (!has (key e) L) = z at *
  generalize L.length = n at *
  generalize (ins e L).length = m at *
  have c0 := (hX.out _ b0).cell
  have f0 := (hX.out _ b0).frozen
  have c1 := (hX.out _ (b_then b0 (b_drew _))).cell
  go_enter Tryz.func59, Tryz.ntmps59
  go_wp2_with (go_at_call 64; refine (hK.out _ b0).mono ?_; clear hK; rintro r w' ⟨rfl, rfl⟩)
  go_region_law ((go_simp; go_at_call 86; refine (hW.out _ (b_then b0 (b_drew _))).mono ?_; rintro r w2 ⟨p2, T2, rfl, t2, g2, b2⟩; have h9 := Lib.hid (hE.out _ _ _ (b_then (b_then b0 (b_drew _)) b2) t2 g2); have c2 := (hX.out _ (b_then (b_then b0 (b_drew _)) b2)).cell; have f2 := (hX.out _ (b_then (b_then b0 (b_drew _)) b2)).frozen; clear t2 g2 b2))
  all_goals
    go_wp2_with (go_at_call 64; refine (hM.out _ h9.out).mono ?_; rintro r w' ⟨rfl, rfl⟩)
    go_ret
    exact ⟨by rw [← hz.out]; rfl, h9.out⟩

end Go.Proofs.YtdmpkgdlelagjaaGreatDoor.Ts
namespace Go.Proofs.YtdmpkgdlelagjaaGreatDoor.Tm
open Go.RowKit Sh
open Key (lt)
open Ent (key)
attribute [local go_sem] fold_none

end Go.Proofs.YtdmpkgdlelagjaaGreatDoor.Tm
