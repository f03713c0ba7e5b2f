/-
  Maps of texts to facts: Get, Put and New. Conditions: maps are not too great.
-/
import Derived.Test.YtbjpogeemajhoaaGreatShFact
namespace Go.Proofs.YtbjpogeemajhoaaGreat.Tf
open Go Go.RowKit Sh
open Key (lt)
open Ent (key)
attribute [local go_sem] fold_none

theorem fx_range {w : World} {g : Nat} {x : Or.Fx} (h : Or.FxBlk w g x) : w.rangeAt g 0 [.string x.f.id, .int .i64 x.f.high, .slice x.pa x.f.pars.length x.pc] := fun j v hj => by
  obtain ⟨h1, h2, h3⟩ := h.cell
  match j, hj with
  | 0, hj => cases hj; exact h1
  | 1, hj => cases hj; exact h2
  | 2, hj => cases hj; exact h3
/-- a fact in a result's block, and one word more -/
theorem results_fact {P : Program} {fn : Func} {a u : Nat} {t : TypeId} {tmps : Array Value} {w : World} {b o : Nat} {cs : List Value} {d : TypeDesc} (h : fn.results = #[.cell a t, .tmp u])
    (hx : tmps.getD a undef = .pointer (some ⟨b, o, none⟩)) (hc : w.rangeAt b o cs) (hu : P.underlying t = some d) (hd : d.isRow = true) (hi : (P.info? t).map (·.size) = some cs.length) :
    (results fn tmps).run P w = .ok (.tuple #[.agg cs.toArray, tmps.getD u undef]) w := by
  have e : (loadVar t ⟨b, o, none⟩).run P w = _ := run_loadVar_mid w b o t cs d hc hu hd hi
  simp only [results, h]
  simp [asAddr, -Array.getD_eq_getD_getElem?, hx, e]

set_option maxHeartbeats 2000000 in
theorem Get_calls (w : World) (t : TypeId) (a : Option Addr) (L : List (ByteArray × Or.Fx)) (k : ByteArray) (x : (ByteArray × Or.Fx)) (h : At w t a L) (hR : Rises L) (hv : fnd k L = some x) :
    Calls Tryz.prog 11 #[.pointer a, .string k] w fun e w' => e = .returned (.tuple #[.agg #[.string x.2.f.id, .int .i64 x.2.f.high, .slice x.2.pa x.2.f.pars.length x.2.pc], .bool true]) ∧ Below w.heap.size w w' := by
  have b0 := b_alloc w (.cells #[.string ⟨#[]⟩, .int .i64 0, .slice none 0 0] 28)
  have hT := Lib.hid (tree_calls _ t a L (h.next b0))
  have hF := Lib.hid fun p T (h2 : IsTree _ p T) (h3 : T.flat = L) => find_calls (w.alloc (.cells #[.string ⟨#[]⟩, .int .i64 0, .slice none 0 0] 28)) p T k h2 (h3 ▸ hR)
  replace hv := Lib.hid hv
  clear h hR
  go_enter Tryz.func11, Tryz.ntmps11
  go_wp2_with fail
  refine hT.out.mono ?_
  rintro e w1 ⟨⟨p, T, rfl, h2, h3⟩, hw⟩
  have hF2 := Lib.hid (hF.out p T (hw ▸ h2) h3)
  replace h3 := Lib.hid h3
  subst hw
  clear hF h2 hT
  go_wp2_with fail
  refine hF2.out.mono ?_
  rintro e w2 ⟨hf, hw⟩
  subst hw
  rw [h3.out, hv.out] at hf
  rcases hf with ⟨h4, _⟩ | ⟨y, b, pl, pr, n, h4, rfl, hN⟩
  · cases h4
  · obtain rfl : x = y := Option.some.inj h4
    obtain ⟨_, c1, c2, c3, _⟩ := hN.cells
    clear h4 h3 hv hF2
    go_wp2
    have hR := fx_range (Or.FxBlk.new w x.2)
    refine bodyPost_ret (results_fact Tryz.results11 rfl hR Tryz.underlying28 rfl (by kernel_rfl)) rfl ?_
    exact ⟨rfl, b_alloc _ _⟩

set_option maxHeartbeats 4000000 in
set_option maxRecDepth 100000 in
theorem Put_calls (w : World) (t : TypeId) (b : Nat) (L : List (ByteArray × Or.Fx)) (e : (ByteArray × Or.Fx)) (hne : t ≠ 73) (h : At w t (some ⟨b, 0, none⟩) L) (hR : Rises L) (hb : L.length < 600000) :
    Calls Tryz.prog 10 #[.pointer (some ⟨b, 0, none⟩), .string e.1, .agg #[.string e.2.f.id, .int .i64 e.2.f.high, .slice e.2.pa e.2.f.pars.length e.2.pc]] w fun r w' => r = .returned (.bool (!has (key e) L)) ∧ Turns w t b (ins e L) w' := by
  have b0 := b_alloc w (.cells #[.string e.2.f.id, .int .i64 e.2.f.high, .slice e.2.pa e.2.f.pars.length e.2.pc] 28)
  have hK := Lib.hid fun w' (hb : Below w.heap.size w w') => Len_calls w' t _ L (h.next hb)
  have hM := Lib.hid fun w' (hT : Turns w t b (ins e L) w') => Len_calls w' t _ _ hT.1
  rcases h with ⟨h, _⟩ | ⟨b', p, T, h1, h2, h3, h4⟩
  · cases h
  obtain rfl : b = b' := by simpa using h1
  have hW := Lib.hid fun w' (hb' : Below w.heap.size w w') => with_calls e T w' p (h3.next hb') (h4 ▸ hR) (by show T.flat.length < _; rw [h4]; omega)
  have hX := Lib.hid fun w' (hb' : Below w.heap.size w w') => (show Boxed w' b t (.pointer p) from (hb'.block b h2.lt).trans h2)
  have hE : Hid (∀ w1 p' T', Below w.heap.size w w1 → IsTree w1 p' T' → T'.flat = ins e T.flat → Turns w t b (ins e L) (w1.setCell ⟨b, 0, none⟩ (.pointer p'))) := Lib.hid fun w1 p' T' hb' hT' hf => turns_mk hne h2 hb' hT' (by rw [hf, h4])
  have hl := length_ins e hR
  have hz : Hid (decide (L.length < (ins e L).length) = !has (key e) L) := Lib.hid (by rw [hl]; cases has (key e) L <;> simp)
  have hV : Hid (∀ w', Below (w.alloc (.cells #[.string e.2.f.id, .int .i64 e.2.f.high, .slice e.2.pa e.2.f.pars.length e.2.pc] 28)).heap.size (w.alloc (.cells #[.string e.2.f.id, .int .i64 e.2.f.high, .slice e.2.pa e.2.f.pars.length e.2.pc] 28)) w' → (w'.cell? ⟨w.heap.size, 0, none⟩ = some (.string e.2.f.id) ∧ w'.cell? ⟨w.heap.size, 1, none⟩ = some (.int .i64 e.2.f.high) ∧ w'.cell? ⟨w.heap.size, 2, none⟩ = some (.slice e.2.pa e.2.f.pars.length e.2.pc))) := Lib.hid fun w' h => ((Or.FxBlk.new w e.2).next h).cell
  clear h1 h2 h3 h4 hl hR hb hne
  generalize (!has (key e) L) = z at *
  generalize L.length = n at *
  generalize (ins e L).length = m at *
  have c0 := (hX.out _ b0).cell
  have f0 := (hX.out _ b0).frozen
  have c1 := (hX.out _ (b_then b0 (b_drew _))).cell
  have c5 := hV.out _ (b_drew _)
  go_enter Tryz.func10, Tryz.ntmps10
  go_wp2_with fail
  refine (hK.out _ b0).mono ?_
  rintro r w' ⟨rfl, rfl⟩
  clear hK
  obtain ⟨d0, d1, d2⟩ := c5
  go_wp2_with fail
  go_region_law ((go_simp; go_at_call 26; refine (hW.out _ (b_then b0 (b_drew _))).mono ?_; rintro r w2 ⟨p2, T2, rfl, t2, g2, b2⟩; have h9 := Lib.hid (hE.out _ _ _ (b_then (b_then b0 (b_drew _)) b2) t2 g2); have c2 := (hX.out _ (b_then (b_then b0 (b_drew _)) b2)).cell; have f2 := (hX.out _ (b_then (b_then b0 (b_drew _)) b2)).frozen; clear t2 g2 b2))
  all_goals
    go_wp2_with (go_at_call 25; refine (hM.out _ h9.out).mono ?_; rintro r w' ⟨rfl, rfl⟩)
    go_ret
    exact ⟨by rw [← hz.out]; rfl, h9.out⟩
end Go.Proofs.YtbjpogeemajhoaaGreat.Tf
namespace Go.Proofs.YtbjpogeemajhoaaGreat.Tm
open Go Go.RowKit Sh
attribute [local go_sem] fold_none
set_option maxHeartbeats 1000000 in
theorem New_map (w : World) :
    Calls Tryz.prog 7 #[] w fun e w' => e = .returned (.pointer (some ⟨w.heap.size, 0, none⟩)) ∧ At w' 63 (some ⟨w.heap.size, 0, none⟩) [] ∧ Below w.heap.size w w' := by
  have hE : Hid (At (w.alloc (.cells #[.pointer none] 63)) 63 (some ⟨w.heap.size, 0, none⟩) [] ∧ Below w.heap.size w (w.alloc (.cells #[.pointer none] 63))) :=
    Lib.hid ⟨Or.inr ⟨w.heap.size, none, .nil, rfl, Boxed.new w _ _, rfl, rfl⟩, b_alloc _ _⟩
  go_enter Tryz.func7, Tryz.ntmps7
  go_wp2
  go_ret
  exact ⟨rfl, hE.out.1, hE.out.2⟩
theorem Turns.below {w0 w w' : World} {t : TypeId} {b : Nat} {L : List (ByteArray × Int)} (h : Turns w t b L w') (hb : Below w0.heap.size w0 w) (hl : w0.heap.size ≤ b) : Below w0.heap.size w0 w' := hb.grown h.2 hb.size (fun k e => by cases e; exact hl)
end Go.Proofs.YtbjpogeemajhoaaGreat.Tm
namespace Go.Proofs.YtbjpogeemajhoaaGreat.Tf
open Go Go.RowKit Sh
attribute [local go_sem] fold_none
set_option maxHeartbeats 1000000 in
theorem New_map (w : World) :
    Calls Tryz.prog 9 #[] w fun e w' => e = .returned (.pointer (some ⟨w.heap.size, 0, none⟩)) ∧ At w' 68 (some ⟨w.heap.size, 0, none⟩) [] ∧ Below w.heap.size w w' := by
  have hE : Hid (At (w.alloc (.cells #[.pointer none] 68)) 68 (some ⟨w.heap.size, 0, none⟩) [] ∧ Below w.heap.size w (w.alloc (.cells #[.pointer none] 68))) :=
    Lib.hid ⟨Or.inr ⟨w.heap.size, none, .nil, rfl, Boxed.new w _ _, rfl, rfl⟩, b_alloc _ _⟩
  go_enter Tryz.func9, Tryz.ntmps9
  go_wp2
  go_ret
  exact ⟨rfl, hE.out.1, hE.out.2⟩
theorem Turns.below {w0 w w' : World} {t : TypeId} {b : Nat} {L : List (ByteArray × Or.Fx)} (h : Turns w t b L w') (hb : Below w0.heap.size w0 w) (hl : w0.heap.size ≤ b) : Below w0.heap.size w0 w' := hb.grown h.2 hb.size (fun k e => by cases e; exact hl)
end Go.Proofs.YtbjpogeemajhoaaGreat.Tf
