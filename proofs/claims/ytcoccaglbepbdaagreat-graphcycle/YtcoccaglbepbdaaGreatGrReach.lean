/-
  graph's Reach and Open; slices.ContainsFunc with a graph's lacks, slices.Max, slices.BinarySearch. Conditions: a graph as the statements ask of it.
-/
import Derived.Test.YtcoccaglbepbdaaGreatRows
import Derived.Test.YtcoccaglbepbdaaGreatGrMet
import Derived.Test.YtcoccaglbepbdaaGreatGrDel
namespace Go.Proofs.YtcoccaglbepbdaaGreat.Gr
open Go.RowKit Sh
open Key (lt)
open Ent (key)
open Ti (SetAt Reads Keyed keyed_cell Dl dl_of_row Row row_of_owns owns_none keysV keysV_len)
open Rf (Sl sl_of_owns)
attribute [local go_sem] fold_none

theorem stays_keyed {T : TypeId} {W : World} {g : Nat} (hT : T ≠ 3) (h : Keyed W g) (o : Nat) (v : Value) : Stays T W (W.setCell ⟨g, o, none⟩ v) := fun k c z hk => by
  refine (Below.heap_setCell _ _ _ k fun e => ?_).trans hk
  subst e
  obtain ⟨cur, z2, h2⟩ := h
  rw [hk] at h2
  simp at h2
  exact hT h2.2.1
theorem graph_cell {W : World} {b m g : Nat} {G : Gph} (h : GraphAt W b m G) (hg : Keyed W g) (o : Nat) (v : Value) : GraphAt (W.setCell ⟨g, o, none⟩ v) b m G :=
  h.stays (stays_keyed (by decide) hg o v) (stays_keyed (by decide) hg o v) (stays_keyed (by decide) hg o v) (stays_keyed (by decide) hg o v) (stays_keyed (by decide) hg o v)
theorem graph_cells {b m g : Nat} {G : Gph} : ∀ (vs : List Value) (o : Nat) (W : World), (GraphAt W b m G ∧ Keyed W g) → (GraphAt (W.setCells g o vs) b m G ∧ Keyed (W.setCells g o vs) g)
  | [], _, _, h => h
  | v :: vs, o, _, h => graph_cells vs (o + 1) _ ⟨graph_cell h.1 h.2 o v, keyed_cell h.2 o v⟩
theorem keyed_below {W W' : World} {g : Nat} (h : Keyed W g) (hb : Below W.heap.size W W') : Keyed W' g := by
  obtain ⟨cur, z, hk⟩ := h
  exact ⟨cur, z, (hb.block g (Array.getElem?_eq_some_iff.1 hk).1).trans hk⟩
/-- a list handed back: readable, old memory as it was -/
def GivesS (w : World) (L : List Int) (e : Ending) (w' : World) : Prop := ∃ v, e = .returned v ∧ Sl w' v L ∧ Below w.heap.size w w'
theorem GivesS.from {w w0 w' : World} {L M : List Int} {e : Ending} (h : GivesS w L e w') (hb : Below w0.heap.size w0 w) (hL : L = M) : GivesS w0 M e w' := by
  obtain ⟨v, rfl, h1, h2⟩ := h
  exact ⟨v, rfl, hL ▸ h1, b_then hb h2⟩
theorem gives_lists {w w' : World} {L : List Int} {e : Ending} (h : Lists w 3 (keysV L) e w') : GivesS w L e w' := by
  obtain ⟨v, rfl, ⟨h1, _⟩, h2⟩ := h
  exact ⟨v, rfl, sl_of_owns h1, h2⟩

theorem IndexNil_lacks (a : Option Addr) (s : Option Addr) (cap : Nat) (w : World) :
    Calls Tryz.prog 75 #[.slice s 0 cap, .func (.func 45) #[.pointer a] #[]] w fun e w' => e = .returned (.int .i64 (-1)) ∧ w' = w := by
  go_enter Tryz.func75, Tryz.ntmps75
  go_wp2
  go_loopg [8] 0 (fun _ s8 wr => s8 = .int .i64 0 ∧ wr = w)
  case atStart => exact ⟨rfl, rfl⟩
  case round =>
    obtain ⟨rfl, rfl⟩ := hrel
    go_wp2
    go_ret
    exact ⟨rfl, rfl⟩
theorem IndexNil_Has (a : Option Addr) (s : Option Addr) (cap : Nat) (w : World) :
    Calls Tryz.prog 75 #[.slice s 0 cap, .func (.func 11) #[.pointer a] #[]] w fun e w' => e = .returned (.int .i64 (-1)) ∧ w' = w := by
  go_enter Tryz.func75, Tryz.ntmps75
  go_wp2
  go_loopg [8] 0 (fun _ s8 wr => s8 = .int .i64 0 ∧ wr = w)
  case atStart => exact ⟨rfl, rfl⟩
  case round =>
    obtain ⟨rfl, rfl⟩ := hrel
    go_wp2
    go_ret
    exact ⟨rfl, rfl⟩
theorem DeleteNil_lacks (a : Option Addr) (s : Option Addr) (cap : Nat) (w : World) :
    Calls Tryz.prog 43 #[.slice s 0 cap, .func (.func 45) #[.pointer a] #[]] w fun e w' => e = .returned (.slice s 0 cap) ∧ w' = w := by
  have h := Lib.hid (IndexNil_lacks a s cap w)
  go_enter Tryz.func43, Tryz.ntmps43
  go_wp2_with (go_at_call 75; refine h.out.mono ?_; rintro e w' ⟨rfl, rfl⟩)
  go_ret
  exact ⟨rfl, rfl⟩
theorem DeleteNil_Has (a : Option Addr) (s : Option Addr) (cap : Nat) (w : World) :
    Calls Tryz.prog 43 #[.slice s 0 cap, .func (.func 11) #[.pointer a] #[]] w fun e w' => e = .returned (.slice s 0 cap) ∧ w' = w := by
  have h := Lib.hid (IndexNil_Has a s cap w)
  go_enter Tryz.func43, Tryz.ntmps43
  go_wp2_with (go_at_call 75; refine h.out.mono ?_; rintro e w' ⟨rfl, rfl⟩)
  go_ret
  exact ⟨rfl, rfl⟩

set_option maxHeartbeats 2000000 in
theorem Delete_lacks (w : World) (b m : Nat) (G : Gph) (v : Value) (M : List Int) (h : GraphAt w b m G) (hM : M.length ≤ 3000) (ho : w.ownsRow w.heap.size 3 1 v (keysV M).length (keysV M) ∨ ∃ base, w.ownsRow base 3 1 v (keysV M).length (keysV M)) (n0 : Nat) (hn : ∀ q, v.ownBlock = some q → n0 ≤ q) (hn0 : n0 ≤ w.heap.size) :
    Calls Tryz.prog 43 #[v, .func (.func 45) #[.pointer (some ⟨b, 0, none⟩)] #[]] w fun e w' => ∃ u, e = .returned u ∧ Sl w' u (reach G.D M) ∧ Below n0 w w' := by
  obtain ⟨base, hown⟩ : ∃ base, w.ownsRow base 3 1 v (keysV M).length (keysV M) := ho.elim (fun h => ⟨_, h⟩) id
  clear ho
  by_cases h0 : M.length = 0
  · obtain rfl : M = [] := List.length_eq_zero_iff.1 h0
    obtain ⟨s, cap, rfl⟩ := owns_none hown
    refine (DeleteNil_lacks (some ⟨b, 0, none⟩) s cap w).mono ?_
    rintro e w' ⟨rfl, rfl⟩
    exact ⟨_, rfl, ⟨s, cap, rfl, fun h => by simp [reach] at h⟩, Below.refl _ _⟩
  · obtain ⟨g, cap, rfl, hle, hg, hrow⟩ := row_of_owns hown (by omega)
    have hf : (M.filter fun x => !!decide (x ∈ G.D)) = reach G.D M := by unfold reach; simp
    have hD := DeleteFunc_lacks (some ⟨b, 0, none⟩) g (fun x => !decide (x ∈ G.D)) (fun W => GraphAt W b m G ∧ Keyed W g)
      (fun W W' h hb => ⟨h.1.next hb, keyed_below h.2 hb⟩)
      (fun W x h => (lacks_calls W b m G x h.1).mono fun e w' ⟨h1, h2⟩ => ⟨h1, by rw [h2]; exact Below.refl _ _⟩)
      (fun W t v h => ⟨graph_cell h.1 h.2 t v, keyed_cell h.2 t v⟩)
      (fun W t vs h => graph_cells vs t W h) w cap M (by omega) hle ⟨h, hrow.1⟩ hrow.lt (dl_of_row hrow)
    rw [hf] at hD
    refine hD.mono ?_
    rintro e w' ⟨rfl, hc, hgr⟩
    refine ⟨_, rfl, ⟨some ⟨g, 0, none⟩, cap, rfl, fun _ => ⟨g, 0, rfl, Nat.lt_of_lt_of_le hrow.lt hgr.size, fun j hj => by rw [Nat.zero_add]; exact hc j hj⟩⟩, (Below.refl n0 w).grown hgr hn0 fun q e => hn q e⟩
set_option maxHeartbeats 2000000 in
theorem Delete_Has (w : World) (b m : Nat) (G : Gph) (v : Value) (M : List Int) (h : GraphAt w b m G) (hM : M.length ≤ 3000) (ho : ∃ base, w.ownsRow base 3 1 v (keysV M).length (keysV M)) (n0 : Nat) (hn : ∀ q, v.ownBlock = some q → n0 ≤ q) (hn0 : n0 ≤ w.heap.size) :
    Calls Tryz.prog 43 #[v, .func (.func 11) #[.pointer (some ⟨b, 0, none⟩)] #[]] w fun e w' => ∃ u, e = .returned u ∧ Sl w' u (opened G.D M) ∧ Below n0 w w' := by
  obtain ⟨base, hown⟩ := ho
  by_cases h0 : M.length = 0
  · obtain rfl : M = [] := List.length_eq_zero_iff.1 h0
    obtain ⟨s, cap, rfl⟩ := owns_none hown
    refine (DeleteNil_Has (some ⟨b, 0, none⟩) s cap w).mono ?_
    rintro e w' ⟨rfl, rfl⟩
    exact ⟨_, rfl, ⟨s, cap, rfl, fun h => by simp [opened] at h⟩, Below.refl _ _⟩
  · obtain ⟨g, cap, rfl, hle, hg, hrow⟩ := row_of_owns hown (by omega)
    have hD := DeleteFunc_Has (some ⟨b, 0, none⟩) g (fun x => decide (x ∈ G.D)) (fun W => GraphAt W b m G ∧ Keyed W g)
      (fun W W' h hb => ⟨h.1.next hb, keyed_below h.2 hb⟩)
      (fun W x h => (Has_calls W b m G x h.1).mono fun e w' ⟨h1, h2⟩ => ⟨h1, by rw [h2]; exact Below.refl _ _⟩)
      (fun W t v h => ⟨graph_cell h.1 h.2 t v, keyed_cell h.2 t v⟩)
      (fun W t vs h => graph_cells vs t W h) w cap M (by omega) hle ⟨h, hrow.1⟩ hrow.lt (dl_of_row hrow)
    refine hD.mono ?_
    rintro e w' ⟨rfl, hc, hgr⟩
    refine ⟨_, rfl, ⟨some ⟨g, 0, none⟩, cap, rfl, fun _ => ⟨g, 0, rfl, Nat.lt_of_lt_of_le hrow.lt hgr.size, fun j hj => by rw [Nat.zero_add]; exact hc j hj⟩⟩, (Below.refl n0 w).grown hgr hn0 fun q e => hn q e⟩

set_option maxHeartbeats 2000000 in
theorem Reach_calls (w : World) (b m : Nat) (G : Gph) (v : Value) (F : List Int) (h : GraphAt w b m G) (hS : Small G) (hF : F.length ≤ 500) (hv : Sl w v F) :
    Calls Tryz.prog 18 #[.pointer (some ⟨b, 0, none⟩), v] w fun e w' => ∃ M, IsMet G.T F M ∧ M.length ≤ 3000 ∧ GivesS w (reach G.D M) e w' := by
  have hM := Lib.hid (met_calls w b m G v F h hS hF hv)
  have hD : Hid (∀ w1 u M, M.length ≤ 3000 → Below w.heap.size w w1 → w1.ownsRow w.heap.size 3 1 u (keysV M).length (keysV M) → Calls Tryz.prog 43 #[u, .func (.func 45) #[.pointer (some ⟨b, 0, none⟩)] #[]] w1 (GivesS w (reach G.D M))) := Lib.hid fun w1 u M hl hb ho => by
    refine (Delete_lacks w1 b m G u M (h.next hb) hl (Or.inr ⟨_, ho⟩) w.heap.size (fun q e => (ho.lt q e).1) hb.size).mono ?_
    rintro e w' ⟨v, rfl, h1, h2⟩
    exact ⟨v, rfl, h1, hb.trans h2⟩
  obtain ⟨sa, cap, rfl, -⟩ := hv
  clear h
  go_enter Tryz.func18, Tryz.ntmps18
  go_wp2_with (first
    | (go_at_call 44; refine hM.out.mono ?_; rintro e w1 ⟨M, h1, h2, u, rfl, ⟨h3, _⟩, h4⟩; have hD2 := Lib.hid (hD.out w1 u M h2 h4 h3); replace h1 := Lib.hid h1; replace h2 := Lib.hid h2; clear h3 h4 hD hM)
    | (go_at_call 43; refine hD2.out.mono ?_; rintro e w2 h5; replace h6 := Lib.hid h5; obtain ⟨v2, rfl, -⟩ := h5))
  go_ret
  exact ⟨M, h1.out, h2.out, h6.out⟩
set_option maxHeartbeats 2000000 in
theorem Open_calls (w : World) (b m : Nat) (G : Gph) (v : Value) (F : List Int) (h : GraphAt w b m G) (hS : Small G) (hF : F.length ≤ 500) (hv : Sl w v F) :
    Calls Tryz.prog 20 #[.pointer (some ⟨b, 0, none⟩), v] w fun e w' => ∃ M, IsMet G.T F M ∧ M.length ≤ 3000 ∧ GivesS w (opened G.D M) e w' := by
  have hM := Lib.hid (met_calls w b m G v F h hS hF hv)
  have hD : Hid (∀ w1 u M, M.length ≤ 3000 → Below w.heap.size w w1 → w1.ownsRow w.heap.size 3 1 u (keysV M).length (keysV M) → Calls Tryz.prog 43 #[u, .func (.func 11) #[.pointer (some ⟨b, 0, none⟩)] #[]] w1 (GivesS w (opened G.D M))) := Lib.hid fun w1 u M hl hb ho => by
    refine (Delete_Has w1 b m G u M (h.next hb) hl ⟨_, ho⟩ w.heap.size (fun q e => (ho.lt q e).1) hb.size).mono ?_
    rintro e w' ⟨v, rfl, h1, h2⟩
    exact ⟨v, rfl, h1, hb.trans h2⟩
  obtain ⟨sa, cap, rfl, -⟩ := hv
  clear h
  go_enter Tryz.func20, Tryz.ntmps20
  go_wp2_with (first
    | (go_at_call 44; refine hM.out.mono ?_; rintro e w1 ⟨M, h1, h2, u, rfl, ⟨h3, _⟩, h4⟩; have hD2 := Lib.hid (hD.out w1 u M h2 h4 h3); replace h1 := Lib.hid h1; replace h2 := Lib.hid h2; clear h3 h4 hD hM)
    | (go_at_call 43; refine hD2.out.mono ?_; rintro e w2 h5; replace h6 := Lib.hid h5; obtain ⟨v2, rfl, -⟩ := h5))
  go_ret
  exact ⟨M, h1.out, h2.out, h6.out⟩
/-- of a nil graph nothing is met -/
theorem ReachNil_calls (w : World) (a : Option Addr) (n cap : Nat) :
    Calls Tryz.prog 18 #[.pointer none, .slice a n cap] w fun e w' => e = .returned (.slice none 0 0) ∧ w' = w := by
  have hM : Hid (Calls Tryz.prog 44 #[.pointer none, .slice a n cap] w fun e w' => e = .returned (.slice none 0 0) ∧ w' = w) := Lib.hid (by
    go_enter Tryz.func44, Tryz.ntmps44
    go_wp2
    go_ret
    exact ⟨rfl, rfl⟩)
  have hD := Lib.hid (DeleteNil_lacks none none 0 w)
  go_enter Tryz.func18, Tryz.ntmps18
  go_wp2_with (first
    | (go_at_call 44; refine hM.out.mono ?_; rintro e w1 ⟨rfl, rfl⟩)
    | (go_at_call 43; refine hD.out.mono ?_; rintro e w1 ⟨rfl, rfl⟩))
  go_ret
  exact ⟨rfl, rfl⟩
end Go.Proofs.YtcoccaglbepbdaaGreat.Gr
