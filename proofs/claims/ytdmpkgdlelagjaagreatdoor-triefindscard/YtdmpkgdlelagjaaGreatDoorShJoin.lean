/-
  Sets joined: shelf.Minus and Meet. Conditions: the sets are not too great.
-/
import Derived.Test.YtdmpkgdlelagjaaGreatDoorRows
import Derived.Test.YtdmpkgdlelagjaaGreatDoorShDelete
import Derived.Test.YtdmpkgdlelagjaaGreatDoorShOf
namespace Go.Proofs.YtdmpkgdlelagjaaGreatDoor.Ti
open Go.RowKit Sh
open Key (lt)
open Ent (key)
attribute [local go_sem] fold_none

/-- a block of keys -/
def Keyed (W : World) (g : Nat) : Prop := ∃ cur z, W.heap[g]? = some (.cells cur 3 z)
theorem keyed_cell {W : World} {g : Nat} (h : Keyed W g) (a : Nat) (v : Value) : Keyed (W.setCell ⟨g, a, none⟩ v) g := by
  obtain ⟨cur, z, hg⟩ := h
  have hlt := (Array.getElem?_eq_some_iff.1 hg).1
  refine ⟨cur.setIfInBounds a v, z, ?_⟩
  show (W.heap.modify g _)[g]? = _
  rw [Array.getElem?_modify, if_pos rfl, hg]
  rfl
theorem dl_of_row {W : World} {g : Nat} {M : List Int} (h : Row W g M) : Dl W g M.length M [] 0 :=
  ⟨fun t ht => ⟨_, (h.2 t ht).1, (h.2 t ht).2⟩, fun t ht => by simp at ht, fun t _ h2 => (h.2 t h2).1⟩

theorem owns_none {W : World} {base : Nat} {u : Value} (h : W.ownsRow base 3 1 u (keysV ([] : List Int)).length (keysV [])) : ∃ s cap, u = .slice s 0 cap := by
  rcases h.2 with ⟨rfl, _⟩ | ⟨g, cap, cur, rfl, _⟩
  · exact ⟨_, _, rfl⟩
  · exact ⟨_, _, rfl⟩

theorem box_cell {W : World} {t : TypeId} {b g : Nat} {u : Value} (h : Boxed W b t u) (hg : Keyed W g) (ht : t ≠ 3) (o : Nat) (v : Value) : Boxed (W.setCell ⟨g, o, none⟩ v) b t u := by
  obtain ⟨cur, z, hg⟩ := hg
  refine (Below.heap_setCell _ _ _ b fun e => ?_).trans h
  subst e
  have := (show W.heap[b]? = _ from h).symm.trans hg
  simp at this
  exact ht this.2.1
end Go.Proofs.YtdmpkgdlelagjaaGreatDoor.Ti
namespace Go.Proofs.YtdmpkgdlelagjaaGreatDoor.Ts
open Go.RowKit Sh
open Key (lt)
open Ent (key)
attribute [local go_sem] fold_none

/-- a block of keys -/
def Keyed (W : World) (g : Nat) : Prop := ∃ cur z, W.heap[g]? = some (.cells cur 9 z)
theorem keyed_cell {W : World} {g : Nat} (h : Keyed W g) (a : Nat) (v : Value) : Keyed (W.setCell ⟨g, a, none⟩ v) g := by
  obtain ⟨cur, z, hg⟩ := h
  have hlt := (Array.getElem?_eq_some_iff.1 hg).1
  refine ⟨cur.setIfInBounds a v, z, ?_⟩
  show (W.heap.modify g _)[g]? = _
  rw [Array.getElem?_modify, if_pos rfl, hg]
  rfl
theorem at_cell {W : World} {t : TypeId} {a : Option Addr} {L : List ByteArray} (h : At W t a L) {g : Nat} (hg : Keyed W g) (ht : t ≠ 9) (o : Nat) (v : Value) : At (W.setCell ⟨g, o, none⟩ v) t a L := by
  obtain ⟨cur, z, hg⟩ := hg
  have hoth : ∀ (b : Nat) (c : Array Value) (T : TypeId) (y : Nat × Nat), T ≠ 9 → W.heap[b]? = some (.cells c T y) → (W.setCell ⟨g, o, none⟩ v).heap[b]? = some (.cells c T y) := fun b c T y hT hb => by
    refine (Below.heap_setCell _ _ _ b fun e => ?_).trans hb
    subst e
    have := hb.symm.trans hg
    simp at this
    exact hT this.2.1
  rcases h with h | ⟨b, p, T, rfl, h1, h2, h3⟩
  · exact Or.inl h
  · exact Or.inr ⟨b, p, T, rfl, hoth b _ _ _ ht h1, h2.kept (fun b c y hb => hoth b c _ y (by decide) hb), h3⟩
theorem both_cells {t : TypeId} {a : Option Addr} {L : List ByteArray} {g : Nat} (ht : t ≠ 9) : ∀ (vs : List Value) (o : Nat) (W : World), (At W t a L ∧ Keyed W g) → (At (W.setCells g o vs) t a L ∧ Keyed (W.setCells g o vs) g)
  | [], _, _, h => h
  | v :: vs, o, _, h => both_cells ht vs (o + 1) _ ⟨at_cell h.1 h.2 ht o v, keyed_cell h.2 o v⟩
theorem dl_of_row {W : World} {g : Nat} {M : List ByteArray} (h : Row W g M) : Dl W g M.length M [] 0 :=
  ⟨fun t ht => ⟨_, (h.2 t ht).1, (h.2 t ht).2⟩, fun t ht => by simp at ht, fun t _ h2 => (h.2 t h2).1⟩

theorem IndexFuncH_nil (b : Option Addr) (s : Option Addr) (cap : Nat) (w : World) :
    Calls Tryz.prog 87 #[.slice s 0 cap, .func (.func 61) #[.pointer b] #[]] w fun e w' => e = .returned (.int .i64 (-1)) ∧ w' = w := by
  go_enter Tryz.func87, Tryz.ntmps87
  go_wp2
  go_loopg [8] 0 (fun _ s8 wr => s8 = .int .i64 0 ∧ wr = w)
  case atStart => exact ⟨rfl, rfl⟩
  case round =>
    obtain ⟨rfl, rfl⟩ := hrel
    go_wp2
    go_ret
    exact ⟨rfl, rfl⟩
theorem DeleteFuncH_nil (b : Option Addr) (s : Option Addr) (cap : Nat) (w : World) :
    Calls Tryz.prog 60 #[.slice s 0 cap, .func (.func 61) #[.pointer b] #[]] w fun e w' => e = .returned (.slice s 0 cap) ∧ w' = w := by
  have h := Lib.hid (IndexFuncH_nil b s cap w)
  go_enter Tryz.func60, Tryz.ntmps60
  go_wp2_with (go_at_call 87; refine h.out.mono ?_; rintro e w' ⟨rfl, rfl⟩)
  go_ret
  exact ⟨rfl, rfl⟩

theorem owns_none {W : World} {base : Nat} {u : Value} (h : W.ownsRow base 9 1 u (keysV ([] : List ByteArray)).length (keysV [])) : ∃ s cap, u = .slice s 0 cap := by
  rcases h.2 with ⟨rfl, _⟩ | ⟨g, cap, cur, rfl, _⟩
  · exact ⟨_, _, rfl⟩
  · exact ⟨_, _, rfl⟩

set_option maxHeartbeats 2000000 in
theorem Minus_calls (w : World) (a b : Option Addr) (A B : List ByteArray) (hA : SetAt w a A) (hB : SetAt w b B) (rA : Rises A) (rB : Rises B) (lA : A.length < 900000) :
    Calls Tryz.prog 24 #[.pointer a, .pointer b] w (Makes w (A.filter fun x => !has x B)) := by
  have hL := Lib.hid (SetList_calls w a A hA (by omega))
  clear hA
  go_enter Tryz.func24, Tryz.ntmps24
  go_wp2_with fail
  refine hL.out.mono ?_
  clear hL
  rintro e w1 ⟨u, rfl, ⟨hown, -⟩, b1⟩
  have hB1 := hB.next b1
  by_cases h0 : A.length = 0
  · obtain rfl : A = [] := List.length_eq_zero_iff.1 h0
    obtain ⟨s, cap, rfl⟩ := owns_none hown
    have hD := Lib.hid fun w' => DeleteFuncH_nil b s cap w'
    have hO := Lib.hid ((ofRising_calls ([] : List ByteArray) w1 s 0 0 cap 0 rfl (by omega) (by omega) (fun h => by omega) (fun j hj => by simp at hj)).mono (R' := Makes w []) fun e w' h => h.from b1 rfl)
    clear hown hB1 hB rA rB lA
    go_wp2_with (first
      | (go_at_call 60; refine (hD.out _).mono ?_; rintro e w' ⟨rfl, hw'⟩; obtain rfl := hw'.symm; clear hw')
      | (go_at_call 47; refine hO.out.mono ?_; rintro e w3 h3; have h4 := Lib.hid h3; obtain ⟨bb, rfl, -⟩ := h3))
    go_ret
    exact h4.out
  · obtain ⟨g, cap, rfl, hle, hg, hrow⟩ := row_of_owns hown (by omega)
    have hD := Lib.hid (DeleteFuncH_calls b g (fun x => has x B) (fun W => At W 107 b B ∧ Keyed W g)
      (fun W W' h hb => ⟨h.1.next hb, by obtain ⟨cur, z, hk⟩ := h.2; exact ⟨cur, z, (hb.block g (Array.getElem?_eq_some_iff.1 hk).1).trans hk⟩⟩)
      (fun W x h => Has_calls W b B x h.1 rB)
      (fun W t v h => ⟨at_cell h.1 h.2 (by decide) t v, keyed_cell h.2 t v⟩)
      (fun W t vs h => both_cells (by decide) vs t W h) w1 cap A (by omega) hle ⟨hB1, hrow.1⟩ hrow.lt (dl_of_row hrow))
    have hO : Hid (∀ w2 n c, (∀ t, t < (A.filter fun x => !has x B).length → w2.cell? ⟨g, t, none⟩ = some (.string (((A.filter fun x => !has x B)[t]?.getD default)))) → w1.grownBy w2 (some g) → n = (A.filter fun x => !has x B).length → c = cap → Calls Tryz.prog 47 #[.slice (some ⟨g, 0, none⟩) n c] w2 (Makes w (A.filter fun x => !has x B))) := Lib.hid fun w2 n c hc hgr hn hcc => by
      subst hn hcc
      have hlf : (A.filter fun x => !has x B).length ≤ A.length := List.length_filter_le _ _
      refine (ofRising_calls (A.filter fun x => !has x B) w2 (some ⟨g, 0, none⟩) g 0 c _ rfl (by omega) (by omega) (fun _ => rfl) (fun j hj => by rw [Nat.zero_add]; exact hc j hj)).mono fun e w' h => h.from ?_ rfl
      exact b1.grown hgr b1.size (fun k e => by cases e; exact hg)
    clear hown hB1 hrow hB rA rB lA hg hle
    obtain ⟨F, hF⟩ : ∃ F, Hid (F = A.filter fun x => !has x B) := ⟨_, Lib.hid rfl⟩
    rw [← hF.out] at hD hO
    go_wp2_with fail
    refine hD.out.mono ?_
    rintro e w2 ⟨rfl, hc, hgr⟩
    have hO2 := Lib.hid (hO.out w2 _ _ hc hgr rfl rfl)
    clear hc hgr hO hD
    go_wp2_with fail
    refine hO2.out.mono ?_
    rintro e w3 h3
    have h4 := Lib.hid h3
    obtain ⟨bb, rfl, -⟩ := h3
    go_wp2
    go_ret
    rw [← hF.out]
    exact h4.out

theorem box_cell {W : World} {t : TypeId} {b g : Nat} {u : Value} (h : Boxed W b t u) (hg : Keyed W g) (ht : t ≠ 9) (o : Nat) (v : Value) : Boxed (W.setCell ⟨g, o, none⟩ v) b t u := by
  obtain ⟨cur, z, hg⟩ := hg
  refine (Below.heap_setCell _ _ _ b fun e => ?_).trans h
  subst e
  have := (show W.heap[b]? = _ from h).symm.trans hg
  simp at this
  exact ht this.2.1
theorem box_cells {t t2 : TypeId} {a : Option Addr} {L : List ByteArray} {g b : Nat} {u : Value} (ht : t ≠ 9 ∧ t2 ≠ 9) : ∀ (vs : List Value) (o : Nat) (W : World), ((At W t a L ∧ Keyed W g) ∧ Boxed W b t2 u) → ((At (W.setCells g o vs) t a L ∧ Keyed (W.setCells g o vs) g) ∧ Boxed (W.setCells g o vs) b t2 u)
  | [], _, _, h => h
  | v :: vs, o, _, h => box_cells ht vs (o + 1) _ ⟨⟨at_cell h.1.1 h.1.2 ht.1 o v, keyed_cell h.1.2 o v⟩, box_cell h.2 h.1.2 ht.2 o v⟩
end Go.Proofs.YtdmpkgdlelagjaaGreatDoor.Ts
