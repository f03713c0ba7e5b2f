/-
  The statements' first look at shelf: the answers that the document fixes by number. Conditions: none.
-/
import Derived.Test.YtcoccaglbepbdaaGreatRows
import Derived.Test.YtcoccaglbepbdaaGreatShJoin
namespace Go.Proofs.YtcoccaglbepbdaaGreat.Sh
open Go.RowKit
open Key (lt)
/-- blocks other than one of another type stay -/
theorem stays_grown {T t : TypeId} {W W' : World} {b : Nat} {v : Value} (hne : t ≠ T) (hv : Boxed W b t v) (hg : W.grownBy W' (some b)) : Stays T W W' := fun k c z hk => by
  refine (hg.block k (Array.getElem?_eq_some_iff.1 hk).1 fun e => ?_).trans hk
  have e2 : k = b := by simpa using e
  subst e2
  have h := hk.symm.trans hv
  simp at h
  exact hne h.2.1.symm
end Go.Proofs.YtcoccaglbepbdaaGreat.Sh
namespace Go.Proofs.YtcoccaglbepbdaaGreat.Ti
open Go.RowKit Sh
theorem At.stays {W W' : World} {t : TypeId} {a : Option Addr} {L : List Int} (h : At W t a L) (h1 : Stays t W W') (h2 : Stays 115 W W') : At W' t a L := by
  rcases h with h | ⟨b, p, T, rfl, g1, g2, g3⟩
  · exact Or.inl h
  · exact Or.inr ⟨b, p, T, rfl, h1 _ _ _ g1, g2.kept (fun b c z hb => h2 b c z hb), g3⟩
theorem At.box {W : World} {t : TypeId} {b : Nat} {L : List Int} (h : At W t (some ⟨b, 0, none⟩) L) : ∃ p, Boxed W b t (.pointer p) := by
  rcases h with ⟨h, _⟩ | ⟨b', p, T, e, g1, _⟩
  · cases h
  · obtain rfl : b = b' := by simpa using e
    exact ⟨p, g1⟩
/-- what a call that turns one map leaves below -/
theorem Turns.below {w0 w w' : World} {t : TypeId} {b : Nat} {L : List Int} (h : Turns w t b L w') (hb : Below w0.heap.size w0 w) (hl : w0.heap.size ≤ b) : Below w0.heap.size w0 w' := hb.grown h.2 hb.size (fun k e => by cases e; exact hl)
end Go.Proofs.YtcoccaglbepbdaaGreat.Ti
namespace Go.Proofs.YtcoccaglbepbdaaGreat.Ts
open Go.RowKit Sh
end Go.Proofs.YtcoccaglbepbdaaGreat.Ts
namespace Go.Proofs.YtcoccaglbepbdaaGreat.Tm
open Go.RowKit Sh
end Go.Proofs.YtcoccaglbepbdaaGreat.Tm
namespace Go.Proofs.YtcoccaglbepbdaaGreat.Tg
open Go.RowKit Sh
theorem At.stays {W W' : World} {t : TypeId} {a : Option Addr} {L : List (Int × Option Addr)} (h : At W t a L) (h1 : Stays t W W') (h2 : Stays 95 W W') : At W' t a L := by
  rcases h with h | ⟨b, p, T, rfl, g1, g2, g3⟩
  · exact Or.inl h
  · exact Or.inr ⟨b, p, T, rfl, h1 _ _ _ g1, g2.kept (fun b c z hb => h2 b c z hb), g3⟩
theorem At.box {W : World} {t : TypeId} {b : Nat} {L : List (Int × Option Addr)} (h : At W t (some ⟨b, 0, none⟩) L) : ∃ p, Boxed W b t (.pointer p) := by
  rcases h with ⟨h, _⟩ | ⟨b', p, T, e, g1, _⟩
  · cases h
  · obtain rfl : b = b' := by simpa using e
    exact ⟨p, g1⟩
/-- what a call that turns one map leaves below -/
theorem Turns.below {w0 w w' : World} {t : TypeId} {b : Nat} {L : List (Int × Option Addr)} (h : Turns w t b L w') (hb : Below w0.heap.size w0 w) (hl : w0.heap.size ≤ b) : Below w0.heap.size w0 w' := hb.grown h.2 hb.size (fun k e => by cases e; exact hl)
end Go.Proofs.YtcoccaglbepbdaaGreat.Tg
namespace Go.Proofs.YtcoccaglbepbdaaGreat.Tm
open Go.RowKit Sh
end Go.Proofs.YtcoccaglbepbdaaGreat.Tm
namespace Go.Proofs.YtcoccaglbepbdaaGreat.Law
open Go.RowKit Sh
open Ti (SetAt Makes)
attribute [local go_sem] fold_none
theorem of_two {L : List Int} (h : Ti.IsOf [3, 1, 3] L) : L = [1, 3] := rises_one h.1 (by simp [Rises, Key.lt, Ent.key]) (fun x => by rw [h.2.1 x]; simp; omega)
theorem of_one {L : List Int} (h : Ti.IsOf [2] L) : L = [2] := rises_one h.1 (by simp [Rises]) (fun x => h.2.1 x)
theorem reads_row (w : World) (vs : List Int) : Ti.Reads (w.heap.size + 1) (w.alloc (.cells (vs.map (Value.int .i64)).toArray 3)) (.slice (some ⟨w.heap.size, 0, none⟩) vs.length vs.length) vs :=
  ⟨_, _, rfl, fun _ => ⟨w.heap.size, 0, rfl, by omega, fun j hj => by
    have h := World.alloc_heap_new w (.cells (vs.map (Value.int .i64)).toArray 3)
    simp only [World.cell?, h]
    simp [List.getElem?_eq_getElem hj]⟩⟩

end Go.Proofs.YtcoccaglbepbdaaGreat.Law
