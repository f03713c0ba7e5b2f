/-
  What the statements over graphs share: sets made of lists, an order that stands, a set that stays while another turns. Conditions: none.
-/
import Derived.Test.YtcoccaglbepbdaaGreatRows
import Derived.Test.YtcoccaglbepbdaaGreatGrAwake
import Derived.Test.YtcoccaglbepbdaaGreatShUnion
import Derived.Test.YtcoccaglbepbdaaGreatShWithin
import Derived.Test.YtcoccaglbepbdaaGreatShJoin
namespace Go.Proofs.YtcoccaglbepbdaaGreat.Rg
open Go.RowKit Sh Gr
open Ti (SetAt keysV IsOf Makes)
open Rf (Sl reads_sl)
attribute [local go_sem] fold_none

theorem setOf_rises (M : List Int) : Rises (setOf M) := Rf.fold_rises M List.Pairwise.nil
theorem mem_setOf {M : List Int} {x : Int} : x ∈ setOf M ↔ x ∈ M := by
  unfold setOf
  rw [Rf.fold_mem M List.Pairwise.nil x]
  simp
theorem of_calls (w : World) (v : Value) (M : List Int) (hM : M.length ≤ 800000) (hv : Sl w v M) : Calls Tryz.prog 26 #[v] w (Makes w (setOf M)) := by
  obtain ⟨s, c, rfl, h⟩ := hv
  refine (Ti.Of_calls w s c M (by omega) (reads_sl rfl ⟨s, c, rfl, h⟩)).mono ?_
  rintro e w' ⟨L, hL, hm⟩
  rw [setOf_of hL] at hm
  exact hm
/-- an order that is told stands -/
theorem ord_ok {G : Gph} {K L : List Int} {c : Int} (h : OrdIs G K L c) : (L = [] ∧ (c = 12 ∨ c = 23)) ∨ (c = 0 ∧ (∀ x ∈ K, x ∈ G.D) ∧ Stand G.T (setOf K) L) := by
  rcases h with ⟨_, h1, h2⟩ | ⟨hd, S, h2, h3, ⟨_, h4, h5⟩ | ⟨h4, h5⟩⟩
  · exact Or.inl ⟨h1, Or.inl h2⟩
  · exact Or.inl ⟨h4, Or.inr h5⟩
  · obtain rfl := setOf_one h2 h3
    exact Or.inr ⟨h5, hd, order_stand _ rfl h2 h4⟩
/-- a set stays while another turns -/
theorem at_apart {W W' : World} {sb wb : Nat} {L : List Int} {p : Option Addr} (h : SetAt W (some ⟨wb, 0, none⟩) L) (hb : Boxed W sb 110 (.pointer p)) (hne : wb ≠ sb) (hg : W.grownBy W' (some sb)) : SetAt W' (some ⟨wb, 0, none⟩) L := by
  have h2 : Stays 115 W W' := stays_grown (by decide) hb hg
  rcases h with ⟨h, _⟩ | ⟨b, q, T, e, g1, g2, g3⟩
  · cases h
  · obtain rfl : wb = b := by simpa using e
    exact Or.inr ⟨wb, q, T, rfl, (hg.block wb g1.lt (by simpa using hne)).trans g1, g2.kept (fun b c z hb => h2 b c z hb), g3⟩
theorem to_calls (w : World) (b m : Nat) (G : Gph) (k : Int) (h : GraphAt w b m G) (hS : Small G) : Calls Tryz.prog 14 #[.pointer (some ⟨b, 0, none⟩), .int .i64 k] w (GivesS w (G.T k)) :=
  (Gr.To_calls w b m G k h (Nat.le_trans (hS.to k) (by omega))).mono fun _ _ h => gives_lists h
end Go.Proofs.YtcoccaglbepbdaaGreat.Rg
