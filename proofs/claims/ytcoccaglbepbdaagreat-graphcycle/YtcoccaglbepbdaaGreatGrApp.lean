/-
  A list appended to a row of the call's own, nil or not; sets of what is reached and of what is open. Conditions: the lists are not too great.
-/
import Derived.Test.YtcoccaglbepbdaaGreatRows
import Derived.Test.YtcoccaglbepbdaaGreatGrLaws
import Derived.Deep.AppendSrc
namespace Go.Proofs.YtcoccaglbepbdaaGreat.Rg
open Go.RowKit Sh Gr
open Ti (SetAt keysV keysV_len info_key)
open Rf (Sl)
attribute [local go_sem] fold_none

theorem keys_append (A B : List Int) : keysV (A ++ B) = keysV A ++ keysV B := by simp [keysV]
theorem wpl_append_sl {ops : Array Oper} {rest : List Oper} {o : Oper} {a : Act} {Q : Exit → Act → World → Prop} {w : World} (hgd : o.guard = none) (s x : Operand)
    (ho : o.op = .call { callee := .builtin .append, args := #[s, x], argTypes := #[23, 23] }) (base g cap : Nat) (A B : List Int) (u : Value)
    (hs : a.eval s = .slice (some ⟨g, 0, none⟩) A.length cap) (hx : a.eval x = u) (hown : w.ownsRow base 3 1 (.slice (some ⟨g, 0, none⟩) A.length cap) (keysV A).length (keysV A)) (hB : Sl w u B) (hlen : A.length + B.length ≤ 1000000) (hbase : base ≤ w.heap.size)
    (h : ∀ g' cap' w', w'.ownsRow base 3 1 (.slice (some ⟨g', 0, none⟩) (A ++ B).length cap') (keysV (A ++ B)).length (keysV (A ++ B)) → w.grownBy w' (some g) → wpList Tryz.prog ops Q rest (a.put o.dst (.slice (some ⟨g', 0, none⟩) (A ++ B).length cap')) w') :
    wpList Tryz.prog ops Q (o :: rest) a w := by
  obtain ⟨i0, hi, hz0, hz1, hz2⟩ := info_parts info_key
  obtain ⟨sB, cB, rfl, hr⟩ := hB
  have hne : (Value.slice (some ⟨g, 0, none⟩) A.length cap) ≠ .slice none 0 0 := by simp
  have fin : ∀ v' w', w'.ownsRow base 3 1 v' ((keysV A).length + B.length) (keysV A ++ keysV B) → w.grownBy w' (Value.slice (some ⟨g, 0, none⟩) A.length cap).ownBlock → v' ≠ .slice none 0 0 → wpList Tryz.prog ops Q rest (a.put o.dst v') w' := fun v' w' h1 h2 h3 => by
    rw [← keys_append] at h1
    have e : (keysV A).length + B.length = (keysV (A ++ B)).length := by rw [keysV_len, keysV_len, List.length_append]
    rw [e] at h1
    rcases h1.2 with ⟨e1, _⟩ | ⟨g', cap', cur, hv, _⟩
    · exact absurd e1 h3
    · have hv2 : v' = .slice (some ⟨g', 0, none⟩) (A ++ B).length cap' := by rw [hv, keysV_len]
      subst hv2
      exact h g' cap' w' h1 h2
  by_cases h0 : ∃ ad, sB = some ad
  · obtain ⟨ad, rfl⟩ := h0
    refine wpList_append_own w hgd s x 23 ho base 3 i0 (.int .i64 0) 1 8 Tryz.underlying23 hi hz0 hz1 hz2 rfl (by decide) _ _ _ hs hown ad B.length cB (keysV B) hx (by rw [keysV_len]; omega) (fun j u hj => ?_) (Ti.keysV_one B) (by rw [keysV_len]; simp [maxLen]; omega) (by rw [keysV_len]; omega) hbase fun v' w' h1 h2 h3 => fin v' w' h1 h2 fun e => hne (h3.1 e).1
    obtain ⟨h1, rfl⟩ := keys_cells hj
    obtain ⟨g9, off, e, hg, h2⟩ := hr (by omega)
    cases e
    rw [Addr.add_mid]
    exact h2 j h1
  · have hn : sB = none := by cases sB with
      | none => rfl
      | some ad => exact absurd ⟨ad, rfl⟩ h0
    subst hn
    have hB0 : B.length = 0 := by
      by_cases hp : 0 < B.length
      · obtain ⟨g9, off, e, _⟩ := hr hp
        cases e
      · omega
    obtain rfl := List.length_eq_zero_iff.1 hB0
    have hcap : A.length ≤ cap := by
      rcases hown.2 with ⟨e, _⟩ | ⟨g', cap', cur, hv, h1, h2, h3, _⟩
      · exact absurd e hne
      · simp only [Value.slice.injEq] at hv
        rw [keysV_len] at h3
        omega
    have hrun := run_append_room_src (P := Tryz.prog) w 23 23 o.type 3 i0 Tryz.underlying23 hi g 0 A.length cap (.slice none 0 cB) 0 [] (Src.ofNil w Tryz.underlying23 cB) (by omega) (fun j hj => by simp at hj) (fun j hj => by simp at hj)
    refine wpList_plain hgd fun K hK => ?_
    unfold Oper.wp execOp
    simp only [ho, resolve, invoke, builtin, Sem.run_bind, Sem.run_pure, Result.andThen_ok, List.map_toArray, List.map_cons, List.map_nil, hs, hx]
    have hx2 : (Value.slice none ([] : List Int).length cB) = .slice none 0 cB := rfl
    rw [hx2, hrun]
    refine hK _ _ (fin _ w (by simpa [keysV] using hown) ⟨rfl, rfl, rfl, Nat.le_refl _, fun _ _ _ => rfl⟩ (by simp))

theorem setOf_self {M : List Int} (h : Rises M) : setOf M = M := (setOf_one h fun _ => Iff.rfl).symm
end Go.Proofs.YtcoccaglbepbdaaGreat.Rg
