/-
  A region that draws its order, as RelReg walks it, where one slot is written last and read ahead: until it is written it holds what it held. Of no program. Conditions: none.
-/
import Derived.Test.YtbjpogeemajhoaaGreatRelReg
namespace Go.Proofs.YtbjpogeemajhoaaGreat.Rr
open Go

section
variable {P : Program} {ops : Array Oper} {Q : Exit → Act → World → Prop} {md : Region.Mode}
def RunStepL (P : Program) (ops : Array Oper) (Q : Exit → Act → World → Prop) (W : World → Prop) (R : Nat → Value → Value → World → Prop) (E : Nat → World → World → Prop) (aux : List Nat) (need : List (List Nat)) (G : (Nat → Value) → Act) (m : Nat) (V : Value) (i : Nat) (o : Oper) : Prop :=
  ∀ (x : Nat → Value) (w : World), W w → x m = V → (∀ k, (need.getD i []).contains k = true → R k (x k) (x (aux.getD k k)) w) → ∀ K : Act → World → Prop,
    Shut (∀ a v w', a = (G x).put o.dst v → W w' → E i w w' → R i v (if aux.getD i i = i then v else x (aux.getD i i)) w' → K a w') →
    if Region.wanted o (yielded ops (G x).tmps) = true then Oper.wp P o (G x) w K Q else K ((G x).put o.dst undef) w
def RunStepsL (P : Program) (ops : Array Oper) (Q : Exit → Act → World → Prop) (W : World → Prop) (R : Nat → Value → Value → World → Prop) (E : Nat → World → World → Prop) (aux : List Nat) (need : List (List Nat)) (G : (Nat → Value) → Act) (m : Nat) (V : Value) (k : Nat) : Prop :=
  ∀ i, k ≤ i → ∀ o, ops[i]? = some o → RunStepL P ops Q W R E aux need G m V i o
theorem RunStepsL.nil {W : World → Prop} {R : Nat → Value → Value → World → Prop} {E : Nat → World → World → Prop} {aux : List Nat} {need : List (List Nat)} {G : (Nat → Value) → Act} {m : Nat} {V : Value} {k : Nat} (h : ops.size = k) : RunStepsL P ops Q W R E aux need G m V k := fun i hi o ho => by
  have := (Array.getElem?_eq_some_iff.1 ho).1
  omega
theorem RunStepsL.cons {W : World → Prop} {R : Nat → Value → Value → World → Prop} {E : Nat → World → World → Prop} {aux : List Nat} {need : List (List Nat)} {G : (Nat → Value) → Act} {m : Nat} {V : Value} {k : Nat} {o : Oper} (ho : ops[k]? = some o)
    (h : RunStepL P ops Q W R E aux need G m V k o) (t : RunStepsL P ops Q W R E aux need G m V (k + 1)) : RunStepsL P ops Q W R E aux need G m V k := fun i hi o' ho' => by
  rcases Nat.lt_or_ge k i with g | g
  · exact t i g o' ho'
  · obtain rfl : i = k := by omega
    rw [ho] at ho'
    cases ho'
    exact h

theorem region_late {id : Nat} {a : Act} {w : World} (l : List (Option Tmp)) (aux : List Nat) (need : List (List Nat)) (live : List Nat) (W : World → Prop) (R : Nat → Value → Value → World → Prop) (E : Nat → World → World → Prop) {G : (Nat → Value) → Act} (m : Nat) (V : Value)
    (hlate : ((List.range ops.size).all fun i => i == m || onB .any ops i m) = true) (hlm : ∃ d, l[m]? = some (some d) ∧ a.tmps.getD d undef = V) (hm : P.follows .mixedOrders = true) (hB : relB ops l aux need = true) (hG : ∀ x, fill l 0 x a = G x) (hW : W w.drew)
    (keep : ∀ i j v u w w', i < ops.size → j < ops.size → j ≠ i → onB .any ops i j = false → lostB ops need live i j = false → W w → R j v u w → E i w w' → R j v u w')
    (steps : RunStepsL P ops Q W R E aux need G m V 0)
    (fin : ∀ x w', W w' → (∀ k, k < ops.size → live.contains k = true → R k (x k) (x (aux.getD k k)) w') → Q .normal (G x) w') : (Code.region id ops true).wp P Q a w := by
  simp only [relB, Bool.and_eq_true, beq_iff_eq, List.all_eq_true, List.mem_range, Bool.or_eq_true] at hB
  obtain ⟨⟨hl, hap⟩, hall⟩ := hB
  simp only [List.all_eq_true, List.mem_range, Bool.or_eq_true, beq_iff_eq] at hlate
  refine wp_region_any hm (wpAny_inv (I := fun listed b w => listed.size = ops.size ∧ W w ∧ ∃ x, b = G x ∧ (listed.getD m false = false → x m = V) ∧ ∀ k, k < ops.size → listed.getD k false = true →
    (∀ i, onB .any ops i k = true → listed.getD i false = true) ∧ (((∃ j, j < ops.size ∧ (need.getD j []).contains k = true ∧ listed.getD j false = false) ∨ live.contains k = true) → R k (x k) (x (aux.getD k k)) w)) ?_ ?_ ops.size _ a w.drew ?_ ?_)
  · rintro listed b w i ⟨hsz, hw, x, rfl, hxm, hx⟩ hi
    obtain ⟨h0, o, ho, hdep⟩ := mem_ready.1 hi
    have his : i < ops.size := (Array.getElem?_eq_some_iff.1 ho).1
    have hlist : ∀ k, onB .any ops k i = true → listed.getD k false = true := fun k hk => by
      obtain ⟨o', ho', e, he, hb, rfl⟩ := onB_iff.1 hk
      rw [ho] at ho'
      cases ho'
      exact hdep e he hb
    have hlt : ∀ k, listed.getD k false = true → k < ops.size := fun k hk => by
      rcases Nat.lt_or_ge k listed.size with g | g
      · omega
      · simp [Array.getElem?_eq_none g] at hk
    have hif : listed.getD i false = false := by
      have hlt' : i < listed.size := by omega
      simp [hlt'] at h0 ⊢
      exact h0
    have hni : ∀ k, listed.getD k false = true → k ≠ i := fun k hk e => by
      subst e
      rw [hif] at hk
      cases hk
    have hun : listed.getD m false = false := by
      by_cases him : i = m
      · rw [← him]; exact hif
      · cases hlm' : listed.getD m false with
        | false => rfl
        | true =>
          rcases hlate i his with g | g
          · exact absurd g him
          · have := (hx m (hlt m hlm') hlm').1 i g
            rw [hif] at this; cases this
    have hnd : ∀ j k, j < ops.size → (need.getD j []).contains k = true → onB .any ops k j = true := fun j k hj hk => (hall j hj).2 k (by simpa using hk)
    refine wpOp_step ho fun K' hK' => steps i (Nat.zero_le _) o ho x w hw (hxm hun) (fun k hk => (hx k (hlt k (hlist k (hnd i k his hk))) (hlist k (hnd i k his hk))).2 (.inl ⟨i, his, hk, hif⟩)) K' (fun b' v w' hb' hw' hE hR => hK' _ _ ?_)
    have hli : l[i]? = some o.dst := by
      rw [← hl, List.getElem?_map, Array.getElem?_toList, ho]; rfl
    refine ⟨by rw [Array.size_setIfInBounds]; exact hsz, hw', upd x i v, ?_, fun hlm' => ?_, fun k hk hlk => ?_⟩
    · rw [hb', ← hG, ← hG, fill_upd l 0 x a i o.dst v hap hli, Nat.zero_add]
    · by_cases him : m = i
      · subst him
        have hlt' : m < listed.size := by omega
        simp [hlt'] at hlm'
      · rw [upd_else x i v him]
        exact hxm hun
    · by_cases hki : k = i
      · subst hki
        refine ⟨fun j hj => getD_set_true (hlist j hj), fun _ => ?_⟩
        rw [upd_same]
        unfold upd
        exact hR
      · rw [getD_set_ne false (Ne.symm hki)] at hlk
        obtain ⟨h1, h2⟩ := hx k hk hlk
        refine ⟨fun j hj => getD_set_true (h1 j hj), fun hneed => ?_⟩
        have hneed' : (∃ j, j < ops.size ∧ (need.getD j []).contains k = true ∧ listed.getD j false = false) ∨ live.contains k = true := by
          rcases hneed with ⟨j, hj, g1, g2⟩ | g
          · refine .inl ⟨j, hj, g1, ?_⟩
            cases hlj : listed.getD j false with
            | false => rfl
            | true => rw [getD_set_true hlj] at g2; cases g2
          · exact .inr g
        have hax : aux.getD k k ≠ i := by
          rcases (hall k hk).1.2 with g | g
          · rw [g]; exact hki
          · exact hni _ (h1 _ g)
        rw [upd_else x i v hki, upd_else x i v hax]
        refine keep i k _ _ w w' his hk hki ?_ ?_ hw (h2 hneed') hE
        · cases hon : onB .any ops i k with
          | false => rfl
          | true => exact absurd rfl (hni i (h1 i hon))
        · cases hlost : lostB ops need live i k with
          | false => rfl
          | true =>
            exfalso
            simp only [lostB, Bool.and_eq_true, Bool.not_eq_true', List.all_eq_true, List.mem_range, Bool.or_eq_true, beq_iff_eq] at hlost
            rcases hneed with ⟨j, hj, g1, g2⟩ | g
            · rcases hlost.2 j hj with (g3 | g3) | g3
              · rw [g3] at g1; cases g1
              · subst g3
                have hlt' : j < listed.size := by omega
                simp [hlt'] at g2
              · rw [getD_set_true (hlist j g3)] at g2; cases g2
            · rw [hlost.1] at g; cases g
  · rintro listed b w ⟨hsz, hw, x, rfl, -, hx⟩ hr
    have all : ∀ n k, k < n → k < ops.size → listed.getD k false = true := by
      intro n
      induction n with
      | zero => intro k hk; omega
      | succ n ih =>
        intro k hk hks
        rcases Nat.lt_or_ge k n with g | g
        · exact ih k g hks
        · cases hlk : listed.getD k false with
          | true => rfl
          | false =>
            exfalso
            have hlt : k < listed.size := by omega
            have hmem : k ∈ Region.ready .any ops listed := by
              refine mem_ready.2 ⟨?_, ops[k], by rw [Array.getElem?_eq_getElem hks], fun e he hb => ?_⟩
              · simp [hlt] at hlk ⊢; exact hlk
              · have h1 := ((hall k hks).1).1
                rw [Array.getElem?_eq_getElem hks] at h1
                simp only [Array.all_eq_true_iff_forall_mem, Bool.or_eq_true, Bool.not_eq_true', decide_eq_true_eq] at h1
                rcases h1 e he with h2 | h2
                · rw [hb] at h2; cases h2
                · exact ih e.on (by omega) (by omega)
            rw [hr] at hmem
            cases hmem
    exact fin x w hw fun k hk hlive => (hx k hk (all (k + 1) k (by omega) hk)).2 (.inr hlive)
  · simp [left]
  · refine ⟨by simp, hW, fun k => match l[k]? with | some (some d) => a.tmps.getD d undef | _ => undef, ?_, fun _ => by obtain ⟨d, h1, h2⟩ := hlm; simp only [h1]; exact h2, fun k hk h => by simp [hk] at h⟩
    rw [← hG]
    symm
    refine fill_had l 0 _ a fun j d hj => ?_
    rw [Nat.zero_add]
    simp only [hj]
    cases d <;> rfl
end
end Go.Proofs.YtbjpogeemajhoaaGreat.Rr
