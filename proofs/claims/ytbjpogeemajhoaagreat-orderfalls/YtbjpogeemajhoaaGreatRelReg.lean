/-
  A region that draws its order, walked an operation at a time, whatever the order: each slot is told by what it holds in whatever memory it stands in, and that stays while the others are carried out; of no program. Conditions: none.
-/
import Derived.Orders
import Derived.Deep.RegionHeld
namespace Go.Proofs.YtbjpogeemajhoaaGreat.Rr
open Go

section
variable {P : Program} {ops : Array Oper} {Q : Exit → Act → World → Prop} {md : Region.Mode}

/-- how many are not listed yet -/
def left (listed : Array Bool) : Nat := (listed.toList.filter (! ·)).length
theorem left_set {listed : Array Bool} {i : Nat} (h : listed.getD i true = false) : left (listed.setIfInBounds i true) + 1 = left listed := by
  obtain ⟨l⟩ := listed
  unfold left
  simp only [List.setIfInBounds_toArray]
  have h' : l[i]? = some false := by
    rcases Nat.lt_or_ge i l.length with g | g
    · simp [g] at h; rw [List.getElem?_eq_getElem g, h]
    · simp [g] at h
  clear h
  induction l generalizing i with
  | nil => simp at h'
  | cons x r ih =>
    cases i with
    | zero =>
      simp only [List.getElem?_cons_zero, Option.some.injEq] at h'
      subst h'
      simp
    | succ i =>
      simp only [List.getElem?_cons_succ] at h'
      have := ih h'
      rw [List.set_cons_succ]
      cases x
      · rw [List.filter_cons_of_pos rfl, List.filter_cons_of_pos rfl, List.length_cons, List.length_cons]; omega
      · rw [List.filter_cons_of_neg (by simp), List.filter_cons_of_neg (by simp)]; exact this

theorem wpAny_inv {I : Array Bool → Act → World → Prop}
    (step : ∀ listed a w i, I listed a w → i ∈ Region.ready md ops listed → wpOp P ops Q i (fun a' w' => I (listed.setIfInBounds i true) a' w') a w)
    (fin : ∀ listed a w, I listed a w → Region.ready md ops listed = [] → Q .normal a w) :
    ∀ fuel listed a w, left listed ≤ fuel → I listed a w → wpAny P md ops Q fuel listed a w
  | 0, listed, a, w, hf, h => by
    have hr : Region.ready md ops listed = [] := by
      rw [List.eq_nil_iff_forall_not_mem]
      intro i hi
      have := left_set (mem_ready.1 hi).1
      omega
    exact ⟨hr, fin _ _ _ h hr⟩
  | fuel + 1, listed, a, w, hf, h => ⟨fun hr => fin _ _ _ h hr, fun i hi => wpOp_mono (fun a' w' h' => wpAny_inv step fin fuel _ a' w' (by
      have := left_set (mem_ready.1 hi).1
      omega) h') (step _ _ _ _ h hi)⟩

/-- whether an operation waits for another one -/
def onB (md : Region.Mode) (ops : Array Oper) (i j : Nat) : Bool := match ops[j]? with
  | none => false
  | some o => o.after.any fun e => Region.binds md e && e.on == i
theorem onB_iff {i j : Nat} : onB md ops i j = true ↔ ∃ o, ops[j]? = some o ∧ ∃ e ∈ o.after, Region.binds md e = true ∧ e.on = i := by
  unfold onB
  cases ops[j]? with
  | none => simp
  | some o =>
    simp only [Array.any_eq_true, Bool.and_eq_true, beq_iff_eq, Option.some.injEq, exists_eq_left']
    constructor
    · rintro ⟨k, hk, h⟩; exact ⟨_, Array.getElem_mem hk, h⟩
    · rintro ⟨e, he, h⟩
      obtain ⟨k, hk, rfl⟩ := Array.mem_iff_getElem.1 he
      exact ⟨k, hk, h⟩
/-- slots given values -/
def fill : List (Option Tmp) → Nat → (Nat → Value) → Act → Act
  | [], _, _, a => a
  | d :: r, k, x, a => fill r (k + 1) x (a.put d (x k))
def upd (x : Nat → Value) (i : Nat) (v : Value) : Nat → Value := fun k => if k = i then v else x k
theorem upd_same (x : Nat → Value) (i : Nat) (v : Value) : upd x i v i = v := by simp [upd]
theorem upd_else (x : Nat → Value) (i : Nat) (v : Value) {k : Nat} (h : k ≠ i) : upd x i v k = x k := by simp [upd, h]
theorem put_put (a : Act) (d : Option Tmp) (u v : Value) : (a.put d u).put d v = a.put d v := by
  cases d with
  | none => rfl
  | some d => simp [Act.put]
theorem put_comm' (a : Act) (d e : Option Tmp) (u v : Value) (h : d = none ∨ d ≠ e) : (a.put d u).put e v = (a.put e v).put d u := by
  cases d with
  | none => rfl
  | some d =>
    cases e with
    | none => rfl
    | some e =>
      have h' : d ≠ e := fun g => by rcases h with h | h
                                     · cases h
                                     · exact h (by rw [g])
      simp only [Act.put]
      rw [Array.setIfInBounds_comm _ _ h']
theorem fill_put : ∀ (l : List (Option Tmp)) (k : Nat) (x : Nat → Value) (a : Act) (d : Option Tmp) (v : Value), (∀ e ∈ l, e = none ∨ e ≠ d) → (fill l k x a).put d v = fill l k x (a.put d v)
  | [], _, _, _, _, _, _ => rfl
  | e :: r, k, x, a, d, v, h => by
    show (fill r (k + 1) x (a.put e (x k))).put d v = fill r (k + 1) x ((a.put d v).put e (x k))
    rw [fill_put r (k + 1) x _ d v fun e he => h e (by simp [he]), put_comm' a e d _ _ (h e (by simp))]
theorem fill_congr : ∀ (l : List (Option Tmp)) (k : Nat) (x y : Nat → Value) (a : Act), (∀ j, k ≤ j → x j = y j) → fill l k x a = fill l k y a
  | [], _, _, _, _, _ => rfl
  | d :: r, k, x, y, a, h => by
    show fill r (k + 1) x (a.put d (x k)) = fill r (k + 1) y (a.put d (y k))
    rw [h k (Nat.le_refl _), fill_congr r (k + 1) x y _ fun j hj => h j (by omega)]
/-- the slots are apart -/
def apartB : List (Option Tmp) → Bool
  | [] => true
  | d :: r => (r.all fun e => e == none || e != d) && apartB r
theorem put_none (a : Act) (v : Value) : a.put none v = a := rfl
theorem fill_upd : ∀ (l : List (Option Tmp)) (k : Nat) (x : Nat → Value) (a : Act) (j : Nat) (d : Option Tmp) (v : Value), apartB l = true → l[j]? = some d → (fill l k x a).put d v = fill l k (upd x (k + j) v) a
  | [], _, _, _, _, _, _, _, h => by simp at h
  | e :: r, k, x, a, 0, d, v, hB, h => by
    simp only [List.getElem?_cons_zero, Option.some.injEq] at h
    subst h
    simp only [apartB, Bool.and_eq_true, List.all_eq_true, Bool.or_eq_true, beq_iff_eq, bne_iff_ne] at hB
    show (fill r (k + 1) x (a.put e (x k))).put e v = fill r (k + 1) (upd x (k + 0) v) (a.put e (upd x (k + 0) v k))
    rw [fill_put r (k + 1) x _ e v hB.1, put_put]
    show _ = fill r (k + 1) (upd x k v) (a.put e (upd x k v k))
    rw [upd_same, fill_congr r (k + 1) x (upd x k v) _ fun j hj => (upd_else x k v (by omega)).symm]
  | e :: r, k, x, a, j + 1, d, v, hB, h => by
    simp only [List.getElem?_cons_succ] at h
    simp only [apartB, Bool.and_eq_true] at hB
    show (fill r (k + 1) x (a.put e (x k))).put d v = fill r (k + 1) (upd x (k + (j + 1)) v) (a.put e (upd x (k + (j + 1)) v k))
    rw [fill_upd r (k + 1) x _ j d v hB.2 h, upd_else x _ v (show k ≠ k + (j + 1) by omega), show k + 1 + j = k + (j + 1) by omega]
theorem put_self (a : Act) (d : Option Tmp) : a.put d (match d with | some d => a.tmps.getD d undef | none => undef) = a := by
  cases d with
  | none => rfl
  | some d =>
    obtain ⟨t, ds⟩ := a
    simp only [Act.put, Act.mk.injEq, and_true]
    apply Array.ext_getElem?
    intro i
    rw [Array.getElem?_setIfInBounds]
    by_cases h : d = i
    · subst h
      rcases Nat.lt_or_ge d t.size with g | g
      · simp [g]
      · rw [if_pos rfl, Array.getElem?_eq_none g]; exact if_neg (by omega)
    · rw [if_neg h]
theorem fill_had : ∀ (l : List (Option Tmp)) (k : Nat) (x : Nat → Value) (a : Act), (∀ j d, l[j]? = some d → x (k + j) = match d with | some d => a.tmps.getD d undef | none => undef) → fill l k x a = a
  | [], _, _, _, _ => rfl
  | d :: r, k, x, a, h => by
    show fill r (k + 1) x (a.put d (x k)) = a
    have h0 := h 0 d rfl
    rw [Nat.add_zero] at h0
    rw [h0, put_self]
    exact fill_had r (k + 1) x a fun j e hj => by rw [show k + 1 + j = k + (j + 1) by omega]; exact h (j + 1) e (by simpa using hj)

/-- what is no more asked for behind an operation -/
def lostB (ops : Array Oper) (need : List (List Nat)) (live : List Nat) (i j : Nat) : Bool :=
  !live.contains j && (List.range ops.size).all fun k => !(need.getD k []).contains j || k == i || onB .any ops k i
theorem no_lost {b : Bool} (h : b = false) (h' : b = true) : False := by rw [h] at h'; cases h'
/-- what a region must be: an operation waits for earlier ones alone, the slots are apart, each one's other slot and what it needs are among those that it waits for -/
def relB (ops : Array Oper) (l : List (Option Tmp)) (aux : List Nat) (need : List (List Nat)) : Bool :=
  (ops.toList.map (·.dst) == l) && apartB l && ((List.range ops.size).all fun j => ((match ops[j]? with | none => true | some o => o.after.all fun e => !Region.binds .any e || decide (e.on < j))) && (aux.getD j j == j || onB .any ops (aux.getD j j) j) && (need.getD j []).all fun k => onB .any ops k j)
def RunStep (P : Program) (ops : Array Oper) (Q : Exit → Act → World → Prop) (W : World → Prop) (R : Nat → Value → Value → World → Prop) (E : Nat → World → World → Prop) (aux : List Nat) (need : List (List Nat)) (G : (Nat → Value) → Act) (i : Nat) (o : Oper) : Prop :=
  ∀ (x : Nat → Value) (w : World), W w → (∀ k, (need.getD i []).contains k = true → R k (x k) (x (aux.getD k k)) w) → ∀ K : Act → World → Prop,
    Shut (∀ a v w', a = (G x).put o.dst v → W w' → E i w w' → R i v (if aux.getD i i = i then v else x (aux.getD i i)) w' → K a w') →
    if Region.wanted o (yielded ops (G x).tmps) = true then Oper.wp P o (G x) w K Q else K ((G x).put o.dst undef) w
def RunSteps (P : Program) (ops : Array Oper) (Q : Exit → Act → World → Prop) (W : World → Prop) (R : Nat → Value → Value → World → Prop) (E : Nat → World → World → Prop) (aux : List Nat) (need : List (List Nat)) (G : (Nat → Value) → Act) (k : Nat) : Prop :=
  ∀ i, k ≤ i → ∀ o, ops[i]? = some o → RunStep P ops Q W R E aux need G i o
theorem RunSteps.nil {W : World → Prop} {R : Nat → Value → Value → World → Prop} {E : Nat → World → World → Prop} {aux : List Nat} {need : List (List Nat)} {G : (Nat → Value) → Act} {k : Nat} (h : ops.size = k) : RunSteps P ops Q W R E aux need G k := fun i hi o ho => by
  have := (Array.getElem?_eq_some_iff.1 ho).1
  omega
theorem RunSteps.cons {W : World → Prop} {R : Nat → Value → Value → World → Prop} {E : Nat → World → World → Prop} {aux : List Nat} {need : List (List Nat)} {G : (Nat → Value) → Act} {k : Nat} {o : Oper} (ho : ops[k]? = some o)
    (h : RunStep P ops Q W R E aux need G k o) (t : RunSteps P ops Q W R E aux need G (k + 1)) : RunSteps P ops Q W R E aux need G k := fun i hi o' ho' => by
  rcases Nat.lt_or_ge k i with g | g
  · exact t i g o' ho'
  · obtain rfl : i = k := by omega
    rw [ho] at ho'
    cases ho'
    exact h

theorem region_rel {id : Nat} {a : Act} {w : World} (l : List (Option Tmp)) (aux : List Nat) (need : List (List Nat)) (live : List Nat) (W : World → Prop) (R : Nat → Value → Value → World → Prop) (E : Nat → World → World → Prop) {G : (Nat → Value) → Act}
    (hm : P.follows .mixedOrders = true) (hB : relB ops l aux need = true) (hG : ∀ x, fill l 0 x a = G x) (hW : W w.drew)
    (keep : ∀ i j v u w w', i < ops.size → j < ops.size → j ≠ i → onB .any ops i j = false → lostB ops need live i j = false → W w → R j v u w → E i w w' → R j v u w')
    (steps : RunSteps P ops Q W R E aux need G 0)
    (fin : ∀ x w', W w' → (∀ k, k < ops.size → live.contains k = true → R k (x k) (x (aux.getD k k)) w') → Q .normal (G x) w') : (Code.region id ops true).wp P Q a w := by
  simp only [relB, Bool.and_eq_true, beq_iff_eq, List.all_eq_true, List.mem_range, Bool.or_eq_true] at hB
  obtain ⟨⟨hl, hap⟩, hall⟩ := hB
  refine wp_region_any hm (wpAny_inv (I := fun listed b w => listed.size = ops.size ∧ W w ∧ ∃ x, b = G x ∧ ∀ k, k < ops.size → listed.getD k false = true →
    (∀ i, onB .any ops i k = true → listed.getD i false = true) ∧ (((∃ j, j < ops.size ∧ (need.getD j []).contains k = true ∧ listed.getD j false = false) ∨ live.contains k = true) → R k (x k) (x (aux.getD k k)) w)) ?_ ?_ ops.size _ a w.drew ?_ ?_)
  · rintro listed b w i ⟨hsz, hw, x, rfl, hx⟩ hi
    obtain ⟨h0, o, ho, hdep⟩ := mem_ready.1 hi
    have his : i < ops.size := (Array.getElem?_eq_some_iff.1 ho).1
    have hlist : ∀ k, onB .any ops k i = true → listed.getD k false = true := fun k hk => by
      obtain ⟨o', ho', e, he, hb, rfl⟩ := onB_iff.1 hk
      rw [ho] at ho'
      cases ho'
      exact hdep e he hb
    have hlt : ∀ k, listed.getD k false = true → k < ops.size := fun k hk => by
      rcases Nat.lt_or_ge k listed.size with g | g
      · omega
      · simp [Array.getElem?_eq_none g] at hk
    have hif : listed.getD i false = false := by
      have hlt' : i < listed.size := by omega
      simp [hlt'] at h0 ⊢
      exact h0
    have hni : ∀ k, listed.getD k false = true → k ≠ i := fun k hk e => by
      subst e
      rw [hif] at hk
      cases hk
    have hnd : ∀ j k, j < ops.size → (need.getD j []).contains k = true → onB .any ops k j = true := fun j k hj hk => (hall j hj).2 k (by simpa using hk)
    refine wpOp_step ho fun K' hK' => steps i (Nat.zero_le _) o ho x w hw (fun k hk => (hx k (hlt k (hlist k (hnd i k his hk))) (hlist k (hnd i k his hk))).2 (.inl ⟨i, his, hk, hif⟩)) K' (fun b' v w' hb' hw' hE hR => hK' _ _ ?_)
    have hli : l[i]? = some o.dst := by
      rw [← hl, List.getElem?_map, Array.getElem?_toList, ho]; rfl
    refine ⟨by rw [Array.size_setIfInBounds]; exact hsz, hw', upd x i v, ?_, fun k hk hlk => ?_⟩
    · rw [hb', ← hG, ← hG, fill_upd l 0 x a i o.dst v hap hli, Nat.zero_add]
    · by_cases hki : k = i
      · subst hki
        refine ⟨fun j hj => getD_set_true (hlist j hj), fun _ => ?_⟩
        rw [upd_same]
        unfold upd
        exact hR
      · rw [getD_set_ne false (Ne.symm hki)] at hlk
        obtain ⟨h1, h2⟩ := hx k hk hlk
        refine ⟨fun j hj => getD_set_true (h1 j hj), fun hneed => ?_⟩
        have hneed' : (∃ j, j < ops.size ∧ (need.getD j []).contains k = true ∧ listed.getD j false = false) ∨ live.contains k = true := by
          rcases hneed with ⟨j, hj, g1, g2⟩ | g
          · refine .inl ⟨j, hj, g1, ?_⟩
            cases hlj : listed.getD j false with
            | false => rfl
            | true => rw [getD_set_true hlj] at g2; cases g2
          · exact .inr g
        have hax : aux.getD k k ≠ i := by
          rcases (hall k hk).1.2 with g | g
          · rw [g]; exact hki
          · exact hni _ (h1 _ g)
        rw [upd_else x i v hki, upd_else x i v hax]
        refine keep i k _ _ w w' his hk hki ?_ ?_ hw (h2 hneed') hE
        · cases hon : onB .any ops i k with
          | false => rfl
          | true => exact absurd rfl (hni i (h1 i hon))
        · cases hlost : lostB ops need live i k with
          | false => rfl
          | true =>
            exfalso
            simp only [lostB, Bool.and_eq_true, Bool.not_eq_true', List.all_eq_true, List.mem_range, Bool.or_eq_true, beq_iff_eq] at hlost
            rcases hneed with ⟨j, hj, g1, g2⟩ | g
            · rcases hlost.2 j hj with (g3 | g3) | g3
              · rw [g3] at g1; cases g1
              · subst g3
                have hlt' : j < listed.size := by omega
                simp [hlt'] at g2
              · rw [getD_set_true (hlist j g3)] at g2; cases g2
            · rw [hlost.1] at g; cases g
  · rintro listed b w ⟨hsz, hw, x, rfl, hx⟩ hr
    have all : ∀ n k, k < n → k < ops.size → listed.getD k false = true := by
      intro n
      induction n with
      | zero => intro k hk; omega
      | succ n ih =>
        intro k hk hks
        rcases Nat.lt_or_ge k n with g | g
        · exact ih k g hks
        · cases hlk : listed.getD k false with
          | true => rfl
          | false =>
            exfalso
            have hlt : k < listed.size := by omega
            have hmem : k ∈ Region.ready .any ops listed := by
              refine mem_ready.2 ⟨?_, ops[k], by rw [Array.getElem?_eq_getElem hks], fun e he hb => ?_⟩
              · simp [hlt] at hlk ⊢; exact hlk
              · have h1 := ((hall k hks).1).1
                rw [Array.getElem?_eq_getElem hks] at h1
                simp only [Array.all_eq_true_iff_forall_mem, Bool.or_eq_true, Bool.not_eq_true', decide_eq_true_eq] at h1
                rcases h1 e he with h2 | h2
                · rw [hb] at h2; cases h2
                · exact ih e.on (by omega) (by omega)
            rw [hr] at hmem
            cases hmem
    exact fin x w hw fun k hk hlive => (hx k hk (all (k + 1) k (by omega) hk)).2 (.inr hlive)
  · simp [left]
  · refine ⟨by simp, hW, fun k => match l[k]? with | some (some d) => a.tmps.getD d undef | _ => undef, ?_, fun k hk h => by simp [hk] at h⟩
    rw [← hG]
    symm
    refine fill_had l 0 _ a fun j d hj => ?_
    rw [Nat.zero_add]
    simp only [hj]
    cases d <;> rfl
end
end Go.Proofs.YtbjpogeemajhoaaGreat.Rr
