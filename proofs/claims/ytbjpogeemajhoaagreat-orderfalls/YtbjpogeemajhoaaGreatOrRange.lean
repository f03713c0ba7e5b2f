/-
  A map of facts gone over, in whatever order: who has come, who is still to come. Conditions: none.
-/
import Derived.Test.YtbjpogeemajhoaaGreatRows
import Derived.Test.YtbjpogeemajhoaaGreatOrMap
import Derived.Sort.MapsRangeIn
namespace Go.Proofs.YtbjpogeemajhoaaGreat.Or
open Go Go.RowKit

/-- block b is the map of F, block r goes over it; G have come, c are to come -/
structure RangeOf (w : World) (b r : Nat) (F G : List Fx) (c : Nat) : Prop where
  own : ∃ D left, w.ranges Tryz.prog 9 rdF b r F.length D left c ∧ (∀ kl zd, D.atKey kl zd = seen F kl zd) ∧ Maps.size D = F.length ∧ ∀ y ∈ F, left (keyL y.f.id) = true ↔ y ∉ G
  nodup : (F.map fun y => y.f.id).Nodup
  sub : ∀ y ∈ G, y ∈ F
  once : G.Nodup
theorem RangeOf.turn {w w' : World} {b r : Nat} {F G : List Fx} {c : Nat} (h : RangeOf w b r F G c) (t1 : w'.heap[b]? = w.heap[b]?) (t2 : w'.heap[r]? = w.heap[r]?) : RangeOf w' b r F G c := by
  obtain ⟨D, left, ⟨es, clock, since, seen', c0, h1, h2, h3, h4, h5, h6⟩, h7⟩ := h.own
  exact ⟨⟨D, left, ⟨es, clock, since, seen', c0, t1.trans h1, h2, h3, h4, t2.trans h5, h6⟩, h7⟩, h.nodup, h.sub, h.once⟩
theorem RangeOf.lt {w : World} {b r : Nat} {F G : List Fx} {c : Nat} (h : RangeOf w b r F G c) : b < w.heap.size ∧ r < w.heap.size := by
  obtain ⟨D, left, h1, _⟩ := h.own
  exact ⟨h1.owns.lt, h1.lt⟩
theorem RangeOf.next {w w' : World} {b r : Nat} {F G : List Fx} {c : Nat} (h : RangeOf w b r F G c) (t : Below w.heap.size w w') : RangeOf w' b r F G c := h.turn (t.block b h.lt.1) (t.block r h.lt.2)
theorem RangeOf.left_eq {w : World} {b r : Nat} {F G : List Fx} {c : Nat} (h : RangeOf w b r F G c) : w.rangeLeft b r = c := by
  obtain ⟨D, left, h1, _⟩ := h.own
  exact h1.left_eq
theorem RangeOf.map {w : World} {b r : Nat} {F G : List Fx} {c : Nat} (h : RangeOf w b r F G c) : MapOf w b F := by
  obtain ⟨D, left, h1, h2, h3, _⟩ := h.own
  exact ⟨⟨D, h1.owns, h3, h2⟩, h.nodup⟩
theorem RangeOf.ne {w : World} {b r : Nat} {F G : List Fx} {c : Nat} (h : RangeOf w b r F G c) : r ≠ b := by
  obtain ⟨D, left, h1, _⟩ := h.own
  exact h1.ne
theorem range_start {w w' : World} {b : Nat} {F : List Fx} {D : DataW Value} (hD : ∀ kl zd, D.atKey kl zd = seen F kl zd) (hs : Maps.size D = F.length) (hn : (F.map fun y => y.f.id).Nodup)
    (hr : w'.ranges Tryz.prog 9 rdF b w.heap.size F.length D (Maps.has D) (Maps.size D)) : RangeOf w' b w.heap.size F [] F.length := by
  rw [hs] at hr
  refine ⟨⟨D, _, hr, hD, hs, fun y hy => ?_⟩, hn, fun y hy => by simp at hy, List.nodup_nil⟩
  rw [has_seen hD, hasI_iff]
  simp only [List.not_mem_nil, not_false_eq_true, iff_true]
  exact ⟨y, hy, rfl⟩
theorem range_done {F G : List Fx} {left : Lit → Bool} (hl : ∀ kl, left kl = false) (hm : ∀ y ∈ F, left (keyL y.f.id) = true ↔ y ∉ G) : ∀ y ∈ F, y ∈ G := fun y hy => by
  have := hm y hy
  rw [hl] at this
  exact Classical.byContradiction fun h => by have := this.2 h; cases this
theorem range_more {w' : World} {b r : Nat} {F G : List Fx} {c' : Nat} {D : DataW Value} {left : Lit → Bool} {k v : Value} {kl : Lit} {y : DataW Value × List MemPlace} (hD : ∀ kl zd, D.atKey kl zd = seen F kl zd) (hs : Maps.size D = F.length)
    (hn : (F.map fun y => y.f.id).Nodup) (hsub : ∀ y ∈ G, y ∈ F) (hone : G.Nodup) (hm : ∀ y ∈ F, left (keyL y.f.id) = true ↔ y ∉ G)
    (hkey : keyOf Tryz.prog 9 k = some kl) (hlk : left kl = true) (hv : rdF v = some y) (hat : ∀ zd, D.atKey kl zd = y.1) (hr : w'.ranges Tryz.prog 9 rdF b r F.length D (fun z => left z && !z.sameKey kl) c')
    (hsee : Maps.has D kl = true) : ∃ x, x ∈ F ∧ x ∉ G ∧ k = .string x.f.id ∧ v = x.val ∧ RangeOf w' b r F (G ++ [x]) c' := by
  obtain ⟨s, rfl, rfl, hsz⟩ := WideMaps.string_of_keyOf Tryz.underlying9 hkey
  have hh := has_seen hD s
  rw [show Maps.has D (keyL s) = true from hsee] at hh
  obtain ⟨x, hx, hxs⟩ := hasI_iff.1 hh.symm
  subst hxs
  have hf := fnd_mem hn hx
  have hv' : v = x.val := by
    have := hat .nil
    rw [hD] at this
    unfold seen at this
    rw [show Lit.string x.f.id.data.toList = keyL x.f.id from rfl, find_keyL, hf] at this
    unfold rdF at hv
    simp only [Option.some.injEq] at hv
    subst hv
    simp only [DataW.held.injEq] at this
    exact this.symm
  have hxG : x ∉ G := (hm x hx).1 hlk
  refine ⟨x, hx, hxG, rfl, hv', ⟨⟨D, _, hr, hD, hs, fun z hz => ?_⟩, hn, fun z hz => ?_, ?_⟩⟩
  · simp only [Bool.and_eq_true, hm z hz, List.mem_append, List.mem_singleton, not_or, Bool.not_eq_true']
    refine and_congr_right fun _ => ⟨fun h e => ?_, fun h => ?_⟩
    · subst e
      rw [show keyL z.f.id = Lit.string z.f.id.data.toList from rfl, WideAt.sameKey_self (by trivial)] at h; cases h
    · refine Maps.sameKey_ne fun e => h ?_
      have e' := keyL_inj (x := z.f.id) (y := x.f.id) e
      have h1 := fnd_mem hn hz
      rw [e', hf] at h1
      exact (Option.some.inj h1).symm
  · rcases List.mem_append.1 hz with h | h
    · exact hsub z h
    · rw [List.mem_singleton] at h; subst h; exact hx
  · rw [List.nodup_append]
    refine ⟨hone, by simp, fun z hz q hq => ?_⟩
    rw [List.mem_singleton] at hq
    subst hq
    exact fun e => hxG (e ▸ hz)
theorem left_has {w : World} {b r : Nat} {F : List Fx} {c : Nat} {D : DataW Value} {left : Lit → Bool} (h : w.ranges Tryz.prog 9 rdF b r F.length D left c) {kl : Lit} {z : DataW Value} (hat : ∀ zd, D.atKey kl zd = z) : Maps.has D kl = true :=
  Maps.has_true_of_atKey hat
section
variable {ops : Array Oper} {rest : List Oper} {o : Oper} {a : Act} {Q : Exit → Act → World → Prop} {w : World}
/-- 'range f' at the operation -/
theorem wp_range (hg : o.guard = none) (m : Operand) (hop : o.op = Op.range 58 m) (b : Nat) (F : List Fx) (hm : a.eval m = .map (some b)) (h : MapOf w b F)
    (hK : ∀ w', RangeOf w' b w.heap.size F [] F.length → w.grownBy w' none → w'.heap.size = w.heap.size + 1 → wpList Tryz.prog ops Q rest (a.put o.dst (.pointer (some ⟨w.heap.size, 0, none⟩))) w') : wpList Tryz.prog ops Q (o :: rest) a w := by
  obtain ⟨D, hown, hs, hD⟩ := h.own
  exact wpList_range_own w hg m 58 hop 9 28 lawS underF rdF b _ D hm hown fun w' r1 r2 r3 => hK w' (range_start hD hs h.nodup r1) r2 r3
/-- the step at the operation -/
theorem wp_next (hg : o.guard = none) (it : Operand) (hop : o.op = Op.next it false) (b r : Nat) (F G : List Fx) (c : Nat) (hit : a.eval it = .pointer (some ⟨r, 0, none⟩)) (h : RangeOf w b r F G c)
    (hDone : (∀ y ∈ F, y ∈ G) → wpList Tryz.prog ops Q rest (a.put o.dst (.tuple #[.bool false])) w)
    (hMore : ∀ x w' c', x ∈ F → x ∉ G → RangeOf w' b r F (G ++ [x]) c' → c' < c → w.grownBy w' (some r) → w'.heap.size = w.heap.size →
      (Instr.entry (.pointer (some ⟨r, 0, none⟩))).run Tryz.prog w' = .ok (.tuple #[.string x.f.id, x.val]) w' → wpList Tryz.prog ops Q rest (a.put o.dst (.tuple #[.bool true, .string x.f.id, x.val])) w') : wpList Tryz.prog ops Q (o :: rest) a w := by
  obtain ⟨D, left, hrg, hD, hs, hm⟩ := h.own
  refine wpList_next_ranges w hg it hop 9 lawS rdF id id (fun k _ _ => ⟨k, rfl⟩) (fun v _ _ => ⟨v, rfl⟩) b r _ D left c hit hrg (fun _ hl => hDone (range_done hl hm)) ?_
  intro k v kl y w' c' hkey hlk hv hat hr hlt hg2 hs2 hen
  obtain ⟨x, hx, hxG, rfl, rfl, hR⟩ := range_more hD hs h.nodup h.sub h.once hm hkey hlk hv hat hr (left_has hrg hat)
  exact hMore x w' c' hx hxG hR hlt hg2 hs2 hen
variable {F0 : Fence} {n : Nat}
/-- the same inside a fence -/
theorem wpi_range (hg : o.guard = none) (m : Operand) (hop : o.op = Op.range 58 m) (b : Nat) (F : List Fx) (hm : a.eval m = .map (some b)) (h : MapOf w b F)
    (hK : ∀ w', RangeOf w' b w.heap.size F [] F.length → w.grownBy w' none → w'.heap.size = w.heap.size + 1 → wpListIn F0 n Tryz.prog ops Q rest (a.put o.dst (.pointer (some ⟨w.heap.size, 0, none⟩))) w') : wpListIn F0 n Tryz.prog ops Q (o :: rest) a w := by
  obtain ⟨D, hown, hs, hD⟩ := h.own
  exact wpListIn_range_own w hg m 58 hop 9 28 lawS underF rdF b _ D hm hown fun w' r1 r2 r3 => hK w' (range_start hD hs h.nodup r1) r2 r3
theorem wpi_next (hg : o.guard = none) (it : Operand) (hop : o.op = Op.next it false) (b r : Nat) (F G : List Fx) (c : Nat) (hit : a.eval it = .pointer (some ⟨r, 0, none⟩)) (h : RangeOf w b r F G c)
    (hDone : (∀ y ∈ F, y ∈ G) → wpListIn F0 n Tryz.prog ops Q rest (a.put o.dst (.tuple #[.bool false])) w)
    (hMore : ∀ x w' c', x ∈ F → x ∉ G → RangeOf w' b r F (G ++ [x]) c' → c' < c → w.grownBy w' (some r) → w'.heap.size = w.heap.size →
      (Instr.entry (.pointer (some ⟨r, 0, none⟩))).run Tryz.prog w' = .ok (.tuple #[.string x.f.id, x.val]) w' → wpListIn F0 n Tryz.prog ops Q rest (a.put o.dst (.tuple #[.bool true, .string x.f.id, x.val])) w') : wpListIn F0 n Tryz.prog ops Q (o :: rest) a w := by
  obtain ⟨D, left, hrg, hD, hs, hm⟩ := h.own
  refine wpListIn_next_ranges w hg it hop 9 lawS rdF id id (fun k _ _ => ⟨k, rfl⟩) (fun v _ _ => ⟨v, rfl⟩) b r _ D left c hit hrg (fun _ hl => hDone (range_done hl hm)) ?_
  intro k v kl y w' c' hkey hlk hv hat hr hlt hg2 hs2 hen
  obtain ⟨x, hx, hxG, rfl, rfl, hR⟩ := range_more hD hs h.nodup h.sub h.once hm hkey hlk hv hat hr (left_has hrg hat)
  exact hMore x w' c' hx hxG hR hlt hg2 hs2 hen
end
/-- all have come: the same facts -/
theorem perm_of {F G : List Fx} (hF : (F.map fun y => y.f.id).Nodup) (hG : G.Nodup) (h1 : ∀ y ∈ G, y ∈ F) (h2 : ∀ y ∈ F, y ∈ G) : G.Perm F := by
  refine (List.perm_ext_iff_of_nodup hG ?_).2 fun y => ⟨h1 y, h2 y⟩
  unfold List.Nodup at hF
  rw [List.pairwise_map] at hF
  exact hF.imp fun {a b} h e => h (by rw [e])
end Go.Proofs.YtbjpogeemajhoaaGreat.Or
