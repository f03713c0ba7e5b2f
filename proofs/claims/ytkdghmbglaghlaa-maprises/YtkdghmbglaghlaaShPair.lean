/-
  The document's own answers for maps, as plain lists of pairs: the reference's Get, Set, Cut. Conditions: a list is not too long; where a pair is set, its keys rise.
-/
import Derived.Test.YtkdghmbglaghlaaRows
import Derived.Test.YtkdghmbglaghlaaShLib
import Derived.Test.YtkdghmbglaghlaaShMap
import Derived.Deep.LoopGhost
import Derived.Laws.AppendOwn
namespace Go.Proofs.Ytkdghmbglaghlaa.Sh
open Key (lt)
open Ent (key)
theorem ins_end {E K : Type} [Key K] [Ent E K] (e : E) : ∀ (l : List E), (∀ b ∈ l, lt (key b) (key e) = true) → ins e l = l ++ [e]
  | [], _ => rfl
  | b :: l, h => by
    have hb := h b (by simp)
    simp only [ins, List.cons_append]
    rw [if_neg (by rw [lt_asym hb]; simp), if_pos hb, ins_end e l (fun c hc => h c (by simp [hc]))]
end Go.Proofs.Ytkdghmbglaghlaa.Sh
namespace Go.Proofs.Ytkdghmbglaghlaa.Rp
open Go.RowKit Sh
open Key (lt)

abbrev Pr := ByteArray × Int
abbrev pz : Pr := (ByteArray.empty, 0)
/-- pairs in memory, as the reference reads them -/
def Sl (W : World) (v : Value) (L : List Pr) : Prop := ∃ s cap, v = .slice s L.length cap ∧ (0 < L.length → ∃ g off, s = some ⟨g, off, none⟩ ∧ g < W.heap.size ∧ ∀ j, j < L.length → W.cell? ⟨g, off + j * 2, none⟩ = some (.string (L[j]?.getD pz).1) ∧ W.cell? ⟨g, off + j * 2 + 1, none⟩ = some (.int .i64 (L[j]?.getD pz).2))
theorem Sl.next {W W' : World} {v : Value} {L : List Pr} (h : Sl W v L) (hb : Below W.heap.size W W') : Sl W' v L := by
  obtain ⟨s, cap, rfl, h1⟩ := h
  exact ⟨s, cap, rfl, fun h0 => by
    obtain ⟨g, off, e, hg, hc⟩ := h1 h0
    exact ⟨g, off, e, Nat.lt_of_lt_of_le hg hb.size, fun j hj => ⟨(hb.cell (p := ⟨g, off + j * 2, none⟩) hg).trans (hc j hj).1, (hb.cell (p := ⟨g, off + j * 2 + 1, none⟩) hg).trans (hc j hj).2⟩⟩⟩
theorem infoP : (Try.prog.info? 59).map (fun i => (i.zero, i.size, i.bytes)) = some (some (.agg #[.string ⟨#[]⟩, .int .i64 0]), 2, 24) := by kernel_rfl
def cellsP (l : Pr) : List Value := [.string l.1, .int .i64 l.2]
def rowP (L : List Pr) : List Value := L.flatMap cellsP
theorem rowP_snoc (L : List Pr) (l : Pr) : rowP L ++ cellsP l = rowP (L ++ [l]) := by simp [rowP]
theorem rowP_at : ∀ (L : List Pr) (i : Nat) (l : Pr), L[i]? = some l → (rowP L)[i * 2]? = some (.string l.1) ∧ (rowP L)[i * 2 + 1]? = some (.int .i64 l.2)
  | [], i, e, h => by simp at h
  | x :: L, 0, e, h => by simp at h; subst h; simp [rowP, cellsP]
  | x :: L, i + 1, e, h => by
    have ih := rowP_at L i e (by simpa using h)
    have hc : rowP (x :: L) = cellsP x ++ rowP L := by simp [rowP]
    have hl : (cellsP x).length = 2 := rfl
    rw [hc, show (i + 1) * 2 = i * 2 + 2 by omega]
    refine ⟨?_, ?_⟩
    · rw [List.getElem?_append_right (by omega), hl]; exact ih.1
    · rw [List.getElem?_append_right (by omega), hl, show i * 2 + 2 + 1 - 2 = i * 2 + 1 by omega]; exact ih.2
/-- a slice of pairs in a row of the call's own -/
def OwnP (B : Nat) (w : World) (v : Value) (L : List Pr) : Prop := w.ownsRow B 59 2 v L.length (rowP L)
theorem OwnP.new (w : World) : OwnP w.heap.size (w.alloc (.cells #[] 59)) (.slice (some ⟨w.heap.size, 0, none⟩) 0 0) [] := by
  refine ⟨by simp [rowP], Or.inr ⟨w.heap.size, 0, #[], rfl, Nat.le_refl _, (show _ = _ by show (w.heap.push _)[w.heap.size]? = _; simp), by simp, by simp [maxLen], by simp, by simp [rowP]⟩⟩
theorem OwnP.sl {B : Nat} {w : World} {v : Value} {L : List Pr} (h : OwnP B w v L) : Sl w v L := by
  rcases h.2 with ⟨hv, h0⟩ | ⟨g, cap, cur, hv, h1, h2, h3, _⟩
  · exact ⟨none, 0, by rw [hv, h0], fun h => by omega⟩
  · have hb : v.ownBlock = some g := by rw [hv]; rfl
    refine ⟨some ⟨g, 0, none⟩, cap, hv, fun _ => ⟨g, 0, rfl, (h.lt g hb).2, fun j hj => ?_⟩⟩
    have he : L[j]? = some (L[j]?.getD pz) := by rw [List.getElem?_eq_getElem hj]; rfl
    refine ⟨?_, ?_⟩
    · have := World.ownsRow.cells h hb _ _ (rowP_at L j _ he).1; rwa [Addr.add_mid] at this
    · have := World.ownsRow.cells h hb _ _ (rowP_at L j _ he).2; rw [Addr.add_mid] at this; rw [Nat.add_assoc]; exact this
theorem OwnP.form {B : Nat} {w : World} {v : Value} {L : List Pr} (h : OwnP B w v L) : ∃ a c, v = .slice a L.length c := by
  obtain ⟨a, c, rfl, _⟩ := h.sl
  exact ⟨a, c, rfl⟩
/-- append(pairs, p), as the walk stands at it -/
theorem wp_append_pair {ops : Array Oper} {rest : List Oper} {o : Oper} {a : Act} {Q : Exit → Act → World → Prop} {w : World} (hgd : o.guard = none) (s x : Operand)
    (ho : o.op = .call { callee := .builtin .append, args := #[s, x], argTypes := #[46, 46] })
    (B : Nat) (v : Value) (L : List Pr) (l : Pr) (hs : a.eval s = v) (hx : a.eval x = .slice (some ⟨w.heap.size, 0, none⟩) 1 1)
    (hown : OwnP B w v L) (hB : B ≤ w.heap.size) (hlen : L.length ≤ 1000000)
    (h : ∀ v' w', OwnP B w' v' (L ++ [l]) → (∀ u, Below B u w → Below B u w') → wpList Try.prog ops Q rest (a.put o.dst v') w') : wpList Try.prog ops Q (o :: rest) a (w.alloc (.cells #[.string l.1, .int .i64 l.2] 59)) := by
  obtain ⟨i0, hi, hz0, hz1, hz2⟩ := info_parts infoP
  have hoA := World.ownsRow.alloc hown (.cells #[.string l.1, .int .i64 l.2] 59)
  have hnews : ∀ (j : Nat) (u : Value), (cellsP l)[j]? = some u → (w.alloc (.cells #[.string l.1, .int .i64 l.2] 59)).cell? ((⟨w.heap.size, 0, none⟩ : Addr).add j) = some u := fun j u hj => by
    match j, hj with
    | 0, hj => simp [cellsP] at hj; subst hj; simp [Addr.add]
    | 1, hj => simp [cellsP] at hj; subst hj; simp [Addr.add]
    | j + 2, hj => simp [cellsP] at hj
  refine wpList_append_own _ hgd s x 46 ho B 59 i0 (.agg #[.string ⟨#[]⟩, .int .i64 0]) 2 24 Try.underlying46 hi hz0 hz1 hz2 rfl (by decide) v L.length (rowP L) hs hoA ⟨w.heap.size, 0, none⟩ 1 1 (cellsP l) hx rfl hnews
    (fun u hu => by simp [cellsP] at hu; rcases hu with rfl | rfl <;> rfl) (by unfold maxLen; omega) (by omega) (by simp; omega) ?_
  intro v' w' hown' hgrow _
  refine h v' w' (by unfold OwnP; rw [← rowP_snoc, List.length_append]; exact hown') fun u hu => ?_
  exact (hu.alloc hB (.cells #[.string l.1, .int .i64 l.2] 59)).grown hgrow (by simp; omega) (fun k hk => (World.ownsRow.lt hoA k hk).1)

theorem text_eq {a b : ByteArray} (h : a = b) : (a.toList == b.toList) = true := by rw [h]; exact beq_self_eq_true _
theorem text_ne {a b : ByteArray} (h : a ≠ b) : (a.toList == b.toList) = false := beq_eq_false_iff_ne.2 fun e => h (bytes_ext e)
theorem at_some {L : List Pr} {k : Nat} (h : k < L.length) : L[k]? = some (L[k]?.getD pz) := by rw [List.getElem?_eq_getElem h]; rfl
theorem take_more {L : List Pr} {k : Nat} (h : k < L.length) : L.take (k + 1) = L.take k ++ [L[k]?.getD pz] := by rw [List.take_add_one]; simp [List.getElem?_eq_getElem h]
theorem drop_more {L : List Pr} {k : Nat} (h : k < L.length) : L.drop k = L[k]?.getD pz :: L.drop (k + 1) := by rw [List.drop_eq_getElem_cons h]; simp [List.getElem?_eq_getElem h]
theorem split_here {L : List Pr} {k : Nat} (h : k < L.length) : L = L.take k ++ L[k]?.getD pz :: L.drop (k + 1) := by rw [← drop_more h, List.take_append_drop]
theorem fnd_at {L : List Pr} {k : Nat} {s : ByteArray} (hk : k < L.length) (h : ∀ t, t < k → (L[t]?.getD pz).1 ≠ s) (he : (L[k]?.getD pz).1 = s) : fnd s L = some (L[k]?.getD pz) := by
  rw [split_here hk]
  unfold fnd
  rw [List.find?_append]
  have hn : (L.take k).find? (fun a => decide (Ent.key a = s)) = none := by
    rw [List.find?_eq_none]
    intro a ha
    obtain ⟨t, ht, e⟩ := List.getElem_of_mem ha
    have ht' : t < k := by simp at ht; omega
    have := h t ht'
    rw [List.getElem?_eq_getElem (by omega)] at this
    rw [List.getElem_take] at e
    simpa [← e] using (show ¬ Ent.key L[t] = s from this)
  rw [hn]
  have hs : decide (Ent.key (L[k]?.getD pz) = s) = true := decide_eq_true he
  simp only [Option.none_or, List.find?_cons, hs]
  rw [← split_here hk]
theorem fnd_nowhere {L : List Pr} {s : ByteArray} (h : ∀ t, t < L.length → (L[t]?.getD pz).1 ≠ s) : fnd s L = none := by
  unfold fnd
  rw [List.find?_eq_none]
  intro a ha
  obtain ⟨t, ht, e⟩ := List.getElem_of_mem ha
  have := h t ht
  rw [List.getElem?_eq_getElem ht] at this
  simpa [← e] using (show ¬ Ent.key L[t] = s from this)

set_option maxHeartbeats 2000000 in
theorem RGet_calls (w : World) (u : Value) (L : List Pr) (s : ByteArray) (hL : L.length ≤ 1000000) (hu : Sl w u L) (v : Int) (z : Bool) (hv : (fnd s L = none ∧ v = 0 ∧ z = false) ∨ (∃ x, fnd s L = some x ∧ v = x.2 ∧ z = true)) :
    Calls Try.prog 31 #[u, .string s] w fun e w' => e = .returned (.tuple #[.int .i64 v, .bool z]) ∧ w' = w := by
  obtain ⟨a, cap, rfl, hr⟩ := hu
  replace hv := Lib.hid hv
  go_enter Try.func31, Try.ntmps31
  go_wp2
  go_loopg [6] L.length (fun gg s6 wr => ∃ k : Nat, wr = w ∧ s6 = .int .i64 (k : Int) ∧ k ≤ L.length ∧ L.length - k ≤ gg ∧ Hid (∀ t, t < k → (L[t]?.getD pz).1 ≠ s))
  case atStart => exact ⟨0, rfl, rfl, by omega, by omega, Lib.hid (fun t ht => by omega)⟩
  case round =>
    obtain ⟨k, hwr, rfl, hk, hgg, hpre⟩ := hrel
    obtain rfl := hwr.symm
    by_cases hlt : k < L.length
    · obtain ⟨g, off, rfl, hg, hc⟩ := hr (by omega)
      obtain ⟨ck, cv⟩ := hc k hlt
      have l1 : (k : Int) < L.length := by omega
      have l2 : (0 : Int) ≤ k := by omega
      have hms : Hid (L.length - (k + 1) < gk) := Lib.hid (by omega)
      have hk2 : Hid (k + 1 ≤ L.length) := Lib.hid (by omega)
      have hw1 : IntKind.i64.wrap ((k : Int) + 1) = ((k + 1 : Nat) : Int) := wrap_nat (k + 1) (by omega)
      by_cases hx : (L[k]?.getD pz).1 = s
      · have hz : Hid (v = (L[k]?.getD pz).2 ∧ z = true) := Lib.hid (by
          have h1 := fnd_at hlt hpre.out hx
          rcases hv.out with ⟨h2, _⟩ | ⟨x, h2, h3⟩
          · rw [h1] at h2; cases h2
          · rw [h1] at h2; cases h2; exact h3)
        have hb := text_eq hx
        replace hx := Lib.hid hx
        generalize L[k]?.getD pz = y at ck cv hb hz
        obtain ⟨y1, y2⟩ := y
        obtain ⟨rfl, rfl⟩ := hz.out
        dsimp only at *
        clear hc hr hv hz
        go_wp2
        go_ret2
        exact ⟨rfl, rfl⟩
      · have hnx : Hid (∀ t, t < k + 1 → (L[t]?.getD pz).1 ≠ s) := Lib.hid fun t ht => by
          by_cases e : t = k
          · rw [e]; exact hx
          · exact hpre.out t (by omega)
        have hb := text_ne hx
        replace hx := Lib.hid hx
        generalize L[k]?.getD pz = y at ck cv hb
        clear hc hr
        go_wp2
        go_roundg (L.length - (k + 1))
        case measure => exact hms.out
        case rel => exact ⟨k + 1, rfl, by simp, hk2.out, Nat.le_refl _, hnx⟩
    · obtain rfl : k = L.length := by omega
      have l1 : ¬ (L.length : Int) < L.length := by omega
      have hz : Hid (v = 0 ∧ z = false) := Lib.hid (by
          have h1 := fnd_nowhere hpre.out
          rcases hv.out with ⟨_, h2⟩ | ⟨x, h2, _⟩
          · exact h2
          · rw [h1] at h2; cases h2)
      obtain ⟨rfl, rfl⟩ := hz.out
      clear hr hv hz
      go_wp2
      go_ret2
      exact ⟨rfl, rfl⟩

theorem cut_more (s : ByteArray) {L : List Pr} {k : Nat} (h : k < L.length) : del s (L.take (k + 1)) = del s (L.take k) ++ (if (L[k]?.getD pz).1 = s then [] else [L[k]?.getD pz]) := by
  rw [take_more h]
  unfold del
  rw [List.filter_append]
  generalize L[k]?.getD pz = y
  by_cases e : y.1 = s
  · have e2 : Ent.key y = s := e
    simp [e, e2]
  · have e2 : ¬ Ent.key y = s := e
    simp [e, e2]

set_option maxHeartbeats 4000000 in
set_option maxRecDepth 100000 in
theorem RCut_calls (w : World) (u : Value) (L : List Pr) (s : ByteArray) (hL : L.length ≤ 900000) (hu : Sl w u L) :
    Calls Try.prog 36 #[u, .string s] w fun e w' => ∃ v, e = .returned v ∧ Sl w' v (del s L) ∧ Below w.heap.size w w' := by
  obtain ⟨a, cap, rfl, hr⟩ := hu
  have o0 := Lib.hid (OwnP.new w)
  have b0 := Lib.hid (b_alloc w (.cells #[] 59))
  go_enter Try.func36, Try.ntmps36
  go_wp2
  go_loopg [5, 6] L.length (fun gg s5 s6 wr => ∃ (k : Nat) (ua : Option Addr) (un uc : Nat), s5 = .slice ua un uc ∧ s6 = .int .i64 (k : Int) ∧ k ≤ L.length ∧ L.length - k ≤ gg ∧ Hid (OwnP w.heap.size wr (.slice ua un uc) (del s (L.take k))) ∧ Hid (Below w.heap.size w wr))
  case atStart => exact ⟨0, _, _, _, rfl, rfl, by omega, by omega, o0, b0⟩
  case round =>
    clear o0 b0
    obtain ⟨k, ua, un, uc, rfl, rfl, hk, hgg, ho, hb⟩ := hrel
    by_cases hlt : k < L.length
    · obtain ⟨g, off, rfl, hg, hc⟩ := hr (by omega)
      have ck : wr.cell? ⟨g, off + k * 2, none⟩ = some (.string (L[k]?.getD pz).1) := (hb.out.cell (p := ⟨g, off + k * 2, none⟩) hg).trans (hc k hlt).1
      have cv : wr.cell? ⟨g, off + k * 2 + 1, none⟩ = some (.int .i64 (L[k]?.getD pz).2) := (hb.out.cell (p := ⟨g, off + k * 2 + 1, none⟩) hg).trans (hc k hlt).2
      have l1 : (k : Int) < L.length := by omega
      have l2 : (0 : Int) ≤ k := by omega
      have hms : Hid (L.length - (k + 1) < gk) := Lib.hid (by omega)
      have hk2 : Hid (k + 1 ≤ L.length) := Lib.hid (by omega)
      have hw1 : IntKind.i64.wrap ((k : Int) + 1) = ((k + 1 : Nat) : Int) := wrap_nat (k + 1) (by omega)
      have hst := cut_more s hlt
      have hfl : Hid ((del s (L.take k)).length ≤ 900000) := Lib.hid (by have := del_len_le s (L.take k); simp at this; omega)
      have hbs := Lib.hid hb.out.size
      generalize L[k]?.getD pz = y at ck cv hst
      obtain ⟨y1, y2⟩ := y
      dsimp only at ck cv hst
      by_cases hx : y1 = s
      · have e1 := text_eq hx
        rw [if_pos hx, List.append_nil] at hst
        have ho2 : Hid (OwnP w.heap.size wr (.slice ua un uc) (del s (L.take (k + 1)))) := Lib.hid (by rw [hst]; exact ho.out)
        replace hx := Lib.hid hx
        clear hc hr hst ho
        go_wp2_with (fail)
        go_roundg (L.length - (k + 1))
        case measure => exact hms.out
        case rel => exact ⟨k + 1, ua, un, uc, rfl, by simp, hk2.out, Nat.le_refl _, ho2, hb⟩
      · have e1 := text_ne hx
        rw [if_neg hx] at hst
        replace hst := Lib.hid hst
        replace hx := Lib.hid hx
        clear hc hr
        generalize del s (L.take k) = D at *
        go_wp2_with (first
          | (fail)
          | (at_builtin; (refine wp_append_pair rfl _ _ rfl w.heap.size (.slice ua un uc) D (y1, y2) rfl rfl ho.out hbs.out (by have := hfl.out; omega) ?_)))
        intro v' w2 ho' hb'
        have hb2 := Lib.hid (hb' _ hb.out)
        obtain ⟨ya, yc, rfl⟩ := ho'.form
        have ho2 : Hid (OwnP w.heap.size w2 (.slice ya (D ++ [(y1, y2)]).length yc) (del s (L.take (k + 1)))) := Lib.hid (by rw [hst.out]; exact ho')
        clear ho' hb'
        generalize (D ++ [(y1, y2)]).length = yn at *
        go_wp2
        go_roundg (L.length - (k + 1))
        case measure => exact hms.out
        case rel => exact ⟨k + 1, ya, yn, yc, rfl, by simp, hk2.out, Nat.le_refl _, ho2, hb2⟩
    · obtain rfl : k = L.length := by omega
      have l1 : ¬ (L.length : Int) < L.length := by omega
      have ho2 : Hid (Sl wr (.slice ua un uc) (del s L)) := Lib.hid (by have := ho.out.sl; rw [List.take_length] at this; exact this)
      clear hr ho
      go_wp2
      go_ret
      exact ⟨_, rfl, ho2.out, hb.out⟩

/-- how far setting a pair has come -/
def Setting (L : List Pr) (e : Pr) (k : Nat) (put : Bool) (D : List Pr) : Prop :=
  (put = false ∧ D = L.take k ∧ ∀ a ∈ L.take k, lt a.1 e.1 = true) ∨ (put = true ∧ D ++ L.drop k = ins e L ∧ ∀ a ∈ L.drop k, lt e.1 a.1 = true)
theorem setting_len {L : List Pr} {e : Pr} {k : Nat} {put : Bool} {D : List Pr} (h : Setting L e k put D) : D.length ≤ L.length + 1 := by
  rcases h with ⟨_, rfl, _⟩ | ⟨_, h, _⟩
  · simp; omega
  · have h1 := congrArg List.length h
    have h2 := ins_len_le e L
    rw [List.length_append] at h1
    omega
theorem setting_low {L : List Pr} {e : Pr} {k : Nat} {D : List Pr} (h : Setting L e k false D) (hk : k < L.length) (hx : lt (L[k]?.getD pz).1 e.1 = true) : Setting L e (k + 1) false (D ++ [L[k]?.getD pz]) := by
  rcases h with ⟨_, rfl, ha⟩ | ⟨h, _⟩
  · refine Or.inl ⟨rfl, (take_more hk).symm, fun a h => ?_⟩
    rw [take_more hk] at h
    rcases List.mem_append.1 h with h | h
    · exact ha a h
    · simp only [List.mem_singleton] at h; rw [h]; exact hx
  · cases h
theorem setting_here {L : List Pr} {e : Pr} {k : Nat} {D : List Pr} (hR : Rises L) (h : Setting L e k false D) (hk : k < L.length) (hx : (L[k]?.getD pz).1 = e.1) : Setting L e (k + 1) true (D ++ [e]) := by
  rcases h with ⟨_, rfl, ha⟩ | ⟨h, _⟩
  · refine Or.inr ⟨rfl, ?_, fun a h => ?_⟩
    · have h1 := split_here hk
      have h2 := ins_here e (L[k]?.getD pz) (L.drop (k + 1)) hx.symm (L.take k) (fun b hb => by have := ha b hb; rw [← hx] at this; exact this)
      rw [← h1] at h2
      rw [h2]; simp
    · have h1 := split_here hk
      rw [h1] at hR
      have := (rises_mid hR).2.2.2 a h
      rw [← hx]; exact this
  · cases h
theorem setting_high {L : List Pr} {e : Pr} {k : Nat} {D : List Pr} (hR : Rises L) (h : Setting L e k false D) (hk : k < L.length) (hx : lt e.1 (L[k]?.getD pz).1 = true) : Setting L e (k + 1) true (D ++ [e] ++ [L[k]?.getD pz]) := by
  rcases h with ⟨_, rfl, ha⟩ | ⟨h, _⟩
  · have h1 := split_here hk
    refine Or.inr ⟨rfl, ?_, fun a h => ?_⟩
    · have h2 := ins_left e (L[k]?.getD pz) (L.drop (k + 1)) hx (L.take k)
      rw [← h1, ins_end e (L.take k) ha] at h2
      rw [h2]; simp
    · rw [h1] at hR
      have := (rises_mid hR).2.2.2 a h
      exact Key.tra _ _ _ hx this
  · cases h
theorem setting_past {L : List Pr} {e : Pr} {k : Nat} {D : List Pr} (h : Setting L e k true D) (hk : k < L.length) : Setting L e (k + 1) true (D ++ [L[k]?.getD pz]) ∧ lt e.1 (L[k]?.getD pz).1 = true := by
  rcases h with ⟨h, _⟩ | ⟨_, h, ha⟩
  · cases h
  · rw [drop_more hk] at h ha
    exact ⟨Or.inr ⟨rfl, by rw [← h]; simp, fun a g => ha a (by simp [g])⟩, ha _ (by simp)⟩
theorem setting_end {L : List Pr} {e : Pr} {D : List Pr} (h : Setting L e L.length false D) : D ++ [e] = ins e L := by
  rcases h with ⟨_, rfl, ha⟩ | ⟨h, _⟩
  · rw [List.take_length] at ha ⊢; exact (ins_end e L ha).symm
  · cases h
theorem setting_done {L : List Pr} {e : Pr} {D : List Pr} (h : Setting L e L.length true D) : D = ins e L := by
  rcases h with ⟨h, _⟩ | ⟨_, h, _⟩
  · cases h
  · simpa using h

set_option maxHeartbeats 8000000 in
set_option maxRecDepth 100000 in
theorem RSet_calls (w : World) (u : Value) (L : List Pr) (s : ByteArray) (x : Int) (hL : L.length ≤ 900000) (hR : Rises L) (hu : Sl w u L) :
    Calls Try.prog 33 #[u, .string s, .int .i64 x] w fun e w' => ∃ v, e = .returned v ∧ Sl w' v (ins (s, x) L) ∧ Below w.heap.size w w' := by
  obtain ⟨a, cap, rfl, hr⟩ := hu
  have o0 := Lib.hid (OwnP.new w)
  have b0 := Lib.hid (b_alloc w (.cells #[] 59))
  go_enter Try.func33, Try.ntmps33
  go_wp2
  go_loopg [7, 8, 9] L.length (fun gg s7 s8 s9 wr => ∃ (k : Nat) (ua : Option Addr) (un uc : Nat) (put : Bool) (D : List Pr), s7 = .slice ua un uc ∧ s8 = .bool put ∧ s9 = .int .i64 (k : Int) ∧ k ≤ L.length ∧ L.length - k ≤ gg ∧ Hid (Setting L (s, x) k put D) ∧ Hid (OwnP w.heap.size wr (.slice ua un uc) D) ∧ Hid (Below w.heap.size w wr))
  case atStart => exact ⟨0, _, _, _, false, [], rfl, rfl, rfl, by omega, by omega, Lib.hid (Or.inl ⟨rfl, by simp, by simp⟩), o0, b0⟩
  case round =>
    clear o0 b0
    obtain ⟨k, ua, un, uc, put, D, rfl, rfl, rfl, hk, hgg, hP, ho, hb⟩ := hrel
    have hDl : Hid (D.length ≤ 900001) := Lib.hid (by have := setting_len hP.out; omega)
    by_cases hlt : k < L.length
    · obtain ⟨g, off, rfl, hg, hc⟩ := hr (by omega)
      have ck : Hid (∀ w', Below w.heap.size w w' → w'.cell? ⟨g, off + k * 2, none⟩ = some (.string (L[k]?.getD pz).1) ∧ w'.cell? ⟨g, off + k * 2 + 1, none⟩ = some (.int .i64 (L[k]?.getD pz).2)) := Lib.hid fun w' h => ⟨(h.cell (p := ⟨g, off + k * 2, none⟩) hg).trans (hc k hlt).1, (h.cell (p := ⟨g, off + k * 2 + 1, none⟩) hg).trans (hc k hlt).2⟩
      have l1 : (k : Int) < L.length := by omega
      have l2 : (0 : Int) ≤ k := by omega
      have hms : Hid (L.length - (k + 1) < gk) := Lib.hid (by omega)
      have hk2 : Hid (k + 1 ≤ L.length) := Lib.hid (by omega)
      have hw1 : IntKind.i64.wrap ((k : Int) + 1) = ((k + 1 : Nat) : Int) := wrap_nat (k + 1) (by omega)
      have hP1 := Lib.hid (fun (e : put = false) (h : lt (L[k]?.getD pz).1 s = true) => setting_low (e ▸ hP.out) hlt h)
      have hP2 := Lib.hid (fun (e : put = false) (h : (L[k]?.getD pz).1 = s) => setting_here hR (e ▸ hP.out) hlt h)
      have hP3 := Lib.hid (fun (e : put = false) (h : lt s (L[k]?.getD pz).1 = true) => setting_high hR (e ▸ hP.out) hlt h)
      have hP4 := Lib.hid (fun (e : put = true) => setting_past (e ▸ hP.out) hlt)
      generalize L[k]?.getD pz = y at ck hP1 hP2 hP3 hP4
      obtain ⟨y1, y2⟩ := y
      dsimp only at ck hP1 hP2 hP3 hP4
      obtain ⟨c0, c1⟩ := ck.out _ hb.out
      clear hc hr hP hR hgg hlt hk
      cases put
      · rcases bytes_tri y1 s with hlo | heq | hhi
        · have q1 : Op.bytesLess y1.toList s.toList = true := hlo
          have q2 : Op.bytesLess s.toList y1.toList = false := lt_asym (K := ByteArray) hlo
          have q3 := text_ne (lt_ne (K := ByteArray) hlo)
          have q4 := text_ne (lt_ne (K := ByteArray) hlo).symm
          have hP5 := Lib.hid (hP1.out rfl hlo)
          clear hP1 hP2 hP3 hP4 ck
          go_wp2_with (first
            | (fail)
            | (at_builtin; refine wp_append_pair rfl _ _ rfl w.heap.size (.slice ua un uc) D (y1, y2) rfl rfl ho.out hb.out.size (by have := hDl.out; omega) ?_))
          intro va w2 hoa hba
          replace hba := Lib.hid (hba _ hb.out)
          obtain ⟨aa, ac, rfl⟩ := hoa.form
          replace hoa := Lib.hid hoa
          generalize (D ++ [(y1, y2)]).length = an at *
          go_wp2
          go_roundg (L.length - (k + 1))
          case measure => exact hms.out
          case rel => exact ⟨k + 1, aa, an, ac, false, _, rfl, rfl, by simp, hk2.out, Nat.le_refl _, hP5, hoa, hba⟩

        · have q1 : Op.bytesLess y1.toList s.toList = false := by rw [heq]; exact Key.irr s
          have q2 : Op.bytesLess s.toList y1.toList = false := by rw [heq]; exact Key.irr s
          have q3 := text_eq heq
          have q4 := text_eq heq.symm
          have hP5 := Lib.hid (hP2.out rfl heq)
          replace heq := Lib.hid heq
          clear hP1 hP2 hP3 hP4
          go_wp2_with (first
            | (fail)
            | (at_builtin; refine wp_append_pair rfl _ _ rfl w.heap.size (.slice ua un uc) D (s, x) rfl rfl ho.out hb.out.size (by have := hDl.out; omega) ?_))
          intro va w2 hoa hba
          replace hba := Lib.hid (hba _ hb.out)
          obtain ⟨aa, ac, rfl⟩ := hoa.form
          replace hoa := Lib.hid hoa
          generalize (D ++ [(s, x)]).length = an at *

          obtain ⟨d0, d1⟩ := ck.out _ hba.out
          clear ck
          go_wp2
          go_roundg (L.length - (k + 1))
          case measure => exact hms.out
          case rel => exact ⟨k + 1, aa, an, ac, true, _, rfl, rfl, by simp, hk2.out, Nat.le_refl _, hP5, hoa, hba⟩

        · have q1 : Op.bytesLess y1.toList s.toList = false := lt_asym (K := ByteArray) hhi
          have q2 : Op.bytesLess s.toList y1.toList = true := hhi
          have q3 := text_ne (lt_ne (K := ByteArray) hhi).symm
          have q4 := text_ne (lt_ne (K := ByteArray) hhi)
          have hP5 := Lib.hid (hP3.out rfl hhi)
          clear hP1 hP2 hP3 hP4
          go_wp2_with (first
            | (fail)
            | (at_builtin; refine wp_append_pair rfl _ _ rfl w.heap.size (.slice ua un uc) D (s, x) rfl rfl ho.out hb.out.size (by have := hDl.out; omega) ?_))
          intro va w2 hoa hba
          replace hba := Lib.hid (hba _ hb.out)
          obtain ⟨aa, ac, rfl⟩ := hoa.form
          replace hoa := Lib.hid hoa
          generalize (D ++ [(s, x)]).length = an at *

          obtain ⟨d0, d1⟩ := ck.out _ hba.out
          clear ck
          replace hDl : Hid ((D ++ [(s, x)]).length ≤ 900002) := Lib.hid (by have := hDl.out; simp; omega)
          generalize D ++ [(s, x)] = D2 at *
          go_wp2_with (first
            | (fail)
            | (at_builtin; refine wp_append_pair rfl _ _ rfl w.heap.size (.slice aa an ac) D2 (y1, y2) rfl rfl hoa.out hba.out.size (by have := hDl.out; omega) ?_))
          intro vb w3 hob hbb
          replace hbb := Lib.hid (hbb _ hba.out)
          obtain ⟨ba, bc, rfl⟩ := hob.form
          replace hob := Lib.hid hob
          generalize (D2 ++ [(y1, y2)]).length = bn at *
          go_wp2
          go_roundg (L.length - (k + 1))
          case measure => exact hms.out
          case rel => exact ⟨k + 1, ba, bn, bc, true, _, rfl, rfl, by simp, hk2.out, Nat.le_refl _, hP5, hob, hbb⟩

      · have hhi := (hP4.out rfl).2
        have q1 : Op.bytesLess y1.toList s.toList = false := lt_asym (K := ByteArray) hhi
        have q2 : Op.bytesLess s.toList y1.toList = true := hhi
        have q3 := text_ne (lt_ne (K := ByteArray) hhi).symm
        have q4 := text_ne (lt_ne (K := ByteArray) hhi)
        have hP5 := Lib.hid (hP4.out rfl).1
        clear hP1 hP2 hP3 hP4 ck
        go_wp2_with (first
          | (fail)
          | (at_builtin; refine wp_append_pair rfl _ _ rfl w.heap.size (.slice ua un uc) D (y1, y2) rfl rfl ho.out hb.out.size (by have := hDl.out; omega) ?_))
        intro va w2 hoa hba
        replace hba := Lib.hid (hba _ hb.out)
        obtain ⟨aa, ac, rfl⟩ := hoa.form
        replace hoa := Lib.hid hoa
        generalize (D ++ [(y1, y2)]).length = an at *
        go_wp2
        go_roundg (L.length - (k + 1))
        case measure => exact hms.out
        case rel => exact ⟨k + 1, aa, an, ac, true, _, rfl, rfl, by simp, hk2.out, Nat.le_refl _, hP5, hoa, hba⟩

    · obtain rfl : k = L.length := by omega
      have l1 : ¬ (L.length : Int) < L.length := by omega
      have hP1 := Lib.hid (fun (e : put = false) => setting_end (e ▸ hP.out))
      have hP2 := Lib.hid (fun (e : put = true) => setting_done (e ▸ hP.out))
      clear hr hP
      cases put
      · have hE := Lib.hid (hP1.out rfl)
        clear hP1 hP2
        go_wp2_with (first
          | (fail)
          | (at_builtin; refine wp_append_pair rfl _ _ rfl w.heap.size (.slice ua un uc) D (s, x) rfl rfl ho.out hb.out.size (by have := hDl.out; omega) ?_))
        intro va w2 hoa hba
        replace hba := Lib.hid (hba _ hb.out)
        obtain ⟨aa, ac, rfl⟩ := hoa.form
        replace hoa := Lib.hid hoa
        generalize (D ++ [(s, x)]).length = an at *

        have ho2 : Hid (Sl w2 (.slice aa an ac) (ins (s, x) L)) := Lib.hid (by rw [← hE.out]; exact hoa.out.sl)
        clear hoa ho
        go_wp2
        go_ret
        exact ⟨_, rfl, ho2.out, hba.out⟩
      · have ho2 : Hid (Sl wr (.slice ua un uc) (ins (s, x) L)) := Lib.hid (by rw [← hP2.out rfl]; exact ho.out.sl)
        clear hP1 hP2 ho
        go_wp2
        go_ret
        exact ⟨_, rfl, ho2.out, hb.out⟩
end Go.Proofs.Ytkdghmbglaghlaa.Rp
