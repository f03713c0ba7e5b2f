/-
  order's told and met: the map of a list of facts, and what is met in it from one on by parents; old memory stays. Conditions: the lists are no longer than a hundred thousand.
-/
import Derived.Test.YtbjpogeemajhoaaGreatRows
import Derived.Test.YtbjpogeemajhoaaGreatOrMap
import Derived.Test.YtbjpogeemajhoaaGreatOrHigh
import Derived.Test.YtbjpogeemajhoaaGreatShPlain
import Derived.Deep.LoopGhost
import Derived.Deep.Cut
namespace Go.Proofs.YtbjpogeemajhoaaGreat.Or
open Go Go.RowKit

/-- the plain facts of a list -/
abbrev plain (L : List Fx) : List Fct := L.map Fx.f
theorem once_iff {L : List Fx} : Once (plain L) ↔ (L.map fun y => y.f.id).Nodup := by unfold Once plain; rw [List.map_map]; exact Iff.rfl
set_option maxRecDepth 100000 in
set_option maxHeartbeats 1000000 in
/-- told -/
theorem told_calls (w : World) (a : Option Addr) (cap b off : Nat) (L : List Fx) (hL : FxsAt w a b off L) (hF : Facts w L) (hl : L.length ≤ 100000) :
    Calls Tryz.prog 45 #[.slice a L.length cap] w fun e w' => ((¬ Once (plain L) ∧ e = .returned (.tuple #[.map none, .int .i64 31])) ∨
      (Once (plain L) ∧ ∃ mb, e = .returned (.tuple #[.map (some mb), .int .i64 0]) ∧ MapOf w' mb L ∧ w.heap.size ≤ mb)) ∧ Below w.heap.size w w' := by
  obtain ⟨n, hn⟩ : ∃ n : Nat, n = L.length := ⟨_, rfl⟩
  rw [← hn] at hl ⊢
  replace hn := Lib.hid hn
  replace hF := Lib.hid hF
  have hmk := run_make w n
  have hM0 := Lib.hid (MapOf.made w)
  have hA0 := Lib.hid (b_alloc w (.map #[] 0))
  have hcell : Hid (∀ k, k < n → ∃ y, L[k]? = some y ∧ y ∈ L) := Lib.hid fun k hk => by
    have := hn.out
    exact ⟨L[k], List.getElem?_eq_getElem (by omega), List.getElem_mem (by omega)⟩
  have htake : Hid (∀ (k : Nat) (y : Fx), L[k]? = some y → L.take (k + 1) = L.take k ++ [y]) := Lib.hid fun k y hy => by rw [List.take_add_one, hy]; rfl
  have hlen : Hid (∀ k, k ≤ n → (L.take k).length ≤ 1000000) := Lib.hid fun k hk => by rw [List.length_take]; have := hn.out; omega
  have hbad : Hid (∀ (k : Nat) (y : Fx), L[k]? = some y → hasI (L.take k) y.f.id = true → ¬ Once (plain L)) := Lib.hid fun k y hy hh ho => by
    obtain ⟨z, hz, e⟩ := hasI_iff.1 hh
    obtain ⟨i, hi, rfl⟩ := List.mem_iff_getElem.1 hz
    rw [List.length_take] at hi
    have hk := (List.getElem?_eq_some_iff.1 hy).1
    have := List.pairwise_iff_getElem.1 (once_iff.1 ho) i k (by simpa using (by omega : i < L.length)) (by simpa using hk) (by omega)
    simp only [List.getElem_map, ne_eq] at this
    rw [List.getElem?_eq_getElem hk] at hy
    rw [List.getElem_take] at e
    exact this (by rw [e, Option.some.inj hy])
  have hend : Hid (L.take n = L) := Lib.hid (by rw [hn.out, List.take_length])
  replace hL := Lib.hid hL
  go_enter Tryz.func45, Tryz.ntmps45
  go_upto_region 3 with (fail)
  go_loopw [12] (fun i wr => ∃ k : Nat, k ≤ n ∧ i = .int .i64 k ∧ MapOf wr w.heap.size (L.take k) ∧ Below w.heap.size w wr) (fun i _ => n - (intOf i).toNat)
  case atStart => exact ⟨0, Nat.zero_le _, rfl, hM0.out, hA0.out⟩
  case round =>
    obtain ⟨k, hk, rfl, hM, hb⟩ := hrel
    clear hM0 hA0 hmk
    by_cases hlt : k < n
    · obtain ⟨y, hy, hyL⟩ := hcell.out k hlt
      have hL2 := hL.out.below hb (fun h0 => hL.out.where_ h0)
      have c0 := hL2.id k y hy
      have c1 := hL2.high k y hy
      have c2 := hL2.pars k y hy
      obtain rfl := hL.out.addr (by have := hn.out; omega)
      have hys := hF.out.id y hyL
      have hlt1 : (k : Int) < n := by omega
      have hlt0 : 0 ≤ (k : Int) := by omega
      have hwk : wrap64 ((k : Int) + 1) = ((k + 1 : Nat) : Int) := wrap_next k (by omega)
      have hms : Hid (n - (k + 1) < n - k) := Lib.hid (by omega)
      have hkl : Hid (k + 1 ≤ n) := Lib.hid hlt
      have hbs : Hid (w.heap.size ≤ wr.heap.size) := Lib.hid hb.size
      have hX := FxBlk.new wr y
      have hA := b_alloc wr (.cells #[.string y.f.id, .int .i64 y.f.high, .slice y.pa y.f.pars.length y.pc] 28)
      have hH := Lib.hid (has_calls _ (some w.heap.size) (L.take k) y.f.id (Or.inr ⟨_, rfl, hM.next hA⟩) hys)
      replace hM := Lib.hid (hM.next hA)
      replace hb := Lib.hid (b_next hb hA (Nat.le_refl _))
      have hns := Lib.hid (htake.out k y hy)
      have hl2 := Lib.hid (hlen.out k (Nat.le_of_lt hlt))
      have hbd := Lib.hid (hbad.out k y hy)
      generalize L.take k = T at *
      clear hL2 hlt hk hy hA
      go_wp2_with fail
      generalize wr.alloc (.cells #[.string y.f.id, .int .i64 y.f.high, .slice y.pa y.f.pars.length y.pc] 28) = w1 at *
      clear c0 c1 c2
      obtain ⟨c0, c1, c2⟩ := hX.cell
      go_wp2_with fail
      refine hH.out.mono ?_
      rintro e w2 ⟨rfl, b2⟩
      have hM2 := hM.out.next b2
      have hb2 := b_next hb.out b2 (Nat.le_refl _)
      have hX2 := hX.next b2
      clear hH hM hb c0 c1 c2
      obtain ⟨c0, c1, c2⟩ := hX2.cell
      cases hz : hasI T y.f.id with
      | true =>
        have hno := Lib.hid (hbd.out hz)
        go_wp2
        go_ret2
        exact ⟨Or.inl ⟨hno.out, rfl⟩, hb2⟩
      | false =>
        have hbs2 := Lib.hid hb2.size
        go_wp2_with (first
          | (at_mapUpdate; refine wp_put rfl _ _ _ (Or.inl rfl) w.heap.size T rfl hM2 y rfl rfl hys hz hl2.out ?_; intro w3 hM3 hg3)
          | go_in)
        have hb3 := hb2.grown hg3 hbs2.out (fun j hj => by cases hj; exact Nat.le_refl _)
        go_wp2
        go_roundw
        case measure => simp [intOf]; exact hms.out
        case rel => exact ⟨k + 1, hkl.out, by simp, by rw [hns.out]; exact hM3, hb3⟩
    · obtain rfl : k = n := by omega
      have d0 : ¬ (k : Int) < k := by omega
      rw [hend.out] at hM
      have ho := Lib.hid (once_iff.2 hM.nodup)
      clear hlt
      go_wp2
      go_ret2
      exact ⟨Or.inr ⟨ho.out, _, rfl, hM, Nat.le_refl _⟩, hb⟩

/-! ### what is met -/
theorem ids_len {E : Type} [DecidableEq E] : ∀ {l m : List E}, l.Nodup → (∀ x ∈ l, x ∈ m) → l.length ≤ m.length
  | [], _, _, _ => Nat.zero_le _
  | a :: l, m, h, hs => by
    have ha : a ∈ m := hs a (by simp)
    have h1 := List.length_erase_of_mem ha
    have h2 := ids_len (l := l) (m := m.erase a) (List.nodup_cons.1 h).2 (fun x hx => by
      have hne : x ≠ a := fun e => (List.nodup_cons.1 h).1 (e ▸ hx)
      exact (List.mem_erase_of_ne hne).2 (hs x (by simp [hx])))
    have h3 := List.length_pos_of_mem ha
    simp only [List.length_cons]
    omega
theorem fxs_len {F L : List Fx} (hn : (F.map fun y => y.f.id).Nodup) (hs : ∀ y ∈ F, y ∈ L) : F.length ≤ L.length := by
  have := ids_len hn (m := L.map fun y => y.f.id) fun x hx => by
    obtain ⟨y, hy, rfl⟩ := List.mem_map.1 hx
    exact List.mem_map.2 ⟨y, hs y hy, rfl⟩
  simpa using this
/-- on the way: F are met so far, from the Ids of S is still to be gone on; of one that is gone on from just now, X, the parents P are done -/
structure Way (L : List Fx) (from_ : ByteArray) (F : List Fx) (S : List ByteArray) (X : Option Fx) (P : List ByteArray) : Prop where
  met : ∀ y ∈ F, y ∈ L ∧ Met (plain L) from_ y.f
  first : ∃ y ∈ F, y.f.id = from_
  left : ∀ z ∈ S, hasI F z = true
  open_ : ∀ y ∈ F, y.f.id ∈ S ∨ X = some y ∨ ∀ z ∈ y.f.pars, ∀ g ∈ L, g.f.id = z → g ∈ F
  part : ∀ z ∈ P, ∀ g ∈ L, g.f.id = z → g ∈ F
  now : ∀ y, X = some y → y ∈ F
theorem Way.start {L : List Fx} {y : Fx} (hy : y ∈ L) : Way L y.f.id [y] [y.f.id] none [] := by
  refine ⟨fun z hz => ?_, ⟨y, by simp, rfl⟩, fun z hz => ?_, fun z hz => ?_, fun z hz => by simp at hz, fun z hz => by cases hz⟩
  · rw [List.mem_singleton] at hz; subst hz; exact ⟨hy, .here (List.mem_map.2 ⟨_, hy, rfl⟩) rfl⟩
  · rw [List.mem_singleton] at hz; subst hz; exact hasI_iff.2 ⟨y, by simp, rfl⟩
  · rw [List.mem_singleton] at hz; subst hz; exact Or.inl (by simp)
/-- an Id taken off -/
theorem Way.pop {L : List Fx} {from_ : ByteArray} {F : List Fx} {S : List ByteArray} {z : ByteArray} (h : Way L from_ F (S ++ [z]) none []) (hn : (L.map fun y => y.f.id).Nodup) : ∃ x, x ∈ F ∧ x ∈ L ∧ x.f.id = z ∧ Way L from_ F S (some x) [] := by
  obtain ⟨x, hx, e⟩ := hasI_iff.1 (h.left z (by simp))
  refine ⟨x, hx, (h.met x hx).1, e, h.met, h.first, fun q hq => h.left q (List.mem_append.2 (Or.inl hq)), fun y hy => ?_, h.part, fun y hy => by cases hy; exact hx⟩
  rcases h.open_ y hy with g | g | g
  · rcases List.mem_append.1 g with g | g
    · exact Or.inl g
    · rw [List.mem_singleton] at g
      refine Or.inr (Or.inl ?_)
      have h1 := fnd_mem hn (h.met y hy).1
      have h2 := fnd_mem hn (h.met x hx).1
      rw [g, ← e] at h1
      rw [h1] at h2
      exact h2.symm
  · cases g
  · exact Or.inr (Or.inr g)
/-- a parent that is there already, or is none's -/
theorem Way.old {L : List Fx} {from_ : ByteArray} {F : List Fx} {S : List ByteArray} {x : Fx} {P : List ByteArray} {z : ByteArray} (h : Way L from_ F S (some x) P) (hz : hasI L z = false ∨ hasI F z = true) (hn : (L.map fun y => y.f.id).Nodup) : Way L from_ F S (some x) (P ++ [z]) := by
  refine ⟨h.met, h.first, h.left, h.open_, fun q hq g hg e => ?_, h.now⟩
  rcases List.mem_append.1 hq with hq | hq
  · exact h.part q hq g hg e
  · rw [List.mem_singleton] at hq
    subst hq
    rcases hz with hz | hz
    · exact absurd e (hasI_false.1 hz g hg)
    · obtain ⟨y, hy, e2⟩ := hasI_iff.1 hz
      have h1 := fnd_mem hn (h.met y hy).1
      have h2 := fnd_mem hn hg
      rw [e2, ← e] at h1
      rw [h1] at h2
      rw [← Option.some.inj h2]; exact hy
/-- a parent that is new -/
theorem Way.new {L : List Fx} {from_ : ByteArray} {F : List Fx} {S : List ByteArray} {x g : Fx} {P : List ByteArray} (h : Way L from_ F S (some x) P) (hg : g ∈ L) (hp : g.f.id ∈ x.f.pars) (hn : (L.map fun y => y.f.id).Nodup) : Way L from_ (F ++ [g]) (S ++ [g.f.id]) (some x) (P ++ [g.f.id]) := by
  have hin : ∀ {y}, y ∈ F → y ∈ F ++ [g] := fun hy => List.mem_append.2 (Or.inl hy)
  refine ⟨fun y hy => ?_, ?_, fun q hq => ?_, fun y hy => ?_, fun q hq k hk e => ?_, fun y hy => hin (h.now y hy)⟩
  · rcases List.mem_append.1 hy with hy | hy
    · exact h.met y hy
    · rw [List.mem_singleton] at hy; subst hy
      exact ⟨hg, .next (h.met x (h.now x rfl)).2 (List.mem_map.2 ⟨_, hg, rfl⟩) hp⟩
  · obtain ⟨y, hy, e⟩ := h.first; exact ⟨y, hin hy, e⟩
  · rcases List.mem_append.1 hq with hq | hq
    · obtain ⟨y, hy, e⟩ := hasI_iff.1 (h.left q hq); exact hasI_iff.2 ⟨y, hin hy, e⟩
    · rw [List.mem_singleton] at hq; subst hq; exact hasI_iff.2 ⟨g, by simp, rfl⟩
  · rcases List.mem_append.1 hy with hy | hy
    · rcases h.open_ y hy with q | q | q
      · exact Or.inl (List.mem_append.2 (Or.inl q))
      · exact Or.inr (Or.inl q)
      · exact Or.inr (Or.inr fun z hz k hk e => hin (q z hz k hk e))
    · rw [List.mem_singleton] at hy; subst hy; exact Or.inl (by simp)
  · rcases List.mem_append.1 hq with hq | hq
    · exact hin (h.part q hq k hk e)
    · rw [List.mem_singleton] at hq
      subst hq
      have h1 := fnd_mem hn hg
      have h2 := fnd_mem hn hk
      rw [e, h1] at h2
      rw [← Option.some.inj h2]; simp
/-- all its parents are done -/
theorem Way.over {L : List Fx} {from_ : ByteArray} {F : List Fx} {S : List ByteArray} {x : Fx} (h : Way L from_ F S (some x) x.f.pars) : Way L from_ F S none [] := by
  refine ⟨h.met, h.first, h.left, fun y hy => ?_, fun z hz => by simp at hz, fun y hy => by cases hy⟩
  rcases h.open_ y hy with q | q | q
  · exact Or.inl q
  · obtain rfl := Option.some.inj q
    exact Or.inr (Or.inr fun z hz g hg e => h.part z hz g hg e)
  · exact Or.inr (Or.inr q)
/-- nothing is left: just what is met -/
theorem Way.done {L : List Fx} {from_ : ByteArray} {F : List Fx} (h : Way L from_ F [] none []) (hn : (L.map fun y => y.f.id).Nodup) (y : Fx) : y ∈ F ↔ y ∈ L ∧ Met (plain L) from_ y.f := by
  refine ⟨h.met y, fun ⟨hy, hm⟩ => ?_⟩
  have one : ∀ {y z : Fx}, y ∈ L → z ∈ L → y.f.id = z.f.id → y = z := fun {y z} hy hz e => by
    have h1 := fnd_mem hn hy
    have h2 := fnd_mem hn hz
    rw [e, h2] at h1
    exact (Option.some.inj h1).symm
  have key : ∀ f, Met (plain L) from_ f → ∀ y ∈ L, y.f = f → y ∈ F := fun f hf => by
    induction hf with
    | here h1 h2 =>
      intro y hy e
      obtain ⟨z, hz, e2⟩ := h.first
      rw [one hy (h.met z hz).1 (by rw [e, h2, e2])]; exact hz
    | next h1 h2 h3 ih =>
      intro y hy e
      obtain ⟨z, hz, e2⟩ := List.mem_map.1 h1.mem
      have hzF := ih z hz e2
      rcases h.open_ z hzF with q | q | q
      · simp at q
      · cases q
      · exact q y.f.id (by rw [e2, e]; exact h3) y hy rfl
  exact key y.f hm y hy rfl
theorem OwnT.one (w : World) (B : Nat) (s : ByteArray) (hB : B ≤ w.heap.size) : OwnT B (w.alloc (.cells #[.string s] 9)) (.slice (some ⟨w.heap.size, 0, none⟩) 1 1) [s] := by
  unfold OwnT
  refine ⟨by simp, Or.inr ⟨w.heap.size, 1, #[.string s], rfl, hB, heap_new w _, by simp, by simp [maxLen], by simp, by simp⟩⟩
theorem OwnT.last {W : World} {B : Nat} {v : Value} {S : List ByteArray} {z : ByteArray} (h : OwnT B W v (S ++ [z])) : ∃ g cap, v = .slice (some ⟨g, 0, none⟩) (S.length + 1) cap ∧ S.length + 1 ≤ cap ∧ B ≤ g ∧ W.cell? ⟨g, S.length, none⟩ = some (.string z) ∧ OwnT B W (.slice (some ⟨g, 0, none⟩) S.length cap) S := by
  unfold OwnT at h
  rcases h.2 with ⟨rfl, h0⟩ | ⟨g, cap, cur, hv, hb, h2, hle, e4, e5, e6⟩
  · simp at h0
  · simp only [List.length_append, List.length_singleton] at hv hle
    refine ⟨g, cap, hv, hle, hb, ?_, ?_⟩
    · have hc := World.ownsRow.cells h (g := g) (by rw [hv]; rfl) S.length (.string z) (by simp)
      rw [Addr.add_mid, Nat.zero_add] at hc
      exact hc
    · unfold OwnT
      refine ⟨by simp, Or.inr ⟨g, cap, cur, rfl, hb, h2, by omega, e4, e5, ?_⟩⟩
      rw [Nat.mul_one] at e6 ⊢
      simp only [List.length_append, List.length_singleton, List.map_append, List.map_cons, List.map_nil] at e6
      have : cur.toList.take S.length = (cur.toList.take (S.length + 1)).take S.length := by rw [List.take_take]; congr 1; omega
      rw [this, e6]
      simp
/-- a map is no row of texts -/
theorem own_ne_map {W : World} {B b : Nat} {v : Value} {S : List ByteArray} {F : List Fx} (h : OwnT B W v S) (hM : MapOf W b F) : v.ownBlock ≠ some b := fun e => by
  obtain ⟨D, ⟨es, clock, h1, _⟩, _⟩ := hM.own
  rcases h.2 with ⟨rfl, _⟩ | ⟨g, cap, cur, hv, _, h2, _⟩
  · cases e
  · rw [hv] at e
    have : g = b := by simpa [Value.ownBlock] using e
    subst this
    rw [h2] at h1; cases h1
/-- append(texts, t), as the walk stands at it; nothing has turned but the row -/
theorem wp_append_tg {ops : Array Oper} {rest : List Oper} {o : Oper} {a : Act} {Q : Exit → Act → World → Prop} {w : World} (hgd : o.guard = none) (s x : Operand)
    (ho : o.op = .call { callee := .builtin .append, args := #[s, x], argTypes := #[26, 26] })
    (B : Nat) (v : Value) (L : List ByteArray) (l : ByteArray) (hs : a.eval s = v) (hx : a.eval x = .slice (some ⟨w.heap.size, 0, none⟩) 1 1)
    (hown : OwnT B w v L) (hB : B ≤ w.heap.size) (hlen : L.length ≤ 1099511627776)
    (h : ∀ v' w', OwnT B w' v' (L ++ [l]) → (w.alloc (.cells #[.string l] 9)).grownBy w' v.ownBlock → wpList Tryz.prog ops Q rest (a.put o.dst v') w') : wpList Tryz.prog ops Q (o :: rest) a (w.alloc (.cells #[.string l] 9)) := by
  obtain ⟨i0, hi, hz0, hz1, hz2⟩ := info_parts infoStr
  have hoA := World.ownsRow.alloc hown (.cells #[.string l] 9)
  have hnews : ∀ (j : Nat) (u : Value), ([.string l] : List Value)[j]? = some u → (w.alloc (.cells #[.string l] 9)).cell? ((⟨w.heap.size, 0, none⟩ : Addr).add j) = some u := fun j u hj => by
    match j, hj with
    | 0, hj => simp at hj; subst hj; simp [Addr.add]
    | j + 1, hj => simp at hj
  refine wpList_append_own _ hgd s x 26 ho B 9 i0 (.string ⟨#[]⟩) 1 16 Tryz.underlying26 hi hz0 hz1 hz2 rfl (by decide) v L.length (L.map Value.string) hs hoA ⟨w.heap.size, 0, none⟩ 1 1 [.string l] hx rfl hnews
    (fun u hu => by simp at hu; subst hu; rfl) (by unfold maxLen; omega) (by omega) (by simp; omega) ?_
  intro v' w' hown' hgrow hnil
  exact h v' w' (by unfold OwnT; rw [List.map_append, List.length_append]; exact hown') hgrow

/-- what is still to be done, at most -/
def gauge (n : Nat) (F : List Fx) (S : List ByteArray) : Nat := 2 * (n - F.length) + S.length
theorem take_snoc {P : List ByteArray} {k : Nat} {y : ByteArray} (h : P[k]? = some y) : P.take (k + 1) = P.take k ++ [y] := by rw [List.take_add_one, h]; rfl
theorem atI_mem {L : List Fx} {id : ByteArray} (h : hasI L id = true) : atI L id ∈ L ∧ (atI L id).f.id = id := by
  unfold hasI at h
  unfold atI
  cases hf : fnd L id with
  | none => rw [hf] at h; cases h
  | some y => exact fnd_some hf
/-- an Id that is put into the map of what is met: memory behind it -/
theorem pushed {w wr w3 : World} {B b : Nat} {v : Value} {S : List ByteArray} {id : ByteArray} (h1 : (wr.alloc (.cells #[.string id] 9)).grownBy w3 v.ownBlock) (ho : OwnT B wr v S) (hb : Below B w wr) (hB : B ≤ wr.heap.size) {F : List Fx} (hM : MapOf wr b F) : MapOf w3 b F ∧ Below B w w3 ∧ ∀ g x, FxBlk wr g x → FxBlk w3 g x := by
  have hA := b_alloc wr (.cells #[.string id] 9)
  have hoA := World.ownsRow.alloc (show wr.ownsRow B 9 1 v S.length (S.map Value.string) from ho) (.cells #[.string id] 9)
  have hMA := hM.next hA
  refine ⟨hMA.turn (h1.block b hMA.lt fun e => own_ne_map (show OwnT B _ v S from hoA) hMA e.symm), (hb.trans (hA.mono hB)).grown h1 (Nat.le_trans hB hA.size) (fun k hk => (World.ownsRow.lt hoA k hk).1), fun g x hx => ?_⟩
  have hxA := hx.next hA
  obtain ⟨z, hz⟩ := hxA.all
  refine ⟨⟨z, (h1.block g hxA.lt fun e => ?_).trans hz⟩⟩
  rcases hoA.2 with ⟨rfl, _⟩ | ⟨g', cap, cur, hv, _, h2, _⟩
  · cases e
  · rw [hv] at e
    have : g = g' := by simpa [Value.ownBlock] using e
    subst this
    rw [hz] at h2; cases h2
theorem wrap_pred (n N : Nat) (h : N = n + 1) (hl : N ≤ 1099511627776) : IntKind.i64.wrap ((N : Int) - 1) = (n : Int) := by
  subst h
  rw [show (((n + 1 : Nat) : Int) - 1) = (n : Int) by omega]
  simp [IntKind.wrap, IntKind.bits, IntKind.signed]; omega
set_option maxRecDepth 100000 in
set_option maxHeartbeats 4000000 in
/-- met -/
theorem met_calls (w : World) (mb : Nat) (L : List Fx) (from_ : ByteArray) (h : MapOf w mb L) (hF : Facts w L) (hP : ∀ x ∈ L, x.f.pars.length ≤ 100000) (hl : L.length ≤ 100000) (hh : hasI L from_ = true) (hs : Short from_) :
    Calls Tryz.prog 47 #[.map (some mb), .string from_] w fun e w' => ∃ m2 F, e = .returned (.map (some m2)) ∧ MapOf w' m2 F ∧ (∀ y, y ∈ F ↔ y ∈ L ∧ Met (plain L) from_ y.f) ∧ w.heap.size ≤ m2 ∧ Below w.heap.size w w' := by
  have hn := Lib.hid h.nodup
  obtain ⟨y0, hy0⟩ : ∃ y, atI L from_ = y := ⟨_, rfl⟩
  have hm0 := atI_mem hh
  rw [hy0] at hm0
  obtain ⟨hy0L, rfl⟩ := hm0
  have hW0 := Lib.hid (Way.start (L := L) hy0L)
  have hA0 := Lib.hid (b_alloc w (.map #[] 0))
  have hM0 := MapOf.made w
  have hML := Lib.hid fun w' (b : Below w.heap.size w w') => h.next b
  have hMA := hML.out _ hA0.out
  have hsz0 : Hid (w.heap.size ≤ (w.alloc (.map #[] 0)).heap.size) := Lib.hid hA0.out.size
  have hno0 : hasI [] y0.f.id = false := rfl
  have hmm := @run_makeMap Tryz.prog
  replace hF := Lib.hid hF
  replace hP := Lib.hid hP
  have hgl : Hid (∀ F : List Fx, (F.map fun y => y.f.id).Nodup → (∀ y ∈ F, y ∈ L) → F.length ≤ L.length) := Lib.hid fun F h1 h2 => fxs_len h1 h2
  generalize hnL : L.length = nL at *
  clear hh h
  go_enter Tryz.func47, Tryz.ntmps47
  go_wp2_with (first
    | (at_lookup; refine wp_look rfl _ _ rfl mb L rfl hMA y0.f.id rfl hs ?_; rw [hy0]; dsimp only [Fx.val])
    | (refine wp_put rfl _ _ _ (Or.inr rfl) w.heap.size [] rfl hM0 y0 rfl rfl hs hno0 (Nat.zero_le _) ?_; intro w1 hM1 hg1)
    | go_in)
  have hb1 := hA0.out.grown hg1 hsz0.out (fun j hj => by cases hj; exact Nat.le_refl _)
  have hO1 := Lib.hid (OwnT.one w1 w.heap.size y0.f.id hb1.size)
  have hM2 := Lib.hid (hM1.next (b_alloc w1 (.cells #[.string y0.f.id] 9)))
  have hb2 := Lib.hid (b_next hb1 (b_alloc w1 (.cells #[.string y0.f.id] 9)) (Nat.le_refl _))
  generalize w1.alloc (.cells #[.string y0.f.id] 9) = w2 at *
  clear hM0 hg1 hM1 hmm hno0 hMA hb1 hA0 hsz0
  go_loopg [6] (gauge nL [y0] [y0.f.id]) (fun gg s6 wr => ∃ F S, Hid (Way L y0.f.id F S none []) ∧ gauge nL F S ≤ gg ∧ gauge nL F S ≤ 200000 ∧ Hid (MapOf wr w.heap.size F) ∧ Hid (OwnT w.heap.size wr s6 S) ∧ Hid (Below w.heap.size w wr))
  case atStart => exact ⟨[y0], [y0.f.id], hW0, Nat.le_refl _, by have := List.length_pos_of_mem hy0L; simp [gauge]; omega, by simpa using hM2, hO1, hb2⟩
  case round =>
    rename Nat => gk0
    obtain ⟨F, S, hW, hgg, hgm, hM, hO, hb⟩ := hrel
    clear hM2 hO1 hb2 hW0
    rcases List.eq_nil_or_concat S with rfl | ⟨S, z, rfl⟩
    · obtain ⟨a1, c1, rfl⟩ := hO.out.box
      have hD := Lib.hid (hW.out.done hn.out)
      clear hO hgg hgm hW
      go_wp2
      go_ret
      exact ⟨_, _, rfl, hM.out, hD.out, Nat.le_refl _, hb.out⟩
    · rw [List.concat_eq_append] at *
      obtain ⟨g, c1, rfl, hcap, hgb, hck, hO2⟩ := hO.out.last
      obtain ⟨x, hxF, hxL, hxz, hW2⟩ := hW.out.pop hn.out
      have hfx : atI L z = x := by unfold atI; rw [← hxz, fnd_mem hn.out hxL]; rfl
      have hSl : gauge nL F S < gk0 ∧ gauge nL F S ≤ 200000 ∧ S.length ≤ 200000 := by
        unfold gauge at hgg hgm ⊢
        rw [List.length_append, List.length_singleton] at hgg hgm
        omega
      obtain ⟨n, hnn⟩ : ∃ n, n = S.length := ⟨_, rfl⟩
      obtain ⟨N, hN⟩ : ∃ N, N = S.length + 1 := ⟨_, rfl⟩
      rw [← hN]
      have l1 : (0 : Int) < (N : Int) := by omega
      have l2 : (0 : Int) ≤ (n : Int) := by omega
      have l3 : (n : Int) < (N : Int) := by omega
      have l4 : (n : Int) ≤ (c1 : Int) := by omega
      have l5 : n ≤ c1 := by omega
      have w1' : IntKind.i64.wrap ((N : Int) - 1) = (n : Int) := wrap_pred n N (by omega) (by omega)
      have hcell : wr.cell? ⟨g, n, none⟩ = some (.string z) := by rw [hnn]; exact hck
      rw [← hnn] at hO2
      have hMw := hML.out _ hb.out
      have hzs : Short z := hxz ▸ hF.out.id x hxL
      replace hO2 := Lib.hid hO2
      replace hW2 := Lib.hid hW2
      have hX := Lib.hid (FxBlk.new wr x)
      have hA := Lib.hid (b_alloc wr (.cells #[.string x.f.id, .int .i64 x.f.high, .slice x.pa x.f.pars.length x.pc] 28))
      obtain ⟨hpl, pb, po, hT⟩ := hF.out.pars x hxL
      have hPx := hP.out x hxL
      have hPs := Lib.hid (hF.out.par x hxL)
      replace hT := Lib.hid hT
      obtain ⟨np, hnp⟩ : ∃ np, np = x.f.pars.length := ⟨_, rfl⟩
      rw [← hnp] at hPx
      replace hN := Lib.hid hN
      replace hnn := Lib.hid hnn
      replace hgb := Lib.hid hgb
      replace hxz := Lib.hid hxz
      replace hxL := Lib.hid hxL
      replace hSl := Lib.hid hSl
      clear hO hW hck hcap hgg hgm hpl hxF
      go_wp2_with (first
        | (at_lookup; refine wp_look rfl _ _ rfl mb L rfl hMw z rfl hzs ?_; rw [hfx]; dsimp only [Fx.val]; obtain ⟨xc0, xc1, xc2⟩ := hX.out.cell)
        | go_in)
      clear hfx hcell hMw hzs l1 l2 l3 l4 l5 w1' xc0 xc1 xc2
      replace hM := Lib.hid (hM.out.next hA.out)
      replace hO2 := Lib.hid (hO2.out.next hA.out)
      replace hb := Lib.hid (b_next hb.out hA.out (Nat.le_refl _))
      generalize wr.alloc (.cells #[.string x.f.id, .int .i64 x.f.high, .slice x.pa x.f.pars.length x.pc] 28) = w3 at *
      rw [← hnp]
      replace hnp := Lib.hid hnp
      go_loopg [6, 37] np (fun gg s6 s37 wq => ∃ (k : Nat) (F2 : List Fx) (S2 : List ByteArray), s37 = .int .i64 (k : Int) ∧ k ≤ np ∧ np - k ≤ gg ∧ Hid (Way L y0.f.id F2 S2 (some x) (x.f.pars.take k)) ∧ Hid (gauge nL F2 S2 ≤ gauge nL F S) ∧ Hid (MapOf wq w.heap.size F2) ∧ Hid (OwnT w.heap.size wq s6 S2) ∧ Hid (Below w.heap.size w wq))
      case atStart => exact ⟨0, F, S, rfl, Nat.zero_le _, Nat.le_refl _, hW2, Lib.hid (Nat.le_refl _), hM, hO2, hb⟩
      case round =>
        obtain ⟨k, F2, S2, rfl, hk, hkg, hW3, hg3, hM3, hO3, hb3⟩ := hrel
        clear hM hO2 hb hW2 hX hA
        by_cases hlt : k < np
        · have hyx : ∃ y, x.f.pars[k]? = some y ∧ y ∈ x.f.pars := by
            have := hnp.out
            exact ⟨x.f.pars[k], List.getElem?_eq_getElem (by omega), List.getElem_mem (by omega)⟩
          obtain ⟨y, hy, hyP⟩ := hyx
          have hT3 := hT.out.below hb3.out (fun h0 => hT.out.where_ h0)
          have hc := hT3.cell k y hy
          have hpa := hT.out.addr (by have := hnp.out; omega)
          have hys := hPs.out y hyP
          have htk := Lib.hid (take_snoc hy)
          have hlt1 : (k : Int) < np := by omega
          have hlt0 : 0 ≤ (k : Int) := by omega
          have hwk : IntKind.i64.wrap ((k : Int) + 1) = ((k + 1 : Nat) : Int) := by simp [IntKind.wrap, IntKind.bits, IntKind.signed]; omega
          have hms : Hid (np - (k + 1) < gk) := Lib.hid (by omega)
          have hkl : Hid (k + 1 ≤ np) := Lib.hid hlt
          have hMw := hML.out _ hb3.out
          have hH := Lib.hid (has_calls wr (some mb) L y (Or.inr ⟨mb, rfl, hMw⟩) hys)
          have hKq := Lib.hid fun w' (bb : Below wr.heap.size wr w') => lacks_calls w' (some w.heap.size) F2 y (Or.inr ⟨_, rfl, hM3.out.next bb⟩) hys
          have hold := Lib.hid fun e => hW3.out.old (z := y) e hn.out
          rw [← htk.out] at hold
          obtain ⟨sa, sc, rfl⟩ := hO3.out.box
          clear hT3 hlt hk hkg hMw hT
          have hix : (Instr.indexAt 26 (.slice x.pa np x.pc) (.int .i64 (k : Int))).run Tryz.prog wr = .ok (.pointer (some ⟨pb, po + k, none⟩)) wr := by rw [hpa]; go_simp
          clear hpa
          go_wp2_with fail
          refine hH.out.mono ?_
          rintro e w4 ⟨rfl, b4⟩
          have hM4 := Lib.hid (hM3.out.next b4)
          have hO4 := Lib.hid (hO3.out.next b4)
          have hb4 := Lib.hid (b_next hb3.out b4 (Nat.le_refl _))
          have hKq4 := Lib.hid (hKq.out _ b4)
          clear hH hKq hM3 hO3 hb3 b4 hc
          cases hz : hasI L y with
          | false =>
            have hW5 := Lib.hid (hold.out (Or.inl hz))
            go_wp2
            go_roundg (np - (k + 1))
            case measure => exact hms.out
            case rel => exact ⟨k + 1, F2, S2, by simp, hkl.out, Nat.le_refl _, hW5, hg3, hM4, hO4, hb4⟩
          | true =>
            go_wp2_with fail
            refine hKq4.out.mono ?_
            rintro e w5 ⟨rfl, b5⟩
            have hM5 := hM4.out.next b5
            have hO5 := hO4.out.next b5
            have hb5 := b_next hb4.out b5 (Nat.le_refl _)
            clear hKq4 hM4 hO4 hb4 b5
            cases hq : hasI F2 y with
            | true =>
              have hW5 := Lib.hid (hold.out (Or.inr hq))
              replace hM5 := Lib.hid hM5
              replace hO5 := Lib.hid hO5
              replace hb5 := Lib.hid hb5
              go_wp2
              go_roundg (np - (k + 1))
              case measure => exact hms.out
              case rel => exact ⟨k + 1, F2, S2, by simp, hkl.out, Nat.le_refl _, hW5, hg3, hM5, hO5, hb5⟩
            | false =>
              obtain ⟨q, hqe⟩ : ∃ q, atI L y = q := ⟨_, rfl⟩
              have hqm := atI_mem hz
              rw [hqe] at hqm
              obtain ⟨hqL, rfl⟩ := hqm
              have hW5 := hW3.out.new hqL hyP hn.out
              have hFl := hgl.out _ hM5.nodup fun u hu => (hW3.out.met u hu).1
              have hlenF : F2.length ≤ 1000000 := by omega
              have hlenS : S2.length ≤ 1099511627776 := by
                have h1 := hg3.out; have h2 := hSl.out.2.1
                have h3 : S2.length ≤ gauge nL F2 S2 := by unfold gauge; omega
                omega
              rw [← htk.out] at hW5
              replace hW5 := Lib.hid hW5
              have hML5 := hML.out _ hb5
              have hbs5 := Lib.hid hb5.size
              have hg5 : Hid (F2.length + 1 ≤ nL → gauge nL (F2 ++ [q]) (S2 ++ [q.f.id]) ≤ gauge nL F S) := Lib.hid fun hle => by
                have h1 := hg3.out
                unfold gauge at h1 ⊢
                rw [List.length_append, List.length_append, List.length_singleton, List.length_singleton]
                omega
              clear hz hold hFl
              go_wp2_with (first
                | (at_lookup; refine wp_look rfl _ _ rfl mb L rfl hML5 q.f.id rfl hys ?_; rw [hqe]; dsimp only [Fx.val])
                | (at_mapUpdate; refine wp_put rfl _ _ _ (Or.inl rfl) w.heap.size F2 rfl hM5 q rfl rfl hys hq hlenF ?_; intro w6 hM6 hg6; have hO6 : OwnT w.heap.size w6 (.slice sa S2.length sc) S2 := (owns_turn hO5 fun g hg => hg6.block g (World.ownsRow.lt hO5 g hg).2 fun e => own_ne_map hO5 hM5 (hg.trans e)); have hb6 := hb5.grown hg6 hbs5.out (fun j hj => by cases hj; exact Nat.le_refl _); have hbs6 := Lib.hid hb6.size)
                | (at_builtin; refine wp_append_tg rfl _ _ rfl w.heap.size (.slice sa S2.length sc) S2 q.f.id rfl rfl hO6 hbs6.out hlenS ?_; intro v7 w7 hO7 hg7)
                | go_in)
              obtain ⟨hM7, hb7, -⟩ := pushed hg7 hO6 hb6 hbs6.out hM6
              have hF7 := hgl.out _ hM6.nodup fun u hu => (hW5.out.met u hu).1
              rw [List.length_append, List.length_singleton] at hF7
              go_roundg (np - (k + 1))
              case measure => exact hms.out
              case rel => exact ⟨k + 1, _, _, by simp, hkl.out, Nat.le_refl _, hW5, Lib.hid (hg5.out hF7), Lib.hid hM7, Lib.hid hO7, Lib.hid hb7⟩
        · obtain rfl : k = np := by omega
          have d0 : ¬ (k : Int) < k := by omega
          have hW4 := hW3.out
          rw [hnp.out, List.take_length] at hW4
          have hW5 := Lib.hid hW4.over
          have hms : Hid (gauge nL F2 S2 < gk0 ∧ gauge nL F2 S2 ≤ 200000) := Lib.hid (by have h1 := hg3.out; have h2 := hSl.out; omega)
          clear hlt hW3 hW4 hkg
          go_wp2
          go_roundg (gauge nL F2 S2)
          case measure => exact hms.out.1
          case rel => exact ⟨F2, S2, hW5, Nat.le_refl _, hms.out.2, hM3, hO3, hb3⟩
end Go.Proofs.YtbjpogeemajhoaaGreat.Or
