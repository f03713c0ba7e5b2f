/-
  Rows of facts in memory, and maps of facts by their Ids: looked up, put in, gone over; has and lacks. Conditions: none.
-/
import Derived.Test.YtbjpogeemajhoaaGreatRows
import Derived.Test.YtbjpogeemajhoaaGreatOrPlain
import Derived.Test.YtbjpogeemajhoaaGreatOrOwn
import Derived.Test.YtbjpogeemajhoaaGreatOrCmp
import Derived.Test.YtbjpogeemajhoaaGreatOctKit
import Derived.WalkKit
import Derived.WalkSpells
import Derived.WalkLawsBesides
import Derived.ProofKit
import Derived.OpenShut
import Derived.Lib.Hide
import Derived.Maps.RangeWalk
import Derived.Maps.OwnIn
import Derived.Carry
namespace Go.Proofs.YtbjpogeemajhoaaGreat.Or
open Go Go.RowKit

/-- facts in a row -/
structure FxsAt (w : World) (a : Option Addr) (b off : Nat) (L : List Fx) : Prop where
  addr : 0 < L.length → a = some ⟨b, off, none⟩
  id : ∀ i x, L[i]? = some x → w.cell? ⟨b, off + i * 3, none⟩ = some (.string x.f.id)
  high : ∀ i x, L[i]? = some x → w.cell? ⟨b, off + i * 3 + 1, none⟩ = some (.int .i64 x.f.high)
  pars : ∀ i x, L[i]? = some x → w.cell? ⟨b, off + i * 3 + 2, none⟩ = some (.slice x.pa x.f.pars.length x.pc)
theorem FxsAt.nil (w : World) (a : Option Addr) (b off : Nat) : FxsAt w a b off [] := ⟨fun h => absurd h (Nat.lt_irrefl _), fun i e he => by simp at he, fun i e he => by simp at he, fun i e he => by simp at he⟩
theorem FxsAt.where_ {w : World} {a : Option Addr} {b off : Nat} {L : List Fx} (h : FxsAt w a b off L) (h0 : 0 < L.length) : b < w.heap.size := Oct.lt_of_cell (h.id 0 _ (List.getElem?_eq_getElem h0))
theorem FxsAt.turn {w w' : World} {a : Option Addr} {b off : Nat} {L : List Fx} (h : FxsAt w a b off L) (t : 0 < L.length → w'.heap[b]? = w.heap[b]?) : FxsAt w' a b off L := by
  have hpos : ∀ i l, L[i]? = some l → 0 < L.length := fun i l he => by have := (List.getElem?_eq_some_iff.1 he).1; omega
  exact ⟨h.addr, fun i l he => (World.cell?_of_block (w := w) (a := ⟨b, off + i * 3, none⟩) (t (hpos i l he))).trans (h.id i l he), fun i l he => (World.cell?_of_block (w := w) (a := ⟨b, off + i * 3 + 1, none⟩) (t (hpos i l he))).trans (h.high i l he), fun i l he => (World.cell?_of_block (w := w) (a := ⟨b, off + i * 3 + 2, none⟩) (t (hpos i l he))).trans (h.pars i l he)⟩
theorem FxsAt.next {w w' : World} {a : Option Addr} {b off : Nat} {L : List Fx} (h : FxsAt w a b off L) (t : Below w.heap.size w w') : FxsAt w' a b off L := h.turn fun h0 => t.block b (h.where_ h0)
theorem FxsAt.below {w w' : World} {a : Option Addr} {b off B : Nat} {L : List Fx} (h : FxsAt w a b off L) (t : Below B w w') (hb : 0 < L.length → b < B) : FxsAt w' a b off L := h.turn fun h0 => t.block b (hb h0)
/-- where a fact's parents are -/
def Pars (w : World) (x : Fx) : Prop := x.f.pars.length ≤ x.pc ∧ ∃ b off, TxAt w x.pa b off x.f.pars
theorem Pars.next {w w' : World} {x : Fx} (h : Pars w x) (t : Below w.heap.size w w') : Pars w' x := by
  obtain ⟨h1, b, off, h2⟩ := h; exact ⟨h1, b, off, h2.next t⟩
theorem Pars.lst {w : World} {x : Fx} (h : Pars w x) : Lst w (.slice x.pa x.f.pars.length x.pc) x.f.pars := by
  obtain ⟨h1, b, off, h2⟩ := h; exact ⟨_, _, b, off, rfl, h1, h2⟩
/-- texts that a machine can hold -/
def Short (x : ByteArray) : Prop := x.size ≤ 140737488351232
/-- the facts of a list: their parents lie in memory, their texts are no longer than memory is -/
structure Facts (w : World) (L : List Fx) : Prop where
  pars : ∀ x ∈ L, Pars w x
  id : ∀ x ∈ L, Short x.f.id
  par : ∀ x ∈ L, ∀ y ∈ x.f.pars, Short y
  wf : ∀ x ∈ L, (Lit.int .i64 x.f.high).wf = true
theorem Facts.next {w w' : World} {L : List Fx} (h : Facts w L) (t : Below w.heap.size w w') : Facts w' L := ⟨fun x hx => (h.pars x hx).next t, h.id, h.par, h.wf⟩
theorem Facts.sub {w : World} {L M : List Fx} (h : Facts w L) (hs : ∀ x ∈ M, x ∈ L) : Facts w M := ⟨fun x hx => h.pars x (hs x hx), fun x hx => h.id x (hs x hx), fun x hx => h.par x (hs x hx), fun x hx => h.wf x (hs x hx)⟩

/-! ### maps of facts -/
/-- how an element reads: as what it is -/
def rdF (v : Value) : Option (DataW Value × List MemPlace) := some (.held v, [])
/-- the key of an Id -/
def keyL (x : ByteArray) : Lit := .string x.data.toList
theorem keyL_inj {x y : ByteArray} (h : keyL x = keyL y) : x = y := Pa.data_inj (by unfold keyL at h; injection h)
theorem keyOf_id {x : ByteArray} (h : Short x) : keyOf Tryz.prog 9 (.string x) = some (keyL x) := WideMaps.keyOf_string_mk Tryz.underlying9 (by unfold Short at h; unfold maxLen; omega)
theorem lawS : Go.Maps.Keyed Tryz.prog 9 := Go.Maps.string_keyed Tryz.underlying9
/-- the fact of an Id -/
def fnd (F : List Fx) (x : ByteArray) : Option Fx := F.find? fun y => decide (y.f.id = x)
def hasI (F : List Fx) (x : ByteArray) : Bool := (fnd F x).isSome
def noFact : Fx := ⟨⟨⟨#[]⟩, 0, []⟩, none, 0⟩
/-- what a look-up gives -/
def atI (F : List Fx) (x : ByteArray) : Fx := (fnd F x).getD noFact
theorem fnd_some {F : List Fx} {x : ByteArray} {y : Fx} (h : fnd F x = some y) : y ∈ F ∧ y.f.id = x := ⟨List.mem_of_find?_eq_some h, by have := List.find?_some h; simpa using this⟩
theorem fnd_none {F : List Fx} {x : ByteArray} : fnd F x = none ↔ ∀ y ∈ F, y.f.id ≠ x := by unfold fnd; rw [List.find?_eq_none]; simp
theorem hasI_iff {F : List Fx} {x : ByteArray} : hasI F x = true ↔ ∃ y ∈ F, y.f.id = x := by
  unfold hasI
  cases h : fnd F x with
  | none => simp; exact fnd_none.1 h
  | some y => simp; exact ⟨y, (fnd_some h).1, (fnd_some h).2⟩
theorem hasI_false {F : List Fx} {x : ByteArray} : hasI F x = false ↔ ∀ y ∈ F, y.f.id ≠ x := by
  rw [← Bool.not_eq_true, hasI_iff]; simp
theorem fnd_mem {F : List Fx} (hn : (F.map fun y => y.f.id).Nodup) {y : Fx} (hy : y ∈ F) : fnd F y.f.id = some y := by
  induction F with
  | nil => simp at hy
  | cons z F ih =>
    rw [List.map_cons, List.nodup_cons] at hn
    unfold fnd
    rw [List.find?_cons]
    by_cases e : z.f.id = y.f.id
    · rw [e]
      simp only [decide_true]
      rcases List.mem_cons.1 hy with rfl | h
      · rfl
      · exact absurd (List.mem_map.2 ⟨y, h, e.symm⟩) hn.1
    · simp only [e, decide_false]
      rcases List.mem_cons.1 hy with rfl | h
      · exact absurd rfl e
      · exact ih hn.2 h
theorem fnd_snoc {F : List Fx} {y : Fx} (hn : hasI F y.f.id = false) (x : ByteArray) : fnd (F ++ [y]) x = if x = y.f.id then some y else fnd F x := by
  have h0 : fnd F y.f.id = none := by unfold hasI at hn; cases h : fnd F y.f.id with | none => rfl | some z => rw [h] at hn; cases hn
  unfold fnd at h0 ⊢
  rw [List.find?_append]
  by_cases e : x = y.f.id
  · subst e
    rw [if_pos rfl, h0]
    simp
  · rw [if_neg e]
    have : ¬ y.f.id = x := fun q => e q.symm
    simp [this]
/-- what a map of facts reads as, key by key -/
def same (x : ByteArray) (kl : Lit) : Bool := match kl with | .string l => decide (x.data.toList = l) | _ => false
theorem same_iff {x : ByteArray} {kl : Lit} : same x kl = true ↔ keyL x = kl := by
  unfold same keyL
  cases kl <;> simp
def seen (F : List Fx) (kl : Lit) (zd : DataW Value) : DataW Value := match F.find? fun y => same y.f.id kl with | some y => .held y.val | none => zd
theorem find_keyL (F : List Fx) (x : ByteArray) : (F.find? fun y => same y.f.id (keyL x)) = fnd F x := by
  unfold fnd
  congr 1
  funext y
  rw [Bool.eq_iff_iff, same_iff, decide_eq_true_eq]
  exact ⟨keyL_inj, fun h => by rw [h]⟩
structure MapOf (w : World) (b : Nat) (F : List Fx) : Prop where
  own : ∃ D, w.ownsMap Tryz.prog 9 rdF b F.length D ∧ Maps.size D = F.length ∧ ∀ kl zd, D.atKey kl zd = seen F kl zd
  nodup : (F.map fun y => y.f.id).Nodup
theorem MapOf.lt {w : World} {b : Nat} {F : List Fx} (h : MapOf w b F) : b < w.heap.size := by obtain ⟨D, h, _⟩ := h.own; exact h.lt
theorem MapOf.turn {w w' : World} {b : Nat} {F : List Fx} (h : MapOf w b F) (t : w'.heap[b]? = w.heap[b]?) : MapOf w' b F := by
  obtain ⟨D, ⟨es, clock, h1, h2⟩, h3⟩ := h.own
  exact ⟨⟨D, ⟨es, clock, t.trans h1, h2⟩, h3⟩, h.nodup⟩
theorem MapOf.next {w w' : World} {b : Nat} {F : List Fx} (h : MapOf w b F) (t : Below w.heap.size w w') : MapOf w' b F := h.turn (t.block b h.lt)
theorem MapOf.made (w : World) : MapOf (w.alloc (.map #[] 0)) w.heap.size [] := ⟨⟨_, World.ownsMap_made w _ _ _, rfl, fun kl zd => rfl⟩, List.nodup_nil⟩
theorem has_seen {F : List Fx} {D : DataW Value} (h : ∀ kl zd, D.atKey kl zd = seen F kl zd) (x : ByteArray) : Maps.has D (keyL x) = hasI F x := by
  unfold hasI
  cases hf : fnd F x with
  | none =>
    refine Maps.has_false_of_atKey fun z => ?_
    rw [h]; unfold seen; rw [find_keyL, hf]
  | some y =>
    refine Maps.has_true_of_atKey (y := .held y.val) fun z => ?_
    rw [h]; unfold seen; rw [find_keyL, hf]
theorem underF : Tryz.prog.underlying 58 = some (.map 9 28) := Tryz.underlying58
theorem zeroF (w : World) : (zeroValue 28).run Tryz.prog w = .ok noFact.val w := by kernel_rfl
theorem run_make (w : World) (n : Int) : (Instr.makeMap 58 (some (.int .i64 n))).run Tryz.prog w = .ok (.map (some w.heap.size)) (w.alloc (.map #[] 0)) := by
  simp [Instr.makeMap, run_underlying underF, asInt, Result.andThen]
  rfl
theorem size_in {D : DataW Value} {F : List Fx} {y : Fx} (hT : Go.Maps.Tidy D) (hs : Maps.size D = F.length) (hh : Maps.has D (keyL y.f.id) = false) : Maps.size (D.put (keyL y.f.id) (.held y.val)) = (F ++ [y]).length := by
  rw [Maps.size_put hT, hh, hs]; simp
theorem MapOf.put {w w' : World} {b : Nat} {F : List Fx} {D : DataW Value} {y : Fx} (hown : w.ownsMap Tryz.prog 9 rdF b F.length D) (hs : Maps.size D = F.length) (hD : ∀ kl zd, D.atKey kl zd = seen F kl zd) (hn : (F.map fun y => y.f.id).Nodup)
    (hno : hasI F y.f.id = false) (hown' : w'.ownsMap Tryz.prog 9 rdF b (F.length + 1) (D.put (keyL y.f.id) (.held y.val))) : MapOf w' b (F ++ [y]) := by
  refine ⟨⟨_, by simpa using hown', size_in (hown.tidy lawS) hs ((has_seen hD _).trans hno), fun kl zd => ?_⟩, ?_⟩
  · by_cases e : kl = keyL y.f.id
    · subst e
      rw [Maps.atKey_put_same hown.isMap (by trivial)]
      unfold seen
      rw [find_keyL, fnd_snoc hno, if_pos rfl]
    · rw [Maps.atKey_put_other e, hD]
      unfold seen
      rw [List.find?_append]
      have e' : same y.f.id kl = false := by rw [← Bool.not_eq_true, same_iff]; exact fun q => e q.symm
      cases F.find? fun y => same y.f.id kl <;> simp [e']
  · rw [List.map_append, List.nodup_append]
    refine ⟨hn, by simp, fun a ha c hc => ?_⟩
    obtain ⟨z, hz, rfl⟩ := List.mem_map.1 ha
    simp at hc
    subst hc
    exact hasI_false.1 hno z hz
section
variable {ops : Array Oper} {rest : List Oper} {o : Oper} {a : Act} {Q : Exit → Act → World → Prop} {w : World}
/-- 'v, ok := f[id]' at the operation -/
theorem wp_look_ok (hg : o.guard = none) (m x : Operand) (hop : o.op = Op.lookup 58 m x true) (b : Nat) (F : List Fx) (hm : a.eval m = .map (some b)) (h : MapOf w b F) (id : ByteArray) (hx : a.eval x = .string id) (hi : Short id)
    (hK : wpList Tryz.prog ops Q rest (a.put o.dst (.tuple #[(atI F id).val, .bool (hasI F id)])) w) : wpList Tryz.prog ops Q (o :: rest) a w := by
  obtain ⟨D, hown, hs, hD⟩ := h.own
  refine wpList_lookup_own_ok w hg m x 58 hop 9 28 lawS underF rdF (zeroF w) (.held noFact.val) [] rfl b _ D hm hown _ _ hx (keyOf_id hi) fun v ps hv => ?_
  rw [has_seen hD]
  have : v = (atI F id).val := by
    unfold rdF at hv
    rw [hD] at hv
    unfold seen at hv
    rw [find_keyL] at hv
    unfold atI
    cases hf : fnd F id with
    | none => rw [hf] at hv; simp only [Option.some.injEq, Prod.mk.injEq, DataW.held.injEq] at hv; exact hv.1
    | some y => rw [hf] at hv; simp only [Option.some.injEq, Prod.mk.injEq, DataW.held.injEq] at hv; exact hv.1
  rw [this]; exact hK
/-- 'f[id]' at the operation -/
theorem wp_look (hg : o.guard = none) (m x : Operand) (hop : o.op = Op.lookup 58 m x false) (b : Nat) (F : List Fx) (hm : a.eval m = .map (some b)) (h : MapOf w b F) (id : ByteArray) (hx : a.eval x = .string id) (hi : Short id)
    (hK : wpList Tryz.prog ops Q rest (a.put o.dst (atI F id).val) w) : wpList Tryz.prog ops Q (o :: rest) a w := by
  obtain ⟨D, hown, hs, hD⟩ := h.own
  refine wpList_plain hg fun K' hK' => ?_
  obtain ⟨v, ps, hrun, hv⟩ := hown.lookup lawS underF (zeroF w) (zd := .held noFact.val) (zp := []) rfl (keyOf_id hi)
  have : v = (atI F id).val := by
    unfold rdF at hv
    rw [hD] at hv
    unfold seen at hv
    rw [find_keyL] at hv
    unfold atI
    cases hf : fnd F id with
    | none => rw [hf] at hv; simp only [Option.some.injEq, Prod.mk.injEq, DataW.held.injEq] at hv; exact hv.1
    | some y => rw [hf] at hv; simp only [Option.some.injEq, Prod.mk.injEq, DataW.held.injEq] at hv; exact hv.1
  subst this
  unfold Oper.wp
  simp [execOp, hop, hm, hx, hrun, Result.andThen]
  exact hK' _ _ hK
/-- 'f[id] = x', id new, at the operation -/
theorem wp_put (hg : o.guard = none) (m x v : Operand) (hop : o.op = Op.mapUpdate 58 m x v ∨ o.op = Op.insert 58 m x v) (b : Nat) (F : List Fx) (hm : a.eval m = .map (some b)) (h : MapOf w b F) (y : Fx) (hx : a.eval x = .string y.f.id) (hv : a.eval v = y.val) (hi : Short y.f.id)
    (hno : hasI F y.f.id = false) (hl : F.length ≤ 1000000)
    (hK : ∀ w', MapOf w' b (F ++ [y]) → w.grownBy w' (some b) → wpList Tryz.prog ops Q rest (a.put o.dst undef) w') : wpList Tryz.prog ops Q (o :: rest) a w := by
  obtain ⟨D, hown, hs, hD⟩ := h.own
  refine wpList_plain hg fun K' hK' => ?_
  obtain ⟨w', hrun, r1, r2⟩ := hown.update lawS underF (by unfold maxLen; omega) (keyOf_id hi) (val := y.val) (d := .held y.val) (ps := []) rfl
  unfold Oper.wp
  rcases hop with hop | hop <;>
  · simp [execOp, hop, hm, hx, hv, hrun, Result.andThen]
    exact hK' _ _ (hK w' (MapOf.put hown hs hD h.nodup hno r1) r2)
end
/-- a value of the map's type, nil too -/
def IsMap (w : World) (m : Option Nat) (F : List Fx) : Prop := (m = none ∧ F = []) ∨ ∃ b, m = some b ∧ MapOf w b F
theorem IsMap.next {w w' : World} {m : Option Nat} {F : List Fx} (h : IsMap w m F) (t : Below w.heap.size w w') : IsMap w' m F := by
  rcases h with h | ⟨b, h1, h2⟩
  · exact Or.inl h
  · exact Or.inr ⟨b, h1, h2.next t⟩
theorem look_nil (w : World) (id : ByteArray) (hi : Short id) : (Instr.lookup 58 (.map none) (.string id) true).run Tryz.prog w = .ok (.tuple #[noFact.val, .bool false]) w := by
  rw [Maps.look_nil true lawS underF (zeroF w) (keyOf_id hi)]; rfl

set_option maxRecDepth 100000 in
theorem has_calls (w : World) (m : Option Nat) (F : List Fx) (id : ByteArray) (h : IsMap w m F) (hi : Short id) :
    Calls Tryz.prog 34 #[.map m, .string id] w fun e w' => e = .returned (.bool (hasI F id)) ∧ Below w.heap.size w w' := by
  have hb := Lib.hid fun o => b_alloc w o
  rcases h with ⟨rfl, rfl⟩ | ⟨b, rfl, h⟩
  · have hl := look_nil w id hi
    dsimp only [noFact, Fx.val, List.length_nil] at hl
    show Calls _ _ _ _ fun e w' => e = .returned (.bool false) ∧ _
    go_enter Tryz.func34, Tryz.ntmps34
    go_wp2
    go_ret
    exact ⟨rfl, hb.out _⟩
  · generalize hr : hasI F id = r
    generalize hx : atI F id = x
    go_enter Tryz.func34, Tryz.ntmps34
    go_wp2_with (first
      | (at_lookup; refine wp_look_ok rfl _ _ rfl b F rfl h id rfl hi ?_; rw [hr, hx]; dsimp only [Fx.val])
      | go_in)
    go_ret
    exact ⟨rfl, hb.out _⟩
theorem lacks_calls (w : World) (m : Option Nat) (F : List Fx) (id : ByteArray) (h : IsMap w m F) (hi : Short id) :
    Calls Tryz.prog 46 #[.map m, .string id] w fun e w' => e = .returned (.bool (!hasI F id)) ∧ Below w.heap.size w w' := by
  have hH := Lib.hid (has_calls w m F id h hi)
  generalize hasI F id = r at *
  go_enter Tryz.func46, Tryz.ntmps46
  go_wp2_with fail
  refine hH.out.mono ?_
  rintro e w' ⟨rfl, hb⟩
  go_wp2
  go_ret
  exact ⟨rfl, hb⟩
end Go.Proofs.YtbjpogeemajhoaaGreat.Or
