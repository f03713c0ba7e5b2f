/-
  path's crowded, sort.Search, Check answer as the plain descriptions say; old memory stays. Conditions: texts of the form's reach, at most 1000 of them.
-/
import Derived.Test.YtokebgmlenlciaaDoorRows
import Derived.Test.YtokebgmlenlciaaDoorPaPlain
import Derived.Test.YtokebgmlenlciaaDoorPaLib
import Derived.Test.YtokebgmlenlciaaDoorPaRune
import Derived.Test.YtokebgmlenlciaaDoorPaShelf
import Derived.Test.YtokebgmlenlciaaDoorPaGood
import Derived.Test.YtokebgmlenlciaaDoorPaSplit
import Derived.Test.YtokebgmlenlciaaDoorPaSort
import Derived.Test.YtokebgmlenlciaaDoorOctKit
import Derived.WalkKit
import Derived.WalkSpells
import Derived.WalkLawsBesides
import Derived.ProofKit
import Derived.OpenShut
import Derived.Laws.BytesArg
import Derived.Laws.Externs
import Derived.Deep.QuietTactic
import Derived.BigQuiet
import Derived.BigRegion
import Derived.Lib.Hide
import Derived.Lib.Bytealg
import Derived.IntWalk
import Derived.Deep.LoopGhost
import Derived.Laws.OwnMore
import Derived.Deep.OwnRows
import Derived.Deep.Draws
import Derived.Deep.MidRow
namespace Go.Proofs.YtokebgmlenlciaaDoor.Pa
open Go.RowKit
open Oct (TextsAt)

theorem Index_calls (a : Option Addr) (len cap b off : Nat) (T : Nat → ByteArray) (v : ByteArray) (w : World) (hT : TextsAt w a b off len T) (hlen : len ≤ 140737488351232) :
    Calls Tryd.prog 53 #[.slice a len cap, .string v] w fun e w' => (∃ n : Int, e = .returned (.int .i64 n) ∧ (0 ≤ n ↔ ∃ j, j < len ∧ T j = v)) ∧ w = w' := by
  replace hT := Lib.hid hT
  go_enter Tryd.func53, Tryd.ntmps53
  go_wp2
  go_loopw [8] (fun i wr => ∃ k : Nat, k ≤ len ∧ i = .int .i64 k ∧ (∀ j, j < k → T j ≠ v) ∧ w = wr) (fun i _ => len - (intOf i).toNat)
  case atStart => exact ⟨0, by omega, rfl, fun j hj => by omega, rfl⟩
  case round =>
    obtain ⟨k, hk, rfl, hd, rfl⟩ := hrel
    replace hd := Lib.hid hd
    by_cases hlt : k < len
    · have i1 : (k : Int) < len := by omega
      have i0 : 0 ≤ (k : Int) := by omega
      have ha := hT.out.addr (by omega)
      subst ha
      have c0 := hT.out.cell k hlt
      by_cases hv : T k = v
      · have hv' := Lib.hid hv
        rw [hv] at c0
        clear hv
        go_wp2
        go_ret
        exact ⟨⟨k, rfl, by simp only [i0, true_iff]; exact ⟨k, hlt, hv'.out⟩⟩, rfl⟩
      · have hb : (v.toList == (T k).toList) = false := by rw [Oct.beq_toList]; exact decide_eq_false fun h => hv h.symm
        replace hv := Lib.hid hv
        go_wp2_with fail
        exact ⟨⟨k + 1, by omega, by go_num, fun j hj => by
            by_cases e : j = k
            · subst e; exact hv.out
            · exact hd.out j (by omega), by trivial⟩, by simp [intOf]; omega⟩
    · have d0 : decide ((k : Int) < len) = false := decide_eq_false (by omega)
      have d1 : (len : Int) ≤ k := by omega
      go_wp2
      go_ret
      exact ⟨⟨-1, rfl, by constructor
                          · intro h; omega
                          · rintro ⟨j, hj, e⟩; exact absurd e (hd.out j (by omega))⟩, rfl⟩
theorem Contains_calls (a : Option Addr) (len cap b off : Nat) (T : Nat → ByteArray) (v : ByteArray) (w : World) (hT : TextsAt w a b off len T) (hlen : len ≤ 140737488351232) :
    Calls Tryd.prog 40 #[.slice a len cap, .string v] w fun e w' => (∃ c : Bool, e = .returned (.bool c) ∧ (c = true ↔ ∃ j, j < len ∧ T j = v)) ∧ w = w' := by
  go_enter Tryd.func40, Tryd.ntmps40
  go_wp2_with fail
  refine (Index_calls a len cap b off T v w hT hlen).mono ?_
  rintro e w' ⟨⟨n, rfl, hn⟩, rfl⟩
  replace hn := Lib.hid hn
  go_wp2
  go_ret
  exact ⟨⟨_, rfl, by rw [decide_eq_true_iff]; exact hn.out⟩, rfl⟩
/-! ### crowded -/
/-- a call answers whether something holds -/
def Tells (e : Ending) (p : Prop) : Prop := ∃ x, e = .returned (.bool x) ∧ (x = true ↔ p)
theorem Tells.yes {p : Prop} (h : p) : Tells (.returned (.bool true)) p := ⟨true, rfl, by simp [h]⟩
theorem Tells.no {p : Prop} (h : ¬ p) : Tells (.returned (.bool false)) p := ⟨false, rfl, by simp [h]⟩
/-- two of the places up to the last can't be side by side -/
def Crowd (t : Nat → Tx) (len last : Nat) : Prop := ∃ j k, j < k ∧ k < len ∧ k ≤ last ∧ clash (t j) (t k)
theorem not_lies_nil {p : Tx} (h : isPath p) : ¬ lies [] p := by
  rintro ⟨r, rfl⟩
  have := (isPath_iff.1 h).1 [] (by simp [pieces])
  exact name_ne this rfl
theorem path_ne {p : Tx} (h : isPath p) : p ≠ [] := by
  rintro rfl
  have := (isPath_iff.1 h).1 [] (by simp [pieces])
  exact name_ne this rfl
/-- of two that stand in order, what is asked of neighbours -/
def near (x y : Tx) : Prop := y = x ∨ lies x y
theorem near_step {x y z : Tx} (h1 : leN (pieces x) (pieces y)) (h2 : leN (pieces y) (pieces z)) (h : near x z) : near x y := by
  rcases h with rfl | h
  · exact Or.inl (pieces_inj (leN_antisymm h2 h1))
  · rcases between (lies_under.1 h) h1 h2 with e | e
    · exact Or.inl (pieces_inj e.symm)
    · exact Or.inr (lies_under.2 e)
theorem clash_near {x y : Tx} (h1 : leN (pieces x) (pieces y)) (h : clash x y) : near x y := by
  rcases h with h | h | h
  · exact Or.inl h.symm
  · exact Or.inr h
  · have h2 := cmpN_under (lies_under.1 h)
    have h3 := cmpN_neg (pieces x) (pieces y)
    unfold leN at h1
    omega
theorem near_clash {x y : Tx} (h : near x y) : clash x y := h.elim (fun e => Or.inl e.symm) fun e => Or.inr (Or.inl e)
/-- what holds as the places are gone over -/
structure Going (t : Nat → Tx) (Q : Nat → Nat) (last m : Nat) (ahead : Tx) : Prop where
  at_ : (ahead = [] ∧ ∀ i, i < m → ¬ Q i ≤ last) ∨ ∃ i, i < m ∧ Q i ≤ last ∧ ahead = t (Q i) ∧ ∀ j, j < m → Q j ≤ last → j ≤ i
  none : ∀ i j, i < j → j < m → Q i ≤ last → Q j ≤ last → ¬ near (t (Q i)) (t (Q j))
structure Order (t : Nat → Tx) (Q : Nat → Nat) (len : Nat) : Prop where
  path : ∀ i, i < len → isPath (t i)
  lt : ∀ i, i < len → Q i < len
  inj : ∀ i j, i < len → j < len → Q i = Q j → i = j
  onto : ∀ k, k < len → ∃ i, i < len ∧ Q i = k
  sorted : ∀ i j, i < j → j < len → leN (pieces (t (Q i))) (pieces (t (Q j)))
theorem Going.zero (t : Nat → Tx) (Q : Nat → Nat) (last : Nat) : Going t Q last 0 [] := ⟨Or.inl ⟨rfl, fun i h => by omega⟩, fun i j h g => by omega⟩
theorem Going.skip {t : Nat → Tx} {Q : Nat → Nat} {last m : Nat} {ahead : Tx} (h : Going t Q last m ahead) (hm : ¬ Q m ≤ last) : Going t Q last (m + 1) ahead := by
  refine ⟨?_, fun i j hij hj hi hjl => h.none i j hij (by rcases Nat.lt_or_ge j m with g | g; · exact g
                                                          · exact absurd (show Q m ≤ last by rw [show m = j by omega]; exact hjl) hm) hi hjl⟩
  rcases h.at_ with ⟨h1, h2⟩ | ⟨i, h1, h2, h3, h4⟩
  · refine Or.inl ⟨h1, fun i hi => ?_⟩
    by_cases e : i = m
    · subst e; exact hm
    · exact h2 i (by omega)
  · refine Or.inr ⟨i, by omega, h2, h3, fun j hj hjl => ?_⟩
    by_cases e : j = m
    · subst e; exact absurd hjl hm
    · exact h4 j (by omega) hjl
theorem Going.step {t : Nat → Tx} {Q : Nat → Nat} {len last m : Nat} {ahead : Tx} (o : Order t Q len) (h : Going t Q last m ahead) (hml : m < len) (hm : Q m ≤ last) (hn : ¬ near ahead (t (Q m))) : Going t Q last (m + 1) (t (Q m)) := by
  refine ⟨Or.inr ⟨m, by omega, hm, rfl, fun j hj _ => by omega⟩, fun i j hij hj hi hjl => ?_⟩
  by_cases e : j = m
  · subst e
    rcases h.at_ with ⟨_, h2⟩ | ⟨i0, h1, h2, h3, h4⟩
    · exact absurd hi (h2 i hij)
    · rw [h3] at hn
      have hle := h4 i hij hi
      by_cases e : i = i0
      · subst e; exact hn
      · intro hc
        exact h.none i i0 (by omega) h1 hi h2 (near_step (o.sorted i i0 (by omega) (by omega)) (o.sorted i0 j h1 hml) hc)
  · exact h.none i j hij (by omega) hi hjl
theorem Going.found {t : Nat → Tx} {Q : Nat → Nat} {len last m : Nat} {ahead : Tx} (o : Order t Q len) (h : Going t Q last m ahead) (hml : m < len) (hm : Q m ≤ last) (hn : near ahead (t (Q m))) : Crowd t len last := by
  have hp := o.path (Q m) (o.lt m hml)
  rcases h.at_ with ⟨h1, _⟩ | ⟨i, h1, h2, h3, _⟩
  · rw [h1] at hn
    rcases hn with e | e
    · exact absurd e (path_ne hp)
    · exact absurd e (not_lies_nil hp)
  · rw [h3] at hn
    have hc := near_clash hn
    rcases Nat.lt_trichotomy (Q i) (Q m) with g | g | g
    · exact ⟨Q i, Q m, g, o.lt m hml, hm, hc⟩
    · have := o.inj i m (by omega) hml g; omega
    · exact ⟨Q m, Q i, g, o.lt i (by omega), h2, clash_symm hc⟩
theorem Going.end {t : Nat → Tx} {Q : Nat → Nat} {len last : Nat} {ahead : Tx} (o : Order t Q len) (h : Going t Q last len ahead) : ¬ Crowd t len last := by
  rintro ⟨j, k, hjk, hk, hl, hc⟩
  obtain ⟨i1, g1, rfl⟩ := o.onto j (by omega)
  obtain ⟨i2, g2, rfl⟩ := o.onto k hk
  rcases Nat.lt_trichotomy i1 i2 with g | g | g
  · exact h.none i1 i2 g g2 (by omega) hl (clash_near (o.sorted i1 i2 g g2) hc)
  · subst g; omega
  · exact h.none i2 i1 g g1 hl (by omega) (clash_near (o.sorted i2 i1 g g1) (clash_symm hc))
theorem crowd_mono {t : Nat → Tx} {len i j : Nat} (h : i ≤ j) (hc : Crowd t len i) : Crowd t len j := by
  obtain ⟨a, b, h1, h2, h3, h4⟩ := hc
  exact ⟨a, b, h1, h2, by omega, h4⟩
theorem Placed.order {w : World} {p : Option Addr} {len : Nat} {T : Nat → ByteArray} {Q : Nat → Nat} (h : Placed w p len T Q) (hp : ∀ i, i < len → isPath (T i).data.toList) : Order (fun i => (T i).data.toList) Q len :=
  ⟨hp, h.lt, h.inj, h.onto, h.sorted⟩
set_option maxRecDepth 100000 in
set_option maxHeartbeats 1000000 in
theorem crowded_calls (a : Option Addr) (len cap b off : Nat) (T : Nat → ByteArray) (pl : Option Addr) (Q : Nat → Nat) (last : Nat) (hpath : ∀ i, i < len → isPath (T i).data.toList) (hlen : len ≤ 1000) (w : World) (hT : TextsAt w a b off len T) (hP : Placed w pl len T Q) :
    Calls Tryd.prog 39 #[.slice a len cap, .slice pl len len, .int .i64 (last : Int)] w fun e w' => Tells e (Crowd (fun i => (T i).data.toList) len last) ∧ w = w' := by
  have o := Lib.hid (hP.order hpath)
  obtain ⟨blk, hpa, hcell⟩ := hP.cell
  replace hT := Lib.hid hT
  replace hcell := Lib.hid hcell
  clear hP hpath
  go_enter Tryd.func39, Tryd.ntmps39
  go_wp2
  go_loopw [7, 9, 12] (fun x _ i wr => ∃ (m : Nat) (s : ByteArray), m ≤ len ∧ x = .string s ∧ i = .int .i64 m ∧ Hid (Going (fun i => (T i).data.toList) Q last m s.data.toList) ∧ w = wr) (fun _ _ i _ => len - (intOf i).toNat)
  case atStart => exact ⟨0, _, by omega, rfl, rfl, Lib.hid (Going.zero _ _ _), rfl⟩
  case round =>
    obtain ⟨m, s, hm, rfl, rfl, hg, rfl⟩ := hrel
    by_cases hlt : m < len
    · have i1 : (m : Int) < len := by omega
      have i0 : 0 ≤ (m : Int) := by omega
      obtain rfl := hpa (by omega)
      have c0 := hcell.out m hlt
      have hq := o.out.lt m hlt
      obtain ⟨q, eq⟩ : ∃ q, Q m = q := ⟨_, rfl⟩
      rw [eq] at c0 hq
      obtain rfl := hT.out.addr (by omega)
      have cq := hT.out.cell q hq
      have q1 : (q : Int) < len := by omega
      have q0 : 0 ≤ (q : Int) := by omega
      replace eq := Lib.hid eq
      by_cases hlast : q ≤ last
      · have l0 : ¬ (last : Int) < q := by omega
        by_cases heq : T q = s
        · have hb : ((T q).toList == s.toList) = true := by rw [heq]; simp
          have fin : Hid (Crowd (fun i => (T i).data.toList) len last) := Lib.hid (hg.out.found o.out hlt (by rw [eq.out]; exact hlast) (by rw [eq.out]; exact Or.inl (by rw [heq])))
          clear heq
          go_wp2
          go_ret
          exact ⟨.yes fin.out, rfl⟩
        · have hb : ((T q).toList == s.toList) = false := by rw [Oct.beq_toList]; exact decide_eq_false heq
          replace heq := Lib.hid heq
          go_wp2_with fail
          refine (lies_calls s (T q) w).mono ?_
          rintro e w' ⟨⟨x, rfl, hx⟩, rfl⟩
          cases x with
          | true =>
            have fin : Hid (Crowd (fun i => (T i).data.toList) len last) := Lib.hid (hg.out.found o.out hlt (by rw [eq.out]; exact hlast) (by rw [eq.out]; exact Or.inr (hx.1 rfl)))
            clear hx
            go_wp2
            go_ret
            exact ⟨.yes fin.out, rfl⟩
          | false =>
            have nx := Lib.hid (hg.out.step o.out hlt (by rw [eq.out]; exact hlast) (by
              rw [eq.out]; rintro (h | h)
              · exact heq.out (data_inj h)
              · exact absurd (hx.2 h) (by decide)))
            clear hx hg
            go_wp2
            exact ⟨⟨m + 1, T q, by omega, rfl, by go_num, Lib.hid (by have := nx.out; rw [eq.out] at this; exact this), by trivial⟩, by simp [intOf]; omega⟩
      · have l0 : (last : Int) < q := by omega
        have nx := Lib.hid (hg.out.skip (by rw [eq.out]; exact hlast))
        clear hg
        go_wp2
        exact ⟨⟨m + 1, s, by omega, rfl, by go_num, nx, by trivial⟩, by simp [intOf]; omega⟩
    · have d0 : decide ((m : Int) < len) = false := decide_eq_false (by omega)
      have d1 : (len : Int) ≤ m := by omega
      obtain rfl : m = len := by omega
      have fin := Lib.hid (hg.out.end o.out)
      clear hg
      go_wp2
      go_ret
      exact ⟨.no fin.out, rfl⟩
/-! ### sort.Search -/
theorem half (i j : Nat) : (((i + j) / 2 : Nat) : Int) = ((i : Int) + j) / 2 := by omega
set_option maxRecDepth 100000 in
set_option maxHeartbeats 1000000 in
theorem Search_calls (n : Nat) (hn : n ≤ 1000) (g : Nat) (cb : Array Value) (p : Nat → Prop) (hmono : ∀ i j, i ≤ j → p i → p j) (w : World) (eg : ∀ args w, (callFunc g args).run Tryd.prog w = .ok (.enter g args) w)
    (hf : ∀ i, i < n → Calls Tryd.prog g (#[.int .i64 (i : Int)] ++ cb) w fun e w' => Tells e (p i) ∧ w = w') :
    Calls Tryd.prog 37 #[.int .i64 (n : Int), .func (.func g) #[] cb] w fun e w' => (∃ k : Nat, e = .returned (.int .i64 k) ∧ k ≤ n ∧ (∀ i, i < k → ¬ p i) ∧ (k < n → p k)) ∧ w = w' := by
  replace hf := Lib.hid hf
  replace hmono := Lib.hid hmono
  go_enter Tryd.func37, Tryd.ntmps37
  go_wp2
  go_loopw [5, 6, 7] (fun x y _ wr => ∃ i j : Nat, x = .int .i64 i ∧ y = .int .i64 j ∧ i ≤ j ∧ j ≤ n ∧ Hid ((∀ t, t < i → ¬ p t) ∧ (j < n → p j)) ∧ w = wr) (fun x y _ _ => (intOf y).toNat - (intOf x).toNat)
  case atStart => exact ⟨0, n, rfl, rfl, by omega, by omega, Lib.hid ⟨fun t ht => by omega, fun h => by omega⟩, rfl⟩
  case round =>
    obtain ⟨i, j, rfl, rfl, hij, hj, hI, rfl⟩ := hrel
    by_cases hlt : i < j
    · have d0 : (i : Int) < j := by omega
      have u1 : IntKind.i64.wrap ((i : Int) + j) = (i : Int) + j := IntWalk.i64_in _ (by omega)
      have u2 : IntKind.u64.wrap ((i : Int) + j) = (i : Int) + j := by rw [IntKind.wrap_u64]; omega
      obtain ⟨h, hh⟩ : ∃ h, (i + j) / 2 = h := ⟨_, rfl⟩
      have u3 : ((i : Int) + j) / 2 = h := by rw [← hh, half]
      have u4 : IntKind.i64.wrap (h : Int) = h := IntWalk.i64_in _ (by omega)
      have b1 : i ≤ h := by omega
      have b2 : h < j := by omega
      clear hh
      go_wp2_with fail
      refine (hf.out h (by omega)).mono ?_
      rintro e w' ⟨⟨x, rfl, hx⟩, rfl⟩
      clear u1 u2 u3 u4
      cases x with
      | true =>
        have hp : Hid (p h) := Lib.hid (hx.1 rfl)
        clear hx
        go_wp2
        exact ⟨⟨i, h, rfl, rfl, b1, by omega, Lib.hid ⟨hI.out.1, fun _ => hp.out⟩, by trivial⟩, by simp [intOf]; omega⟩
      | false =>
        have hp : Hid (¬ p h) := Lib.hid fun c => absurd (hx.2 c) (by decide)
        clear hx
        go_wp2
        exact ⟨⟨h + 1, j, by go_num, rfl, by omega, hj, Lib.hid ⟨fun t ht hc => hp.out (hmono.out t h (by omega) hc), hI.out.2⟩, by trivial⟩, by simp [intOf]; omega⟩
    · have d0 : decide ((i : Int) < j) = false := decide_eq_false (by omega)
      have d1 : (j : Int) ≤ i := by omega
      obtain rfl : i = j := by omega
      go_wp2
      go_ret
      exact ⟨⟨i, rfl, hj, hI.out.1, hI.out.2⟩, rfl⟩
/-! ### Check -/
theorem new_frozen (w : World) (cs : Array Value) (t : TypeId) (B : Nat) (hB : B = w.heap.size) : (w.alloc (.cells cs t)).frozen? ⟨B, 0, none⟩ = false := by
  subst hB
  have e : (w.alloc (.cells cs t)).heap[w.heap.size]? = some (.cells cs t) := by
    show (w.heap.push _)[w.heap.size]? = _
    rw [Array.getElem?_push_size]
  unfold World.frozen?
  simp only [e]
  rfl
theorem Placed.below {w w' : World} {p : Option Addr} {len : Nat} {T : Nat → ByteArray} {Q : Nat → Nat} (h : Placed w p len T Q) (b : Below w.heap.size w w') : Placed w' p len T Q := by
  obtain ⟨blk, h1, h2⟩ := h.cell
  exact ⟨⟨blk, h1, fun i hi => (b.cell (p := ⟨blk, i, none⟩) (Oct.lt_of_cell (h2 i hi))).trans (h2 i hi)⟩, h.lt, h.inj, h.onto, h.sorted⟩
theorem ContainsB_calls (a : Option Addr) (len cap b off : Nat) (T : Nat → ByteArray) (v : ByteArray) (x : Bool) (hx : x = true ↔ ∃ j, j < len ∧ T j = v) (hlen : len ≤ 140737488351232) (w : World) (hT : TextsAt w a b off len T) :
    Calls Tryd.prog 40 #[.slice a len cap, .string v] w fun e w' => e = .returned (.bool x) ∧ w' = w :=
  (Contains_calls a len cap b off T v w hT hlen).mono fun e w' ⟨⟨c, he, hc⟩, hw⟩ => ⟨by rw [he, show c = x from Bool.eq_iff_iff.2 (hc.trans hx.symm)], hw.symm⟩
set_option maxRecDepth 100000 in
theorem tooMany_calls (a : Option Addr) (len cap b off : Nat) (T : Nat → ByteArray) (pl : Option Addr) (Q : Nat → Nat) (last B C : Nat) (hpath : ∀ i, i < len → isPath (T i).data.toList) (hlen : len ≤ 1000) (w : World) (hT : TextsAt w a b off len T) (hP : Placed w pl len T Q)
    (hB : w.cell? ⟨B, 0, none⟩ = some (.slice a len cap)) (hC : w.cell? ⟨C, 0, none⟩ = some (.slice pl len len)) :
    Calls Tryd.prog 38 #[.int .i64 (last : Int), .pointer (some ⟨B, 0, none⟩), .pointer (some ⟨C, 0, none⟩)] w fun e w' => Tells e (Crowd (fun i => (T i).data.toList) len last) ∧ w = w' := by
  have hc := Lib.hid (crowded_calls a len cap b off T pl Q last hpath hlen w hT hP)
  clear hT hP hpath
  go_enter Tryd.func38, Tryd.ntmps38
  go_wp2_with fail
  refine hc.out.mono ?_
  rintro e w' ⟨⟨x, rfl, hx⟩, rfl⟩
  replace hx := Lib.hid hx
  go_wp2
  go_ret
  exact ⟨⟨x, rfl, hx.out⟩, rfl⟩
/-- behind so many calls of the first function value -/
structure Coded (w : World) (v : Value) (T : Nat → ByteArray) (i : Nat) (w' : World) : Prop where
  bel : Below w.heap.size w w'
  sz : w.heap.size + 1 < w'.heap.size
  box : w'.cell? ⟨w.heap.size, 0, none⟩ = some v
  code : w'.cell? ⟨w.heap.size + 1, 0, none⟩ = some (.int .i64 ((if i = 0 then 0 else fault (T (i - 1)).data.toList : Nat) : Int))
  fz : w'.frozen? ⟨w.heap.size + 1, 0, none⟩ = false
set_option maxRecDepth 100000 in
theorem coded_calls (w : World) (v : Value) (T : Nat → ByteArray) (hs : ∀ i, (T i).size ≤ 140737488351232) (i : Nat) (W : World) (h : Coded w v T i W) :
    Calls Tryd.prog 35 #[.string (T i), .pointer (some ⟨w.heap.size + 1, 0, none⟩)] W fun e w' => e = .returned (.bool (decide (fault (T i).data.toList ≠ 0))) ∧ Coded w v T (i + 1) w' := by
  have hf := Lib.hid (fault_calls (T i) W (hs i))
  generalize hc : fault (T i).data.toList = c at *
  replace h := Lib.hid h
  replace hc := Lib.hid hc
  go_enter Tryd.func35, Tryd.ntmps35
  go_wp2_with fail
  refine hf.out.mono ?_
  rintro e w1 ⟨rfl, b1⟩
  have hlt := h.out.sz
  have c1 := (b1.cell (p := ⟨w.heap.size + 1, 0, none⟩) hlt).trans h.out.code
  have f1 := (b1.frozen (p := ⟨w.heap.size + 1, 0, none⟩) hlt).trans h.out.fz
  have next : Hid (Coded w v T (i + 1) (w1.setCell ⟨w.heap.size + 1, 0, none⟩ (.int .i64 (c : Int)))) := Lib.hid (by
    refine ⟨(h.out.bel.trans (b1.mono h.out.bel.size)).setCell (by show w.heap.size ≤ w.heap.size + 1; omega) _, ?_, ?_, ?_, ?_⟩
    · have := b1.size; simp [World.setCell]; omega
    · rw [World.cell?_setCell_other _ _ _ _ (fun e => by have := congrArg Addr.block e; simp at this)]
      exact (b1.cell (p := ⟨w.heap.size, 0, none⟩) (by show w.heap.size < _; omega)).trans h.out.box
    · rw [World.cell?_setCell_same _ _ _ c1, if_neg (by omega), Nat.add_sub_cancel, hc.out]
    · rw [World.frozen?_setCell]; exact f1)
  clear b1
  go_wp2
  go_ret
  refine ⟨Oct.ret_bool ?_, next.out⟩
  rw [Bool.eq_iff_iff]; simp
theorem first_clash {t : Nat → Tx} {len at_ : Nat} (hat : at_ < len) (hb : ∀ i, i < at_ → ¬ Crowd t len i) (hc : Crowd t len at_) : (∀ j k, j < k → k < at_ → ¬ clash (t j) (t k)) ∧ ∃ j, j < at_ ∧ clash (t j) (t at_) := by
  refine ⟨fun j k hjk hk h => hb k hk ⟨j, k, hjk, by omega, Nat.le_refl _, h⟩, ?_⟩
  obtain ⟨j, k, h1, h2, h3, h4⟩ := hc
  by_cases e : k = at_
  · subst e; exact ⟨j, h1, h4⟩
  · exact absurd ⟨j, k, h1, h2, Nat.le_refl _, h4⟩ (hb k (by omega))
set_option maxRecDepth 100000 in
set_option maxHeartbeats 1000000 in
/-- path.Check -/
theorem Check_calls (a : Option Addr) (len cap b off : Nat) (T : Nat → ByteArray) (hlen : len ≤ 1000) (hcap : len ≤ cap) (w : World) (hT : TextsAt w a b off len T) :
    Calls Tryd.prog 22 #[.slice a len cap] w fun e w' => (∃ i c : Nat, e = .returned (.tuple #[.int .i64 (i : Int), .int .i64 (c : Int)]) ∧ IsCheck (fun i => (T i).data.toList) len i c) ∧ Below w.heap.size w w' := by
  have hJ0 : Coded w (.slice a len cap) T 0 ((w.alloc (.cells #[.slice a len cap] 22)).alloc (.cells #[.int .i64 0] 24)) := by
    refine ⟨((Below.refl _ w).alloc (Nat.le_refl _) _).alloc (by simp) _, by simp, ?_, ?_, ?_⟩
    · exact Oct.cell_alloc (by rw [World.cell?_alloc_at _ _ _ _ (by simp)]; rfl)
    · rw [World.cell?_alloc_at _ _ _ _ (by simp)]; rfl
    · exact new_frozen _ _ _ _ (by simp)
  have hI := IndexFunc_calls a len cap b off T 35 #[.pointer (some ⟨w.heap.size + 1, 0, none⟩)] (fun i => decide (fault (T i).data.toList ≠ 0)) (Coded w (.slice a len cap) T) _ (by omega)
    ⟨enters_of Tryd.func35 (by kernel_rfl) rfl, fun i w' _ hj => coded_calls w _ T hT.size i w' hj⟩
    (fun i w' hj => texts_below hT hj.bel) hJ0
  clear hJ0
  replace hT := Lib.hid hT
  replace hI := Lib.hid hI
  go_enter Tryd.func22, Tryd.ntmps22
  go_wp2_with fail
  refine hI.out.mono ?_
  rintro e w1 (⟨i, hi, hp, hq, rfl, hJ⟩ | ⟨hq, rfl, hJ⟩)
  · have i0 : (0 : Int) ≤ i := by omega
    have cc := hJ.code
    rw [if_neg (by omega), Nat.add_sub_cancel] at cc
    have fin : Hid (IsCheck (fun i => (T i).data.toList) len i (fault (T i).data.toList)) := Lib.hid (.bad i hi (of_decide_eq_true hp) fun j hj => by
      have := of_decide_eq_false (hq j hj)
      exact Classical.not_not.1 this)
    have bel := Lib.hid hJ.bel
    generalize fault (T i).data.toList = c at *
    clear hp hq hJ hI
    go_wp2
    go_region
    go_wp2
    go_ret2
    exact ⟨⟨i, c, rfl, fin.out⟩, bel.out.drew⟩
  · have good : Hid (∀ j, j < len → fault (T j).data.toList = 0) := Lib.hid fun j hj => Classical.not_not.1 (of_decide_eq_false (hq j hj))
    clear hq hI
    have cbox := hJ.box
    have hT1 := texts_below hT.out hJ.bel
    have hO := Lib.hid (inOrder_calls a len cap b off T good.out hlen w1 hT1)
    replace hT1 := Lib.hid hT1
    replace hJ := Lib.hid hJ
    go_wp2_with fail
    refine hO.out.mono ?_
    rintro e w2 ⟨⟨pl, Q, rfl, hP⟩, b2⟩
    clear hO
    have b3 := b2.alloc b2.size (.cells #[.slice pl len len] 45)
    have bC := (Below.refl w2.heap.size w2).alloc (Nat.le_refl _) (.cells #[.slice pl len len] 45)
    have hP3 := Lib.hid (hP.below bC)
    have hT3 := Lib.hid (texts_below hT1.out b3)
    have cB := (b3.cell (p := ⟨w.heap.size, 0, none⟩) (by have := hJ.out.sz; show w.heap.size < _; omega)).trans cbox
    have cC : (w2.alloc (.cells #[.slice pl len len] 45)).cell? ⟨w2.heap.size, 0, none⟩ = some (.slice pl len len) := by rw [World.cell?_alloc_at _ _ _ _ rfl]; rfl
    have bel := Lib.hid (hJ.out.bel.trans (b3.mono hJ.out.bel.size))
    have hS := Lib.hid (Search_calls len hlen 38 #[.pointer (some ⟨w.heap.size, 0, none⟩), .pointer (some ⟨w2.heap.size, 0, none⟩)] (Crowd (fun i => (T i).data.toList) len) (fun i j h => crowd_mono h) _ (enters_of Tryd.func38 (by kernel_rfl) rfl)
      fun i _ => tooMany_calls a len cap b off T pl Q i w.heap.size w2.heap.size good.out hlen _ hT3.out hP3.out cB cC)
    have cB2 := (b2.cell (p := ⟨w.heap.size, 0, none⟩) (by have := hJ.out.sz; show w.heap.size < _; omega)).trans cbox
    clear hP b2 b3 bC cbox hT1 hP3 hJ
    go_wp2_with fail
    refine hS.out.mono ?_
    rintro e w3 ⟨⟨k, rfl, hk, hno, hyes⟩, rfl⟩
    clear hS
    generalize w2.alloc (.cells #[.slice pl len len] 45) = w3 at *
    by_cases hkl : k = len
    · subst hkl
      have fin : Hid (IsCheck (fun i => (T i).data.toList) k 0 0) := Lib.hid (.ok good.out fun j i hji hi hc => hno i hi ⟨j, i, hji, hi, Nat.le_refl _, hc⟩)
      have k1 : ((k : Int) == (k : Int)) = true := by simp
      clear hno hyes
      go_wp2
      go_ret2
      exact ⟨⟨0, 0, rfl, fin.out⟩, bel.out⟩
    · have k1 : ((k : Int) == (len : Int)) = false := by simp only [beq_eq_false_iff_ne]; omega
      have hkl' : k < len := by omega
      obtain ⟨f1, j, f2, f3⟩ := first_clash hkl' hno (hyes hkl')
      obtain ⟨x, hx⟩ : ∃ x : Bool, (x = true ↔ ∃ j, j < k ∧ T j = T k) := by
        classical exact ⟨decide (∃ j, j < k ∧ T j = T k), by simp⟩
      have hTk : ∀ m, TextsAt (w3.drewN m) a b off k T := fun m => ⟨fun h => hT3.out.addr (by omega), fun i hi => hT3.out.cell i (by omega), hT3.out.size⟩
      have hC := Lib.hid fun m => ContainsB_calls a k cap b off T (T k) x hx (by omega) _ (hTk m)
      obtain rfl := hT3.out.addr (by omega)
      have ck := hT3.out.cell k hkl'
      have fin31 : Hid (x = true → IsCheck (fun i => (T i).data.toList) len k 31) := Lib.hid fun h => by
        obtain ⟨j', g1, g2⟩ := hx.1 h
        exact .twice k good.out hkl' f1 j' g1 (by rw [g2])
      have fin32 : Hid (x = false → IsCheck (fun i => (T i).data.toList) len k 32) := Lib.hid fun h => .clash k good.out hkl' f1 (fun j' g1 g2 => by
        have : x = true := hx.2 ⟨j', g1, data_inj g2⟩
        rw [h] at this; cases this) j f2 f3
      have l1 : (k : Int) < len := by omega
      have l0 : (0 : Int) ≤ k := by omega
      have l2 : (k : Int) ≤ cap := by omega
      clear hno hyes f1 f2 f3 hx hTk
      go_wp2
      go_quiet ((go_at_call 40; exact Calls.quiet_of_same (hC.out _)))
      cases x with
      | true =>
        have fin := Lib.hid (fin31.out rfl)
        clear fin31 fin32
        go_wp2
        go_ret2
        exact ⟨⟨k, 31, rfl, fin.out⟩, below_drewN bel.out _⟩
      | false =>
        have fin := Lib.hid (fin32.out rfl)
        clear fin31 fin32
        go_wp2
        go_ret2
        exact ⟨⟨k, 32, rfl, fin.out⟩, below_drewN bel.out _⟩
end Go.Proofs.YtokebgmlenlciaaDoor.Pa
