/-
  The laws' small looks at lists (great, heights, same), and the document's small calls over texts; old memory stays. Conditions: texts' lists are not too long.
-/
import Derived.Test.YtbjpogeemajhoaaRows
import Derived.Test.YtbjpogeemajhoaaOrMap
import Derived.Test.YtbjpogeemajhoaaOrCmp
import Derived.Test.YtbjpogeemajhoaaOrHigh
import Derived.Test.YtbjpogeemajhoaaOrMet
import Derived.Test.YtbjpogeemajhoaaOrBest
import Derived.Deep.Cut
import Derived.Deep.QuietTactic
import Derived.BigQuiet
import Derived.Deep.LoopGhost
import Derived.Deep.RegionHeld3
namespace Go.Proofs.Ytbjpogeemajhoaa.Or
open Go Go.RowKit

def Tells (e : Ending) (p : Prop) : Prop := ∃ b, e = .returned (.bool b) ∧ (b = true ↔ p)
theorem Tells.yes {p : Prop} (h : p) : Tells (.returned (.bool true)) p := ⟨true, rfl, by simp [h]⟩
theorem Tells.no {p : Prop} (h : ¬ p) : Tells (.returned (.bool false)) p := ⟨false, rfl, by simp [h]⟩
theorem take_next {α : Type} {L : List α} {k : Nat} (h : k < L.length) : L.take (k + 1) = L.take k ++ [L[k]] := by rw [List.take_add_one, List.getElem?_eq_getElem h]; rfl
theorem Rin_calls (a : Option Addr) (cap b off : Nat) (L : List ByteArray) (x : ByteArray) (w : World) (hT : TxAt w a b off L) (hlen : L.length ≤ 1000000) :
    Calls Try.prog 39 #[.slice a L.length cap, .string x] w fun e w' => Tells e (x ∈ L) ∧ w = w' := by
  replace hT := Lib.hid hT
  obtain ⟨n, hn⟩ : ∃ n, Hid (L.length = n) := ⟨_, Lib.hid rfl⟩
  rw [hn.out] at hlen ⊢
  go_enter Try.func39, Try.ntmps39
  go_wp2
  go_loopw [5] (fun i wr => ∃ k : Nat, k ≤ n ∧ i = .int .i64 k ∧ Hid (x ∉ L.take k) ∧ w = wr) (fun i _ => n - (intOf i).toNat)
  case atStart => exact ⟨0, by omega, rfl, Lib.hid (by simp), rfl⟩
  case round =>
    obtain ⟨k, hk, rfl, hI, rfl⟩ := hrel
    by_cases hlt : k < n
    · have i1 : (k : Int) < n := by omega
      have i0 : 0 ≤ (k : Int) := by omega
      have hkl : k < L.length := by rw [hn.out]; exact hlt
      have ha := hT.out.addr (by omega)
      subst ha
      have c0 := hT.out.cell k _ (List.getElem?_eq_getElem hkl)
      obtain ⟨y, hy⟩ : ∃ y, Hid (L[k] = y) := ⟨_, Lib.hid rfl⟩
      rw [hy.out] at c0
      by_cases hyx : y = x
      · have e1 := str_eq hyx
        have hin : Hid (x ∈ L) := Lib.hid (by rw [← hyx, ← hy.out]; exact List.getElem_mem hkl)
        clear hyx
        go_wp2
        go_ret
        exact ⟨.yes hin.out, rfl⟩
      · have e1 := str_ne hyx
        have hI2 : Hid (x ∉ L.take (k + 1)) := Lib.hid (by
          rw [take_next hkl, List.mem_append, List.mem_singleton]
          exact fun h => h.elim hI.out fun h => hyx (by rw [← hy.out]; exact h.symm))
        clear hyx
        go_wp2
        exact ⟨⟨k + 1, by omega, by go_num, hI2, by trivial⟩, by simp [intOf]; omega⟩
    · have d0 : decide ((k : Int) < n) = false := decide_eq_false (by omega)
      have d1 : (n : Int) ≤ k := by omega
      have hno : Hid (x ∉ L) := Lib.hid (by have := hI.out; rwa [List.take_of_length_le (by rw [hn.out]; omega)] at this)
      go_wp2
      go_ret
      exact ⟨.no hno.out, rfl⟩
set_option maxHeartbeats 1000000 in
theorem RTexts_calls (a : Option Addr) (cap b off : Nat) (L : List ByteArray) (a2 : Option Addr) (cap2 b2 off2 : Nat) (M : List ByteArray) (w : World) (hT : TxAt w a b off L) (hT2 : TxAt w a2 b2 off2 M) (hL : L.length ≤ 1000000) (hM : M.length ≤ 1000000) :
    Calls Try.prog 18 #[.slice a L.length cap, .slice a2 M.length cap2] w fun e w' => Tells e (L = M) ∧ Below w.heap.size w w' := by
  replace hT := Lib.hid hT
  replace hT2 := Lib.hid hT2
  obtain ⟨n, hn⟩ : ∃ n, Hid (L.length = n) := ⟨_, Lib.hid rfl⟩
  obtain ⟨m, hm⟩ : ∃ m, Hid (M.length = m) := ⟨_, Lib.hid rfl⟩
  have hB0 : Hid (Below w.heap.size w w) := Lib.hid (Below.refl _ _)
  rw [hn.out] at hL ⊢
  rw [hm.out] at hM ⊢
  by_cases hnm : n = m
  · subst hnm
    have e0 : ((n : Int) != n) = false := by simp
    have e1 : ((n : Int) == n) = true := by simp
    go_enter Try.func18, Try.ntmps18
    go_wp2
    go_loopw [5] (fun i wr => ∃ k : Nat, k ≤ n ∧ i = .int .i64 k ∧ Hid (L.take k = M.take k) ∧ Hid (Below w.heap.size w wr)) (fun i _ => n - (intOf i).toNat)
    case atStart => exact ⟨0, by omega, rfl, Lib.hid (by simp), hB0⟩
    case round =>
      clear hB0
      obtain ⟨k, hk, rfl, hI, hB⟩ := hrel
      by_cases hlt : k < n
      · have i1 : (k : Int) < n := by omega
        have i0 : 0 ≤ (k : Int) := by omega
        have hkl : k < L.length := by rw [hn.out]; exact hlt
        have hkm : k < M.length := by rw [hm.out]; exact hlt
        have ha := hT.out.addr (by omega)
        subst ha
        have ha2 := hT2.out.addr (by omega)
        subst ha2
        have c0 := (hT.out.next hB.out).cell k _ (List.getElem?_eq_getElem hkl)
        have c1 := (hT2.out.next hB.out).cell k _ (List.getElem?_eq_getElem hkm)
        obtain ⟨x, hx⟩ : ∃ x, Hid (L[k] = x) := ⟨_, Lib.hid rfl⟩
        obtain ⟨y, hy⟩ : ∃ y, Hid (M[k] = y) := ⟨_, Lib.hid rfl⟩
        rw [hx.out] at c0
        rw [hy.out] at c1
        by_cases hxy : x = y
        · have f1 := str_eq hxy
          have f2 : (x.toList != y.toList) = false := by rw [bne, f1]; rfl
          have hI2 : Hid (L.take (k + 1) = M.take (k + 1)) := Lib.hid (by rw [take_next hkl, take_next hkm, hI.out, hx.out, hy.out, hxy])
          clear hxy
          go_wp2_with fail
          go_quiet (fail)
          have hB2 := Lib.hid (b_then hB.out (b_drew wr nq))
          go_wp2
          exact ⟨⟨k + 1, by omega, by go_num, hI2, hB2⟩, by simp [intOf]; omega⟩
        · have f1 := str_ne hxy
          have f2 : (x.toList != y.toList) = true := by rw [bne, f1]; rfl
          have hno : Hid (L ≠ M) := Lib.hid fun h => hxy (by
            subst h
            rw [← hx.out, ← hy.out])
          clear hxy
          go_wp2_with fail
          go_quiet (fail)
          have hB2 := Lib.hid (b_then hB.out (b_drew wr nq))
          go_wp2
          go_ret
          exact ⟨.no hno.out, hB2.out⟩
      · have d0 : decide ((k : Int) < n) = false := decide_eq_false (by omega)
        have d1 : (n : Int) ≤ k := by omega
        have hyes : Hid (L = M) := Lib.hid (by have := hI.out; rwa [List.take_of_length_le (by rw [hn.out]; omega), List.take_of_length_le (by rw [hm.out]; omega)] at this)
        go_wp2
        go_ret
        exact ⟨.yes hyes.out, hB.out⟩
  · have e0 : ((n : Int) != m) = true := by simp; omega
    have e1 : ((n : Int) == m) = false := by simp; omega
    have hno : Hid (L ≠ M) := Lib.hid fun h => hnm (by rw [← hn.out, ← hm.out, h])
    clear hnm
    go_enter Try.func18, Try.ntmps18
    go_wp2
    go_ret
    exact ⟨.no hno.out, hB0.out⟩
set_option maxRecDepth 100000 in
set_option maxHeartbeats 1000000 in
/-- great: what is not told to be so is small -/
theorem great_calls (w : World) (a : Option Addr) (cap b off : Nat) (L : List Fx) (hL : FxsAt w a b off L) (hl : L.length ≤ 140737488351232) :
    Calls Try.prog 9 #[.slice a L.length cap] w fun e w' => Tells e (¬ (L.length ≤ 60 ∧ ∀ x ∈ L, x.f.pars.length ≤ 20)) ∧ w = w' := by
  replace hL := Lib.hid hL
  obtain ⟨n, hn⟩ : ∃ n, Hid (L.length = n) := ⟨_, Lib.hid rfl⟩
  rw [hn.out] at hl ⊢
  by_cases h60 : n ≤ 60
  · have l0 : ¬ (60 : Int) < n := by omega
    go_enter Try.func9, Try.ntmps9
    go_wp2
    clear l0
    go_loopw [3] (fun i wr => ∃ k : Nat, k ≤ n ∧ i = .int .i64 k ∧ Hid (∀ x ∈ L.take k, x.f.pars.length ≤ 20) ∧ w = wr) (fun i _ => n - (intOf i).toNat)
    case atStart => exact ⟨0, by omega, rfl, Lib.hid (by simp), rfl⟩
    case round =>
      obtain ⟨k, hk, rfl, hI, rfl⟩ := hrel
      by_cases hlt : k < n
      · have i1 : (k : Int) < n := by omega
        have i0 : 0 ≤ (k : Int) := by omega
        have hkl : k < L.length := by rw [hn.out]; exact hlt
        have ha := hL.out.addr (by omega)
        subst ha
        have c2 := hL.out.pars k _ (List.getElem?_eq_getElem hkl)
        obtain ⟨x, hx⟩ : ∃ x, Hid (L[k] = x) := ⟨_, Lib.hid rfl⟩
        rw [hx.out] at c2
        have hns := Lib.hid (take_next hkl)
        have hxm : Hid (x ∈ L) := Lib.hid (by rw [← hx.out]; exact List.getElem_mem hkl)
        have hwk2 : IntKind.i64.wrap ((k : Int) + 1) = ((k + 1 : Nat) : Int) := by simp [IntKind.wrap, IntKind.bits, IntKind.signed]; omega
        by_cases hp : x.f.pars.length ≤ 20
        · have l1 : ¬ (20 : Int) < x.f.pars.length := by omega
          have hI2 : Hid (∀ x ∈ L.take (k + 1), x.f.pars.length ≤ 20) := Lib.hid fun y hy => by
            rw [hns.out, hx.out] at hy
            rcases List.mem_append.1 hy with hy | hy
            · exact hI.out y hy
            · rw [List.mem_singleton] at hy; subst hy; exact hp
          clear hp
          go_wp2
          exact ⟨⟨k + 1, by omega, by simp, hI2, by trivial⟩, by simp [intOf]; omega⟩
        · have l1 : (20 : Int) < x.f.pars.length := by omega
          have hno : Hid (¬ (n ≤ 60 ∧ ∀ x ∈ L, x.f.pars.length ≤ 20)) := Lib.hid fun h => hp (h.2 x hxm.out)
          clear hp
          go_wp2
          go_ret
          exact ⟨.yes hno.out, rfl⟩
      · have d0 : decide ((k : Int) < n) = false := decide_eq_false (by omega)
        have d1 : (n : Int) ≤ k := by omega
        have hyes : Hid (¬ ¬ (n ≤ 60 ∧ ∀ x ∈ L, x.f.pars.length ≤ 20)) := Lib.hid fun h => h ⟨h60, by have := hI.out; rwa [List.take_of_length_le (by rw [hn.out]; omega)] at this⟩
        go_wp2
        go_ret
        exact ⟨.no hyes.out, rfl⟩
  · have l0 : (60 : Int) < n := by omega
    have hno : Hid (¬ (n ≤ 60 ∧ ∀ x ∈ L, x.f.pars.length ≤ 20)) := Lib.hid fun h => h60 h.1
    clear h60
    go_enter Try.func9, Try.ntmps9
    go_wp2
    go_ret
    exact ⟨.yes hno.out, rfl⟩
set_option maxRecDepth 100000 in
set_option maxHeartbeats 1000000 in
/-- heights -/
theorem heights_calls (w : World) (a : Option Addr) (cap b off : Nat) (L : List Fx) (hL : FxsAt w a b off L) (hl : L.length ≤ 100000) :
    Calls Try.prog 15 #[.slice a L.length cap] w fun e w' => Tells e (∀ x ∈ L, x.f.high ≠ 9223372036854775807) ∧ w = w' := by
  replace hL := Lib.hid hL
  obtain ⟨n, hn⟩ : ∃ n, Hid (L.length = n) := ⟨_, Lib.hid rfl⟩
  rw [hn.out] at hl ⊢
  go_enter Try.func15, Try.ntmps15
  go_wp2
  go_loopw [3] (fun i wr => ∃ k : Nat, k ≤ n ∧ i = .int .i64 k ∧ Hid (∀ x ∈ L.take k, x.f.high ≠ 9223372036854775807) ∧ w = wr) (fun i _ => n - (intOf i).toNat)
  case atStart => exact ⟨0, by omega, rfl, Lib.hid (by simp), rfl⟩
  case round =>
    obtain ⟨k, hk, rfl, hI, rfl⟩ := hrel
    by_cases hlt : k < n
    · have i1 : (k : Int) < n := by omega
      have i0 : 0 ≤ (k : Int) := by omega
      have hkl : k < L.length := by rw [hn.out]; exact hlt
      have ha := hL.out.addr (by omega)
      subst ha
      have c1 := hL.out.high k _ (List.getElem?_eq_getElem hkl)
      obtain ⟨x, hx⟩ : ∃ x, Hid (L[k] = x) := ⟨_, Lib.hid rfl⟩
      rw [hx.out] at c1
      have hns := Lib.hid (take_next hkl)
      have hxm : Hid (x ∈ L) := Lib.hid (by rw [← hx.out]; exact List.getElem_mem hkl)
      have hwk2 : IntKind.i64.wrap ((k : Int) + 1) = ((k + 1 : Nat) : Int) := by simp [IntKind.wrap, IntKind.bits, IntKind.signed]; omega
      by_cases hp : x.f.high = 9223372036854775807
      · have l1 : (x.f.high == 9223372036854775807) = true := by simpa using hp
        have hno : Hid (¬ ∀ x ∈ L, x.f.high ≠ 9223372036854775807) := Lib.hid fun h => h x hxm.out hp
        clear hp
        go_wp2
        go_ret
        exact ⟨.no hno.out, rfl⟩
      · have l1 : (x.f.high == 9223372036854775807) = false := by simpa using hp
        have hI2 : Hid (∀ x ∈ L.take (k + 1), x.f.high ≠ 9223372036854775807) := Lib.hid fun y hy => by
          rw [hns.out, hx.out] at hy
          rcases List.mem_append.1 hy with hy | hy
          · exact hI.out y hy
          · rw [List.mem_singleton] at hy; subst hy; exact hp
        clear hp
        go_wp2
        exact ⟨⟨k + 1, by omega, by simp, hI2, by trivial⟩, by simp [intOf]; omega⟩
    · have d0 : decide ((k : Int) < n) = false := decide_eq_false (by omega)
      have d1 : (n : Int) ≤ k := by omega
      have hyes : Hid (∀ x ∈ L, x.f.high ≠ 9223372036854775807) := Lib.hid (by have := hI.out; rwa [List.take_of_length_le (by rw [hn.out]; omega)] at this)
      go_wp2
      go_ret
      exact ⟨.yes hyes.out, rfl⟩
set_option maxRecDepth 100000 in
set_option maxHeartbeats 1000000 in
/-- same -/
theorem same_calls (w : World) (x y : Fx) (hx : Pars w x) (hy : Pars w y) (hlx : x.f.pars.length ≤ 100000) (hly : y.f.pars.length ≤ 100000) :
    Calls Try.prog 14 #[x.val, y.val] w fun e w' => Tells e (x.f = y.f) ∧ Below w.heap.size w w' := by
  have hX := Lib.hid (FxBlk.new w x)
  have hA := b_alloc w (.cells #[.string x.f.id, .int .i64 x.f.high, .slice x.pa x.f.pars.length x.pc] 24)
  have hY := Lib.hid (FxBlk.new (w.alloc (.cells #[.string x.f.id, .int .i64 x.f.high, .slice x.pa x.f.pars.length x.pc] 24)) y)
  have hA2 := b_alloc (w.alloc (.cells #[.string x.f.id, .int .i64 x.f.high, .slice x.pa x.f.pars.length x.pc] 24)) (.cells #[.string y.f.id, .int .i64 y.f.high, .slice y.pa y.f.pars.length y.pc] 24)
  have hsz : (w.alloc (.cells #[.string x.f.id, .int .i64 x.f.high, .slice x.pa x.f.pars.length x.pc] 24)).heap.size = w.heap.size + 1 := by simp
  rw [hsz] at hY
  replace hX := Lib.hid (hX.out.next hA2)
  have hB := Lib.hid (b_then hA hA2)
  obtain ⟨-, xb, xo, hTx⟩ := hx.next hB.out
  obtain ⟨-, yb, yo, hTy⟩ := hy.next hB.out
  have hR := Lib.hid (RTexts_calls x.pa x.pc xb xo x.f.pars y.pa y.pc yb yo y.f.pars _ hTx hTy (by omega) (by omega))
  dsimp only [Fx.val]
  clear hTx hTy hA hA2 hsz
  by_cases h1 : x.f.id = y.f.id
  · by_cases h2 : x.f.high = y.f.high
    · have hfin : Hid (x.f.pars = y.f.pars ↔ x.f = y.f) := Lib.hid ⟨fun h => by
        obtain ⟨⟨i1, g1, p1⟩, _, _⟩ := x
        obtain ⟨⟨i2, g2, p2⟩, _, _⟩ := y
        simp only at h h1 h2
        subst h h1 h2; rfl, fun h => by rw [h]⟩
      have e1 := str_eq h1
      have e2 : (x.f.high == y.f.high) = true := by simpa using h2
      clear h1 h2
      go_enter Try.func14, Try.ntmps14
      go_upto_region 1 with (fail)
      generalize (w.alloc (.cells #[.string x.f.id, .int .i64 x.f.high, .slice x.pa x.f.pars.length x.pc] 24)).alloc (.cells #[.string y.f.id, .int .i64 y.f.high, .slice y.pa y.f.pars.length y.pc] 24) = w2 at *
      obtain ⟨x0, x1, x2⟩ := hX.out.cell
      obtain ⟨y0, y1, y2⟩ := hY.out.cell
      go_wp2_with fail
      refine hR.out.mono ?_
      rintro e w3 ⟨⟨t, rfl, ht⟩, b3⟩
      have ht2 := Lib.hid (ht.trans hfin.out)
      have bb := Lib.hid (b_then hB.out b3)
      clear ht b3 hR hX hY x0 x1 x2 y0 y1 y2
      go_wp2
      go_ret
      exact ⟨⟨_, rfl, ht2.out⟩, bb.out⟩
    · have hno : Hid (x.f ≠ y.f) := Lib.hid fun h => h2 (by rw [h])
      have e1 := str_eq h1
      have e2 : (x.f.high == y.f.high) = false := by simpa using h2
      clear h1 h2 hR
      go_enter Try.func14, Try.ntmps14
      go_upto_region 1 with (fail)
      generalize (w.alloc (.cells #[.string x.f.id, .int .i64 x.f.high, .slice x.pa x.f.pars.length x.pc] 24)).alloc (.cells #[.string y.f.id, .int .i64 y.f.high, .slice y.pa y.f.pars.length y.pc] 24) = w2 at *
      obtain ⟨x0, x1, x2⟩ := hX.out.cell
      obtain ⟨y0, y1, y2⟩ := hY.out.cell
      go_wp2
      go_ret
      exact ⟨.no hno.out, hB.out⟩
  · have hno : Hid (x.f ≠ y.f) := Lib.hid fun h => h1 (by rw [h])
    have e1 := str_ne h1
    clear h1 hR
    go_enter Try.func14, Try.ntmps14
    go_upto_region 1 with (fail)
    generalize (w.alloc (.cells #[.string x.f.id, .int .i64 x.f.high, .slice x.pa x.f.pars.length x.pc] 24)).alloc (.cells #[.string y.f.id, .int .i64 y.f.high, .slice y.pa y.f.pars.length y.pc] 24) = w2 at *
    obtain ⟨x0, x1, x2⟩ := hX.out.cell
    obtain ⟨y0, y1, y2⟩ := hY.out.cell
    go_wp2
    go_ret
    exact ⟨.no hno.out, hB.out⟩
set_option maxRecDepth 100000 in
set_option maxHeartbeats 2000000 in
/-- the document's Best -/
theorem RBest_calls (w : World) (a : Option Addr) (cap b off : Nat) (L : List Fx) (hL : FxsAt w a b off L) (h0 : 0 < L.length) (hl : L.length ≤ 100000) :
    Calls Try.prog 11 #[.slice a L.length cap] w fun e w' => ∃ i x, L[i]? = some x ∧ e = .returned (.tuple #[x.val, .bool true]) ∧ IsBest (plain L) i x.f ∧ Below w.heap.size w w' := by
  obtain ⟨n, hn⟩ : ∃ n : Nat, n = L.length := ⟨_, rfl⟩
  rw [← hn] at hl h0 ⊢
  replace hn := Lib.hid hn
  obtain rfl := hL.addr (by have := hn.out; omega)
  replace hL := Lib.hid hL
  have hcell : Hid (∀ k, k < n → ∃ y, L[k]? = some y) := Lib.hid fun k hk => by
    have := hn.out
    exact ⟨L[k], List.getElem?_eq_getElem (by omega)⟩
  obtain ⟨x0, hx0⟩ := hcell.out 0 h0
  have c0 := hL.out.id 0 x0 hx0
  have c1 := hL.out.high 0 x0 hx0
  have c2 := hL.out.pars 0 x0 hx0
  rw [Nat.zero_mul, Nat.add_zero] at c0 c1 c2
  have hlb : b < w.heap.size := hL.out.where_ (by have := hn.out; omega)
  have b1 := b_alloc w (.cells #[.string ⟨#[]⟩, .int .i64 0, .slice none 0 0] 24)
  have d0 := (b1.cell (p := ⟨b, off, none⟩) hlb).trans c0
  have d1 := (b1.cell (p := ⟨b, off + 1, none⟩) hlb).trans c1
  have d2 := (b1.cell (p := ⟨b, off + 2, none⟩) hlb).trans c2
  have l0 : ((n : Int) == 0) = false := by simp only [beq_eq_false_iff_ne]; omega
  have l1 : (0 : Int) < n := by omega
  have hV0 := Lib.hid ((FxVar.new w noFact))
  have hst : Hid (IsBest ((plain L).take 1) 0 x0.f) := Lib.hid (by
    have : (plain L).take 1 = [x0.f] := by
      unfold plain
      rw [← List.map_take, show (1 : Nat) = 0 + 1 from rfl, List.take_add_one, hx0]; rfl
    rw [this]; exact .one _)
  replace hx0 := Lib.hid hx0
  go_enter Try.func11, Try.ntmps11
  go_wp2_with fail
  have hV1 := Lib.hid (hV0.out.next (b_alloc _ (.cells #[.string x0.f.id, .int .i64 x0.f.high, .slice x0.pa x0.f.pars.length x0.pc] 24)))
  have hX1 := Lib.hid (FxVar.new (w.alloc (.cells #[.string ⟨#[]⟩, .int .i64 0, .slice none 0 0] 24)) x0)
  have hsz : (w.alloc (.cells #[.string ⟨#[]⟩, .int .i64 0, .slice none 0 0] 24)).heap.size = w.heap.size + 1 := by simp
  rw [hsz] at hX1
  have hb1 := Lib.hid (b_then b1 (b_alloc _ (.cells #[.string x0.f.id, .int .i64 x0.f.high, .slice x0.pa x0.f.pars.length x0.pc] 24)))
  dsimp only [noFact, List.length_nil] at hV1
  generalize (w.alloc (.cells #[.string ⟨#[]⟩, .int .i64 0, .slice none 0 0] 24)).alloc (.cells #[.string x0.f.id, .int .i64 x0.f.high, .slice x0.pa x0.f.pars.length x0.pc] 24) = w1 at *
  replace hlb := Lib.hid hlb
  clear c0 c1 c2 d0 d1 d2 l0 l1 b1 hV0 hsz
  go_loopw [5] (fun i wr => ∃ (k j : Nat) (x : Fx), 1 ≤ k ∧ k ≤ n ∧ i = .int .i64 (k : Int) ∧ IsBest ((plain L).take k) j x.f ∧ L[j]? = some x ∧ FxVar wr (w.heap.size + 1) x ∧ FxVar wr w.heap.size noFact ∧ Below w.heap.size w wr) (fun i _ => n - (intOf i).toNat)
  case atStart => exact ⟨1, 0, x0, Nat.le_refl _, h0, rfl, hst.out, hx0.out, hX1.out, hV1.out, hb1.out⟩
  case round =>
    obtain ⟨k, j, x, hk1, hk, rfl, hB, hj, hX, hV, hb⟩ := hrel
    clear hb1 hX1 hV1 hst hx0
    by_cases hlt : k < n
    · obtain ⟨y, hy⟩ := hcell.out k hlt
      have hL2 := hL.out.below hb (fun _ => hlb.out)
      have hlt1 : (k : Int) < n := by omega
      have hlt0 : 0 ≤ (k : Int) := by omega
      have hwk : wrap64 ((k : Int) + 1) = ((k + 1 : Nat) : Int) := wrap_next k (by omega)
      have hwk2 : IntKind.i64.wrap ((k : Int) + 1) = ((k + 1 : Nat) : Int) := by simp [IntKind.wrap, IntKind.bits, IntKind.signed]; omega
      have hms : Hid (n - (k + 1) < n - k) := Lib.hid (by omega)
      have hkl : Hid (1 ≤ k + 1 ∧ k + 1 ≤ n) := Lib.hid ⟨by omega, hlt⟩
      have htk : Hid ((plain L).take (k + 1) = (plain L).take k ++ [y.f]) := Lib.hid (by unfold plain; rw [List.take_add_one, List.getElem?_map, hy]; rfl)
      have hlen : Hid (((plain L).take k).length = k) := Lib.hid (by unfold plain; rw [List.length_take, List.length_map]; have := hn.out; omega)
      obtain ⟨r, hr⟩ : ∃ r, r = cmp y.f x.f := ⟨_, rfl⟩
      have hC := Lib.hid (RCompare_calls y x wr.drew)
      rw [← hr] at hC
      have bd := b_drew1 wr
      have hkeep : Hid (∀ w', Below wr.heap.size wr w' → (w'.cell? ⟨b, off + k * 3, none⟩ = some (.string y.f.id) ∧ w'.cell? ⟨b, off + k * 3 + 1, none⟩ = some (.int .i64 y.f.high) ∧ w'.cell? ⟨b, off + k * 3 + 2, none⟩ = some (.slice y.pa y.f.pars.length y.pc)
          ∧ w'.cell? ⟨w.heap.size + 1, 0, none⟩ = some (.string x.f.id) ∧ w'.cell? ⟨w.heap.size + 1, 1, none⟩ = some (.int .i64 x.f.high) ∧ w'.cell? ⟨w.heap.size + 1, 2, none⟩ = some (.slice x.pa x.f.pars.length x.pc))) :=
        Lib.hid fun w' bb => ⟨(hL2.next bb).id k y hy, (hL2.next bb).high k y hy, (hL2.next bb).pars k y hy, (hX.next bb).cell.1, (hX.next bb).cell.2.1, (hX.next bb).cell.2.2⟩
      have hk0 := hkeep.out _ bd
      replace hr := Lib.hid hr
      replace hB := Lib.hid hB
      replace hX := Lib.hid hX
      replace hV := Lib.hid hV
      replace hb := Lib.hid hb
      replace hj := Lib.hid hj
      replace hy := Lib.hid hy
      clear hL2 hlt hk hk1
      go_wp2_with fail
      go_region_held3 (fun w' => w'.cell? ⟨b, off + k * 3, none⟩ = some (.string y.f.id) ∧ w'.cell? ⟨b, off + k * 3 + 1, none⟩ = some (.int .i64 y.f.high) ∧ w'.cell? ⟨b, off + k * 3 + 2, none⟩ = some (.slice y.pa y.f.pars.length y.pc)
          ∧ w'.cell? ⟨w.heap.size + 1, 0, none⟩ = some (.string x.f.id) ∧ w'.cell? ⟨w.heap.size + 1, 1, none⟩ = some (.int .i64 x.f.high) ∧ w'.cell? ⟨w.heap.size + 1, 2, none⟩ = some (.slice x.pa x.f.pars.length x.pc)) (first | exact hk0 | exact hkeep.out _ b2)
        (first | (go_at_call 13; refine hC.out.mono ?_; rintro e w2 ⟨rfl, q, os, hw2⟩; have b2 : Below wr.heap.size wr w2 := (by rw [hw2]; exact b_then bd (below_grow _ _ _)); clear hw2))
      all_goals
        have hX2 := hX.out.next b2
        have hV2 := Lib.hid (hV.out.next b2)
        have hb2 := Lib.hid (b_next hb.out b2 (Nat.le_refl _))
        have hk2 := hkeep.out _ b2
        by_cases hq : 0 < r
        · have hB2 : Hid (IsBest ((plain L).take (k + 1)) k y.f) := Lib.hid (by
            rw [htk.out]
            have := hB.out.over y.f (cmp_pos.1 (by rw [← hr.out]; exact hq))
            rw [hlen.out] at this; exact this)
          obtain ⟨e0, e1, e2, -⟩ := hk2
          obtain ⟨f0, f1, f2⟩ := hX2.cell
          obtain ⟨g0, g1, g2⟩ := hX2.free
          have hX3 := Lib.hid (hX2.set y)
          have hV3 : Hid (FxVar (((w2.setCell ⟨w.heap.size + 1, 0, none⟩ (.string y.f.id)).setCell ⟨w.heap.size + 1, 1, none⟩ (.int .i64 y.f.high)).setCell ⟨w.heap.size + 1, 2, none⟩ (.slice y.pa y.f.pars.length y.pc)) w.heap.size noFact) :=
            Lib.hid (((below_set3 (Below.refl (w.heap.size + 1) w2) (Nat.le_refl _) _ _ _).block _ (Nat.lt_succ_self _)).trans hV2.out)
          have hb3 := Lib.hid (below_set3 hb2.out (Nat.le_succ _) (g := w.heap.size + 1) (.string y.f.id) (.int .i64 y.f.high) (.slice y.pa y.f.pars.length y.pc))
          clear hX2 hk0
          go_wp2
          go_roundw
          case measure => simp [intOf]; exact hms.out
          case rel => exact ⟨k + 1, k, y, hkl.out.1, hkl.out.2, by simp, hB2.out, hy.out, hX3.out, hV3.out, hb3.out⟩
        · have hB2 : Hid (IsBest ((plain L).take (k + 1)) j x.f) := Lib.hid (by
            rw [htk.out]
            exact hB.out.more y.f (fun h => hq (by rw [hr.out]; exact cmp_pos.2 h)))
          have dq : decide (0 < r) = false := decide_eq_false hq
          clear hk0 hk2
          go_wp2
          go_roundw
          case measure => simp [intOf]; exact hms.out
          case rel => exact ⟨k + 1, j, x, hkl.out.1, hkl.out.2, by simp, hB2.out, hj.out, hX2, hV2.out, hb2.out⟩
    · obtain rfl : k = n := by omega
      have d0 : ¬ (k : Int) < k := by omega
      have hfin : Hid (IsBest (plain L) j x.f) := Lib.hid (by
        have e : (plain L).take k = plain L := by rw [show k = (plain L).length by unfold plain; rw [List.length_map]; exact hn.out, List.take_length]
        rw [e] at hB; exact hB)
      obtain ⟨f0, f1, f2⟩ := hX.cell
      obtain ⟨g0, g1, g2⟩ := hV.free
      obtain ⟨q0, q1, q2⟩ := hV.cell
      have hR := Lib.hid (hV.set x).range
      have hb3 := Lib.hid (below_set3 hb (Nat.le_refl _) (g := w.heap.size) (.string x.f.id) (.int .i64 x.f.high) (.slice x.pa x.f.pars.length x.pc))
      dsimp only [noFact] at q0 q1 q2
      clear hlt hB
      go_wp2
      refine bodyPost_ret (results_two Try.results11 rfl hR.out Try.underlying24 rfl (by kernel_rfl)) rfl ?_
      exact ⟨j, x, hj, rfl, hfin.out, hb3.out⟩
set_option maxRecDepth 100000 in
set_option maxHeartbeats 2000000 in
/-- the document's Best of no facts -/
theorem RBest_none (w : World) (a : Option Addr) (cap : Nat) :
    Calls Try.prog 11 #[.slice a 0 cap] w fun e w' => e = .returned (.tuple #[noFact.val, .bool false]) ∧ Below w.heap.size w w' := by
  have hV := FxVar.new w noFact
  have hb := Lib.hid (b_alloc w (.cells #[.string ⟨#[]⟩, .int .i64 0, .slice none 0 0] 24))
  obtain ⟨g0, g1, g2⟩ := hV.free
  obtain ⟨q0, q1, q2⟩ := hV.cell
  have hR := Lib.hid hV.range
  dsimp only [noFact, List.length_nil] at q0 q1 q2 g0 g1 g2 hR
  clear hV
  go_enter Try.func11, Try.ntmps11
  go_wp2
  refine bodyPost_ret (results_two Try.results11 rfl hR.out Try.underlying24 rfl (by kernel_rfl)) rfl ?_
  exact ⟨rfl, hb.out⟩
end Go.Proofs.Ytbjpogeemajhoaa.Or
