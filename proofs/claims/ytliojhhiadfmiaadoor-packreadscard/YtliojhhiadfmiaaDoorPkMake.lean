/-
  pack's Make answers what the plain function does; old memory stays. Conditions: at most 1024 texts of a sum that a pack can have; the tables lie where the program's variables are.
-/
import Derived.Test.YtliojhhiadfmiaaDoorRows
import Derived.Test.YtliojhhiadfmiaaDoorPkOwn
import Derived.Test.YtliojhhiadfmiaaDoorPkSort
import Derived.Test.YtliojhhiadfmiaaDoorPkWrite
import Derived.Test.YtliojhhiadfmiaaDoorOctKit
import Derived.WalkKit
import Derived.WalkSpells
import Derived.WalkLawsBesides
import Derived.ProofKit
import Derived.OpenShut
import Derived.Laws.BytesArg
import Derived.Laws.Externs
import Derived.Deep.QuietTactic
import Derived.BigQuiet
import Derived.BigRegion
import Derived.Lib.Hide
import Derived.IntWalk
import Derived.Deep.LoopGhost
namespace Go.Proofs.YtliojhhiadfmiaaDoor.Pk
open Go Go.RowKit
open Oct (empty)

/-- neighbours with one id -/
def Twin (L : List Itm) : Prop := ∃ (k : Nat) (h : k + 1 < L.length), (L[k]'(by omega)).id = L[k + 1].id
set_option maxRecDepth 100000 in
set_option maxHeartbeats 1000000 in
theorem hasTwice_calls (a : Option Addr) (cap b off : Nat) (L : List Itm) (w : World) (hI : ItAt w a b off L) (hl : L.length ≤ 1024) :
    Calls Tryd.prog 23 #[.slice a L.length cap] w fun e w' => (∃ r : Bool, e = .returned (.bool r) ∧ (r = true ↔ Twin L)) ∧ Below w.heap.size w w' := by
  replace hI := Lib.hid hI
  go_enter Tryd.func23, Tryd.ntmps23
  go_wp2
  go_loopw [3] (fun i wr => ∃ k : Nat, 1 ≤ k ∧ k ≤ L.length + 1 ∧ i = .int .i64 k ∧ Hid (∀ j (h : j + 1 < L.length), j + 1 < k → (L[j]'(by omega)).id ≠ L[j + 1].id) ∧ Hid (Below w.heap.size w wr)) (fun i _ => L.length + 1 - (intOf i).toNat)
  case atStart => exact ⟨1, by omega, by omega, rfl, Lib.hid fun j h hj => by omega, Lib.hid (Below.refl _ _)⟩
  case round =>
    obtain ⟨k, hk1, hk, rfl, hp, hB⟩ := hrel
    have hIr := Lib.hid (hI.out.next hB.out)
    by_cases hlt : k < L.length
    · obtain ⟨m, rfl⟩ : ∃ m, k = m + 1 := ⟨k - 1, by omega⟩
      have hwm : IntKind.i64.wrap (((m + 1 : Nat) : Int) - 1) = m := by simp [IntKind.wrap, IntKind.bits, IntKind.signed]; omega
      have j1 : (m : Int) < L.length := by omega
      have j0 : 0 ≤ (m : Int) := by omega
      have i1 : ((m + 1 : Nat) : Int) < L.length := by omega
      have i0 : 0 ≤ ((m + 1 : Nat) : Int) := by omega
      obtain rfl := hIr.out.addr (by omega)
      have c0 := hIr.out.id m _ (List.getElem?_eq_getElem (by omega))
      have c1 := hIr.out.id (m + 1) _ (List.getElem?_eq_getElem hlt)
      have hBe := Lib.hid fun n => below_next hB.out (b_drewN wr n)
      by_cases hq : (L[m]'(by omega)).id = L[m + 1].id
      · have q1 := str_eq hq
        have hT : Hid (Twin L) := Lib.hid ⟨m, hlt, hq⟩
        replace hq := Lib.hid hq
        generalize (L[m]'(by omega)).id = x at *
        generalize L[m + 1].id = y at *
        generalize hkk : m + 1 = k at *
        replace hkk := Lib.hid hkk
        clear hIr hp hB
        go_wp2_with fail
        go_quiet (fail)
        go_wp2
        go_ret
        exact ⟨⟨true, rfl, fun _ => hT.out, fun _ => rfl⟩, hBe.out _⟩
      · have q1 := str_ne hq
        have hp2 : Hid (∀ j (h : j + 1 < L.length), j + 1 < m + 1 + 1 → (L[j]'(by omega)).id ≠ L[j + 1].id) := Lib.hid fun j h hj => by
          by_cases e : j = m
          · subst e; exact hq
          · exact hp.out j h (by omega)
        replace hq := Lib.hid hq
        generalize (L[m]'(by omega)).id = x at *
        generalize L[m + 1].id = y at *
        generalize hkk : m + 1 = k at *
        replace hkk := Lib.hid hkk
        clear hIr hp hB
        go_wp2_with fail
        go_quiet (fail)
        go_wp2
        exact ⟨⟨k + 1, by omega, by omega, by go_num, hp2, Lib.hid (hBe.out _)⟩, by simp [intOf]; omega⟩
    · have d0 : decide ((k : Int) < L.length) = false := decide_eq_false (by omega)
      have d1 : (L.length : Int) ≤ k := by omega
      have hT : Hid (¬ Twin L) := Lib.hid fun ⟨j, h, e⟩ => hp.out j h (by omega) e
      clear hp hIr
      go_wp2
      go_ret
      exact ⟨⟨false, rfl, (fun h => by cases h), fun h => absurd h hT.out⟩, hB.out⟩
set_option maxRecDepth 100000 in
set_option maxHeartbeats 1000000 in
theorem sizeOf_calls (a : Option Addr) (cap b off : Nat) (L : List Itm) (w : World) (hI : ItAt w a b off L) (hl : L.length ≤ 1024) (hs : sumD L ≤ 4000000) :
    Calls Tryd.prog 24 #[.slice a L.length cap] w fun e w' => (∃ n : Nat, e = .returned (.int .i64 n) ∧ n = 44 * L.length + sumD L) ∧ Below w.heap.size w w' := by
  replace hI := Lib.hid hI
  go_enter Tryd.func24, Tryd.ntmps24
  go_wp2
  go_loopw [3, 5, 8] (fun v _ i wr => ∃ k n : Nat, k ≤ L.length ∧ i = .int .i64 k ∧ v = .int .i64 n ∧ Hid (n = 44 * k + sumD (L.take k)) ∧ Hid (Below w.heap.size w wr)) (fun _ _ i _ => L.length - (intOf i).toNat)
  case atStart => exact ⟨0, 0, by omega, rfl, rfl, Lib.hid rfl, Lib.hid (Below.refl _ _)⟩
  case round =>
    obtain ⟨k, n, hk, rfl, rfl, hn, hB⟩ := hrel
    by_cases hlt : k < L.length
    · have i1 : (k : Int) < L.length := by omega
      have i0 : 0 ≤ (k : Int) := by omega
      have hIr := Lib.hid (hI.out.next hB.out)
      obtain rfl := hIr.out.addr (by omega)
      have c0 := hIr.out.id k _ (List.getElem?_eq_getElem hlt)
      have c1 := hIr.out.dat k _ (List.getElem?_eq_getElem hlt)
      have h1 := sumD_take_le L k
      have h2 := sumD_take_le L (k + 1)
      have h3 := sumD_next hlt
      have hnb : n ≤ 5000000 := by have := hn.out; omega
      have hxb : L[k].data.size ≤ 4000000 := by omega
      have hn2 : Hid (44 + L[k].data.size + n = 44 * (k + 1) + sumD (L.take (k + 1))) := Lib.hid (by have := hn.out; omega)
      clear h1 h2 h3
      generalize L[k] = x at *
      obtain ⟨xi, xd⟩ := x
      dsimp only at c0 c1 hxb hn2
      have hB2 := Lib.hid (below_next hB.out (b_alloc wr (.cells #[.string xi, .string xd] 37)))
      clear hB hIr
      go_wp2
      exact ⟨⟨k + 1, 44 + xd.size + n, by omega, by go_num, by go_num, hn2, hB2⟩, by simp [intOf]; omega⟩
    · have d3 : decide ((k : Int) < L.length) = false := decide_eq_false (by omega)
      have d4 : (L.length : Int) ≤ k := by omega
      obtain rfl : k = L.length := by omega
      rw [List.take_length] at hn
      go_wp2
      go_ret
      exact ⟨⟨n, rfl, hn.out⟩, hB.out⟩
/-- what Make's sorted list tells -/
theorem Sorted.twin {l : List ByteArray} {L : List Itm} (h : Sorted (l.map itm) L) (ht : Twin L) : ¬ One l := by
  intro ho
  obtain ⟨k, hk, e⟩ := ht
  have h2 : (ids L).Perm (l.map dig) := by
    have := h.perm.map (·.id)
    rw [List.map_map] at this
    exact this
  have h3 : (ids L).Nodup := h2.nodup_iff.2 ho
  have h4 := List.pairwise_iff_getElem.1 (List.nodup_iff_pairwise_ne.1 h3) k (k + 1) (by rw [ids, List.length_map]; omega) (by rw [ids, List.length_map]; omega) (by omega)
  apply h4
  simp only [ids, List.getElem_map]
  exact e
theorem Sorted.one {l : List ByteArray} {L : List Itm} (h : Sorted (l.map itm) L) (ht : ¬ Twin L) : One l ∧ L = srt l := by
  refine srt_is h.perm ?_
  have step : ∀ k (hk : k + 1 < L.length), lt (L[k]'(by omega)).id L[k + 1].id = true := fun k hk => by
    have h1 := h.up k (k + 1) hk (by omega)
    rcases lt_tri (L[k]'(by omega)).id L[k + 1].id with g | g | g
    · exact g
    · exact absurd ⟨k, hk, g⟩ ht
    · rw [h1] at g; cases g
  have far : ∀ d i (hd : i + d + 1 < L.length), lt (L[i]'(by omega)).id L[i + d + 1].id = true := by
    intro d
    induction d with
    | zero => intro i hd; exact step i hd
    | succ d ih => intro i hd; exact lt_trans (ih i (by omega)) (step (i + d + 1) hd)
  refine List.pairwise_iff_getElem.2 ?_
  intro i j hi hj hij
  obtain ⟨d, rfl⟩ : ∃ d, j = i + d + 1 := ⟨j - i - 1, by omega⟩
  exact far d i hj
theorem mk_none : mk [] = (empty, 1) := rfl
theorem mk_big {l : List ByteArray} (h0 : l.length ≠ 0) (h : big l = true) : mk l = (empty, 5) := by
  unfold mk; rw [if_neg h0, if_pos (big_iff.1 h)]
theorem mk_two {l : List ByteArray} (h0 : l.length ≠ 0) (h : big l = false) (h1 : ¬ One l) : mk l = (empty, 31) := by
  unfold mk; rw [if_neg h0, if_neg (fun g => by rw [big_iff.2 g] at h; cases h), if_neg h1]
theorem not_big {l : List ByteArray} (h : big l = false) : ∀ s ∈ l, s.size ≤ 131072 := fun s hs => Nat.le_of_not_lt fun g => by
  rw [big_iff.2 ⟨s, hs, g⟩] at h; cases h
set_option maxRecDepth 100000 in
set_option maxHeartbeats 2000000 in
theorem Make_calls (a : Option Addr) (cap b off : Nat) (l : List ByteArray) (w : World) (hT : TxAt w a b off l) (he : Ev w) (hl : l.length ≤ 1024) (hs : sumB l ≤ 4000000) :
    Calls Tryd.prog 12 #[.slice a l.length cap] w fun e w' => e = .returned (.tuple #[.string (mk l).1, .int .i64 (mk l).2]) ∧ Below w.heap.size w w' := by
  replace hT := Lib.hid hT
  replace he := Lib.hid he
  by_cases h0 : l.length = 0
  · obtain rfl : l = [] := List.length_eq_zero_iff.1 h0
    rw [mk_none]
    go_enter Tryd.func12, Tryd.ntmps12
    go_wp2
    go_ret2
    exact ⟨rfl, Below.refl _ _⟩
  · have d0 : ((l.length : Int) == 0) = false := by simpa using h0
    have d1 : decide (1024 < (l.length : Int)) = false := decide_eq_false (by omega)
    have d2 : ¬ 1024 < (l.length : Int) := by omega
    have hne : ¬ (l.length : Int) = 0 := by omega
    have hC := Lib.hid (Contains_calls a cap b off l w hT.out (by omega))
    cases hb : big l with
    | true =>
      have hm := Lib.hid (mk_big h0 hb)
      rw [hm.out]
      rw [hb] at hC
      go_enter Tryd.func12, Tryd.ntmps12
      go_wp2_with fail
      refine hC.out.mono ?_
      rintro e w' ⟨rfl, rfl⟩
      go_wp2
      go_ret2
      exact ⟨rfl, Below.refl _ _⟩
    | false =>
      rw [hb] at hC
      have hnb := Lib.hid (not_big hb)
      have hO := Lib.hid (itemsOf_calls a cap b off l w hT.out he.out hl (by omega) hnb.out)
      have hm2 := Lib.hid (mk_two h0 hb)
      have hm1 := Lib.hid (mk_one l h0 hnb.out)
      go_enter Tryd.func12, Tryd.ntmps12
      go_wp2_with fail
      refine hC.out.mono ?_
      rintro e w' ⟨rfl, rfl⟩
      go_wp2_with fail
      refine hO.out.mono ?_
      rintro e w1 ⟨⟨L, c, g, rfl, hI, hS⟩, bb⟩
      have hLl : L.length = l.length := by rw [hS.perm.length_eq, List.length_map]
      replace hI := Lib.hid hI
      replace hS := Lib.hid hS
      have hB := Lib.hid bb
      clear bb hC hO
      have hL1 : L.length ≤ 1024 := by omega
      have hL0 : 0 < L.length := by omega
      replace hLl := Lib.hid hLl
      go_wp2_with fail
      refine (hasTwice_calls _ c g 0 L w1 hI.out hL1).mono ?_
      rintro e w2 ⟨⟨r, rfl, hr⟩, bb⟩
      replace hI := Lib.hid (hI.out.next bb)
      replace hB := Lib.hid (below_next hB.out bb)
      clear bb
      cases r with
      | true =>
        have hm := Lib.hid (hm2.out (hS.out.twin (hr.1 rfl)))
        clear hr
        go_wp2
        go_ret2
        exact ⟨by rw [hm.out]; rfl, hB.out⟩
      | false =>
        have hone := hS.out.one (fun g => by have := hr.2 g; cases this)
        obtain ⟨ho, rfl⟩ := hone
        have hm := Lib.hid (hm1.out ho)
        have hgood := Lib.hid (made_good (by rw [hm.out]) hl hs)
        have hsum : sumD (srt l) ≤ 4000000 := by have := srt_sum l; omega
        clear hr hm1 hm2
        go_wp2_with fail
        refine (sizeOf_calls _ c g 0 (srt l) w2 hI.out hL1 hsum).mono ?_
        rintro e w3 ⟨⟨n, rfl, hn⟩, bb⟩
        have hn2 : ¬ 4193236 < (n : Int) := by omega
        have hn3 : decide (4193236 < (n : Int)) = false := decide_eq_false hn2
        replace hI := Lib.hid (hI.out.next bb)
        replace hB := Lib.hid (below_next hB.out bb)
        have hev := Lib.hid (he.out.next hB.out)
        clear bb hn
        go_wp2_with fail
        refine (write_calls _ c g 0 (srt l) w3 hI.out hev.out hgood.out).mono ?_
        rintro e w4 ⟨rfl, bb⟩
        replace hB := Lib.hid (below_next hB.out bb)
        clear bb
        go_wp2
        go_ret2
        exact ⟨by rw [hm.out]; rfl, hB.out⟩
end Go.Proofs.YtliojhhiadfmiaaDoor.Pk
