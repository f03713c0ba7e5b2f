/-
  The document's own calls for layer 10: Set, Below, joined, in, Texts, Sum and kids, over the plain functions. Conditions: lists of a length that the form's numbers bear; sums of sets.
-/
import Derived.Test.YtdmpkgdlelagjaaGreatDoorRows
import Derived.Test.YtdmpkgdlelagjaaGreatDoorTrDraw
import Derived.Test.YtdmpkgdlelagjaaGreatDoorIdRefR
import Derived.Test.YtdmpkgdlelagjaaGreatDoorShaRefS
namespace Go.Proofs.YtdmpkgdlelagjaaGreatDoor.Tr
open Go Go.RowKit
open Ident (by_ val dg digit has digits)
open Sh (b_alloc b_drew b_drewN b_next b_then Rises)

set_option maxRecDepth 100000 in
set_option maxHeartbeats 4000000 in
theorem RSet_calls (a : Option Addr) (cap b off : Nat) (L : List ByteArray) (w : World) (hT : TxAt w a b off L) (hlen : L.length ≤ 140737488351232) (hsz : ∀ x ∈ L, x.size ≤ 140737488351232) :
    Calls Tryz.prog 32 #[.slice a L.length cap] w fun e w' => Tells e (IsSet L) ∧ Below w.heap.size w w' := by
  replace hT := Lib.hid hT
  obtain ⟨n, hn⟩ : ∃ n, Hid (L.length = n) := ⟨_, Lib.hid rfl⟩
  have hB0 : Hid (Below w.heap.size w w) := Lib.hid (Below.refl _ _)
  replace hsz := Lib.hid hsz
  rw [hn.out] at hlen ⊢
  go_enter Tryz.func32, Tryz.ntmps32
  go_wp2
  go_loopw [3] (fun i wr => ∃ k : Nat, k ≤ n ∧ i = .int .i64 k ∧ Hid (IsSet (L.take k)) ∧ Hid (Below w.heap.size w wr)) (fun i _ => n - (intOf i).toNat)
  case atStart => exact ⟨0, by omega, rfl, Lib.hid (by simpa using IsSet.nil), hB0⟩
  case round =>
    clear hB0
    obtain ⟨k, hk, rfl, hI, hB⟩ := hrel
    by_cases hlt : k < n
    · have i1 : (k : Int) < n := by omega
      have i0 : 0 ≤ (k : Int) := by omega
      have hkl : k < L.length := by rw [hn.out]; exact hlt
      have ha := hT.out.addr (by omega)
      subst ha
      have hTr := hT.out.next hB.out
      have c0 := hTr.cell k _ (List.getElem?_eq_getElem hkl)
      have hxz := hsz.out _ (List.getElem_mem hkl)
      obtain ⟨x, hx⟩ : ∃ x, Hid (L[k] = x) := ⟨_, Lib.hid rfl⟩
      rw [hx.out] at c0 hxz
      by_cases hs : x.size = 32
      · have hs' : ((x.size : Int) != 32) = false := by rw [hs]; rfl
        have hs2 : ((x.size : Int) == 32) = true := by rw [hs]; rfl
        by_cases h0 : k = 0
        · have d0 : decide (0 < k) = false := decide_eq_false (by omega)
          have d1 : decide ((0 : Int) < k) = false := decide_eq_false (by omega)
          have hI2 : Hid (IsSet (L.take (k + 1))) := Lib.hid (by
            subst h0
            exact set_first hkl (by rw [hx.out]; exact hs))
          clear h0 hTr
          replace hs := Lib.hid hs
          go_wp2_with fail
          go_quiet (fail)
          have hB2 := Lib.hid (b_then hB.out (b_drewN wr nq))
          go_wp2
          exact ⟨⟨k + 1, by omega, by go_num, hI2, hB2⟩, by simp [intOf]; omega⟩
        · obtain ⟨m, rfl⟩ : ∃ m, k = m + 1 := ⟨k - 1, by omega⟩
          have p0 : (0 : Int) < (m : Int) + 1 := by omega
          have p00 : 0 < m + 1 := by omega
          have p1 : (m : Int) < n := by omega
          have p2 : 0 ≤ (m : Int) := by omega
          have p3 : IntKind.i64.wrap ((m : Int) + 1 - 1) = m := by rw [IntWalk.i64_in _ (by omega)]; omega
          have p4 : (m : Int) + 1 < n := by omega
          have p5 : 0 ≤ (m : Int) + 1 := by omega
          have p6 : ((m : Int) + 1).toNat = m + 1 := by omega
          have p7 : IntKind.i64.wrap (m : Int) = m := IntWalk.i64_in _ (by omega)
          have c1 := hTr.cell m _ (List.getElem?_eq_getElem (show m < L.length by omega))
          obtain ⟨y, hy⟩ : ∃ y, Hid (L[m]'(by omega) = y) := ⟨_, Lib.hid rfl⟩
          rw [hy.out] at c1
          cases hb : Op.bytesLess y.toList x.toList with
          | false =>
            have hno : Hid (¬ IsSet L) := Lib.hid (set_down hkl (by rw [hy.out, hx.out]; exact hb))
            clear hTr
            replace hs := Lib.hid hs
            go_wp2_with fail
            go_quiet (fail)
            have hB2 := Lib.hid (b_then hB.out (b_drewN wr nq))
            go_wp2
            go_ret
            exact ⟨.no hno.out, hB2.out⟩
          | true =>
            have hI2 : Hid (IsSet (L.take (m + 1 + 1))) := Lib.hid (set_next hkl hI.out (by rw [hx.out]; exact hs) (by rw [hy.out, hx.out]; exact hb))
            clear hTr
            replace hs := Lib.hid hs
            go_wp2_with fail
            go_quiet (fail)
            have hB2 := Lib.hid (b_then hB.out (b_drewN wr nq))
            go_wp2
            exact ⟨⟨m + 1 + 1, by omega, by go_num, hI2, hB2⟩, by simp [intOf]; omega⟩
      · have hs' : ((x.size : Int) != 32) = true := by simp; omega
        have hs2 : ((x.size : Int) == 32) = false := by simp; omega
        have hno : Hid (¬ IsSet L) := Lib.hid (set_no hkl (by rw [hx.out]; exact hs))
        replace hs := Lib.hid hs
        clear hTr
        go_wp2_with fail
        go_quiet (fail)
        have hB2 := Lib.hid (b_then hB.out (b_drewN wr nq))
        go_wp2
        go_ret
        exact ⟨.no hno.out, hB2.out⟩
    · have d0 : decide ((k : Int) < n) = false := decide_eq_false (by omega)
      have d1 : (n : Int) ≤ k := by omega
      have hyes : Hid (IsSet L) := Lib.hid (by have := hI.out; rwa [List.take_of_length_le (by rw [hn.out]; omega)] at this)
      go_wp2
      go_ret
      exact ⟨.yes hyes.out, hB.out⟩
set_option maxRecDepth 100000 in
set_option maxHeartbeats 1000000 in
theorem RBelow_calls (a : Option Addr) (cap b off : Nat) (L : List ByteArray) (p : ByteArray) (w : World) (hT : TxAt w a b off L) (hlen : L.length ≤ 1000000) :
    Calls Tryz.prog 34 #[.slice a L.length cap, .string p] w (Gives w (below L p)) := by
  replace hT := Lib.hid hT
  obtain ⟨n, hn⟩ : ∃ n, Hid (L.length = n) := ⟨_, Lib.hid rfl⟩
  have hO0 : Hid (OwnT w.heap.size (w.alloc (.cells #[] 9)) (.slice (some ⟨w.heap.size, 0, none⟩) 0 0) (below (L.take 0) p)) := Lib.hid (OwnT.new w _ (Nat.le_refl _))
  have hB0 := Lib.hid (b_alloc w (.cells #[] 9))
  rw [hn.out] at hlen ⊢
  go_enter Tryz.func34, Tryz.ntmps34
  go_wp2
  go_loopw [5, 6] (fun v i wr => ∃ k : Nat, k ≤ n ∧ i = .int .i64 k ∧ Hid (OwnT w.heap.size wr v (below (L.take k) p)) ∧ Hid (Below w.heap.size w wr)) (fun _ i _ => n - (intOf i).toNat)
  case atStart => exact ⟨0, by omega, rfl, hO0, hB0⟩
  case round =>
    clear hO0 hB0
    obtain ⟨k, hk, rfl, hO, hB⟩ := hrel
    by_cases hlt : k < n
    · have i1 : (k : Int) < n := by omega
      have i0 : 0 ≤ (k : Int) := by omega
      have hkl : k < L.length := by rw [hn.out]; exact hlt
      have ha := hT.out.addr (by omega)
      subst ha
      have c0 := (hT.out.next hB.out).cell k _ (List.getElem?_eq_getElem hkl)
      obtain ⟨x, hx⟩ : ∃ x, Hid (L[k] = x) := ⟨_, Lib.hid rfl⟩
      rw [hx.out] at c0
      go_wp2_with fail
      refine (Ident.RHas_calls x p wr).mono ?_
      rintro e w' ⟨rfl, rfl⟩
      by_cases hh : has x p
      · have hh' : decide (has x p) = true := decide_eq_true hh
        have hs := Lib.hid (below_snoc_yes hkl hx.out hh)
        have hl2 : (below (L.take k) p).length ≤ 1099511627776 := Nat.le_trans (List.length_filter_le _ _) (by rw [List.length_take]; omega)
        replace hh := Lib.hid hh
        rw [hh']
        go_wp2_with (at_builtin; refine wp_append_tx rfl _ _ rfl w.heap.size u5 (below (L.take k) p) x rfl rfl hO.out hB.out.size hl2 ?_)
        intro v' w2 hO2 hB2
        have hO3 := Lib.hid hO2
        have hB3 := Lib.hid (hB2 _ hB.out)
        rw [hs.out] at hO3
        clear hO2 hB2
        go_wp2
        exact ⟨⟨k + 1, by omega, by go_num, hO3, hB3⟩, by simp [intOf]; omega⟩
      · have hh' : decide (has x p) = false := decide_eq_false hh
        have hs := Lib.hid (below_snoc_no hkl hx.out hh)
        have hO3 : Hid (OwnT w.heap.size wr u5 (below (L.take (k + 1)) p)) := by rw [← hs.out]; exact hO
        replace hh := Lib.hid hh
        rw [hh']
        go_wp2_with fail
        exact ⟨⟨k + 1, by omega, by go_num, hO3, hB⟩, by simp [intOf]; omega⟩
    · have d0 : decide ((k : Int) < n) = false := decide_eq_false (by omega)
      have d1 : (n : Int) ≤ k := by omega
      have hO3 : Hid (OwnT w.heap.size wr u5 (below L p)) := Lib.hid (by have := hO.out; rwa [List.take_of_length_le (by rw [hn.out]; omega)] at this)
      go_wp2
      go_ret
      exact ⟨_, rfl, hO3.out, hB.out⟩
/-- texts one behind another, as a text -/
def jt (L : List ByteArray) : ByteArray := ⟨(jn L).toArray⟩
theorem jt_size (L : List ByteArray) : (jt L).size = (jn L).length := by unfold jt; rw [Ident.size_list]
theorem jt_next {L : List ByteArray} {x : ByteArray} {k : Nat} (h : k < L.length) (e : L[k] = x) : jt (L.take k) ++ x = jt (L.take (k + 1)) := by
  rw [take_next h, e]
  unfold jt jn
  apply ByteArray.ext; apply Array.toList_inj.1
  rw [ByteArray.data_append, Array.toList_append, List.flatMap_append]
  simp
theorem jt_le (L : List ByteArray) (k : Nat) : (jt (L.take k)).size ≤ (jn L).length := by
  rw [jt_size]
  have := congrArg jn (List.take_append_drop k L)
  have h2 : jn (L.take k ++ L.drop k) = jn (L.take k) ++ jn (L.drop k) := by unfold jn; rw [List.flatMap_append]
  rw [h2] at this
  rw [← this, List.length_append]; omega
set_option maxHeartbeats 1000000 in
theorem Rjoined_calls (a : Option Addr) (cap b off : Nat) (L : List ByteArray) (w : World) (hT : TxAt w a b off L) (hlen : L.length ≤ 1000000) (hz : (jn L).length ≤ 1000000) :
    Calls Tryz.prog 42 #[.slice a L.length cap] w fun e w' => e = .returned (.string (jt L)) ∧ w = w' := by
  replace hT := Lib.hid hT
  obtain ⟨n, hn⟩ : ∃ n, Hid (L.length = n) := ⟨_, Lib.hid rfl⟩
  rw [hn.out] at hlen ⊢
  go_enter Tryz.func42, Tryz.ntmps42
  go_wp2
  go_loopw [3, 4] (fun s i wr => ∃ k : Nat, k ≤ n ∧ i = .int .i64 k ∧ s = .string (jt (L.take k)) ∧ w = wr) (fun _ i _ => n - (intOf i).toNat)
  case atStart => exact ⟨0, by omega, rfl, rfl, rfl⟩
  case round =>
    obtain ⟨k, hk, rfl, rfl, rfl⟩ := hrel
    by_cases hlt : k < n
    · have i1 : (k : Int) < n := by omega
      have i0 : 0 ≤ (k : Int) := by omega
      have hkl : k < L.length := by rw [hn.out]; exact hlt
      have ha := hT.out.addr (by omega)
      subst ha
      have c0 := hT.out.cell k _ (List.getElem?_eq_getElem hkl)
      have hnx := jt_next hkl rfl
      have z1 := jt_le L (k + 1)
      rw [← hnx, ByteArray.size_append] at z1
      obtain ⟨x, hx⟩ : ∃ x, Hid (L[k] = x) := ⟨_, Lib.hid rfl⟩
      rw [hx.out] at c0 hnx z1
      have hnx2 : Hid (jt (L.take k) ++ x = jt (L.take (k + 1))) := Lib.hid hnx
      generalize jt (L.take k) = T at *
      have g1 : ¬ (9223372036854775807 : Int) < (T.size : Int) + x.size := by omega
      have g2 : ¬ 9223372036854775807 < T.size + x.size := by omega
      clear hnx
      go_wp2
      exact ⟨⟨k + 1, by omega, by go_num, by rw [hnx2.out], by trivial⟩, by simp [intOf]; omega⟩
    · have d0 : decide ((k : Int) < n) = false := decide_eq_false (by omega)
      have d1 : (n : Int) ≤ k := by omega
      have hE : Hid (jt (L.take k) = jt L) := Lib.hid (by rw [List.take_of_length_le (by rw [hn.out]; omega)])
      rw [hE.out]
      go_wp2
      go_ret
      exact ⟨rfl, rfl⟩
theorem Rin_calls (a : Option Addr) (cap b off : Nat) (L : List ByteArray) (x : ByteArray) (w : World) (hT : TxAt w a b off L) (hlen : L.length ≤ 1000000) :
    Calls Tryz.prog 45 #[.slice a L.length cap, .string x] w fun e w' => Tells e (x ∈ L) ∧ w = w' := by
  replace hT := Lib.hid hT
  obtain ⟨n, hn⟩ : ∃ n, Hid (L.length = n) := ⟨_, Lib.hid rfl⟩
  rw [hn.out] at hlen ⊢
  go_enter Tryz.func45, Tryz.ntmps45
  go_wp2
  go_loopw [5] (fun i wr => ∃ k : Nat, k ≤ n ∧ i = .int .i64 k ∧ Hid (x ∉ L.take k) ∧ w = wr) (fun i _ => n - (intOf i).toNat)
  case atStart => exact ⟨0, by omega, rfl, Lib.hid (by simp), rfl⟩
  case round =>
    obtain ⟨k, hk, rfl, hI, rfl⟩ := hrel
    by_cases hlt : k < n
    · have i1 : (k : Int) < n := by omega
      have i0 : 0 ≤ (k : Int) := by omega
      have hkl : k < L.length := by rw [hn.out]; exact hlt
      have ha := hT.out.addr (by omega)
      subst ha
      have c0 := hT.out.cell k _ (List.getElem?_eq_getElem hkl)
      obtain ⟨y, hy⟩ : ∃ y, Hid (L[k] = y) := ⟨_, Lib.hid rfl⟩
      rw [hy.out] at c0
      by_cases hyx : y = x
      · have e1 := str_eq hyx
        have hin : Hid (x ∈ L) := Lib.hid (by rw [← hyx, ← hy.out]; exact List.getElem_mem hkl)
        clear hyx
        go_wp2
        go_ret
        exact ⟨.yes hin.out, rfl⟩
      · have e1 := str_ne hyx
        have hI2 : Hid (x ∉ L.take (k + 1)) := Lib.hid (by
          rw [take_next hkl, List.mem_append, List.mem_singleton]
          exact fun h => h.elim hI.out fun h => hyx (by rw [← hy.out]; exact h.symm))
        clear hyx
        go_wp2
        exact ⟨⟨k + 1, by omega, by go_num, hI2, by trivial⟩, by simp [intOf]; omega⟩
    · have d0 : decide ((k : Int) < n) = false := decide_eq_false (by omega)
      have d1 : (n : Int) ≤ k := by omega
      have hno : Hid (x ∉ L) := Lib.hid (by have := hI.out; rwa [List.take_of_length_le (by rw [hn.out]; omega)] at this)
      go_wp2
      go_ret
      exact ⟨.no hno.out, rfl⟩
set_option maxHeartbeats 1000000 in
theorem RTexts_calls (a : Option Addr) (cap b off : Nat) (L : List ByteArray) (a2 : Option Addr) (cap2 b2 off2 : Nat) (M : List ByteArray) (w : World) (hT : TxAt w a b off L) (hT2 : TxAt w a2 b2 off2 M) (hL : L.length ≤ 1000000) (hM : M.length ≤ 1000000) :
    Calls Tryz.prog 17 #[.slice a L.length cap, .slice a2 M.length cap2] w fun e w' => Tells e (L = M) ∧ Below w.heap.size w w' := by
  replace hT := Lib.hid hT
  replace hT2 := Lib.hid hT2
  obtain ⟨n, hn⟩ : ∃ n, Hid (L.length = n) := ⟨_, Lib.hid rfl⟩
  obtain ⟨m, hm⟩ : ∃ m, Hid (M.length = m) := ⟨_, Lib.hid rfl⟩
  have hB0 : Hid (Below w.heap.size w w) := Lib.hid (Below.refl _ _)
  rw [hn.out] at hL ⊢
  rw [hm.out] at hM ⊢
  by_cases hnm : n = m
  · subst hnm
    have e0 : ((n : Int) != n) = false := by simp
    have e1 : ((n : Int) == n) = true := by simp
    go_enter Tryz.func17, Tryz.ntmps17
    go_wp2
    go_loopw [5] (fun i wr => ∃ k : Nat, k ≤ n ∧ i = .int .i64 k ∧ Hid (L.take k = M.take k) ∧ Hid (Below w.heap.size w wr)) (fun i _ => n - (intOf i).toNat)
    case atStart => exact ⟨0, by omega, rfl, Lib.hid (by simp), hB0⟩
    case round =>
      clear hB0
      obtain ⟨k, hk, rfl, hI, hB⟩ := hrel
      by_cases hlt : k < n
      · have i1 : (k : Int) < n := by omega
        have i0 : 0 ≤ (k : Int) := by omega
        have hkl : k < L.length := by rw [hn.out]; exact hlt
        have hkm : k < M.length := by rw [hm.out]; exact hlt
        have ha := hT.out.addr (by omega)
        subst ha
        have ha2 := hT2.out.addr (by omega)
        subst ha2
        have c0 := (hT.out.next hB.out).cell k _ (List.getElem?_eq_getElem hkl)
        have c1 := (hT2.out.next hB.out).cell k _ (List.getElem?_eq_getElem hkm)
        obtain ⟨x, hx⟩ : ∃ x, Hid (L[k] = x) := ⟨_, Lib.hid rfl⟩
        obtain ⟨y, hy⟩ : ∃ y, Hid (M[k] = y) := ⟨_, Lib.hid rfl⟩
        rw [hx.out] at c0
        rw [hy.out] at c1
        by_cases hxy : x = y
        · have f1 := str_eq hxy
          have f2 : (x.toList != y.toList) = false := by rw [bne, f1]; rfl
          have hI2 : Hid (L.take (k + 1) = M.take (k + 1)) := Lib.hid (by rw [take_next hkl, take_next hkm, hI.out, hx.out, hy.out, hxy])
          clear hxy
          go_wp2_with fail
          go_quiet (fail)
          have hB2 := Lib.hid (b_then hB.out (b_drewN wr nq))
          go_wp2
          exact ⟨⟨k + 1, by omega, by go_num, hI2, hB2⟩, by simp [intOf]; omega⟩
        · have f1 := str_ne hxy
          have f2 : (x.toList != y.toList) = true := by rw [bne, f1]; rfl
          have hno : Hid (L ≠ M) := Lib.hid fun h => hxy (by
            subst h
            rw [← hx.out, ← hy.out])
          clear hxy
          go_wp2_with fail
          go_quiet (fail)
          have hB2 := Lib.hid (b_then hB.out (b_drewN wr nq))
          go_wp2
          go_ret
          exact ⟨.no hno.out, hB2.out⟩
      · have d0 : decide ((k : Int) < n) = false := decide_eq_false (by omega)
        have d1 : (n : Int) ≤ k := by omega
        have hyes : Hid (L = M) := Lib.hid (by have := hI.out; rwa [List.take_of_length_le (by rw [hn.out]; omega), List.take_of_length_le (by rw [hm.out]; omega)] at this)
        go_wp2
        go_ret
        exact ⟨.yes hyes.out, hB.out⟩
  · have e0 : ((n : Int) != m) = true := by simp; omega
    have e1 : ((n : Int) == m) = false := by simp; omega
    have hno : Hid (L ≠ M) := Lib.hid fun h => hnm (by rw [← hn.out, ← hm.out, h])
    clear hnm
    go_enter Tryz.func17, Tryz.ntmps17
    go_wp2
    go_ret
    exact ⟨.no hno.out, hB0.out⟩
end Go.Proofs.YtdmpkgdlelagjaaGreatDoor.Tr
