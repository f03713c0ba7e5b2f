/-
  Whether two sets have the same ids below a prefix (the statements' own alike), over the shelf's sets. Conditions: lists are not too long.
-/
import Derived.Test.YtdmpkgdlelagjaaGreatDoorRows
import Derived.Test.YtdmpkgdlelagjaaGreatDoorTrAwake
import Derived.Test.YtdmpkgdlelagjaaGreatDoorShWithin
namespace Go.Proofs.YtdmpkgdlelagjaaGreatDoor.Tr
open Go Go.RowKit
open Ident (by_ val dg digit has digits)
open Sh (b_alloc b_drew b_drewN b_next b_then Rises)
open Ts (SetAt)

/-- a set stays when another one is turned -/
theorem set_other {w w' : World} {x y : Nat} {L M N : List ByteArray} (h : SetAt w (some ⟨x, 0, none⟩) L) (hy : SetAt w (some ⟨y, 0, none⟩) M) (hne : x ≠ y) (ht : Ts.Turns w 107 y N w') : SetAt w' (some ⟨x, 0, none⟩) L := by
  rcases hy with ⟨e, _⟩ | ⟨y', py, Ty, e, gy, _, _⟩
  · cases e
  · obtain rfl : y = y' := by simpa using e
    rcases h with ⟨e, _⟩ | ⟨x', px, Tx, e, gx, hx, hf⟩
    · cases e
    · obtain rfl : x = x' := by simpa using e
      refine Or.inr ⟨x, px, Tx, rfl, ?_, hx.kept fun k c z hk => ?_, hf⟩
      · exact (ht.2.block x gx.lt fun e => hne (by simpa using e)).trans gx
      · refine (ht.2.block k (Array.getElem?_eq_some_iff.1 hk).1 fun e => ?_).trans hk
        obtain rfl : k = y := by simpa using e
        have h2 : w.heap[k]? = some (.cells #[.pointer py] 107 (0, 0)) := gy
        rw [hk] at h2
        simp at h2
theorem all_within {A B : List ByteArray} : (A.all fun x => Sh.has x B) = true ↔ ∀ x ∈ A, x ∈ B := by
  rw [List.all_eq_true]
  exact ⟨fun h x hx => has_mem.1 (h x hx), fun h x hx => has_mem.2 (h x hx)⟩
/-- the ids below a prefix, as a set -/
def bel (L : List ByteArray) (p : ByteArray) : List ByteArray := srt (below L p)
theorem bel_yes {L : List ByteArray} {p x : ByteArray} {k : Nat} (h : k < L.length) (e : L[k] = x) (hh : has x p) : Sh.ins x (bel (L.take k) p) = bel (L.take (k + 1)) p := by
  unfold bel; rw [← below_snoc_yes h e hh, srt_snoc]
theorem bel_no {L : List ByteArray} {p x : ByteArray} {k : Nat} (h : k < L.length) (e : L[k] = x) (hh : ¬ has x p) : bel (L.take k) p = bel (L.take (k + 1)) p := by
  unfold bel; rw [← below_snoc_no h e hh]
theorem bel_rises (L : List ByteArray) (p : ByteArray) : Rises (bel L p) := srt_rises _
theorem bel_len (L : List ByteArray) (p : ByteArray) : (bel L p).length ≤ L.length := Nat.le_trans (srt_len _) (List.length_filter_le _ _)
theorem mem_bel {L : List ByteArray} {p x : ByteArray} : x ∈ bel L p ↔ x ∈ below L p := mem_srt _ _
theorem same_iff (A B : List ByteArray) (p : ByteArray) : ((bel A p).all fun x => Sh.has x (bel B p)) = true ∧ ((bel B p).all fun x => Sh.has x (bel A p)) = true ↔ Same A B p := by
  rw [all_within, all_within]
  unfold Same
  constructor
  · rintro ⟨h1, h2⟩ x
    rw [← mem_bel, ← mem_bel]
    exact ⟨h1 x, h2 x⟩
  · intro h
    exact ⟨fun x hx => mem_bel.2 ((h x).1 (mem_bel.1 hx)), fun x hx => mem_bel.2 ((h x).2 (mem_bel.1 hx))⟩
set_option maxRecDepth 100000 in
set_option maxHeartbeats 4000000 in
theorem alike_calls (a : Option Addr) (cap b off : Nat) (A : List ByteArray) (a2 : Option Addr) (cap2 b2 off2 : Nat) (B : List ByteArray) (p : ByteArray) (w : World) (hT : TxAt w a b off A) (hT2 : TxAt w a2 b2 off2 B) (hA : A.length ≤ 100000) (hB : B.length ≤ 100000) :
    Calls Tryz.prog 20 #[.slice a A.length cap, .slice a2 B.length cap2, .string p] w fun e w' => Tells e (Same A B p) ∧ Below w.heap.size w w' := by
  have hO := Lib.hid fun w' => Of_nil w'
  have hiff := Lib.hid (same_iff A B p)
  replace hT := Lib.hid hT
  replace hT2 := Lib.hid hT2
  obtain ⟨n, hn⟩ : ∃ n, Hid (A.length = n) := ⟨_, Lib.hid rfl⟩
  obtain ⟨m, hm⟩ : ∃ m, Hid (B.length = m) := ⟨_, Lib.hid rfl⟩
  rw [hn.out] at hA ⊢
  rw [hm.out] at hB ⊢
  go_enter Tryz.func20, Tryz.ntmps20
  go_wp2_with fail
  refine (hO.out _).mono ?_
  rintro e w1 ⟨x, rfl, hx, hS1, c1⟩
  replace hS1 := Lib.hid hS1
  replace hx := Lib.hid hx
  replace c1 := Lib.hid c1
  go_wp2_with fail
  refine (hO.out _).mono ?_
  rintro e w2 ⟨y, rfl, hy, hS2, c2⟩
  have hlx : x < w1.heap.size := by
    rcases hS1.out with ⟨e, _⟩ | ⟨x', px, Tx, e, gx, _⟩
    · cases e
    · obtain rfl : x = x' := by simpa using e
      exact gx.lt
  have hxy : Hid (x ≠ y ∧ w.heap.size ≤ y) := Lib.hid ⟨by omega, Nat.le_trans c1.out.size hy⟩
  have hB2 := Lib.hid (b_then c1.out c2)
  have hX2 : Hid (SetAt w2 (some ⟨x, 0, none⟩) (bel (A.take 0) p)) := Lib.hid (hS1.out.next c2)
  have hY2 : Hid (SetAt w2 (some ⟨y, 0, none⟩) (bel (B.take 0) p)) := Lib.hid hS2
  clear hS1 hS2 c1 c2 hO hlx hy
  go_wp2
  go_loopw [9] (fun i wr => ∃ k : Nat, k ≤ n ∧ i = .int .i64 (k : Int) ∧ Hid (SetAt wr (some ⟨x, 0, none⟩) (bel (A.take k) p)) ∧ Hid (SetAt wr (some ⟨y, 0, none⟩) (bel (B.take 0) p)) ∧ Hid (Below w.heap.size w wr)) (fun i _ => n - (intOf i).toNat)
  case atStart => exact ⟨0, by omega, rfl, hX2, hY2, hB2⟩
  case round =>
    clear hX2 hY2 hB2
    obtain ⟨k, hk, rfl, hX, hY, hBr⟩ := hrel
    by_cases hlt : k < n
    · have i1 : (k : Int) < n := by omega
      have i0 : 0 ≤ (k : Int) := by omega
      have hkl : k < A.length := by rw [hn.out]; exact hlt
      have ha := hT.out.addr (by omega)
      subst ha
      have c0 := (hT.out.next hBr.out).cell k _ (List.getElem?_eq_getElem hkl)
      obtain ⟨s, hs⟩ : ∃ s, Hid (A[k] = s) := ⟨_, Lib.hid rfl⟩
      rw [hs.out] at c0
      go_wp2_with fail
      refine (Ident.Has_calls s p wr).mono ?_
      rintro e w' ⟨rfl, rfl⟩
      by_cases hh : has s p
      · have hh' : decide (has s p) = true := decide_eq_true hh
        have hnx := Lib.hid (bel_yes hkl hs.out hh)
        have hle := bel_len (A.take k) p
        rw [List.length_take] at hle
        have hAdd := Lib.hid (Ts.Add_calls wr x (bel (A.take k) p) s hX.out (bel_rises _ _) (by omega))
        replace hh := Lib.hid hh
        rw [hh']
        clear hle
        go_wp2_with fail
        refine hAdd.out.mono ?_
        rintro e w3 ⟨rfl, hT3⟩
        have hX3 : Hid (SetAt w3 (some ⟨x, 0, none⟩) (bel (A.take (k + 1)) p)) := Lib.hid (by rw [← hnx.out]; exact hT3.1)
        have hY3 := Lib.hid (set_other hY.out hX.out hxy.out.1.symm hT3)
        have hB3 := Lib.hid (turns_below hT3 hBr.out hx.out)
        clear hAdd hT3
        go_wp2
        exact ⟨⟨k + 1, by omega, by go_num, hX3, hY3, hB3⟩, by simp [intOf]; omega⟩
      · have hh' : decide (has s p) = false := decide_eq_false hh
        have hX3 : Hid (SetAt wr (some ⟨x, 0, none⟩) (bel (A.take (k + 1)) p)) := by rw [← bel_no hkl hs.out hh]; exact hX
        replace hh := Lib.hid hh
        rw [hh']
        go_wp2_with fail
        exact ⟨⟨k + 1, by omega, by go_num, hX3, hY, hBr⟩, by simp [intOf]; omega⟩
    · have d0 : decide ((k : Int) < n) = false := decide_eq_false (by omega)
      have d1 : (n : Int) ≤ k := by omega
      have hXa : Hid (SetAt wr (some ⟨x, 0, none⟩) (bel A p)) := Lib.hid (by have := hX.out; rwa [List.take_of_length_le (by rw [hn.out]; omega)] at this)
      clear hX hk
      go_wp2
      go_loopw [10] (fun i wr => ∃ k : Nat, k ≤ m ∧ i = .int .i64 (k : Int) ∧ Hid (SetAt wr (some ⟨x, 0, none⟩) (bel A p)) ∧ Hid (SetAt wr (some ⟨y, 0, none⟩) (bel (B.take k) p)) ∧ Hid (Below w.heap.size w wr)) (fun i _ => m - (intOf i).toNat)
      case atStart => exact ⟨0, by omega, rfl, hXa, hY, hBr⟩
      case round =>
        clear hXa hY hBr hlt d0 d1
        obtain ⟨k, hk, rfl, hX, hY, hBr⟩ := hrel
        by_cases hlt : k < m
        · have i1 : (k : Int) < m := by omega
          have i0 : 0 ≤ (k : Int) := by omega
          have hkl : k < B.length := by rw [hm.out]; exact hlt
          have ha := hT2.out.addr (by omega)
          subst ha
          have c0 := (hT2.out.next hBr.out).cell k _ (List.getElem?_eq_getElem hkl)
          obtain ⟨s, hs⟩ : ∃ s, Hid (B[k] = s) := ⟨_, Lib.hid rfl⟩
          rw [hs.out] at c0
          go_wp2_with fail
          refine (Ident.Has_calls s p wr).mono ?_
          rintro e w' ⟨rfl, rfl⟩
          by_cases hh : has s p
          · have hh' : decide (has s p) = true := decide_eq_true hh
            have hnx := Lib.hid (bel_yes hkl hs.out hh)
            have hle := bel_len (B.take k) p
            rw [List.length_take] at hle
            have hAdd := Lib.hid (Ts.Add_calls wr y (bel (B.take k) p) s hY.out (bel_rises _ _) (by omega))
            replace hh := Lib.hid hh
            rw [hh']
            clear hle
            go_wp2_with fail
            refine hAdd.out.mono ?_
            rintro e w3 ⟨rfl, hT3⟩
            have hY3 : Hid (SetAt w3 (some ⟨y, 0, none⟩) (bel (B.take (k + 1)) p)) := Lib.hid (by rw [← hnx.out]; exact hT3.1)
            have hX3 := Lib.hid (set_other hX.out hY.out hxy.out.1 hT3)
            have hB3 := Lib.hid (turns_below hT3 hBr.out hxy.out.2)
            clear hAdd hT3
            go_wp2
            exact ⟨⟨k + 1, by omega, by go_num, hX3, hY3, hB3⟩, by simp [intOf]; omega⟩
          · have hh' : decide (has s p) = false := decide_eq_false hh
            have hY3 : Hid (SetAt wr (some ⟨y, 0, none⟩) (bel (B.take (k + 1)) p)) := by rw [← bel_no hkl hs.out hh]; exact hY
            replace hh := Lib.hid hh
            rw [hh']
            go_wp2_with fail
            exact ⟨⟨k + 1, by omega, by go_num, hX, hY3, hBr⟩, by simp [intOf]; omega⟩
        · have d0 : decide ((k : Int) < m) = false := decide_eq_false (by omega)
          have d1 : (m : Int) ≤ k := by omega
          have hYb : Hid (SetAt wr (some ⟨y, 0, none⟩) (bel B p)) := Lib.hid (by have := hY.out; rwa [List.take_of_length_le (by rw [hm.out]; omega)] at this)
          have hW1 := Lib.hid (Ts.Within_calls wr _ _ _ _ hX.out hYb.out (bel_rises _ _))
          have hW2 := Lib.hid fun w' (hb : Below wr.heap.size wr w') => Ts.Within_calls w' _ _ _ _ (hYb.out.next hb) (hX.out.next hb) (bel_rises _ _)
          obtain ⟨z1, hz1⟩ : ∃ z, ((bel A p).all fun x => Sh.has x (bel B p)) = z := ⟨_, rfl⟩
          obtain ⟨z2, hz2⟩ : ∃ z, ((bel B p).all fun x => Sh.has x (bel A p)) = z := ⟨_, rfl⟩
          rw [hz1, hz2] at hiff
          rw [hz1] at hW1
          rw [hz2] at hW2
          clear hz1 hz2 hX hY hYb
          go_wp2_with fail
          refine hW1.out.mono ?_
          rintro e w3 ⟨rfl, c3⟩
          have hB3 := Lib.hid (b_then hBr.out c3)
          have hW3 := Lib.hid (hW2.out w3 c3)
          clear hW1 hW2 c3
          cases z1 with
          | true =>
            have hE : Hid (Tells (.returned (.bool z2)) (Same A B p)) := Lib.hid ⟨z2, rfl, by rw [← hiff.out]; simp⟩
            clear hiff
            go_wp2_with fail
            refine hW3.out.mono ?_
            rintro e w4 ⟨rfl, c4⟩
            have hB4 := Lib.hid (b_then hB3.out c4)
            clear c4 hW3
            go_wp2
            go_ret
            exact ⟨hE.out, hB4.out⟩
          | false =>
            have hE : Hid (Tells (.returned (.bool false)) (Same A B p)) := Lib.hid ⟨false, rfl, by rw [← hiff.out]; simp⟩
            clear hiff hW3
            go_wp2
            go_ret
            exact ⟨hE.out, hB3.out⟩
end Go.Proofs.YtdmpkgdlelagjaaGreatDoor.Tr
