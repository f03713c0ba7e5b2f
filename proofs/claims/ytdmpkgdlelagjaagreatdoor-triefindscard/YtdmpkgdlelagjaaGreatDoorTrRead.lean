/-
  trie's calls that only read or gather (isSet, isPrefix, below), and its digests (fewSum, manySum). Conditions: the digest's constants lie where the program lays them; lists of a length that the form's numbers bear.
-/
import Derived.Test.YtdmpkgdlelagjaaGreatDoorRows
import Derived.Test.YtdmpkgdlelagjaaGreatDoorTrOwn
import Derived.Test.YtdmpkgdlelagjaaGreatDoorIdFind
import Derived.WalkKit
import Derived.WalkSpells
import Derived.WalkLawsBesides
import Derived.ProofKit
import Derived.OpenShut
import Derived.Laws.BytesArg
import Derived.Laws.Externs
import Derived.Deep.QuietTactic
import Derived.BigQuiet
import Derived.BigRegion
import Derived.Lib.Hide
import Derived.IntWalk
import Derived.Test.YtdmpkgdlelagjaaGreatDoorTrShelf
namespace Go.Proofs.YtdmpkgdlelagjaaGreatDoor.Tr
open Go Go.RowKit
open Ident (by_ val dg digit has digits)
open Sh (b_alloc b_drew b_next b_then Rises)
open Oct (TextsAt)

theorem take_next {L : List ByteArray} {k : Nat} (h : k < L.length) : L.take (k + 1) = L.take k ++ [L[k]] := by rw [List.take_succ_eq_append_getElem h]
theorem set_no {L : List ByteArray} {k : Nat} (h : k < L.length) (hs : L[k].size ≠ 32) : ¬ IsSet L := fun g => hs (g.1 _ (List.getElem_mem h))
theorem set_down {L : List ByteArray} {m : Nat} (h : m + 1 < L.length) (hs : Op.bytesLess (L[m]'(by omega)).toList L[m + 1].toList = false) : ¬ IsSet L := fun g => by
  have := List.pairwise_iff_getElem.1 g.2 m (m + 1) (by omega) h (by omega)
  have e : Op.bytesLess (L[m]'(by omega)).toList L[m + 1].toList = true := this
  rw [hs] at e; cases e
theorem set_first {L : List ByteArray} (h : 0 < L.length) (hs : L[0].size = 32) : IsSet (L.take (0 + 1)) := by
  rw [take_next h, List.take_zero, List.nil_append]
  exact ⟨fun x hx => by simp only [List.mem_singleton] at hx; rw [hx]; exact hs, List.pairwise_singleton _ _⟩
theorem set_next {L : List ByteArray} {m : Nat} (h : m + 1 < L.length) (hI : IsSet (L.take (m + 1))) (hz : L[m + 1].size = 32) (hs : Op.bytesLess (L[m]'(by omega)).toList L[m + 1].toList = true) : IsSet (L.take (m + 1 + 1)) := by
  have hlt : Sh.Key.lt (L[m]'(by omega)) L[m + 1] = true := hs
  rw [take_next h]
  refine ⟨fun x hx => ?_, ?_⟩
  · rcases List.mem_append.1 hx with hx | hx
    · exact hI.1 x hx
    · simp only [List.mem_singleton] at hx; rw [hx]; exact hz
  · unfold Rises
    rw [List.pairwise_append]
    refine ⟨hI.2, List.pairwise_singleton _ _, fun x hx y hy => ?_⟩
    simp only [List.mem_singleton] at hy
    subst hy
    rw [take_next (by omega)] at hx
    rcases List.mem_append.1 hx with hx | hx
    · have hI2 := hI.2
      rw [take_next (by omega)] at hI2
      have := (List.pairwise_append.1 hI2).2.2 x hx (L[m]'(by omega)) (by simp)
      exact Sh.Key.tra _ _ _ this hlt
    · simp only [List.mem_singleton] at hx; rw [hx]; exact hlt
set_option maxHeartbeats 1000000 in
theorem isSet_calls (a : Option Addr) (cap b off : Nat) (L : List ByteArray) (w : World) (hT : TxAt w a b off L) (hlen : L.length ≤ 140737488351232) :
    Calls Tryz.prog 28 #[.slice a L.length cap] w fun e w' => (∃ z, e = .returned (.bool z) ∧ (z = true ↔ IsSet L)) ∧ w = w' := by
  replace hT := Lib.hid hT
  obtain ⟨n, hn⟩ : ∃ n, Hid (L.length = n) := ⟨_, Lib.hid rfl⟩
  rw [hn.out] at hlen ⊢
  go_enter Tryz.func28, Tryz.ntmps28
  go_wp2
  go_loopw [7] (fun i wr => ∃ k : Nat, k ≤ n ∧ i = .int .i64 k ∧ Hid (IsSet (L.take k)) ∧ w = wr) (fun i _ => n - (intOf i).toNat)
  case atStart => exact ⟨0, by omega, rfl, Lib.hid (by simpa using IsSet.nil), rfl⟩
  case round =>
    obtain ⟨k, hk, rfl, hI, rfl⟩ := hrel
    by_cases hlt : k < n
    · have i1 : (k : Int) < n := by omega
      have i0 : 0 ≤ (k : Int) := by omega
      have hkl : k < L.length := by rw [hn.out]; exact hlt
      have ha := hT.out.addr (by omega)
      subst ha
      have c0 := hT.out.cell k _ (List.getElem?_eq_getElem hkl)
      obtain ⟨x, hx⟩ : ∃ x, Hid (L[k] = x) := ⟨_, Lib.hid rfl⟩
      rw [hx.out] at c0
      by_cases hs : x.size = 32
      · have hs' : decide (x.size = 32) = true := decide_eq_true hs
        replace hs := Lib.hid hs
        go_wp2_with fail
        refine (Ident.Good_calls x w).mono ?_
        rintro e w' ⟨rfl, rfl⟩
        rw [hs']
        by_cases h0 : k = 0
        · have d0 : decide (0 < k) = false := decide_eq_false (by omega)
          have d1 : decide ((0 : Int) < k) = false := decide_eq_false (by omega)
          have hI2 : Hid (IsSet (L.take (k + 1))) := Lib.hid (by
            subst h0
            exact set_first hkl (by rw [hx.out]; exact hs.out))
          clear h0
          go_wp2_with fail
          exact ⟨⟨k + 1, by omega, by go_num, hI2, by trivial⟩, by simp [intOf]; omega⟩
        · obtain ⟨m, hm⟩ : ∃ m, k = m + 1 := ⟨k - 1, by omega⟩
          have p0 : (0 : Int) < k := by omega
          have p1 : (m : Int) < n := by omega
          have p2 : 0 ≤ (m : Int) := by omega
          have p3 : (k : Int) - 1 = m := by omega
          have c1 := hT.out.cell m _ (List.getElem?_eq_getElem (show m < L.length by omega))
          obtain ⟨y, hy⟩ : ∃ y, Hid (L[m]'(by omega) = y) := ⟨_, Lib.hid rfl⟩
          rw [hy.out] at c1
          cases hb : Op.bytesLess y.toList x.toList with
          | false =>
            have hno : Hid (¬ IsSet L) := Lib.hid (by
              subst hm
              exact set_down hkl (by rw [hy.out, hx.out]; exact hb))
            replace hm := Lib.hid hm
            go_wp2
            go_ret
            exact ⟨⟨false, rfl, by simp only [Bool.false_eq_true, false_iff]; exact hno.out⟩, rfl⟩
          | true =>
            have hI2 : Hid (IsSet (L.take (k + 1))) := Lib.hid (by
              subst hm
              exact set_next hkl hI.out (by rw [hx.out]; exact hs.out) (by rw [hy.out, hx.out]; exact hb))
            replace hm := Lib.hid hm
            go_wp2_with fail
            exact ⟨⟨k + 1, by omega, by go_num, hI2, by trivial⟩, by simp [intOf]; omega⟩
      · have hs' : decide (x.size = 32) = false := decide_eq_false hs
        have hno : Hid (¬ IsSet L) := Lib.hid (set_no hkl (by rw [hx.out]; exact hs))
        replace hs := Lib.hid hs
        go_wp2_with fail
        refine (Ident.Good_calls x w).mono ?_
        rintro e w' ⟨rfl, rfl⟩
        rw [hs']
        go_wp2
        go_ret
        exact ⟨⟨false, rfl, by simp only [Bool.false_eq_true, false_iff]; exact hno.out⟩, rfl⟩
    · have d0 : decide ((k : Int) < n) = false := decide_eq_false (by omega)
      have d1 : (n : Int) ≤ k := by omega
      have hyes : Hid (IsSet L) := Lib.hid (by have := hI.out; rwa [List.take_of_length_le (by rw [hn.out]; omega)] at this)
      go_wp2
      go_ret
      exact ⟨⟨true, rfl, by simp only [true_iff]; exact hyes.out⟩, rfl⟩
theorem isPrefix_calls (p : ByteArray) (w : World) (hp : p.size ≤ 140737488351232) :
    Calls Tryz.prog 29 #[.string p] w fun e w' => (∃ z, e = .returned (.bool z) ∧ (z = true ↔ IsPre p)) ∧ w = w' := by
  have hF := Lib.hid (Ident.Find_calls none 0 0 0 0 (fun _ => ByteArray.empty) p w ⟨fun h => absurd h (Nat.lt_irrefl _), fun i hi => by omega, fun i => Nat.zero_le _⟩ (by omega) hp)
  go_enter Tryz.func29, Tryz.ntmps29
  go_wp2_with fail
  refine hF.out.mono ?_
  rintro e w' ⟨⟨r, n, rfl, hI⟩, rfl⟩
  by_cases h : IsPre p
  · obtain ⟨rfl, rfl⟩ := hI.none h.1 h.2 fun j hj => absurd hj (Nat.not_lt_zero _)
    have h' := Lib.hid h
    clear hF h
    go_wp2
    go_ret
    exact ⟨⟨true, rfl, by simp only [true_iff]; exact h'.out⟩, rfl⟩
  · obtain ⟨rfl, rfl⟩ := hI.form h
    have h' := Lib.hid h
    clear hF h
    go_wp2
    go_ret
    exact ⟨⟨false, rfl, by simp only [Bool.false_eq_true, false_iff]; exact h'.out⟩, rfl⟩

/-- a list of the call's own handed back -/
def Gives (w : World) (L : List ByteArray) (e : Ending) (w' : World) : Prop := ∃ v, e = .returned v ∧ OwnT w.heap.size w' v L ∧ Below w.heap.size w w'
theorem below_snoc_yes {L : List ByteArray} {p x : ByteArray} {k : Nat} (h : k < L.length) (e : L[k] = x) (hh : has x p) : below (L.take k) p ++ [x] = below (L.take (k + 1)) p := by
  rw [take_next h, e]; unfold below; rw [List.filter_append, List.filter_cons_of_pos (by simpa using hh), List.filter_nil]
theorem below_snoc_no {L : List ByteArray} {p x : ByteArray} {k : Nat} (h : k < L.length) (e : L[k] = x) (hh : ¬ has x p) : below (L.take k) p = below (L.take (k + 1)) p := by
  rw [take_next h, e]; unfold below; rw [List.filter_append, List.filter_cons_of_neg (by simpa using hh), List.filter_nil, List.append_nil]
set_option maxHeartbeats 1000000 in
theorem below_calls (a : Option Addr) (cap b off : Nat) (L : List ByteArray) (p : ByteArray) (w : World) (hT : TxAt w a b off L) (hlen : L.length ≤ 1000000) :
    Calls Tryz.prog 30 #[.slice a L.length cap, .string p] w (Gives w (below L p)) := by
  replace hT := Lib.hid hT
  obtain ⟨n, hn⟩ : ∃ n, Hid (L.length = n) := ⟨_, Lib.hid rfl⟩
  have hO0 : Hid (OwnT w.heap.size w (.slice none 0 0) (below (L.take 0) p)) := Lib.hid (OwnT.nil _ _)
  have hB0 : Hid (Below w.heap.size w w) := Lib.hid (Below.refl _ _)
  rw [hn.out] at hlen ⊢
  go_enter Tryz.func30, Tryz.ntmps30
  go_wp2
  go_loopw [5, 10] (fun v i wr => ∃ k : Nat, k ≤ n ∧ i = .int .i64 k ∧ Hid (OwnT w.heap.size wr v (below (L.take k) p)) ∧ Hid (Below w.heap.size w wr)) (fun _ i _ => n - (intOf i).toNat)
  case atStart => exact ⟨0, by omega, rfl, hO0, hB0⟩
  case round =>
    clear hO0 hB0
    obtain ⟨k, hk, rfl, hO, hB⟩ := hrel
    by_cases hlt : k < n
    · have i1 : (k : Int) < n := by omega
      have i0 : 0 ≤ (k : Int) := by omega
      have hkl : k < L.length := by rw [hn.out]; exact hlt
      have ha := hT.out.addr (by omega)
      subst ha
      have c0 := (hT.out.next hB.out).cell k _ (List.getElem?_eq_getElem hkl)
      obtain ⟨x, hx⟩ : ∃ x, Hid (L[k] = x) := ⟨_, Lib.hid rfl⟩
      rw [hx.out] at c0
      go_wp2_with fail
      refine (Ident.Has_calls x p wr).mono ?_
      rintro e w' ⟨rfl, rfl⟩
      by_cases hh : has x p
      · have hh' : decide (has x p) = true := decide_eq_true hh
        have hs := Lib.hid (below_snoc_yes hkl hx.out hh)
        have hl2 : (below (L.take k) p).length ≤ 1099511627776 := Nat.le_trans (List.length_filter_le _ _) (by rw [List.length_take]; omega)
        replace hh := Lib.hid hh
        rw [hh']
        go_wp2_with (at_builtin; refine wp_append_tx rfl _ _ rfl w.heap.size u5 (below (L.take k) p) x rfl rfl hO.out hB.out.size hl2 ?_)
        intro v' w2 hO2 hB2
        have hO3 := Lib.hid hO2
        have hB3 := Lib.hid (hB2 _ hB.out)
        rw [hs.out] at hO3
        clear hO2 hB2
        go_wp2
        exact ⟨⟨k + 1, by omega, by go_num, hO3, hB3⟩, by simp [intOf]; omega⟩
      · have hh' : decide (has x p) = false := decide_eq_false hh
        have hs := Lib.hid (below_snoc_no hkl hx.out hh)
        have hO3 : Hid (OwnT w.heap.size wr u5 (below (L.take (k + 1)) p)) := by rw [← hs.out]; exact hO
        replace hh := Lib.hid hh
        rw [hh']
        go_wp2_with fail
        exact ⟨⟨k + 1, by omega, by go_num, hO3, hB⟩, by simp [intOf]; omega⟩
    · have d0 : decide ((k : Int) < n) = false := decide_eq_false (by omega)
      have d1 : (n : Int) ≤ k := by omega
      have hO3 : Hid (OwnT w.heap.size wr u5 (below L p)) := Lib.hid (by have := hO.out; rwa [List.take_of_length_le (by rw [hn.out]; omega)] at this)
      go_wp2
      go_ret
      exact ⟨_, rfl, hO3.out, hB.out⟩
theorem join_none : ∀ L : List ByteArray, Lib.join (L.map (·.data.toList)) [] = jn L
  | [] => rfl
  | [x] => by simp [Lib.join, jn, List.intercalate]
  | x :: y :: l => by
    have := join_none (y :: l)
    simp only [Lib.join, jn, List.intercalate] at this ⊢
    simp at this ⊢
    exact this
theorem jn_len {L : List ByteArray} (h : ∀ x ∈ L, x.size = 32) : (jn L).length = 32 * L.length := by
  induction L with
  | nil => rfl
  | cons x r ih =>
    have e := ih fun y hy => h y (by simp [hy])
    have hx := h x (by simp)
    have := Ident.size_list x
    unfold jn at *
    rw [List.flatMap_cons, List.length_append, e, List.length_cons]
    omega
theorem Join_calls (a : Option Addr) (cap b off : Nat) (L : List ByteArray) (w : World) (hT : TxAt w a b off L) (hcap : L.length ≤ cap) (hn : L.length ≤ 1000000) (hz : (jn L).length ≤ 1000000) :
    Calls Tryz.prog 69 #[.slice a L.length cap, .string ⟨#[]⟩] w fun e w' => e = .returned (.string ⟨(jn L).toArray⟩) ∧ Below w.heap.size w w' := by
  by_cases h0 : L.length = 0
  · obtain rfl : L = [] := List.length_eq_zero_iff.1 h0
    refine (Any.strings_Join_none Tryz.lays156 Tryz.Builder_Extra_156 a cap ⟨#[]⟩ w).mono ?_
    rintro e w' ⟨rfl, rfl⟩
    exact ⟨rfl, Below.refl _ _⟩
  · rw [hT.addr (by omega)]
    have h := Any.strings_Join Tryz.lays156 Tryz.Builder_Extra_156 b off cap L ⟨#[]⟩ w hT.cell (hT.where_ (by omega)) (by omega) hcap (by rw [show (⟨#[]⟩ : ByteArray).data.toList = [] from rfl, join_none]; omega)
    rw [show (⟨#[]⟩ : ByteArray).data.toList = [] from rfl, join_none] at h
    exact h
theorem lead_list (c : UInt8) (l : List UInt8) : ((⟨#[c]⟩ : ByteArray) ++ ⟨l.toArray⟩).data.toList = c :: l := by
  rw [ByteArray.data_append, Array.toList_append]; rfl
theorem lead_size (c : UInt8) (l : List UInt8) : ((⟨#[c]⟩ : ByteArray) ++ ⟨l.toArray⟩).size = l.length + 1 := by
  rw [Ident.size_list, lead_list, List.length_cons]
theorem sum_few (L : List ByteArray) (w : World) (hk : Sha.Kc w) (hz : (jn L).length ≤ 1000000) :
    Calls Tryz.prog 22 #[.string (⟨#[108]⟩ ++ ⟨(jn L).toArray⟩)] w fun e w' => e = .returned (.string (few L)) ∧ Below w.heap.size w w' := by
  have h := Sha.Sum_calls (⟨#[108]⟩ ++ ⟨(jn L).toArray⟩) w hk (by rw [lead_size]; omega)
  rw [lead_list] at h
  exact h
theorem sum_many (L : List ByteArray) (w : World) (hk : Sha.Kc w) (hz : (jn L).length ≤ 1000000) :
    Calls Tryz.prog 22 #[.string (⟨#[107]⟩ ++ ⟨(jn L).toArray⟩)] w fun e w' => e = .returned (.string (many L)) ∧ Below w.heap.size w w' := by
  have h := Sha.Sum_calls (⟨#[107]⟩ ++ ⟨(jn L).toArray⟩) w hk (by rw [lead_size]; omega)
  rw [lead_list] at h
  exact h
theorem fewSum_calls (a : Option Addr) (cap b off : Nat) (L : List ByteArray) (w : World) (hT : TxAt w a b off L) (hcap : L.length ≤ cap) (hk : Sha.Kc w) (hn : L.length ≤ 1000000) (hz : (jn L).length ≤ 1000000) :
    Calls Tryz.prog 38 #[.slice a L.length cap] w fun e w' => e = .returned (.string (few L)) ∧ Below w.heap.size w w' := by
  have hJ := Lib.hid (Join_calls a cap b off L w hT hcap hn hz)
  have hS := Lib.hid fun w' (hb : Below w.heap.size w w') => sum_few L w' (kc_below hk hb) hz
  have hz1 : (⟨(jn L).toArray⟩ : ByteArray).size ≤ 1000000 := by rw [Ident.size_list]; exact hz
  obtain ⟨n, hn'⟩ : ∃ n, Hid (L.length = n) := ⟨_, Lib.hid rfl⟩
  rw [hn'.out] at hJ ⊢
  generalize (⟨(jn L).toArray⟩ : ByteArray) = X at *
  generalize few L = R at *
  have hX : ¬ (9223372036854775807 : Int) < (1 : Int) + X.size := by omega
  clear hT hcap hn hz
  go_enter Tryz.func38, Tryz.ntmps38
  go_wp2_with fail
  refine hJ.out.mono ?_
  rintro e w1 ⟨rfl, b1⟩
  replace b1 := Lib.hid b1
  go_wp2_with fail
  refine (hS.out w1 b1.out).mono ?_
  rintro e w2 ⟨rfl, b2⟩
  have b3 := Lib.hid (b_then b1.out b2)
  clear b1 b2
  go_wp2
  go_ret
  exact ⟨rfl, b3.out⟩
theorem manySum_calls (a : Option Addr) (cap b off : Nat) (L : List ByteArray) (w : World) (hT : TxAt w a b off L) (hcap : L.length ≤ cap) (hk : Sha.Kc w) (hn : L.length ≤ 1000000) (hz : (jn L).length ≤ 1000000) :
    Calls Tryz.prog 40 #[.slice a L.length cap] w fun e w' => e = .returned (.string (many L)) ∧ Below w.heap.size w w' := by
  have hJ := Lib.hid (Join_calls a cap b off L w hT hcap hn hz)
  have hS := Lib.hid fun w' (hb : Below w.heap.size w w') => sum_many L w' (kc_below hk hb) hz
  have hz1 : (⟨(jn L).toArray⟩ : ByteArray).size ≤ 1000000 := by rw [Ident.size_list]; exact hz
  obtain ⟨n, hn'⟩ : ∃ n, Hid (L.length = n) := ⟨_, Lib.hid rfl⟩
  rw [hn'.out] at hJ ⊢
  generalize (⟨(jn L).toArray⟩ : ByteArray) = X at *
  generalize many L = R at *
  have hX : ¬ (9223372036854775807 : Int) < (1 : Int) + X.size := by omega
  clear hT hcap hn hz
  go_enter Tryz.func40, Tryz.ntmps40
  go_wp2_with fail
  refine hJ.out.mono ?_
  rintro e w1 ⟨rfl, b1⟩
  replace b1 := Lib.hid b1
  go_wp2_with fail
  refine (hS.out w1 b1.out).mono ?_
  rintro e w2 ⟨rfl, b2⟩
  have b3 := Lib.hid (b_then b1.out b2)
  clear b1 b2
  go_wp2
  go_ret
  exact ⟨rfl, b3.out⟩
end Go.Proofs.YtdmpkgdlelagjaaGreatDoor.Tr
