/-
  The document's own calls for layer 10: Sum and kids of a set, Look. Conditions: sets of at most 30000 ids.
-/
import Derived.Test.YtdmpkgdlelagjaaGreatDoorRows
import Derived.Test.YtdmpkgdlelagjaaGreatDoorTrRefA
namespace Go.Proofs.YtdmpkgdlelagjaaGreatDoor.Tr
open Go Go.RowKit
open Ident (by_ val dg digit has digits)
open Sh (b_alloc b_drew b_drewN b_next b_then Rises)

theorem ref_few (L : List ByteArray) (w : World) (hz : (jn L).length ≤ 1000000) :
    Calls Tryz.prog 41 #[.string (⟨#[108]⟩ ++ jt L)] w fun e w' => e = .returned (.string (few L)) ∧ Below w.heap.size w w' := by
  have h := Sha.RSum_calls (⟨#[108]⟩ ++ ⟨(jn L).toArray⟩) (by rw [lead_size]; omega) w
  rw [lead_list] at h
  exact h
theorem ref_many (L : List ByteArray) (w : World) (hz : (jn L).length ≤ 1000000) :
    Calls Tryz.prog 41 #[.string (⟨#[107]⟩ ++ jt L)] w fun e w' => e = .returned (.string (many L)) ∧ Below w.heap.size w w' := by
  have h := Sha.RSum_calls (⟨#[107]⟩ ++ ⟨(jn L).toArray⟩) (by rw [lead_size]; omega) w
  rw [lead_list] at h
  exact h
theorem part_own {L : List ByteArray} {p : ByteArray} (hL : below L p = L) (hp : p.size < 64) {d : Nat} (hd : d < 16) : below L (longer p d) = part L p.size d := by rw [below_longer hp hd, hL]
set_option maxRecDepth 100000 in
set_option maxHeartbeats 2000000 in
theorem Rkids_calls (a : Option Addr) (cap b off : Nat) (L : List ByteArray) (p : ByteArray) (w : World) (hT : TxAt w a b off L) (hn : L.length ≤ 30000) (hp : p.size < 64) (hL : below L p = L)
    (hih : ∀ (a : Option Addr) (cap b off d : Nat) (w : World), d < 16 → TxAt w a b off (part L p.size d) → Calls Tryz.prog 35 #[.slice a (part L p.size d).length cap, .string (longer p d)] w fun e w' => e = .returned (.string (kid p.size L d)) ∧ Below w.heap.size w w') :
    Calls Tryz.prog 36 #[.slice a L.length cap, .string p] w (Gives w (kids p.size L)) := by
  have hBe := Lib.hid fun (q : ByteArray) w' (hb : Below w.heap.size w w') => RBelow_calls a cap b off L q w' (hT.next hb) (by omega)
  replace hih := Lib.hid hih
  obtain ⟨n, hn'⟩ : ∃ n, Hid (L.length = n) := ⟨_, Lib.hid rfl⟩
  have hO0 : Hid (OwnT w.heap.size (w.alloc (.cells #[] 9)) (.slice (some ⟨w.heap.size, 0, none⟩) 0 0) ((List.range 0).map (kid p.size L))) := Lib.hid (OwnT.new w _ (Nat.le_refl _))
  have hB0 := Lib.hid (b_alloc w (.cells #[] 9))
  rw [hn'.out] at hn hBe ⊢
  replace hL := Lib.hid hL
  clear hT
  go_enter Tryz.func36, Tryz.ntmps36
  go_wp2
  go_loopw [5, 6] (fun v i wr => ∃ d : Nat, d ≤ 16 ∧ i = .int .i64 (d : Int) ∧ Hid (OwnT w.heap.size wr v ((List.range d).map (kid p.size L))) ∧ Hid (Below w.heap.size w wr)) (fun _ i _ => 16 - (intOf i).toNat)
  case atStart => exact ⟨0, by omega, rfl, hO0, hB0⟩
  case round =>
    clear hO0 hB0
    obtain ⟨d, hd, rfl, hO, hB⟩ := hrel
    by_cases hlt : d < 16
    · have l1 : (d : Int) < 16 := by omega
      have l2 : (0 : Int) ≤ d := by omega
      have hle := letter_at d hlt
      have hlo := longer_of p d
      have hBe1 := hBe.out (longer p d) wr hB.out
      rw [part_own hL.out hp hlt] at hBe1
      have hih1 := Lib.hid fun a cap b off w => hih.out a cap b off d w hlt
      obtain ⟨q2, hq2⟩ : ∃ q2, longer p d = q2 := ⟨_, rfl⟩
      rw [hq2] at hlo hBe1 hih1
      replace hBe1 := Lib.hid hBe1
      have hnx := Lib.hid (map_next p.size d L)
      have hl2 : ((List.range d).map (kid p.size L)).length ≤ 1099511627776 := by simp; omega
      have u2 : ((d : Int) + 1).toNat = d + 1 := by omega
      have u3 : (d : Int) + 1 ≤ 16 := by omega
      have u4 : (0 : Int) ≤ (d : Int) + 1 := by omega
      have u6 : (d : Int) ≤ (d : Int) + 1 := by omega
      have g1 : ¬ 9223372036854775807 < p.size + 1 := by omega
      have g2 : ¬ (9223372036854775807 : Int) < (p.size : Int) + 1 := by omega
      clear hq2
      go_wp2_with fail
      refine hBe1.out.mono ?_
      rintro e w2 ⟨v2, rfl, hO2, b2⟩
      obtain ⟨a2, c2, bb2, o2, rfl, hT2, -, -⟩ := hO2.at_
      have hS2 := Lib.hid (hih1.out a2 c2 bb2 o2 w2 hT2)
      have hBw2 := Lib.hid (b_then hB.out b2)
      have hOw2 := Lib.hid (hO.out.next b2)
      generalize (part L p.size d).length = m at *
      clear hBe1 hO2 hT2 b2 hle hlo u2 u3 u4 u6
      go_wp2_with fail
      refine hS2.out.mono ?_
      rintro e w3 ⟨rfl, b3⟩
      have hB3 := Lib.hid (b_then hBw2.out b3)
      have hO3 := Lib.hid (hOw2.out.next b3)
      clear hS2 b3
      go_wp2_with (at_builtin; refine wp_append_tx rfl _ _ rfl w.heap.size u5 ((List.range d).map (kid p.size L)) (kid p.size L d) rfl rfl hO3.out hB3.out.size hl2 ?_)
      intro v' w4 hO4 hB4
      have hO5 := Lib.hid hO4
      have hB5 := Lib.hid (hB4 _ hB3.out)
      rw [hnx.out] at hO5
      clear hO4 hB4
      go_wp2
      exact ⟨⟨d + 1, by omega, by go_num, hO5, hB5⟩, by simp [intOf]; omega⟩
    · obtain rfl : d = 16 := by omega
      have ld : decide (((16 : Nat) : Int) < 16) = false := by decide
      go_wp2
      go_ret
      exact ⟨_, rfl, hO.out, hB.out⟩
set_option maxHeartbeats 1000000 in
theorem RSum_few (a : Option Addr) (cap b off : Nat) (L : List ByteArray) (p : ByteArray) (w : World) (hT : TxAt w a b off L) (hs : IsSet L) (h8 : L.length ≤ 8) :
    Calls Tryz.prog 35 #[.slice a L.length cap, .string p] w fun e w' => e = .returned (.string (few L)) ∧ Below w.heap.size w w' := by
  have hz : (jn L).length ≤ 1000000 := by rw [jn_len hs.1]; omega
  have hJ := Lib.hid (Rjoined_calls a cap b off L w hT (by omega) hz)
  have hS := Lib.hid (ref_few L w hz)
  have hz1 : (jt L).size ≤ 1000000 := by rw [jt_size]; exact hz
  obtain ⟨n, hn'⟩ : ∃ n, Hid (L.length = n) := ⟨_, Lib.hid rfl⟩
  rw [hn'.out] at hJ h8 ⊢
  have l0 : (n : Int) ≤ 8 := by omega
  generalize jt L = X at *
  generalize few L = R at *
  have hX : ¬ (9223372036854775807 : Int) < (1 : Int) + X.size := by omega
  clear hT hz hs h8
  go_enter Tryz.func35, Tryz.ntmps35
  go_wp2_with fail
  refine hJ.out.mono ?_
  rintro e w1 ⟨rfl, rfl⟩
  go_wp2_with fail
  refine hS.out.mono ?_
  rintro e w2 ⟨rfl, b2⟩
  replace b2 := Lib.hid b2
  go_wp2
  go_ret
  exact ⟨rfl, b2.out⟩
set_option maxHeartbeats 1000000 in
theorem RSum_many (a : Option Addr) (cap : Nat) (L : List ByteArray) (p : ByteArray) (w : World) (h8 : ¬ L.length ≤ 8)
    (hk : Calls Tryz.prog 36 #[.slice a L.length cap, .string p] w (Gives w (kids p.size L))) :
    Calls Tryz.prog 35 #[.slice a L.length cap, .string p] w fun e w' => e = .returned (.string (many (kids p.size L))) ∧ Below w.heap.size w w' := by
  have hz : (jn (kids p.size L)).length ≤ 1000000 := by rw [jn_len kids_size, kids_length]; omega
  have hJ := Lib.hid fun (a : Option Addr) (cap b off : Nat) (w : World) (hT : TxAt w a b off (kids p.size L)) => Rjoined_calls a cap b off (kids p.size L) w hT (by rw [kids_length]; omega) hz
  have hS := Lib.hid fun w => ref_many (kids p.size L) w hz
  have hz1 : (jt (kids p.size L)).size ≤ 1000000 := by rw [jt_size]; exact hz
  obtain ⟨n, hn'⟩ : ∃ n, Hid (L.length = n) := ⟨_, Lib.hid rfl⟩
  rw [hn'.out] at h8 hk ⊢
  have l0 : ¬ (n : Int) ≤ 8 := by omega
  obtain ⟨X, hXe⟩ : ∃ X, Hid (jt (kids p.size L) = X) := ⟨_, Lib.hid rfl⟩
  rw [hXe.out] at hJ hS hz1
  generalize many (kids p.size L) = R at *
  have hX : ¬ (9223372036854775807 : Int) < (1 : Int) + X.size := by omega
  replace hk := Lib.hid hk
  clear hz h8
  go_enter Tryz.func35, Tryz.ntmps35
  go_wp2_with fail
  refine hk.out.mono ?_
  rintro e w1 ⟨v1, rfl, hO1, b1⟩
  obtain ⟨a1, c1, bb1, o1, rfl, hT1, -, -⟩ := hO1.at_
  have hJ1 := Lib.hid (hJ.out a1 c1 bb1 o1 w1 hT1)
  replace b1 := Lib.hid b1
  rw [kids_length] at hJ1 ⊢
  clear hO1 hT1 hJ hk
  go_wp2_with fail
  refine hJ1.out.mono ?_
  rintro e w2 ⟨rfl, rfl⟩
  clear hJ1
  go_wp2_with fail
  refine (hS.out _).mono ?_
  rintro e w2 ⟨rfl, b2⟩
  have b3 := Lib.hid (b_then b1.out b2)
  clear b1 b2
  go_wp2
  go_ret
  exact ⟨rfl, b3.out⟩
/-- the document's own sum of a set below a prefix -/
theorem RSum_calls : ∀ (f : Nat) (p : ByteArray), p.size + f = 64 → IsPre p → ∀ (a : Option Addr) (cap b off : Nat) (L : List ByteArray) (w : World), TxAt w a b off L → L.length ≤ 30000 → IsSet L → below L p = L →
    Calls Tryz.prog 35 #[.slice a L.length cap, .string p] w fun e w' => e = .returned (.string (sumAt p.size L)) ∧ Below w.heap.size w w' := by
  intro f
  induction f with
  | zero =>
    intro p hpf hp a cap b off L w hT hn hs hL
    have h8 : L.length ≤ 8 := by
      rcases Nat.lt_or_ge 8 L.length with g | g
      · have := alike_lt hs (hL ▸ alike_below) g; omega
      · exact g
    rw [sumAt_few h8]
    exact RSum_few a cap b off L p w hT hs h8
  | succ f ih =>
    intro p hpf hp a cap b off L w hT hn hs hL
    by_cases h8 : L.length ≤ 8
    · rw [sumAt_few h8]
      exact RSum_few a cap b off L p w hT hs h8
    · have hk : p.size < 64 := by omega
      rw [sumAt_many (by omega) hk]
      refine RSum_many a cap L p w h8 (Rkids_calls a cap b off L p w hT hn hk hL fun a cap b off d w hd hT => ?_)
      have e : kid p.size L d = sumAt (longer p d).size (part L p.size d) := by unfold kid; rw [longer_size]
      rw [e]
      exact ih (longer p d) (by rw [longer_size]; omega) (longer_pre hp hk hd) a cap b off (part L p.size d) w hT (Nat.le_trans (List.length_filter_le _ _) hn) (hs.filter _) (by rw [← part_own hL hk hd, below_below])
theorem Rkids_ok (a : Option Addr) (cap b off : Nat) (L : List ByteArray) (p : ByteArray) (w : World) (hT : TxAt w a b off L) (hn : L.length ≤ 30000) (hp : IsPre p) (hk : p.size < 64) (hs : IsSet L) (hL : below L p = L) :
    Calls Tryz.prog 36 #[.slice a L.length cap, .string p] w (Gives w (kids p.size L)) :=
  Rkids_calls a cap b off L p w hT hn hk hL fun a cap b off d w hd hT => by
    have e : kid p.size L d = sumAt (longer p d).size (part L p.size d) := by unfold kid; rw [longer_size]
    rw [e]
    exact RSum_calls (63 - p.size) (longer p d) (by rw [longer_size]; omega) (longer_pre hp hk hd) a cap b off (part L p.size d) w hT (Nat.le_trans (List.length_filter_le _ _) hn) (hs.filter _) (by rw [← part_own hL hk hd, below_below])
end Go.Proofs.YtdmpkgdlelagjaaGreatDoor.Tr
