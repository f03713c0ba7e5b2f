/-
  What the reader of the document's own answers for layer 1 does, over the same plain functions as the program's reader: called with any arguments, in memory in which it lies and may be written. Conditions: the bytes are within the form's own reach.
-/
import Derived.Test.YtliojhhiadfmiaaDoorOctCalls
import Derived.Test.YtliojhhiadfmiaaDoorOctKit
namespace Go.Proofs.YtliojhhiadfmiaaDoor.Oct
open Go.RowKit

/-- at block b lies the document's reader of S, which stands as q does -/
structure RR (w : World) (b : Nat) (S : ByteArray) (q : St) : Prop where
  c0 : w.cell? ⟨b, 0, none⟩ = some (.string S)
  c1 : ∃ k : Int, w.cell? ⟨b, 1, none⟩ = some (.int .i64 k) ∧ (q.bad = false → 0 ≤ k ∧ k ≤ S.size ∧ q.rest = S.extract k.toNat S.size)
  c2 : w.cell? ⟨b, 2, none⟩ = some (.bool q.bad)
  f1 : w.frozen? ⟨b, 1, none⟩ = false
  f2 : w.frozen? ⟨b, 2, none⟩ = false
theorem RR.only {w w' : World} {b b' : Nat} {S : ByteArray} {q : St} (h : RR w b S q) (ho : Only b' w w') (hb : b ≠ b') : RR w' b S q := by
  obtain ⟨c0, ⟨k, c1, hk⟩, c2, f1, f2⟩ := h
  exact ⟨(ho.cell hb).trans c0, ⟨k, (ho.cell hb).trans c1, hk⟩, (ho.cell hb).trans c2, (ho.frozen hb).trans f1, (ho.frozen hb).trans f2⟩
theorem RR.drewN {w : World} {b : Nat} {S : ByteArray} {q : St} (h : RR w b S q) (n : Nat) : RR (w.drewN n) b S q := ⟨h.c0, h.c1, h.c2, h.f1, h.f2⟩
theorem RR.drew {w : World} {b : Nat} {S : ByteArray} {q : St} (h : RR w b S q) : RR w.drew b S q := ⟨h.c0, h.c1, h.c2, h.f1, h.f2⟩
theorem RR.spoil {w : World} {b : Nat} {S : ByteArray} {q q' : St} (h : RR w b S q) (hq : q'.bad = true) : RR (w.setCell ⟨b, 2, none⟩ (.bool true)) b S q' := by
  obtain ⟨c0, ⟨k, c1, hk⟩, c2, f1, f2⟩ := h
  exact ⟨by simp [go_sem, c0], ⟨k, by simp [go_sem, c1], fun h => by rw [hq] at h; cases h⟩, by simp [go_sem, c2, hq], by simp [go_sem, f1], by simp [go_sem, f2]⟩
theorem RR.move {w : World} {b : Nat} {S : ByteArray} {q q' : St} (h : RR w b S q) (k : Int) (hq : q'.bad = q.bad) (hk : 0 ≤ k ∧ k ≤ S.size ∧ q'.rest = S.extract k.toNat S.size) : RR (w.setCell ⟨b, 1, none⟩ (.int .i64 k)) b S q' := by
  obtain ⟨c0, ⟨k', c1, hk'⟩, c2, f1, f2⟩ := h
  exact ⟨by simp [go_sem, c0], ⟨k, by simp [go_sem, c1], fun _ => hk⟩, by simp [go_sem, c2, hq], by simp [go_sem, f1], by simp [go_sem, f2]⟩

theorem RefNew_calls (s : ByteArray) (w : World) :
    Calls Tryd.prog 63 #[.string s] w fun e w' => e = .returned (.pointer (some ⟨w.heap.size, 0, none⟩)) ∧ w.alloc (.cells #[.string s, .int .i64 0, .bool false] 115) = w' := by
  go_enter Tryd.func63, Tryd.ntmps63
  go_wp2
  go_ret
  exact ⟨rfl, rfl⟩
theorem RR.new (s : ByteArray) (w : World) : RR (w.alloc (.cells #[.string s, .int .i64 0, .bool false] 115)) w.heap.size s ⟨s, false⟩ := by
  refine ⟨by simp [go_sem], ⟨0, by simp [go_sem], fun _ => ⟨by omega, by omega, ?_⟩⟩, by simp [go_sem], by simp [go_sem], by simp [go_sem]⟩
  apply ext_toList
  rw [extract_toList]
  show s.data.toList = _
  rw [List.take_of_length_le]
  · rfl
  · rw [List.length_drop, size_toList]; omega

theorem extract_extract0 (S : ByteArray) (k n : Nat) (h : k + n ≤ S.size) : (S.extract k S.size).extract 0 n = S.extract k (k + n) := by
  apply ext_toList
  rw [extract_toList, extract_toList, extract_toList, List.drop_zero, List.take_take]
  congr 1
  omega
theorem extract_extract1 (S : ByteArray) (k n : Nat) (h : k + n ≤ S.size) : (S.extract k S.size).extract n (S.extract k S.size).size = S.extract (k + n) S.size := by
  apply ext_toList
  rw [extract_size _ _ _ (Nat.le_refl _), extract_toList, extract_toList, extract_toList, List.drop_take, List.drop_drop, List.take_take]
  congr 1
  omega

set_option maxHeartbeats 1000000 in
theorem RefTake_calls (b : Nat) (n : Int) (S : ByteArray) (q : St) (w : World) (hS : S.size ≤ 140737488351232) (h : RR w b S q) :
    Calls Tryd.prog 81 #[.pointer (some ⟨b, 0, none⟩), .int .i64 n] w fun e w' => e = .returned (.string (take q n).1) ∧ RR w' b S (take q n).2 ∧ Only b w w' := by
  obtain ⟨s, x⟩ := q
  have h' := h
  obtain ⟨c0, ⟨k, c1, hk⟩, c2, f1, f2⟩ := h
  cases x
  · obtain ⟨k0, k1, k2⟩ := hk rfl
    clear hk
    have k2 : s = S.extract k.toNat S.size := k2
    have hsz : s.size = S.size - k.toNat := by rw [k2, extract_size _ _ _ (Nat.le_refl _)]
    by_cases hn : n < 0
    · have e := Lib.hid (take_over ⟨s, false⟩ n rfl (Or.inl hn))
      have d1 : decide (n < 0) = true := by simpa using hn
      clear k2 hsz
      go_enter Tryd.func81, Tryd.ntmps81
      go_wp2_with fail
      go_quiet (fail)
      go_wp2
      go_ret
      rw [e.out]
      exact ⟨rfl, (h'.drewN _).spoil rfl, (Only.drewN _ _ _).trans (Only.setCell _ _ _ _)⟩
    · have d1 : decide (n < 0) = false := by simpa using hn
      by_cases hm : (S.size : Int) - k < n
      · have e := Lib.hid (take_over ⟨s, false⟩ n rfl (Or.inr (by show (s.size : Int) < n; omega)))
        have d2 : decide ((S.size : Int) - k < n) = true := by simpa using hm
        clear k2 hsz
        go_enter Tryd.func81, Tryd.ntmps81
        go_wp2_with fail
        go_quiet (fail)
        go_wp2
        go_ret
        rw [e.out]
        exact ⟨rfl, (h'.drewN _).spoil rfl, (Only.drewN _ _ _).trans (Only.setCell _ _ _ _)⟩
      · have e := Lib.hid (take_ok ⟨s, false⟩ n rfl (by omega) (by show n ≤ s.size; omega))
        have d2 : decide ((S.size : Int) - k < n) = false := by simpa using hm
        have x0 := Lib.hid (extract_extract0 S k.toNat n.toNat (by omega))
        have x1 := Lib.hid (extract_extract1 S k.toNat n.toNat (by omega))
        have k2' := Lib.hid k2
        clear k2 hsz
        have n0 : 0 ≤ n := by omega
        go_enter Tryd.func81, Tryd.ntmps81
        go_wp2_with fail
        go_quiet (fail)
        go_wp2_with fail
        go_quiet (fail)
        go_wp2
        go_ret
        rw [e.out]
        have hkn : (k + n).toNat = k.toNat + n.toNat := by omega
        refine ⟨?_, (h'.drewN _).move (k + n) rfl ⟨by omega, by omega, ?_⟩, (Only.drewN _ _ _).trans (Only.setCell _ _ _ _)⟩
        · have y : S.extract k.toNat (k + n).toNat = s.extract 0 n.toNat := by rw [k2'.out, x0.out, hkn]
          exact congrArg (fun z => Ending.returned (Value.string z)) y
        · show s.extract n.toNat s.size = _
          rw [k2'.out, x1.out, hkn]
  · have e := Lib.hid (take_bad ⟨s, true⟩ n rfl)
    go_enter Tryd.func81, Tryd.ntmps81
    go_wp2_with fail
    go_quiet (fail)
    go_wp2
    go_ret
    rw [e.out]
    exact ⟨rfl, (h'.drewN _).spoil rfl, (Only.drewN _ _ _).trans (Only.setCell _ _ _ _)⟩

/-- what the document's text reckons of four bytes is the number -/
theorem add_bytes (s : ByteArray) (hn : 4 ≤ s.size) (h0 : 0 < (s.extract 0 4).size) (h1 : 1 < (s.extract 0 4).size) (h2 : 2 < (s.extract 0 4).size) (h3 : 3 < (s.extract 0 4).size) :
    ((((s.extract 0 4)[0].toNat : Int) + ((s.extract 0 4)[1].toNat : Int) % 4294967296 * 256 + ((s.extract 0 4)[2].toNat : Int) % 4294967296 * 65536) % 4294967296 + ((s.extract 0 4)[3].toNat : Int) % 4294967296 * 16777216 % 4294967296) % 4294967296 = rd4 s := by
  rw [extract_byte s 0 hn (by omega) h0, extract_byte s 1 hn (by omega) h1, extract_byte s 2 hn (by omega) h2, extract_byte s 3 hn (by omega) h3]
  have b0 := byteAt_range s 0
  have b1 := byteAt_range s 1
  have b2 := byteAt_range s 2
  have b3 := byteAt_range s 3
  unfold rd4
  omega
set_option maxHeartbeats 1000000 in
theorem RefRNum_calls (b : Nat) (S : ByteArray) (q : St) (w : World) (hS : S.size ≤ 140737488351232) (h : RR w b S q) :
    Calls Tryd.prog 64 #[.pointer (some ⟨b, 0, none⟩)] w fun e w' => e = .returned (.int .u32 (num q).1) ∧ RR w' b S (num q).2 ∧ Only b w w' := by
  obtain ⟨s, x⟩ := q
  cases hb : (take ⟨s, x⟩ 4).2.bad
  · have hx : x = false := by
      cases x
      · rfl
      · rw [take_bad _ _ rfl] at hb; cases hb
    subst hx
    have hn : 4 ≤ s.size := by
      rcases Nat.lt_or_ge s.size 4 with g | g
      · rw [take_over _ _ rfl (Or.inr (by show (s.size : Int) < 4; omega))] at hb; cases hb
      · exact g
    clear hb
    have e1 := Lib.hid (take_ok ⟨s, false⟩ 4 rfl (by omega) (by show (4 : Int) ≤ s.size; omega))
    have e2 := Lib.hid (num_ok ⟨s, false⟩ rfl hn)
    go_enter Tryd.func64, Tryd.ntmps64
    go_wp2_with fail
    refine (RefTake_calls b 4 S ⟨s, false⟩ w hS h).mono ?_
    rw [e1.out]
    rintro e w1 ⟨rfl, h1, ho⟩
    have c2 := h1.c2
    go_wp2_with fail
    go_quiet (fail)
    go_wp2
    go_ret
    rw [e2.out]
    refine ⟨?_, h1.drewN _, ho.trans (Only.drewN _ _ _)⟩
    exact congrArg (fun z => Ending.returned (Value.int .u32 z)) (add_bytes s hn _ _ _ _)
  · have e2 : num ⟨s, x⟩ = (0, (take ⟨s, x⟩ 4).2) := by simp [num, hb]
    have e2' := Lib.hid e2
    clear e2
    have hb' := Lib.hid hb
    clear hb
    go_enter Tryd.func64, Tryd.ntmps64
    go_wp2_with fail
    refine (RefTake_calls b 4 S ⟨s, x⟩ w hS h).mono ?_
    rintro e w1 ⟨rfl, h1, ho⟩
    have c2 := h1.c2
    rw [hb'.out] at c2
    go_wp2
    go_ret
    rw [e2'.out]
    exact ⟨rfl, h1, ho⟩
end Go.Proofs.YtliojhhiadfmiaaDoor.Oct
