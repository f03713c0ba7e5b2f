/-
  What each function of package octet does, called with any arguments in any memory: the contracts of Num, Text, New and of the methods of a Reader, over the plain functions of OctPlain. Conditions: a number fits its kind, a text is within the form's own reach, the reader lies in memory that may be written.
-/
import Derived.Test.YtliojhhiadfmiaaDoorRows
import Derived.Test.YtliojhhiadfmiaaDoorOctPlain
import Derived.WalkKit
import Derived.WalkSpells
import Derived.WalkLawsBesides
import Derived.ProofKit
import Derived.OpenShut
import Derived.Laws.BytesArg
import Derived.Deep.QuietTactic
import Derived.BigQuiet
import Derived.Lib.Hide
namespace Go.Proofs.YtliojhhiadfmiaaDoor.Oct
open Go.RowKit

/-- only block b may have turned -/
structure Only (b : Nat) (w w' : World) : Prop where
  os : w'.os = w.os
  tape : w'.tape = w.tape
  output : w'.output = w.output
  size : w'.heap.size = w.heap.size
  block : ∀ k, k ≠ b → w'.heap[k]? = w.heap[k]?
theorem Only.refl (b : Nat) (w : World) : Only b w w := ⟨rfl, rfl, rfl, rfl, fun _ _ => rfl⟩
theorem Only.trans {b : Nat} {u v w : World} (h : Only b u v) (k : Only b v w) : Only b u w :=
  ⟨k.os.trans h.os, k.tape.trans h.tape, k.output.trans h.output, k.size.trans h.size, fun i hi => (k.block i hi).trans (h.block i hi)⟩
theorem Only.setCell (b o : Nat) (w : World) (v : Value) : Only b w (w.setCell ⟨b, o, none⟩ v) :=
  ⟨rfl, rfl, rfl, by simp [World.setCell], fun k hk => Below.heap_setCell _ _ _ _ hk⟩
theorem Only.below {b B : Nat} {w w' : World} (h : Only b w w') (hB : B ≤ b) : Below B w w' :=
  ⟨h.os, h.tape, h.output, Nat.le_of_eq h.size.symm, fun k hk => h.block k (by omega)⟩
theorem Only.cell {b : Nat} {w w' : World} (h : Only b w w') {p : Addr} (hp : p.block ≠ b) : w'.cell? p = w.cell? p := World.cell?_of_block (w := w) (h.block p.block hp)
theorem Only.frozen {b : Nat} {w w' : World} (h : Only b w w') {p : Addr} (hp : p.block ≠ b) : w'.frozen? p = w.frozen? p := World.frozen?_of_block (w := w) (h.block p.block hp)

/-- at block b lies a reader in state q -/
structure Rd (w : World) (b : Nat) (q : St) : Prop where
  c0 : w.cell? ⟨b, 0, none⟩ = some (.string q.rest)
  c1 : w.cell? ⟨b, 1, none⟩ = some (.bool q.bad)
  f0 : w.frozen? ⟨b, 0, none⟩ = false
  f1 : w.frozen? ⟨b, 1, none⟩ = false
theorem Rd.only {w w' : World} {b b' : Nat} {q : St} (h : Rd w b q) (ho : Only b' w w') (hb : b ≠ b') : Rd w' b q :=
  ⟨(ho.cell hb).trans h.c0, (ho.cell hb).trans h.c1, (ho.frozen hb).trans h.f0, (ho.frozen hb).trans h.f1⟩
theorem Rd.below {w w' : World} {b B : Nat} {q : St} (h : Rd w b q) (ho : Below B w w') (hb : b < B) : Rd w' b q :=
  ⟨(ho.cell hb).trans h.c0, (ho.cell hb).trans h.c1, (ho.frozen hb).trans h.f0, (ho.frozen hb).trans h.f1⟩
theorem Rd.drewN {w : World} {b : Nat} {q : St} (h : Rd w b q) (n : Nat) : Rd (w.drewN n) b q := ⟨by simp [go_sem, h.c0], by simp [go_sem, h.c1], by simp [go_sem, h.f0], by simp [go_sem, h.f1]⟩
theorem Rd.drew {w : World} {b : Nat} {q : St} (h : Rd w b q) : Rd w.drew b q := ⟨h.c0, h.c1, h.f0, h.f1⟩
theorem Rd.set0 {w : World} {b : Nat} {q : St} (h : Rd w b q) (s : ByteArray) : Rd (w.setCell ⟨b, 0, none⟩ (.string s)) b ⟨s, q.bad⟩ :=
  ⟨by simp [go_sem, h.c0], by simp [go_sem, h.c1], by simp [go_sem, h.f0], by simp [go_sem, h.f1]⟩
theorem Rd.set1 {w : World} {b : Nat} {q : St} (h : Rd w b q) (x : Bool) : Rd (w.setCell ⟨b, 1, none⟩ (.bool x)) b ⟨q.rest, x⟩ :=
  ⟨by simp [go_sem, h.c0], by simp [go_sem, h.c1], by simp [go_sem, h.f0], by simp [go_sem, h.f1]⟩

/-! ### the contracts -/
set_option maxHeartbeats 400000 in
theorem Num_calls (n : Int) (h0 : 0 ≤ n) (h1 : n < 4294967296) (w : World) :
    Calls Tryd.prog 49 #[.int .u32 n] w fun e w' => e = .returned (.string (num4 n)) ∧ ∃ c, w.alloc (.cells c 5) = w' := by
  have hc := run_convert_bytes_arg (P := Tryd.prog) (w.alloc (Obj.cells
              #[Value.int IntKind.u8 (n % 256), Value.int IntKind.u8 (n / 256 % 256),
                Value.int IntKind.u8 (n / 65536 % 256), Value.int IntKind.u8 (n / 16777216)]
              5)) 40 5 Tryd.underlying40 Tryd.underlying5 w.heap.size 0 4 4 [n % 256, n / 256 % 256, n / 65536 % 256, n / 16777216] rfl (by
                intro i hi
                match i, hi with
                | 0, _ => simp [go_sem]
                | 1, _ => simp [go_sem]
                | 2, _ => simp [go_sem]
                | 3, _ => simp [go_sem]) 9 Tryd.underlying9
  go_enter Tryd.func49, Tryd.ntmps49
  go_wp2
  go_ret
  exact ⟨rfl, _, rfl⟩
theorem New_calls (s : ByteArray) (w : World) :
    Calls Tryd.prog 65 #[.string s] w fun e w' => e = .returned (.pointer (some ⟨w.heap.size, 0, none⟩)) ∧ w.alloc (.cells #[.string s, .bool false] 117) = w' := by
  go_enter Tryd.func65, Tryd.ntmps65
  go_wp2
  go_ret
  exact ⟨rfl, rfl⟩
theorem Rd.new (s : ByteArray) (w : World) : Rd (w.alloc (.cells #[.string s, .bool false] 117)) w.heap.size ⟨s, false⟩ :=
  ⟨by simp [go_sem], by simp [go_sem], by simp [go_sem], by simp [go_sem]⟩
theorem Bad_calls (b : Nat) (q : St) (w : World) (h : Rd w b q) :
    Calls Tryd.prog 82 #[.pointer (some ⟨b, 0, none⟩)] w fun e w' => e = .returned (.bool q.bad) ∧ w = w' := by
  obtain ⟨c0, c1, f0, f1⟩ := h
  go_enter Tryd.func82, Tryd.ntmps82
  go_wp2
  go_ret
  exact ⟨rfl, rfl⟩
theorem Bad_nil (w : World) :
    Calls Tryd.prog 82 #[.pointer none] w fun e w' => e = .returned (.bool true) ∧ w = w' := by
  go_enter Tryd.func82, Tryd.ntmps82
  go_wp2
  go_ret
  exact ⟨rfl, rfl⟩
theorem Spoil_calls (b : Nat) (q : St) (w : World) (h : Rd w b q) :
    Calls Tryd.prog 83 #[.pointer (some ⟨b, 0, none⟩)] w fun e w' => e = .returned (.tuple #[]) ∧ w.setCell ⟨b, 1, none⟩ (.bool true) = w' := by
  obtain ⟨c0, c1, f0, f1⟩ := h
  go_enter Tryd.func83, Tryd.ntmps83
  go_wp2
  go_end0
  exact ⟨rfl, rfl⟩
theorem Spoil_nil (w : World) :
    Calls Tryd.prog 83 #[.pointer none] w fun e w' => e = .returned (.tuple #[]) ∧ w = w' := by
  go_enter Tryd.func83, Tryd.ntmps83
  go_wp2
  go_end0
  exact ⟨rfl, rfl⟩
set_option maxHeartbeats 400000 in
theorem Take_calls (b : Nat) (n : Int) (q : St) (w : World) (h : Rd w b q) :
    Calls Tryd.prog 66 #[.pointer (some ⟨b, 0, none⟩), .int .i64 n] w fun e w' => e = .returned (.string (take q n).1) ∧ Rd w' b (take q n).2 ∧ Only b w w' := by
  obtain ⟨s, x⟩ := q
  have h' := h
  obtain ⟨c0, c1, f0, f1⟩ := h
  cases x
  · by_cases hn : n < 0
    · have e := Lib.hid (take_over ⟨s, false⟩ n rfl (Or.inl hn))
      go_enter Tryd.func66, Tryd.ntmps66
      go_wp2_with (first | (go_at_call 82; refine (Bad_calls _ _ _ h').mono ?_; rintro e w' ⟨rfl, rfl⟩) | (go_at_call 83; refine (Spoil_calls _ _ _ h').mono ?_; rintro e w' ⟨rfl, rfl⟩))
      go_ret
      rw [e.out]
      exact ⟨rfl, h'.set1 true, Only.setCell _ _ _ _⟩
    · by_cases hm : (s.size : Int) < n
      · have e := Lib.hid (take_over ⟨s, false⟩ n rfl (Or.inr hm))
        go_enter Tryd.func66, Tryd.ntmps66
        go_wp2_with (first | (go_at_call 82; refine (Bad_calls _ _ _ h').mono ?_; rintro e w' ⟨rfl, rfl⟩) | (go_at_call 83; refine (Spoil_calls _ _ _ h').mono ?_; rintro e w' ⟨rfl, rfl⟩))
        go_ret
        rw [e.out]
        exact ⟨rfl, h'.set1 true, Only.setCell _ _ _ _⟩
      · have e := Lib.hid (take_ok ⟨s, false⟩ n rfl (by omega) (by show n ≤ s.size; omega))
        obtain ⟨n, rfl⟩ := Int.eq_ofNat_of_zero_le (show 0 ≤ n by omega)
        go_enter Tryd.func66, Tryd.ntmps66
        go_wp2_with (first | (go_at_call 82; refine (Bad_calls _ _ _ h').mono ?_; rintro e w' ⟨rfl, rfl⟩) | (go_at_call 83; refine (Spoil_calls _ _ _ h').mono ?_; rintro e w' ⟨rfl, rfl⟩))
        go_ret
        rw [e.out]
        exact ⟨rfl, h'.set0 _, Only.setCell _ _ _ _⟩
  · have e := Lib.hid (take_bad ⟨s, true⟩ n rfl)
    go_enter Tryd.func66, Tryd.ntmps66
    go_wp2_with (first | (go_at_call 82; refine (Bad_calls _ _ _ h').mono ?_; rintro e w' ⟨rfl, rfl⟩))
    go_ret
    rw [e.out]
    exact ⟨rfl, h', Only.refl _ _⟩
theorem Take_nil (n : Int) (w : World) :
    Calls Tryd.prog 66 #[.pointer none, .int .i64 n] w fun e w' => e = .returned (.string empty) ∧ w = w' := by
  go_enter Tryd.func66, Tryd.ntmps66
  go_wp2_with (first | (go_at_call 82; refine (Bad_nil _).mono ?_; rintro e w' ⟨rfl, rfl⟩))
  go_ret
  exact ⟨rfl, rfl⟩

theorem Only.drewN (b : Nat) (w : World) (n : Nat) : Only b w (w.drewN n) := ⟨rfl, rfl, rfl, rfl, fun _ _ => rfl⟩
set_option maxHeartbeats 400000 in
theorem RNum_calls (b : Nat) (q : St) (w : World) (h : Rd w b q) :
    Calls Tryd.prog 67 #[.pointer (some ⟨b, 0, none⟩)] w fun e w' => e = .returned (.int .u32 (num q).1) ∧ Rd w' b (num q).2 ∧ Only b w w' := by
  obtain ⟨s, x⟩ := q
  cases hb : (take ⟨s, x⟩ 4).2.bad
  · have hx : x = false := by
      cases x
      · rfl
      · rw [take_bad _ _ rfl] at hb; cases hb
    subst hx
    have hn : 4 ≤ s.size := by
      rcases Nat.lt_or_ge s.size 4 with g | g
      · rw [take_over _ _ rfl (Or.inr (by show (s.size : Int) < 4; omega))] at hb; cases hb
      · exact g
    clear hb
    have e1 := Lib.hid (take_ok ⟨s, false⟩ 4 rfl (by omega) (by show (4 : Int) ≤ s.size; omega))
    have e2 := Lib.hid (num_ok ⟨s, false⟩ rfl hn)
    go_enter Tryd.func67, Tryd.ntmps67
    go_wp2_with fail
    refine (Take_calls b 4 ⟨s, false⟩ w h).mono ?_
    rw [e1.out]
    rintro e w1 ⟨rfl, h1, ho⟩
    go_wp2_with (go_at_call 82; refine (Bad_calls _ _ _ h1).mono ?_; rintro e w' ⟨rfl, rfl⟩)
    go_quiet (fail)
    go_wp2
    go_ret
    rw [e2.out]
    refine ⟨?_, h1.drewN _, ho.trans (Only.drewN _ _ _)⟩
    exact congrArg (fun z => Ending.returned (Value.int .u32 z)) (or_bytes s hn _ _ _ _)
  · have e2 : num ⟨s, x⟩ = (0, (take ⟨s, x⟩ 4).2) := by simp [num, hb]
    have e2' := Lib.hid e2
    clear e2
    have hb' := Lib.hid hb
    clear hb
    go_enter Tryd.func67, Tryd.ntmps67
    go_wp2_with fail
    refine (Take_calls b 4 ⟨s, x⟩ w h).mono ?_
    rintro e w1 ⟨rfl, h1, ho⟩
    go_wp2_with fail
    refine (Bad_calls _ _ _ h1).mono ?_
    rw [hb'.out]
    rintro e w' ⟨rfl, rfl⟩
    go_wp2
    go_ret
    rw [e2'.out]
    exact ⟨rfl, h1, ho⟩
set_option maxHeartbeats 400000 in
theorem RNum_nil (w : World) :
    Calls Tryd.prog 67 #[.pointer none] w fun e w' => e = .returned (.int .u32 0) ∧ w = w' := by
  go_enter Tryd.func67, Tryd.ntmps67
  go_wp2_with (first | (go_at_call 66; refine (Take_nil _ _).mono ?_; rintro e w' ⟨rfl, rfl⟩) | (go_at_call 82; refine (Bad_nil _).mono ?_; rintro e w' ⟨rfl, rfl⟩))
  go_ret
  exact ⟨rfl, rfl⟩
end Go.Proofs.YtliojhhiadfmiaaDoor.Oct
