/-
  The statements' first look at shelf: the answers that the document fixes by number. Conditions: none.
-/
import Derived.Test.YtkdghmbglaghlaaGreatRows
import Derived.Test.YtkdghmbglaghlaaGreatShJoin
namespace Go.Proofs.YtkdghmbglaghlaaGreat.Sh
open Go.RowKit
open Key (lt)
/-- blocks other than one of another type stay -/
theorem stays_grown {T t : TypeId} {W W' : World} {b : Nat} {v : Value} (hne : t ≠ T) (hv : Boxed W b t v) (hg : W.grownBy W' (some b)) : Stays T W W' := fun k c z hk => by
  refine (hg.block k (Array.getElem?_eq_some_iff.1 hk).1 fun e => ?_).trans hk
  have e2 : k = b := by simpa using e
  subst e2
  have h := hk.symm.trans hv
  simp at h
  exact hne h.2.1.symm
end Go.Proofs.YtkdghmbglaghlaaGreat.Sh
namespace Go.Proofs.YtkdghmbglaghlaaGreat.Ti
open Go.RowKit Sh
theorem At.stays {W W' : World} {t : TypeId} {a : Option Addr} {L : List Int} (h : At W t a L) (h1 : Stays t W W') (h2 : Stays 78 W W') : At W' t a L := by
  rcases h with h | ⟨b, p, T, rfl, g1, g2, g3⟩
  · exact Or.inl h
  · exact Or.inr ⟨b, p, T, rfl, h1 _ _ _ g1, g2.kept (fun b c z hb => h2 b c z hb), g3⟩
theorem At.box {W : World} {t : TypeId} {b : Nat} {L : List Int} (h : At W t (some ⟨b, 0, none⟩) L) : ∃ p, Boxed W b t (.pointer p) := by
  rcases h with ⟨h, _⟩ | ⟨b', p, T, e, g1, _⟩
  · cases h
  · obtain rfl : b = b' := by simpa using e
    exact ⟨p, g1⟩
/-- what a call that turns one map leaves below -/
theorem Turns.below {w0 w w' : World} {t : TypeId} {b : Nat} {L : List Int} (h : Turns w t b L w') (hb : Below w0.heap.size w0 w) (hl : w0.heap.size ≤ b) : Below w0.heap.size w0 w' := hb.grown h.2 hb.size (fun k e => by cases e; exact hl)
end Go.Proofs.YtkdghmbglaghlaaGreat.Ti
namespace Go.Proofs.YtkdghmbglaghlaaGreat.Ts
open Go.RowKit Sh
theorem At.stays {W W' : World} {t : TypeId} {a : Option Addr} {L : List ByteArray} (h : At W t a L) (h1 : Stays t W W') (h2 : Stays 63 W W') : At W' t a L := by
  rcases h with h | ⟨b, p, T, rfl, g1, g2, g3⟩
  · exact Or.inl h
  · exact Or.inr ⟨b, p, T, rfl, h1 _ _ _ g1, g2.kept (fun b c z hb => h2 b c z hb), g3⟩
theorem At.box {W : World} {t : TypeId} {b : Nat} {L : List ByteArray} (h : At W t (some ⟨b, 0, none⟩) L) : ∃ p, Boxed W b t (.pointer p) := by
  rcases h with ⟨h, _⟩ | ⟨b', p, T, e, g1, _⟩
  · cases h
  · obtain rfl : b = b' := by simpa using e
    exact ⟨p, g1⟩
/-- what a call that turns one map leaves below -/
theorem Turns.below {w0 w w' : World} {t : TypeId} {b : Nat} {L : List ByteArray} (h : Turns w t b L w') (hb : Below w0.heap.size w0 w) (hl : w0.heap.size ≤ b) : Below w0.heap.size w0 w' := hb.grown h.2 hb.size (fun k e => by cases e; exact hl)
end Go.Proofs.YtkdghmbglaghlaaGreat.Ts
namespace Go.Proofs.YtkdghmbglaghlaaGreat.Tm
open Go.RowKit Sh
theorem At.stays {W W' : World} {t : TypeId} {a : Option Addr} {L : List (ByteArray × Int)} (h : At W t a L) (h1 : Stays t W W') (h2 : Stays 88 W W') : At W' t a L := by
  rcases h with h | ⟨b, p, T, rfl, g1, g2, g3⟩
  · exact Or.inl h
  · exact Or.inr ⟨b, p, T, rfl, h1 _ _ _ g1, g2.kept (fun b c z hb => h2 b c z hb), g3⟩
theorem At.box {W : World} {t : TypeId} {b : Nat} {L : List (ByteArray × Int)} (h : At W t (some ⟨b, 0, none⟩) L) : ∃ p, Boxed W b t (.pointer p) := by
  rcases h with ⟨h, _⟩ | ⟨b', p, T, e, g1, _⟩
  · cases h
  · obtain rfl : b = b' := by simpa using e
    exact ⟨p, g1⟩
/-- what a call that turns one map leaves below -/
theorem Turns.below {w0 w w' : World} {t : TypeId} {b : Nat} {L : List (ByteArray × Int)} (h : Turns w t b L w') (hb : Below w0.heap.size w0 w) (hl : w0.heap.size ≤ b) : Below w0.heap.size w0 w' := hb.grown h.2 hb.size (fun k e => by cases e; exact hl)
end Go.Proofs.YtkdghmbglaghlaaGreat.Tm
namespace Go.Proofs.YtkdghmbglaghlaaGreat.Tm
open Go.RowKit Sh
attribute [local go_sem] fold_none
/-- a map of texts to numbers -/
abbrev MapAt (W : World) (a : Option Addr) (L : List (ByteArray × Int)) : Prop := At W 83 a L
theorem New_calls (w : World) :
    Calls Tryz.prog 20 #[] w fun e w' => e = .returned (.pointer (some ⟨w.heap.size, 0, none⟩)) ∧ MapAt w' (some ⟨w.heap.size, 0, none⟩) [] ∧ Below w.heap.size w w' := by
  have hE : Hid (MapAt (w.alloc (.cells #[.pointer none] 83)) (some ⟨w.heap.size, 0, none⟩) [] ∧ Below w.heap.size w (w.alloc (.cells #[.pointer none] 83))) :=
    Lib.hid ⟨Or.inr ⟨w.heap.size, none, .nil, rfl, Boxed.new w _ _, rfl, rfl⟩, b_alloc _ _⟩
  go_enter Tryz.func20, Tryz.ntmps20
  go_wp2
  go_ret
  exact ⟨rfl, hE.out.1, hE.out.2⟩
end Go.Proofs.YtkdghmbglaghlaaGreat.Tm
namespace Go.Proofs.YtkdghmbglaghlaaGreat.Law
open Go.RowKit Sh
open Ti (SetAt Makes)
attribute [local go_sem] fold_none
theorem of_two {L : List Int} (h : Ti.IsOf [3, 1, 3] L) : L = [1, 3] := rises_one h.1 (by simp [Rises, Key.lt, Ent.key]) (fun x => by rw [h.2.1 x]; simp; omega)
theorem of_one {L : List Int} (h : Ti.IsOf [2] L) : L = [2] := rises_one h.1 (by simp [Rises]) (fun x => h.2.1 x)
theorem reads_row (w : World) (vs : List Int) : Ti.Reads (w.heap.size + 1) (w.alloc (.cells (vs.map (Value.int .i64)).toArray 3)) (.slice (some ⟨w.heap.size, 0, none⟩) vs.length vs.length) vs :=
  ⟨_, _, rfl, fun _ => ⟨w.heap.size, 0, rfl, by omega, fun j hj => by
    have h := World.alloc_heap_new w (.cells (vs.map (Value.int .i64)).toArray 3)
    simp only [World.cell?, h]
    simp [List.getElem?_eq_getElem hj]⟩⟩

set_option maxHeartbeats 4000000 in
set_option maxRecDepth 100000 in
theorem awake_calls (w : World) :
    Calls Tryz.prog 5 #[] w fun e w' => e = .returned (.bool true) ∧ Below w.heap.size w w' := by
  have b0 := b_alloc w (.cells #[.int .i64 3, .int .i64 1, .int .i64 3] 3)
  have r0 := reads_row w [3, 1, 3]
  have hOf := Lib.hid (Ti.Of_calls (w.alloc (.cells #[.int .i64 3, .int .i64 1, .int .i64 3] 3)) (some ⟨w.heap.size, 0, none⟩) 3 [3, 1, 3] (by simp) (by rw [World.size_alloc]; exact r0))
  have k1 : Hid (Rises [(1 : Int), 3]) := Lib.hid (by simp [Rises, Key.lt, Ent.key])
  have k2 : Hid (Rises [(1 : Int), 2, 3]) := Lib.hid (by simp [Rises, Key.lt, Ent.key])
  have i1 : ins (2 : Int) [1, 3] = [1, 2, 3] := by simp [ins, Key.lt, Ent.key]
  have e1 : (!has (Ent.key (2 : Int)) [(1 : Int), 3]) = true := by decide
  have e2 : (!has (Ent.key (2 : Int)) [(1 : Int), 2, 3]) = false := by decide
  have e3 : (!has (Ent.key ((⟨#[107]⟩ : ByteArray), (7 : Int))) ([] : List (ByteArray × Int))) = true := rfl
  have e4 : has (2 : Int) [(1 : Int), 3] = false := by decide
  have i2 : ins (2 : Int) [1, 2, 3] = [1, 2, 3] := by simp [ins, Key.lt, Ent.key]
  clear r0
  go_enter Tryz.func5, Tryz.ntmps5
  go_wp2_with fail
  refine hOf.out.mono ?_
  rintro e w1 ⟨L, hL, b, rfl, hb, hS1, b1⟩
  obtain rfl := of_two hL
  have b01 := Lib.hid (b_then b0 b1)
  have hb0 : Hid (w.heap.size ≤ b) := Lib.hid (Nat.le_trans b0.size hb)
  clear hL hOf b1 b0 hb
  have hLen := Lib.hid (Ti.SetLen_calls w1 _ _ hS1)
  have hAdd := Ti.Add_calls w1 b _ 2 hS1 k1.out (by simp)
  rw [e1, i1] at hAdd
  replace hAdd := Lib.hid hAdd
  replace hS1 := Lib.hid hS1
  go_wp2_with fail
  refine hLen.out.mono ?_
  rintro e w' ⟨rfl, hw'⟩
  obtain rfl := hw'.symm
  clear hw' hLen
  go_wp2_with fail
  refine hAdd.out.mono ?_
  rintro e w2 ⟨rfl, hT2⟩
  have b02 := Lib.hid (hT2.below b01.out hb0.out)
  have hAdd2 := Ti.Add_calls w2 b _ 2 hT2.1 k2.out (by simp)
  rw [e2, i2] at hAdd2
  replace hAdd2 := Lib.hid hAdd2
  clear hAdd hT2 b01
  go_wp2_with fail
  refine hAdd2.out.mono ?_
  rintro e w3 ⟨rfl, hT3⟩
  have b03 := Lib.hid (hT3.below b02.out hb0.out)
  have hAt := Lib.hid (Ti.SetAt_calls w3 _ _ 1 hT3.1 (by simp) (by omega) 2 true (Or.inr ⟨by simp [nth], rfl⟩))
  have hS3 := Lib.hid hT3.1
  clear hAdd2 hT3 b02
  go_wp2_with fail
  refine hAt.out.mono ?_
  rintro e w' ⟨rfl, hw'⟩
  obtain rfl := hw'.symm
  clear hw' hAt
  have b3 := b_alloc w3 (.cells #[.int .i64 2] 3)
  have r3 := reads_row w3 [2]
  have hOf2 := Lib.hid (Ti.Of_calls (w3.alloc (.cells #[.int .i64 2] 3)) (some ⟨w3.heap.size, 0, none⟩) 1 [2] (by simp) (by rw [World.size_alloc]; exact r3))
  have b04 := Lib.hid (b_then b03.out b3)
  have hS4 := Lib.hid (hS3.out.next b3)
  clear r3 hS3 b3
  go_wp2_with fail
  refine hOf2.out.mono ?_
  rintro e w5 ⟨L, hL, c, rfl, hc, hS5, b5⟩
  obtain rfl := of_one hL
  have b05 := Lib.hid (b_then b04.out b5)
  have hMi := Lib.hid (Ti.Minus_calls w5 _ _ _ _ (hS4.out.next b5) hS5 k2.out (by simp [Rises]) (by simp))
  clear hL hOf2 b5 hc hS5 b04 hS4
  go_wp2_with fail
  refine hMi.out.mono ?_
  rintro e w6 ⟨d, rfl, hd, hS6, b6⟩
  have hF : ([1, 2, 3] : List Int).filter (fun x : Int => !has x ([2] : List Int)) = [1, 3] := by decide
  rw [hF] at hS6
  have b06 := Lib.hid (b_then b05.out b6)
  have hNew := Lib.hid (Tm.New_calls w6)
  clear hMi b6 hd b05 hF
  go_wp2_with fail
  refine hNew.out.mono ?_
  rintro e w7 ⟨rfl, hM7, b7⟩
  have hq0 : Hid (w.heap.size ≤ w6.heap.size) := Lib.hid b06.out.size
  have b07 := Lib.hid (b_then b06.out b7)
  have hS7 := Lib.hid (hS6.next b7)
  generalize w6.heap.size = q at *
  have hPut := Tm.Put_calls w7 _ q [] (⟨#[107]⟩, 7) (by decide) hM7 (by simp [Rises]) (by simp)
  rw [e3] at hPut
  replace hPut := Lib.hid hPut
  replace hM7 := Lib.hid hM7
  clear hNew hS6 b7 b06
  go_wp2_with fail
  refine hPut.out.mono ?_
  rintro e w8 ⟨rfl, hT8⟩
  have b08 := Lib.hid (hT8.below b07.out hq0.out)
  have hS8 : Hid (SetAt w8 (some ⟨d, 0, none⟩) [1, 3]) := Lib.hid (by
    obtain ⟨pp, hpp⟩ := hM7.out.box
    exact hS7.out.stays (stays_grown (by decide) hpp hT8.2) (stays_grown (by decide) hpp hT8.2))
  have hGet := Lib.hid (Tm.Get_calls w8 _ _ _ ⟨#[107]⟩ hT8.1 (by simp [Rises, ins]) 7 true (Or.inr ⟨(⟨#[107]⟩, 7), by simp [ins, fnd, Ent.key], rfl, rfl⟩))
  have hM8 := Lib.hid hT8.1
  clear hPut hS7 hT8 b07 hM7 hq0
  go_wp2_with fail
  refine hGet.out.mono ?_
  rintro e w' ⟨rfl, hw'⟩
  obtain rfl := hw'.symm
  clear hw' hGet
  have hLen8 := Lib.hid (Ti.SetLen_calls w8 _ _ hS8.out)
  have hHas8 := Ti.Has_calls w8 _ _ 2 hS8.out k1.out
  rw [e4] at hHas8
  replace hHas8 := Lib.hid hHas8
  go_wp2_with fail
  refine hLen8.out.mono ?_
  rintro e w' ⟨rfl, hw'⟩
  obtain rfl := hw'.symm
  clear hw' hLen8
  go_wp2_with fail
  refine hHas8.out.mono ?_
  rintro e w9 ⟨rfl, b9⟩
  have hM9 := Lib.hid (hM8.out.next b9)
  have b09 := Lib.hid (b_then b08.out b9)
  have hLen9 := Lib.hid (Tm.Len_calls w9 _ _ _ hM9.out)
  have hKeys := Lib.hid (Tm.Keys_calls w9 _ _ _ hM9.out (by simp [ins]))
  clear hHas8 b9 hS8 hM8
  go_wp2_with fail
  refine hLen9.out.mono ?_
  rintro e w' ⟨rfl, hw'⟩
  obtain rfl := hw'.symm
  clear hw' hLen9
  go_wp2_with fail
  refine hKeys.out.mono ?_
  rintro e w10 ⟨v, rfl, ⟨hown, -⟩, b10⟩
  have hv : ∃ s c, v = .slice s 1 c := by
    rcases hown.2 with ⟨_, h0⟩ | ⟨g, cap, cur, rfl, _⟩
    · simp [ins, Tm.keysV] at h0
    · exact ⟨_, _, rfl⟩
  obtain ⟨s, c2, rfl⟩ := hv
  have b11 := Lib.hid (b_then b09.out b10)
  clear hown b10 hKeys
  go_wp2
  go_ret
  exact ⟨rfl, b11.out⟩
end Go.Proofs.YtkdghmbglaghlaaGreat.Law
