/-
  The statements' own first look (awake): called in any memory it answers true and turns nothing that was there. Conditions: none.
-/
import Derived.Test.YtopahoilbgmobaaRows
import Derived.Test.YtopahoilbgmobaaIdRow
import Derived.WalkKit
import Derived.WalkSpells
import Derived.WalkLawsBesides
import Derived.ProofKit
import Derived.OpenShut
import Derived.Laws.BytesArg
import Derived.Laws.IdiomStrings
import Derived.Laws.MakeOwn
import Derived.Lib.ConvBytes
import Derived.Deep.QuietTactic
import Derived.BigQuiet
import Derived.BigRegion
import Derived.Lib.Hide
import Derived.IntWalk
import Derived.Deep.RegionHeld3
namespace Go.Proofs.Ytopahoilbgmobaa.Ident
open Go.RowKit
open Oct (TextsAt)
def z0 : ByteArray := txt fun _ => 0
def z1 : ByteArray := txt fun _ => 1
def z10 : ByteArray := txt fun _ => 10
def LT : Nat → ByteArray := fun i => if i = 0 then z0 else z1
instance (d : ByteArray) : Decidable (digits d) := inferInstanceAs (Decidable (∀ k, k < d.size → _))
theorem two {p : Nat → Prop} (h0 : p 0) (h1 : p 1) : ∀ j, j < 2 → p j
  | 0, _ => h0
  | 1, _ => h1
  | j + 2, h => by omega
theorem aw1 {r : ByteArray} {n : Int} (h : IsFind LT 2 ⟨#[48, 48]⟩ r n) : r = z0 ∧ n = 0 :=
  h.one (by decide) (of_decide_eq_true (by kernel_rfl)) 0 (by omega) (of_decide_eq_true (by kernel_rfl)) (two (fun _ => rfl) (fun g => absurd g (of_decide_eq_false (by kernel_rfl))))
theorem aw2 {r : ByteArray} {n : Int} (h : IsFind LT 2 ⟨#[48]⟩ r n) : r = ⟨#[]⟩ ∧ n = 6 :=
  h.many (by decide) (of_decide_eq_true (by kernel_rfl)) 0 1 (by omega) (by omega) (of_decide_eq_true (by kernel_rfl)) (of_decide_eq_true (by kernel_rfl)) (of_decide_eq_true (by kernel_rfl))
theorem aw3 {r : ByteArray} {n : Int} (h : IsFind LT 2 ⟨#[49]⟩ r n) : r = ⟨#[]⟩ ∧ n = 12 :=
  h.none (by decide) (of_decide_eq_true (by kernel_rfl)) (two (of_decide_eq_false (by kernel_rfl)) (of_decide_eq_false (by kernel_rfl)))
theorem aw4 {r : ByteArray} {n : Int} (h : IsFind LT 2 ⟨#[48, 65]⟩ r n) : r = ⟨#[]⟩ ∧ n = 4 :=
  h.form fun g => (of_decide_eq_false (show decide (digits ⟨#[48, 65]⟩) = false by kernel_rfl)) g.2
theorem aw5 : (hex z10).extract 0 4 = ⟨#[48, 97, 48, 97]⟩ := by kernel_rfl
theorem aw6 : digitAt z10 1 = 10 := by kernel_rfl
theorem aw7 : digitAt ⟨#[120]⟩ 0 = -1 := by kernel_rfl
theorem aw8' : IsShare z0 z1 1 := ⟨fun h => absurd ⟨txt_size _, txt_size _⟩ h, by omega, fun j hj => by rw [show j = 0 by omega]; kernel_rfl, fun _ _ _ => of_decide_eq_true (by kernel_rfl)⟩
theorem aw8 {k : Nat} (h : IsShare z0 z1 k) : k = 1 := h.unique aw8'
theorem aw9' : (hex z1).extract 0 4 = ⟨#[48, 49, 48, 49]⟩ := by kernel_rfl
theorem aw9 {r : ByteArray} (h : IsShort LT 2 z1 r) : r = ⟨#[48, 49, 48, 49]⟩ := by
  obtain ⟨n, hn, rfl⟩ := h.some (txt_size _) ⟨1, by omega, rfl⟩
  have h4 : Tells LT 2 z1 4 := ⟨by omega, by omega, two (fun _ k hk => by rw [hk.unique aw8'.symm]; omega) (fun h => absurd rfl h), Or.inl rfl⟩
  rw [hn.unique h4]
  exact aw9'
theorem LT_at (w : World) : TextsAt (w.alloc (.cells #[.string z0, .string z1] 9)) (some ⟨w.heap.size, 0, none⟩) w.heap.size 0 2 LT :=
  ⟨fun _ => rfl, two (by simp [LT]) (by simp [LT]), fun i => by
    unfold LT; split
    · rw [z0, txt_size]; omega
    · rw [z1, txt_size]; omega⟩
theorem TextsAt.below {w w' : World} {a : Option Addr} {b off len : Nat} {T : Nat → ByteArray} (h : TextsAt w a b off len T) (t : Below w.heap.size w w') : TextsAt w' a b off len T :=
  ⟨h.addr, fun i hi => (t.cell (p := ⟨b, off + i, none⟩) (Oct.lt_of_cell (h.cell i hi))).trans (h.cell i hi), h.size⟩
theorem beq_self (s : ByteArray) : (s.toList == s.toList) = true := by simp
attribute [local irreducible] z0 z1 z10 LT hex
set_option maxRecDepth 100000 in
set_option maxHeartbeats 8000000 in
theorem awake_calls (w : World) :
    Calls Try.prog 9 #[] w fun e w' => e = .returned (.bool true) ∧ Below w.heap.size w w' := by
  have s0 : z0.size = 32 := by unfold z0; exact txt_size _
  have s1 : z1.size = 32 := by unfold z1; exact txt_size _
  have s10 : z10.size = 32 := by unfold z10; exact txt_size _
  have f0 := fun w => filled_calls 0 w
  have f1 := fun w => filled_calls 1 w
  have f10 := fun w => filled_calls 10 w
  rw [show txt (fun _ => 0) = z0 by unfold z0; rfl] at f0
  rw [show txt (fun _ => 1) = z1 by unfold z1; rfl] at f1
  rw [show txt (fun _ => 10) = z10 by unfold z10; rfl] at f10
  replace f0 := Lib.hid f0
  replace f1 := Lib.hid f1
  replace f10 := Lib.hid f10
  go_enter Try.func9, Try.ntmps9
  go_wp2_with fail
  refine (f0.out w).mono ?_
  rintro e w1 ⟨rfl, b1⟩
  go_wp2_with fail
  refine (f1.out w1).mono ?_
  rintro e w2 ⟨rfl, b2⟩
  have b2' := b1.trans (b2.mono b1.size)
  have t3 := LT_at w2
  have b3 := b2'.alloc b2'.size (.cells #[.string z0, .string z1] 9)
  clear b1 b2 b2'
  go_wp2_with fail
  generalize w2.alloc (.cells #[.string z0, .string z1] 9) = w3 at *
  generalize w2.heap.size = lb at *
  replace t3 := Lib.hid t3
  replace b3 := Lib.hid b3
  refine (Find_calls _ 2 2 lb 0 LT _ w3 t3.out (by omega) (by decide)).mono ?_
  rintro e w' ⟨⟨r, n, rfl, h⟩, rfl⟩
  obtain ⟨rfl, rfl⟩ := aw1 h
  clear h
  go_wp2_with fail
  refine (Find_calls _ 2 2 lb 0 LT _ w3 t3.out (by omega) (by decide)).mono ?_
  rintro e w' ⟨⟨r, n, rfl, h⟩, rfl⟩
  obtain ⟨rfl, rfl⟩ := aw2 h
  clear h
  go_wp2_with fail
  refine (Find_calls _ 2 2 lb 0 LT _ w3 t3.out (by omega) (by decide)).mono ?_
  rintro e w' ⟨⟨r, n, rfl, h⟩, rfl⟩
  obtain ⟨rfl, rfl⟩ := aw3 h
  clear h
  go_wp2_with fail
  refine (Find_calls _ 2 2 lb 0 LT _ w3 t3.out (by omega) (by decide)).mono ?_
  rintro e w' ⟨⟨r, n, rfl, h⟩, rfl⟩
  obtain ⟨rfl, rfl⟩ := aw4 h
  clear h
  go_wp2_with fail
  refine (f10.out w3).mono ?_
  rintro e w4 ⟨rfl, b4⟩
  have t4 := Lib.hid (TextsAt.below t3.out b4)
  have b4' := Lib.hid (b3.out.trans (b4.mono b3.out.size))
  clear t3 b3 b4
  go_wp2_with fail
  refine (Hex_calls z10 w4).mono ?_
  rintro e w5 ⟨rfl, b5⟩
  have t5 := Lib.hid (TextsAt.below t4.out b5)
  have b5' := Lib.hid (b4'.out.trans (b5.mono b4'.out.size))
  clear t4 b4' b5
  have c0 : w5.cell? ⟨lb, 0, none⟩ = some (.string z0) := by have := t5.out.cell 0 (by omega); rw [show LT 0 = z0 by unfold LT; rfl] at this; exact this
  have hz := hex_size s10
  have e5 := aw5
  have q0 := beq_self z0
  have c1 : w5.cell? ⟨lb, 1, none⟩ = some (.string z1) := by have := t5.out.cell 1 (by omega); rw [show LT 1 = z1 by unfold LT; rfl] at this; exact this
  have lb5 : lb < w5.heap.size := Oct.lt_of_cell c0
  have t5d : TextsAt w5.drew (some ⟨lb, 0, none⟩) lb 0 2 LT := ⟨t5.out.addr, t5.out.cell, t5.out.size⟩
  replace t5d := Lib.hid t5d
  go_wp2_with fail
  simp only [List.append_eq, List.cons_append, List.nil_append]
  go_region_held3 (fun w' => w'.cell? ⟨lb, 0, none⟩ = some (.string z0) ∧ w'.cell? ⟨lb, 1, none⟩ = some (.string z1))
    (first
      | exact ⟨c0, c1⟩
      | exact ⟨(b6.cell (p := ⟨lb, 0, none⟩) lb5).trans c0, (b6.cell (p := ⟨lb, 1, none⟩) lb5).trans c1⟩
      | exact ⟨(b7.cell (p := ⟨lb, 0, none⟩) (Nat.lt_of_lt_of_le lb5 b6.size)).trans ((b6.cell (p := ⟨lb, 0, none⟩) lb5).trans c0), (b7.cell (p := ⟨lb, 1, none⟩) (Nat.lt_of_lt_of_le lb5 b6.size)).trans ((b6.cell (p := ⟨lb, 1, none⟩) lb5).trans c1)⟩)
    (first
      | (go_at_call 26; refine (f10.out _).mono ?_; rintro e w6 ⟨rfl, b6⟩)
      | (go_at_call 16; refine (Digit_calls _ _ _).mono ?_; rintro e w' ⟨rfl, rfl⟩; first | rw [aw6] | rw [aw7])
      | (go_at_call 20; refine (Share_calls _ _ _).mono ?_; rintro e w' ⟨⟨k, rfl, h⟩, rfl⟩; obtain rfl := aw8 h; clear h)
      | (go_at_call 12; refine (Good_calls _ _).mono ?_; rintro e w' ⟨rfl, rfl⟩; rw [s0])
      | (go_at_call 24; refine (Short_calls _ 2 2 lb 0 LT z1 _ (TextsAt.below t5d.out b6) (by omega)).mono ?_; rintro e w7 ⟨⟨r, rfl, h⟩, b7⟩; obtain rfl := aw9 h; clear h))
  have hfin := Lib.hid (((below_drewN b5'.out 1).trans (b6.mono b5'.out.size)).trans (b7.mono (Nat.le_trans b5'.out.size b6.size)))
  clear b5' b6 b7 c0 c1 lb5 t5 t5d hz e5 q0
  go_wp2
  go_ret
  exact ⟨rfl, hfin.out⟩
end Go.Proofs.Ytopahoilbgmobaa.Ident
