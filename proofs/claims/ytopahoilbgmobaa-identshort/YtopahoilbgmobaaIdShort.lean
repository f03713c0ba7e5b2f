/-
  ident.Short: as the plain description says; nothing that was there turns. Conditions: the texts lie there.
-/
import Derived.Test.YtopahoilbgmobaaRows
import Derived.Test.YtopahoilbgmobaaIdHex
import Derived.WalkKit
import Derived.WalkSpells
import Derived.WalkLawsBesides
import Derived.ProofKit
import Derived.OpenShut
import Derived.Laws.BytesArg
import Derived.Deep.QuietTactic
import Derived.BigQuiet
import Derived.BigRegion
import Derived.Lib.Hide
import Derived.IntWalk
namespace Go.Proofs.Ytopahoilbgmobaa.Ident
open Go.RowKit
open Oct (TextsAt)
theorem Tells.zero (T : Nat → ByteArray) (id : ByteArray) : Tells T 0 id 4 := ⟨by omega, by omega, fun j hj => absurd hj (Nat.not_lt_zero j), Or.inl rfl⟩
theorem Tells.skip {T : Nat → ByteArray} {id : ByteArray} {k n : Nat} (h : Tells T k id n) (e : T k = id) : Tells T (k + 1) id n :=
  ⟨h.four, h.le, fun j hj hne => by
    by_cases g : j = k
    · subst g; exact absurd e hne
    · exact h.apart j (by omega) hne, h.few.elim Or.inl fun ⟨j, hj, r⟩ => Or.inr ⟨j, by omega, r⟩⟩
theorem share_lt {a b : ByteArray} {q : Nat} (h : IsShare a b q) (ha : a.size = 32) (hne : b ≠ a) : q < 64 := by
  by_cases hb : b.size = 32
  · have := h.le
    have : q ≠ 64 := fun e => hne ((h.all ha hb).1 e).symm
    omega
  · rw [h.none fun g => hb g.2]; omega
theorem Tells.step {T : Nat → ByteArray} {id : ByteArray} {k n q : Nat} (h : Tells T k id n) (hid : id.size = 32) (hne : T k ≠ id) (hq : IsShare id (T k) q) : Tells T (k + 1) id (max n (q + 1)) := by
  have a := h.four
  have b := h.le
  have c := share_lt hq hid hne
  refine ⟨by omega, by omega, fun j hj hjn r hr => ?_, ?_⟩
  · by_cases g : j = k
    · subst g; have := hr.unique hq; omega
    · have := h.apart j (by omega) hjn r hr; omega
  · by_cases g : q + 1 ≤ n
    · rw [Nat.max_eq_left g]
      exact h.few.elim Or.inl fun ⟨j, hj, r⟩ => Or.inr ⟨j, by omega, r⟩
    · rw [Nat.max_eq_right (by omega)]
      exact Or.inr ⟨k, by omega, hne, by simpa using hq⟩
set_option maxRecDepth 100000 in
set_option maxHeartbeats 1000000 in
theorem Short_calls (a : Option Addr) (len cap b off : Nat) (T : Nat → ByteArray) (id : ByteArray) (w : World) (hT : TextsAt w a b off len T) (hlen : len ≤ 140737488351232) :
    Calls Try.prog 24 #[.slice a len cap, .string id] w fun e w' => (∃ r, e = .returned (.string r) ∧ IsShort T len id r) ∧ Below w.heap.size w w' := by
  replace hT := Lib.hid hT
  go_enter Try.func24, Try.ntmps24
  go_wp2_with fail
  refine (Good_calls id w).mono ?_
  rintro e w' ⟨rfl, rfl⟩
  by_cases hs : id.size = 32
  · have hz := Lib.hid (hex_size hs)
    go_wp2_with fail
    refine (Contains_calls a len cap b off T id w hT.out hlen).mono ?_
    rintro e w' ⟨⟨c, rfl, hc⟩, rfl⟩
    cases c with
    | false =>
      have hno := Lib.hid (show ¬ ∃ j, j < len ∧ T j = id from fun h => by have := hc.2 h; cases this)
      clear hc
      go_wp2
      go_ret
      exact ⟨⟨_, rfl, fun _ => rfl, fun _ h => absurd h hno.out⟩, Below.refl _ _⟩
    | true =>
      have hin := Lib.hid (hc.1 rfl)
      clear hc
      go_wp2_with fail
      go_loopw [5, 19] (fun f i wr => ∃ (k n : Nat), k ≤ len ∧ i = .int .i64 k ∧ f = .int .i64 n ∧ Tells T k id n ∧ w = wr) (fun _ i _ => len - (intOf i).toNat)
      case atStart => exact ⟨0, 4, by omega, rfl, rfl, Tells.zero T id, rfl⟩
      case round =>
        obtain ⟨k, n, hk, rfl, rfl, hF, rfl⟩ := hrel
        have n4 := hF.four
        have n64 := hF.le
        replace hF := Lib.hid hF
        by_cases hlt : k < len
        · have i1 : (k : Int) < len := by omega
          have i0 : 0 ≤ (k : Int) := by omega
          have ha := hT.out.addr (by omega)
          subst ha
          have c0 := hT.out.cell k hlt
          generalize hid : T k = x at *
          replace hid := Lib.hid hid
          by_cases he : x = id
          · have hb := eq_toList he
            replace he := Lib.hid he
            go_wp2_with fail
            exact ⟨⟨k + 1, n, by omega, by go_num, rfl, hF.out.skip (hid.out.trans he.out), by trivial⟩, by simp [intOf]; omega⟩
          · have hb := ne_toList he
            replace he := Lib.hid he
            go_wp2_with fail
            refine (Share_calls id x w).mono ?_
            rintro e w' ⟨⟨q, rfl, hq⟩, rfl⟩
            have q64 := hq.le
            have hst := Lib.hid (hF.out.step (q := q) hs (by rw [hid.out]; exact he.out) (by rw [hid.out]; exact hq))
            clear hq
            go_wp2_with fail
            exact ⟨⟨k + 1, max n (q + 1), by omega, by go_num, congrArg (Value.int .i64) (by omega), hst.out, by trivial⟩, by simp [intOf]; omega⟩
        · have d0 : decide ((k : Int) < len) = false := decide_eq_false (by omega)
          have d1 : (len : Int) ≤ k := by omega
          have hkl : k = len := by omega
          subst hkl
          have hfin := Lib.hid (show IsShort T k id ((hex id).extract 0 n) from ⟨fun h => absurd ⟨hs, hin.out⟩ h, fun _ _ => ⟨n, hF.out, rfl⟩⟩)
          go_wp2_with fail
          refine (Hex_calls id w).mono ?_
          rintro e w' ⟨rfl, hB⟩
          have hz2 := hz.out
          have j1 : (n : Int) ≤ 64 := by omega
          have j0 : 0 ≤ (n : Int) := by omega
          generalize hex id = h at *
          go_wp2
          go_ret
          exact ⟨⟨_, rfl, hfin.out⟩, hB⟩
  · have d0 : decide (id.size = 32) = false := decide_eq_false hs
    go_wp2
    go_ret
    exact ⟨⟨_, rfl, fun _ => rfl, fun h => absurd h hs⟩, Below.refl _ _⟩
end Go.Proofs.Ytopahoilbgmobaa.Ident
