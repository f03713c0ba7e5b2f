/-
  slices.Contains over texts, ident.Find: as the plain descriptions say; the memory stays. Conditions: the texts lie there.
-/
import Derived.Test.YtdmpkgdlelagjaaGreatDoorRows
import Derived.Test.YtdmpkgdlelagjaaGreatDoorIdRead
import Derived.Test.YtdmpkgdlelagjaaGreatDoorOctKit
import Derived.WalkKit
import Derived.WalkSpells
import Derived.WalkLawsBesides
import Derived.ProofKit
import Derived.OpenShut
import Derived.Laws.BytesArg
import Derived.Laws.Externs
import Derived.Deep.QuietTactic
import Derived.BigQuiet
import Derived.BigRegion
import Derived.Lib.Hide
import Derived.IntWalk
namespace Go.Proofs.YtdmpkgdlelagjaaGreatDoor.Ident
open Go.RowKit
open Oct (TextsAt)

/-- what the loop knows behind k ids: none has the digits, or all that have are the one found -/
def Fnd (T : Nat → ByteArray) (d : ByteArray) (k : Nat) (f : ByteArray) : Prop :=
  (f = ⟨#[]⟩ ∧ ∀ j, j < k → ¬ has (T j) d) ∨ (has f d ∧ (∃ j, j < k ∧ T j = f) ∧ ∀ j, j < k → has (T j) d → T j = f)
theorem Fnd.skip {T : Nat → ByteArray} {d f : ByteArray} {k : Nat} (h : Fnd T d k f) (hk : ¬ has (T k) d ∨ T k = f) (hf : f = ⟨#[]⟩ → ¬ has (T k) d) : Fnd T d (k + 1) f := by
  rcases h with ⟨rfl, h⟩ | ⟨h1, ⟨i, hi, e⟩, h3⟩
  · refine Or.inl ⟨rfl, fun j hj => ?_⟩
    by_cases g : j = k
    · subst g; exact hf rfl
    · exact h j (by omega)
  · refine Or.inr ⟨h1, ⟨i, by omega, e⟩, fun j hj hh => ?_⟩
    by_cases g : j = k
    · subst g; rcases hk with hk | hk
      · exact absurd hh hk
      · exact hk
    · exact h3 j (by omega) hh
theorem Fnd.first {T : Nat → ByteArray} {d : ByteArray} {k : Nat} (h : Fnd T d k ⟨#[]⟩) (hk : has (T k) d) : Fnd T d (k + 1) (T k) := by
  rcases h with ⟨_, h⟩ | ⟨h1, _, _⟩
  · refine Or.inr ⟨hk, ⟨k, by omega, rfl⟩, fun j hj hh => ?_⟩
    by_cases g : j = k
    · subst g; rfl
    · exact absurd hh (h j (by omega))
  · exact absurd h1.1 (by decide)
theorem empty_iff (s : ByteArray) : s = ⟨#[]⟩ ↔ s.size = 0 := by
  constructor
  · rintro rfl; rfl
  · intro h; exact ext_by (by rw [h]; rfl) fun k hk => by omega
theorem Fnd.many {T : Nat → ByteArray} {d f : ByteArray} {k len : Nat} (h : Fnd T d k f) (hd1 : d.size ≤ 64) (hd2 : digits d) (hk : has (T k) d) (hkl : k < len) (hf : f ≠ ⟨#[]⟩) (hne : T k ≠ f) : IsFind T len d ⟨#[]⟩ 6 := by
  rcases h with ⟨h0, _⟩ | ⟨h1, ⟨i, hi, e⟩, h3⟩
  · exact absurd h0 hf
  · refine ⟨fun h => absurd ⟨hd1, hd2⟩ h, fun _ _ h => absurd hk (h k hkl), fun _ _ i j _ _ _ _ _ => ⟨rfl, rfl⟩, fun _ _ q hq hh h => ?_⟩
    have a := h k hkl hk
    have b := h i (by omega) (by rw [e]; exact h1)
    exact absurd (a.trans (b.symm.trans e)) hne
theorem Fnd.none {T : Nat → ByteArray} {d : ByteArray} {k : Nat} (h : Fnd T d k ⟨#[]⟩) : IsFind T k d ⟨#[]⟩ 12 ∨ ¬ (d.size ≤ 64 ∧ digits d) := by
  rcases h with ⟨_, h⟩ | ⟨h1, _, _⟩
  · by_cases g : d.size ≤ 64 ∧ digits d
    · exact Or.inl ⟨fun h => absurd g h, fun _ _ _ => ⟨rfl, rfl⟩, fun _ _ i j hi _ hh => absurd hh (h i hi), fun _ _ i hi hh => absurd hh (h i hi)⟩
    · exact Or.inr g
  · exact absurd h1.1 (by decide)
theorem Fnd.one {T : Nat → ByteArray} {d f : ByteArray} {k : Nat} (h : Fnd T d k f) (hf : f ≠ ⟨#[]⟩) (hd1 : d.size ≤ 64) (hd2 : digits d) : IsFind T k d f 0 := by
  rcases h with ⟨h0, _⟩ | ⟨h1, ⟨i, hi, e⟩, h3⟩
  · exact absurd h0 hf
  · refine ⟨fun h => absurd ⟨hd1, hd2⟩ h, fun _ _ h => absurd h1 (by rw [← e]; exact h i hi), fun _ _ i j hi hj a b hne => absurd ((h3 i hi a).trans (h3 j hj b).symm) hne, fun _ _ q hq hh h => ⟨(h3 q hq hh).symm, rfl⟩⟩
theorem IsFind.bad {T : Nat → ByteArray} {d : ByteArray} {len : Nat} (h : ¬ (d.size ≤ 64 ∧ digits d)) : IsFind T len d ⟨#[]⟩ 4 :=
  ⟨fun _ => ⟨rfl, rfl⟩, fun a b => absurd ⟨a, b⟩ h, fun a b => absurd ⟨a, b⟩ h, fun a b => absurd ⟨a, b⟩ h⟩
theorem eq_toList {s t : ByteArray} (h : s = t) : (s.toList == t.toList) = true := by rw [Oct.beq_toList]; exact decide_eq_true h
theorem ne_toList {s t : ByteArray} (h : s ≠ t) : (s.toList == t.toList) = false := by rw [Oct.beq_toList]; exact decide_eq_false h
theorem isEmpty_of {s : ByteArray} (h : s ≠ ⟨#[]⟩) : s.toList.isEmpty = false := by
  rw [ByteArray.toList_eq]
  cases e : s.data.toList with
  | nil => exact absurd ((empty_iff s).2 (by rw [size_list, e]; rfl)) h
  | cons x l => rfl
theorem Find_calls (a : Option Addr) (len cap b off : Nat) (T : Nat → ByteArray) (d : ByteArray) (w : World) (hT : TextsAt w a b off len T) (hlen : len ≤ 140737488351232) (hd : d.size ≤ 140737488351232) :
    Calls Tryz.prog 65 #[.slice a len cap, .string d] w fun e w' => (∃ r n, e = .returned (.tuple #[.string r, .int .i64 n]) ∧ IsFind T len d r n) ∧ w = w' := by
  replace hT := Lib.hid hT
  go_enter Tryz.func65, Tryz.ntmps65
  by_cases h64 : d.size ≤ 64
  · have d0 : decide ((64 : Int) < d.size) = false := decide_eq_false (by omega)
    have d1 : (d.size : Int) ≤ 64 := by omega
    go_wp2_with fail
    refine (allDigits_calls d w hd).mono ?_
    rintro e w' ⟨⟨c, rfl, hc⟩, rfl⟩
    cases c with
    | false =>
      have hbad : ¬ digits d := fun h => by have := hc.2 h; cases this
      clear hc
      go_wp2
      go_ret2
      exact ⟨⟨_, _, rfl, IsFind.bad fun h => hbad h.2⟩, rfl⟩
    | true =>
      have hdg := Lib.hid (hc.1 rfl)
      clear hc
      go_wp2_with fail
      go_loopw [6, 19] (fun f i wr => ∃ (k : Nat) (t : ByteArray), k ≤ len ∧ i = .int .i64 k ∧ f = .string t ∧ Fnd T d k t ∧ w = wr) (fun _ i _ => len - (intOf i).toNat)
      case atStart => exact ⟨0, ⟨#[]⟩, by omega, rfl, rfl, Or.inl ⟨rfl, fun j hj => by omega⟩, rfl⟩
      case round =>
        obtain ⟨k, t, hk, rfl, rfl, hF, rfl⟩ := hrel
        replace hF := Lib.hid hF
        by_cases hlt : k < len
        · have i1 : (k : Int) < len := by omega
          have i0 : 0 ≤ (k : Int) := by omega
          have ha := hT.out.addr (by omega)
          subst ha
          have c0 := hT.out.cell k hlt
          generalize hid : T k = id at *
          replace hid := Lib.hid hid
          go_wp2_with fail
          refine (Has_calls id d w).mono ?_
          rintro e w' ⟨rfl, rfl⟩
          by_cases hh : has id d
          · have hh' : decide (has id d) = true := decide_eq_true hh
            replace hh := Lib.hid hh
            rw [hh']
            by_cases he : id = t
            · have hb := eq_toList he
              replace he := Lib.hid he
              go_wp2_with fail
              refine ⟨⟨k + 1, t, by omega, by go_num, rfl, hF.out.skip (Or.inr (hid.out.trans he.out)) (fun g => ?_), by trivial⟩, by simp [intOf]; omega⟩
              rw [hid.out]; rw [← he.out] at g; intro h2; rw [g] at h2; exact absurd h2.1 (by decide)
            · have hb := ne_toList he
              replace he := Lib.hid he
              by_cases hz : t = ⟨#[]⟩
              · subst hz
                replace hb := isEmpty_of he.out
                go_wp2_with fail
                refine ⟨⟨k + 1, id, by omega, by go_num, rfl, ?_, by trivial⟩, by simp [intOf]; omega⟩
                rw [← hid.out]; exact hF.out.first (by rw [hid.out]; exact hh.out)
              · have hz' := isEmpty_of hz
                replace hz := Lib.hid hz
                go_wp2
                go_ret2
                exact ⟨⟨_, _, rfl, hF.out.many h64 hdg.out (by rw [hid.out]; exact hh.out) hlt hz.out (by rw [hid.out]; exact he.out)⟩, rfl⟩
          · have hh' : decide (has id d) = false := decide_eq_false hh
            replace hh := Lib.hid hh
            rw [hh']
            go_wp2_with fail
            exact ⟨⟨k + 1, t, by omega, by go_num, rfl, hF.out.skip (Or.inl (by rw [hid.out]; exact hh.out)) (fun _ => by rw [hid.out]; exact hh.out), by trivial⟩, by simp [intOf]; omega⟩
        · have d0 : decide ((k : Int) < len) = false := decide_eq_false (by omega)
          have d1 : (len : Int) ≤ k := by omega
          have hkl : k = len := by omega
          subst hkl
          by_cases hz : t = ⟨#[]⟩
          · subst hz
            go_wp2
            go_ret2
            refine ⟨⟨_, _, rfl, ?_⟩, rfl⟩
            rcases hF.out.none with h | h
            · exact h
            · exact absurd ⟨h64, hdg.out⟩ h
          · have hz' := isEmpty_of hz
            replace hz := Lib.hid hz
            go_wp2
            go_ret2
            exact ⟨⟨_, _, rfl, hF.out.one hz.out h64 hdg.out⟩, rfl⟩
  · have d0 : (64 : Int) < d.size := by omega
    go_wp2
    go_ret2
    exact ⟨⟨_, _, rfl, IsFind.bad fun h => h64 h.1⟩, rfl⟩
end Go.Proofs.YtdmpkgdlelagjaaGreatDoor.Ident
