/-
  The library's small calls as path uses them: strings.Cut at one slash, CutPrefix, HasPrefix, cmp.Compare of texts and of numbers. Conditions: none.
-/
import Derived.Test.YtliojhhiadfmiaaDoorRows
import Derived.Test.YtliojhhiadfmiaaDoorPaPlain
import Derived.Test.YtliojhhiadfmiaaDoorOctKit
import Derived.WalkKit
import Derived.WalkSpells
import Derived.WalkLawsBesides
import Derived.ProofKit
import Derived.OpenShut
import Derived.Laws.BytesArg
import Derived.Laws.Externs
import Derived.Deep.QuietTactic
import Derived.BigQuiet
import Derived.BigRegion
import Derived.Lib.Hide
import Derived.Lib.Bytealg
import Derived.IntWalk
namespace Go.Proofs.YtliojhhiadfmiaaDoor.Pa
open Go.RowKit

theorem size_list (s : ByteArray) : s.size = s.data.toList.length := by rw [Array.length_toList]; rfl
theorem data_extract (s : ByteArray) (i j : Nat) : (s.extract i j).data.toList = (s.data.toList.drop i).take (j - i) := by rw [Lib.extract_eq]
theorem data_inj {s t : ByteArray} (h : s.data.toList = t.data.toList) : s = t := ByteArray.ext (Array.toList_inj.1 h)
theorem idx_cases (l : Tx) : (Lib.indexByte l 47 = -1 ∧ 47 ∉ l) ∨ ∃ a b, l = a ++ 47 :: b ∧ 47 ∉ a ∧ Lib.indexByte l 47 = (a.length : Int) := by
  induction l with
  | nil => exact Or.inl ⟨rfl, by simp⟩
  | cons c l ih =>
    by_cases hc : c = 47
    · subst hc
      exact Or.inr ⟨[], l, rfl, by simp, by simp [Lib.indexByte]⟩
    · have hb : (c == 47) = false := by simpa using hc
      rcases ih with ⟨h1, h2⟩ | ⟨a, b, h1, h2, h3⟩
      · refine Or.inl ⟨by simp [Lib.indexByte, hb, h1], ?_⟩
        simp only [List.mem_cons, not_or]; exact ⟨fun e => hc e.symm, h2⟩
      · refine Or.inr ⟨c :: a, b, by rw [h1]; rfl, ?_, ?_⟩
        · simp only [List.mem_cons, not_or]; exact ⟨fun e => hc e.symm, h2⟩
        · have : ¬ ((a.length : Int) = -1) := by omega
          simp [Lib.indexByte, hb, h3, this]
/-- what strings.Cut at a slash answers -/
inductive IsCut (l : Tx) : Tx → Tx → Bool → Prop
  | hit (a b : Tx) (h : l = a ++ 47 :: b) (no : 47 ∉ a) : IsCut l a b true
  | miss (no : 47 ∉ l) : IsCut l l [] false

theorem byte_back (c : UInt8) : ((c.toNat : Int).toNat).toUInt8 = c := by simp
def slashB : ByteArray := ⟨#[47]⟩
/-! ### beginnings -/
/-- whether a text begins with another -/
def pre (p l : Tx) : Bool := p.isPrefixOf l
theorem pre_iff {p l : Tx} : pre p l = true ↔ ∃ r, l = p ++ r := by
  unfold pre; rw [List.isPrefixOf_iff_prefix]
  exact ⟨fun ⟨r, h⟩ => ⟨r, h.symm⟩, fun ⟨r, h⟩ => ⟨r, h.symm⟩⟩
theorem prefix_take (p l : Tx) : pre p l = decide (l.take p.length = p) := by
  unfold pre
  rw [Bool.eq_iff_iff, List.isPrefixOf_iff_prefix, decide_eq_true_eq]
  constructor
  · rintro ⟨t, rfl⟩; simp
  · intro h; rw [← h]; exact List.take_prefix _ _
theorem slHasPrefix_calls (s p : ByteArray) (w : World) :
    Calls Tryd.prog 79 #[.string s, .string p] w fun e w' => e = .returned (.bool (pre p.data.toList s.data.toList)) ∧ w = w' := by
  have e1 := Lib.hid (size_list s)
  have e2 := Lib.hid (size_list p)
  go_enter Tryd.func79, Tryd.ntmps79
  go_wp2
  · go_ret
    refine ⟨Oct.ret_bool ?_, rfl⟩
    rw [Oct.beq_toList, prefix_take, decide_eq_decide]
    constructor
    · intro h; rw [← e2.out]; have := congrArg (fun x => x.data.toList) h; simpa only [data_extract, List.drop_zero, Nat.sub_zero] using this
    · intro h
      rw [← e2.out] at h
      exact data_inj (by rw [data_extract, List.drop_zero, Nat.sub_zero]; exact h)
  · go_ret
    refine ⟨Oct.ret_bool ?_, rfl⟩
    rw [prefix_take, eq_comm, decide_eq_false_iff_not]
    intro h
    have := congrArg List.length h
    rw [List.length_take] at this
    have e1 := e1.out
    have e2 := e2.out
    omega
theorem HasPrefix_calls (s p : ByteArray) (w : World) :
    Calls Tryd.prog 59 #[.string s, .string p] w fun e w' => e = .returned (.bool (pre p.data.toList s.data.toList)) ∧ w = w' := by
  go_enter Tryd.func59, Tryd.ntmps59
  go_wp2_with fail
  refine (slHasPrefix_calls s p w).mono ?_
  rintro e w' ⟨rfl, rfl⟩
  go_wp2
  go_ret
  exact ⟨rfl, rfl⟩
/-- what strings.CutPrefix answers -/
inductive IsCutPrefix (l p : Tx) : Tx → Bool → Prop
  | hit (r : Tx) (h : l = p ++ r) : IsCutPrefix l p r true
  | miss (h : ¬ ∃ r, l = p ++ r) : IsCutPrefix l p l false
/-! ### comparisons -/
def cmpI (a b : Int) : Int := if a < b then -1 else if b < a then 1 else 0
end Go.Proofs.YtliojhhiadfmiaaDoor.Pa
