/-
  The library's small calls as path uses them: strings.Cut at one slash, CutPrefix, HasPrefix, cmp.Compare of texts and of numbers. Conditions: none.
-/
import Derived.Test.YtbjpogeemajhoaaGreatRows
import Derived.Test.YtbjpogeemajhoaaGreatPaPlain
import Derived.Test.YtbjpogeemajhoaaGreatOctKit
import Derived.WalkKit
import Derived.WalkSpells
import Derived.WalkLawsBesides
import Derived.ProofKit
import Derived.OpenShut
import Derived.Laws.BytesArg
import Derived.Laws.Externs
import Derived.Deep.QuietTactic
import Derived.BigQuiet
import Derived.BigRegion
import Derived.Lib.Hide
import Derived.Lib.Bytealg
import Derived.IntWalk
namespace Go.Proofs.YtbjpogeemajhoaaGreat.Pa
open Go.RowKit

theorem size_list (s : ByteArray) : s.size = s.data.toList.length := by rw [Array.length_toList]; rfl
theorem data_extract (s : ByteArray) (i j : Nat) : (s.extract i j).data.toList = (s.data.toList.drop i).take (j - i) := by rw [Lib.extract_eq]
theorem data_inj {s t : ByteArray} (h : s.data.toList = t.data.toList) : s = t := ByteArray.ext (Array.toList_inj.1 h)
theorem idx_cases (l : Tx) : (Lib.indexByte l 47 = -1 ∧ 47 ∉ l) ∨ ∃ a b, l = a ++ 47 :: b ∧ 47 ∉ a ∧ Lib.indexByte l 47 = (a.length : Int) := by
  induction l with
  | nil => exact Or.inl ⟨rfl, by simp⟩
  | cons c l ih =>
    by_cases hc : c = 47
    · subst hc
      exact Or.inr ⟨[], l, rfl, by simp, by simp [Lib.indexByte]⟩
    · have hb : (c == 47) = false := by simpa using hc
      rcases ih with ⟨h1, h2⟩ | ⟨a, b, h1, h2, h3⟩
      · refine Or.inl ⟨by simp [Lib.indexByte, hb, h1], ?_⟩
        simp only [List.mem_cons, not_or]; exact ⟨fun e => hc e.symm, h2⟩
      · refine Or.inr ⟨c :: a, b, by rw [h1]; rfl, ?_, ?_⟩
        · simp only [List.mem_cons, not_or]; exact ⟨fun e => hc e.symm, h2⟩
        · have : ¬ ((a.length : Int) = -1) := by omega
          simp [Lib.indexByte, hb, h3, this]
/-- what strings.Cut at a slash answers -/
inductive IsCut (l : Tx) : Tx → Tx → Bool → Prop
  | hit (a b : Tx) (h : l = a ++ 47 :: b) (no : 47 ∉ a) : IsCut l a b true
  | miss (no : 47 ∉ l) : IsCut l l [] false

theorem byte_back (c : UInt8) : ((c.toNat : Int).toNat).toUInt8 = c := by simp
def slashB : ByteArray := ⟨#[47]⟩
/-! ### beginnings -/
/-- whether a text begins with another -/
def pre (p l : Tx) : Bool := p.isPrefixOf l
theorem pre_iff {p l : Tx} : pre p l = true ↔ ∃ r, l = p ++ r := by
  unfold pre; rw [List.isPrefixOf_iff_prefix]
  exact ⟨fun ⟨r, h⟩ => ⟨r, h.symm⟩, fun ⟨r, h⟩ => ⟨r, h.symm⟩⟩
theorem prefix_take (p l : Tx) : pre p l = decide (l.take p.length = p) := by
  unfold pre
  rw [Bool.eq_iff_iff, List.isPrefixOf_iff_prefix, decide_eq_true_eq]
  constructor
  · rintro ⟨t, rfl⟩; simp
  · intro h; rw [← h]; exact List.take_prefix _ _
/-- what strings.CutPrefix answers -/
inductive IsCutPrefix (l p : Tx) : Tx → Bool → Prop
  | hit (r : Tx) (h : l = p ++ r) : IsCutPrefix l p r true
  | miss (h : ¬ ∃ r, l = p ++ r) : IsCutPrefix l p l false
/-! ### comparisons -/
theorem isNaNs_calls (s : ByteArray) (w : World) :
    Calls Tryz.prog 58 #[.string s] w fun e w' => e = .returned (.bool false) ∧ w = w' := by
  go_enter Tryz.func58, Tryz.ntmps58
  go_wp2
  go_ret
  exact ⟨rfl, rfl⟩
theorem isNaNi_calls (n : Int) (w : World) :
    Calls Tryz.prog 57 #[.int .i64 n] w fun e w' => e = .returned (.bool false) ∧ w = w' := by
  go_enter Tryz.func57, Tryz.ntmps57
  go_wp2
  go_ret
  exact ⟨rfl, rfl⟩
def cmpI (a b : Int) : Int := if a < b then -1 else if b < a then 1 else 0
theorem CompareI_calls (a b : Int) (w : World) :
    Calls Tryz.prog 30 #[.int .i64 a, .int .i64 b] w fun e w' => e = .returned (.int .i64 (cmpI a b)) ∧ w = w' := by
  unfold cmpI
  go_enter Tryz.func30, Tryz.ntmps30
  go_wp2_with fail
  refine (isNaNi_calls a w).mono ?_
  rintro e w' ⟨rfl, rfl⟩
  go_wp2_with fail
  refine (isNaNi_calls b w).mono ?_
  rintro e w' ⟨rfl, rfl⟩
  by_cases h : a < b
  · go_wp2
    go_ret
    exact ⟨rfl, rfl⟩
  · by_cases h2 : b < a
    · go_wp2
      go_ret
      exact ⟨rfl, rfl⟩
    · go_wp2
      go_ret
      exact ⟨rfl, rfl⟩
theorem CompareS_calls (a b : ByteArray) (w : World) :
    Calls Tryz.prog 31 #[.string a, .string b] w fun e w' => e = .returned (.int .i64 (cmpB a.data.toList b.data.toList)) ∧ w = w' := by
  have t1 := Lib.hid (ByteArray.toList_eq (bs := a))
  have t2 := Lib.hid (ByteArray.toList_eq (bs := b))
  generalize hr : cmpB a.data.toList b.data.toList = r
  unfold cmpB at hr
  go_enter Tryz.func31, Tryz.ntmps31
  go_wp2_with fail
  refine (isNaNs_calls a w).mono ?_
  rintro e w' ⟨rfl, rfl⟩
  go_wp2_with fail
  refine (isNaNs_calls b w).mono ?_
  rintro e w' ⟨rfl, rfl⟩
  by_cases h0 : a.data.toList = b.data.toList
  · have h1 : Op.bytesLess a.toList b.toList = false := by rw [t1.out, t2.out, h0]; exact less_irrefl _
    have h2 : Op.bytesLess b.toList a.toList = false := by rw [t1.out, t2.out, h0]; exact less_irrefl _
    have h3 : (a.toList == b.toList) = true := by rw [t1.out, t2.out, h0]; simp
    rw [if_pos h0] at hr
    clear h0
    subst hr
    go_wp2
    go_ret
    exact ⟨rfl, rfl⟩
  · rw [if_neg h0] at hr
    cases h1 : Op.bytesLess a.data.toList b.data.toList
    · have h2 : Op.bytesLess b.toList a.toList = true := by rw [t1.out, t2.out, less_total _ _ (Ne.symm h0), h1]; rfl
      have h3 : Op.bytesLess a.toList b.toList = false := by rw [t1.out, t2.out, h1]
      have h4 : (a.toList == b.toList) = false := by rw [t1.out, t2.out]; simpa using h0
      rw [h1] at hr
      simp only [Bool.false_eq_true, if_false] at hr
      clear h0 h1
      subst hr
      go_wp2
      go_ret
      exact ⟨rfl, rfl⟩
    · have h3 : Op.bytesLess a.toList b.toList = true := by rw [t1.out, t2.out, h1]
      rw [h1] at hr
      simp only [if_true] at hr
      clear h0 h1
      subst hr
      go_wp2
      go_ret
      exact ⟨rfl, rfl⟩
end Go.Proofs.YtbjpogeemajhoaaGreat.Pa
