/-
  The library's small calls as path uses them: strings.Cut at one slash, CutPrefix, HasPrefix, cmp.Compare of texts and of numbers. Conditions: none.
-/
import Derived.Test.YtokebgmlenlciaaDoorRows
import Derived.Test.YtokebgmlenlciaaDoorPaPlain
import Derived.Test.YtokebgmlenlciaaDoorOctKit
import Derived.WalkKit
import Derived.WalkSpells
import Derived.WalkLawsBesides
import Derived.ProofKit
import Derived.OpenShut
import Derived.Laws.BytesArg
import Derived.Laws.Externs
import Derived.Deep.QuietTactic
import Derived.BigQuiet
import Derived.BigRegion
import Derived.Lib.Hide
import Derived.Lib.Bytealg
import Derived.IntWalk
namespace Go.Proofs.YtokebgmlenlciaaDoor.Pa
open Go.RowKit

theorem size_list (s : ByteArray) : s.size = s.data.toList.length := by rw [Array.length_toList]; rfl
theorem data_extract (s : ByteArray) (i j : Nat) : (s.extract i j).data.toList = (s.data.toList.drop i).take (j - i) := by rw [Lib.extract_eq]
theorem data_inj {s t : ByteArray} (h : s.data.toList = t.data.toList) : s = t := ByteArray.ext (Array.toList_inj.1 h)
theorem idx_cases (l : Tx) : (Lib.indexByte l 47 = -1 ∧ 47 ∉ l) ∨ ∃ a b, l = a ++ 47 :: b ∧ 47 ∉ a ∧ Lib.indexByte l 47 = (a.length : Int) := by
  induction l with
  | nil => exact Or.inl ⟨rfl, by simp⟩
  | cons c l ih =>
    by_cases hc : c = 47
    · subst hc
      exact Or.inr ⟨[], l, rfl, by simp, by simp [Lib.indexByte]⟩
    · have hb : (c == 47) = false := by simpa using hc
      rcases ih with ⟨h1, h2⟩ | ⟨a, b, h1, h2, h3⟩
      · refine Or.inl ⟨by simp [Lib.indexByte, hb, h1], ?_⟩
        simp only [List.mem_cons, not_or]; exact ⟨fun e => hc e.symm, h2⟩
      · refine Or.inr ⟨c :: a, b, by rw [h1]; rfl, ?_, ?_⟩
        · simp only [List.mem_cons, not_or]; exact ⟨fun e => hc e.symm, h2⟩
        · have : ¬ ((a.length : Int) = -1) := by omega
          simp [Lib.indexByte, hb, h3, this]
/-- what strings.Cut at a slash answers -/
inductive IsCut (l : Tx) : Tx → Tx → Bool → Prop
  | hit (a b : Tx) (h : l = a ++ 47 :: b) (no : 47 ∉ a) : IsCut l a b true
  | miss (no : 47 ∉ l) : IsCut l l [] false

theorem byte_back (c : UInt8) : ((c.toNat : Int).toNat).toUInt8 = c := by simp
theorem slIndexByte_calls (s : ByteArray) (c : UInt8) (w : World) :
    Calls Tryd.prog 90 #[.string s, .int .u8 (c.toNat : Int)] w fun e w' => e = .returned (.int .i64 (Lib.indexByte s.data.toList c)) ∧ w = w' := by
  have h1 := Lib.run_indexByteString (P := Tryd.prog) s (c.toNat : Int) w
  rw [byte_back] at h1
  have h4 := run_callFunc_extern (P := Tryd.prog) (w := w) (args := #[.string s, .int .u8 (c.toNat : Int)]) Tryd.func98 (by kernel_rfl) (by kernel_rfl) (by kernel_rfl) (e := Extern.BytealgIndexByte.indexByte) (by kernel_rfl)
  go_enter Tryd.func90, Tryd.ntmps90
  go_wp2
  go_ret
  exact ⟨rfl, rfl⟩
theorem IndexByte_calls (s : ByteArray) (c : UInt8) (w : World) :
    Calls Tryd.prog 76 #[.string s, .int .u8 (c.toNat : Int)] w fun e w' => e = .returned (.int .i64 (Lib.indexByte s.data.toList c)) ∧ w = w' := by
  go_enter Tryd.func76, Tryd.ntmps76
  go_wp2_with fail
  refine (slIndexByte_calls s c w).mono ?_
  rintro e w' ⟨rfl, rfl⟩
  go_wp2
  go_ret
  exact ⟨rfl, rfl⟩
def slashB : ByteArray := ⟨#[47]⟩
set_option maxRecDepth 100000 in
theorem slIndex_calls (s : ByteArray) (w : World) :
    Calls Tryd.prog 70 #[.string s, .string ⟨#[47]⟩] w fun e w' => e = .returned (.int .i64 (Lib.indexByte s.data.toList 47)) ∧ w = w' := by
  by_cases h : s = ⟨#[47]⟩
  · subst h
    go_enter Tryd.func70, Tryd.ntmps70
    go_wp2
    go_ret
    exact ⟨rfl, rfl⟩
  · have hb : (([47] : Tx) == s.toList) = false := by
      rw [Bool.eq_false_iff]; intro e
      have e1 : ([47] : Tx) = s.toList := by simpa using e
      refine h (Oct.toList_inj.1 ?_)
      rw [← e1, ByteArray.toList_eq]
    go_enter Tryd.func70, Tryd.ntmps70
    go_wp2_with fail
    refine (slIndexByte_calls s 47 w).mono ?_
    rintro e w' ⟨rfl, rfl⟩
    go_wp2
    go_ret
    exact ⟨rfl, rfl⟩
theorem slCut_calls (s : ByteArray) (w : World) (hs : s.size ≤ 140737488351232) :
    Calls Tryd.prog 54 #[.string s, .string ⟨#[47]⟩] w fun e w' => (∃ a b f, e = .returned (.tuple #[.string a, .string b, .bool f]) ∧ IsCut s.data.toList a.data.toList b.data.toList f) ∧ ∃ n, w' = w.drewN n := by
  have hz := size_list s
  rcases idx_cases s.data.toList with ⟨h1, h2⟩ | ⟨a, b, h1, h2, h3⟩
  · go_enter Tryd.func54, Tryd.ntmps54
    go_wp2_with fail
    refine (slIndex_calls s w).mono ?_
    rintro e w' ⟨rfl, rfl⟩
    rw [h1]
    go_wp2
    go_ret3
    exact ⟨⟨_, _, _, rfl, .miss h2⟩, 0, rfl⟩
  · have hl : s.data.toList.length = a.length + 1 + b.length := by rw [h1]; simp; omega
    generalize hn : a.length = n at *
    have c1 : (0 : Int) ≤ n := by omega
    have c2 : (n : Int) ≤ s.size := by omega
    have c3 : (0 : Int) ≤ (n : Int) + 1 := by omega
    have c4 : (n : Int) + 1 ≤ s.size := by omega
    replace h1 := Lib.hid h1
    replace h2 := Lib.hid h2
    replace hn := Lib.hid hn
    go_enter Tryd.func54, Tryd.ntmps54
    go_wp2_with fail
    refine (slIndex_calls s w).mono ?_
    rintro e w' ⟨rfl, rfl⟩
    rw [h3]
    go_wp2_with fail
    go_region
    go_wp2
    go_ret3
    refine ⟨⟨_, _, _, rfl, ?_⟩, 1, rfl⟩
    have e1 : (s.extract 0 n).data.toList = a := by
      rw [Lib.extract_eq, h1.out, ← hn.out]; simp
    have e2 : (s.extract (n + 1) (n + 1 + b.length)).data.toList = b := by
      rw [Lib.extract_eq, h1.out, ← hn.out]; simp
    rw [e1, e2]
    exact .hit a b h1.out h2.out
set_option maxRecDepth 100000 in
theorem Cut_calls (s : ByteArray) (w : World) (hs : s.size ≤ 140737488351232) :
    Calls Tryd.prog 41 #[.string s, .string ⟨#[47]⟩] w fun e w' => (∃ a b f, e = .returned (.tuple #[.string a, .string b, .bool f]) ∧ IsCut s.data.toList a.data.toList b.data.toList f) ∧ ∃ n, w' = w.drewN n := by
  go_enter Tryd.func41, Tryd.ntmps41
  go_wp2_with fail
  refine (slCut_calls s w hs).mono ?_
  rintro e w' ⟨⟨a, b, f, rfl, h⟩, n, rfl⟩
  go_wp2
  go_ret3
  exact ⟨⟨_, _, _, rfl, h⟩, n, rfl⟩
/-! ### beginnings -/
/-- whether a text begins with another -/
def pre (p l : Tx) : Bool := p.isPrefixOf l
theorem pre_iff {p l : Tx} : pre p l = true ↔ ∃ r, l = p ++ r := by
  unfold pre; rw [List.isPrefixOf_iff_prefix]
  exact ⟨fun ⟨r, h⟩ => ⟨r, h.symm⟩, fun ⟨r, h⟩ => ⟨r, h.symm⟩⟩
theorem prefix_take (p l : Tx) : pre p l = decide (l.take p.length = p) := by
  unfold pre
  rw [Bool.eq_iff_iff, List.isPrefixOf_iff_prefix, decide_eq_true_eq]
  constructor
  · rintro ⟨t, rfl⟩; simp
  · intro h; rw [← h]; exact List.take_prefix _ _
theorem slHasPrefix_calls (s p : ByteArray) (w : World) :
    Calls Tryd.prog 67 #[.string s, .string p] w fun e w' => e = .returned (.bool (pre p.data.toList s.data.toList)) ∧ w = w' := by
  have e1 := Lib.hid (size_list s)
  have e2 := Lib.hid (size_list p)
  go_enter Tryd.func67, Tryd.ntmps67
  go_wp2
  · go_ret
    refine ⟨Oct.ret_bool ?_, rfl⟩
    rw [Oct.beq_toList, prefix_take, decide_eq_decide]
    constructor
    · intro h; rw [← e2.out]; have := congrArg (fun x => x.data.toList) h; simpa only [data_extract, List.drop_zero, Nat.sub_zero] using this
    · intro h
      rw [← e2.out] at h
      exact data_inj (by rw [data_extract, List.drop_zero, Nat.sub_zero]; exact h)
  · go_ret
    refine ⟨Oct.ret_bool ?_, rfl⟩
    rw [prefix_take, eq_comm, decide_eq_false_iff_not]
    intro h
    have := congrArg List.length h
    rw [List.length_take] at this
    have e1 := e1.out
    have e2 := e2.out
    omega
theorem HasPrefix_calls (s p : ByteArray) (w : World) :
    Calls Tryd.prog 50 #[.string s, .string p] w fun e w' => e = .returned (.bool (pre p.data.toList s.data.toList)) ∧ w = w' := by
  go_enter Tryd.func50, Tryd.ntmps50
  go_wp2_with fail
  refine (slHasPrefix_calls s p w).mono ?_
  rintro e w' ⟨rfl, rfl⟩
  go_wp2
  go_ret
  exact ⟨rfl, rfl⟩
/-- what strings.CutPrefix answers -/
inductive IsCutPrefix (l p : Tx) : Tx → Bool → Prop
  | hit (r : Tx) (h : l = p ++ r) : IsCutPrefix l p r true
  | miss (h : ¬ ∃ r, l = p ++ r) : IsCutPrefix l p l false
theorem slCutPrefix_calls (s p : ByteArray) (w : World) :
    Calls Tryd.prog 66 #[.string s, .string p] w fun e w' => (∃ r f, e = .returned (.tuple #[.string r, .bool f]) ∧ IsCutPrefix s.data.toList p.data.toList r.data.toList f) ∧ w = w' := by
  have e1 := Lib.hid (size_list s)
  have e2 := Lib.hid (size_list p)
  go_enter Tryd.func66, Tryd.ntmps66
  go_wp2_with fail
  refine (slHasPrefix_calls s p w).mono ?_
  rintro e w' ⟨rfl, rfl⟩
  cases h : pre p.data.toList s.data.toList
  · go_wp2
    go_ret2
    refine ⟨⟨_, _, rfl, .miss ?_⟩, rfl⟩
    intro hr
    rw [Bool.eq_false_iff] at h
    exact h (pre_iff.2 hr)
  · obtain ⟨r, hr⟩ := pre_iff.1 h
    have hl := congrArg List.length hr
    rw [List.length_append, ← e1.out, ← e2.out] at hl
    have c1 : (p.size : Int) ≤ s.size := by omega
    replace hr := Lib.hid hr
    clear hl
    go_wp2
    go_ret2
    refine ⟨⟨_, _, rfl, ?_⟩, rfl⟩
    have e3 : (s.extract p.size s.size).data.toList = r := by
      rw [Lib.extract_eq, e1.out, e2.out, hr.out]; simp
    rw [e3]
    exact .hit r hr.out
theorem CutPrefix_calls (s p : ByteArray) (w : World) :
    Calls Tryd.prog 49 #[.string s, .string p] w fun e w' => (∃ r f, e = .returned (.tuple #[.string r, .bool f]) ∧ IsCutPrefix s.data.toList p.data.toList r.data.toList f) ∧ w = w' := by
  go_enter Tryd.func49, Tryd.ntmps49
  go_wp2_with fail
  refine (slCutPrefix_calls s p w).mono ?_
  rintro e w' ⟨⟨r, f, rfl, h⟩, rfl⟩
  go_wp2
  go_ret2
  exact ⟨⟨_, _, rfl, h⟩, rfl⟩
/-! ### comparisons -/
theorem isNaNs_calls (s : ByteArray) (w : World) :
    Calls Tryd.prog 64 #[.string s] w fun e w' => e = .returned (.bool false) ∧ w = w' := by
  go_enter Tryd.func64, Tryd.ntmps64
  go_wp2
  go_ret
  exact ⟨rfl, rfl⟩
theorem isNaNi_calls (n : Int) (w : World) :
    Calls Tryd.prog 65 #[.int .i64 n] w fun e w' => e = .returned (.bool false) ∧ w = w' := by
  go_enter Tryd.func65, Tryd.ntmps65
  go_wp2
  go_ret
  exact ⟨rfl, rfl⟩
def cmpI (a b : Int) : Int := if a < b then -1 else if b < a then 1 else 0
theorem CompareI_calls (a b : Int) (w : World) :
    Calls Tryd.prog 48 #[.int .i64 a, .int .i64 b] w fun e w' => e = .returned (.int .i64 (cmpI a b)) ∧ w = w' := by
  unfold cmpI
  go_enter Tryd.func48, Tryd.ntmps48
  go_wp2_with fail
  refine (isNaNi_calls a w).mono ?_
  rintro e w' ⟨rfl, rfl⟩
  go_wp2_with fail
  refine (isNaNi_calls b w).mono ?_
  rintro e w' ⟨rfl, rfl⟩
  by_cases h : a < b
  · go_wp2
    go_ret
    exact ⟨rfl, rfl⟩
  · by_cases h2 : b < a
    · go_wp2
      go_ret
      exact ⟨rfl, rfl⟩
    · go_wp2
      go_ret
      exact ⟨rfl, rfl⟩
theorem CompareS_calls (a b : ByteArray) (w : World) :
    Calls Tryd.prog 47 #[.string a, .string b] w fun e w' => e = .returned (.int .i64 (cmpB a.data.toList b.data.toList)) ∧ w = w' := by
  have t1 := Lib.hid (ByteArray.toList_eq (bs := a))
  have t2 := Lib.hid (ByteArray.toList_eq (bs := b))
  generalize hr : cmpB a.data.toList b.data.toList = r
  unfold cmpB at hr
  go_enter Tryd.func47, Tryd.ntmps47
  go_wp2_with fail
  refine (isNaNs_calls a w).mono ?_
  rintro e w' ⟨rfl, rfl⟩
  go_wp2_with fail
  refine (isNaNs_calls b w).mono ?_
  rintro e w' ⟨rfl, rfl⟩
  by_cases h0 : a.data.toList = b.data.toList
  · have h1 : Op.bytesLess a.toList b.toList = false := by rw [t1.out, t2.out, h0]; exact less_irrefl _
    have h2 : Op.bytesLess b.toList a.toList = false := by rw [t1.out, t2.out, h0]; exact less_irrefl _
    have h3 : (a.toList == b.toList) = true := by rw [t1.out, t2.out, h0]; simp
    rw [if_pos h0] at hr
    clear h0
    subst hr
    go_wp2
    go_ret
    exact ⟨rfl, rfl⟩
  · rw [if_neg h0] at hr
    cases h1 : Op.bytesLess a.data.toList b.data.toList
    · have h2 : Op.bytesLess b.toList a.toList = true := by rw [t1.out, t2.out, less_total _ _ (Ne.symm h0), h1]; rfl
      have h3 : Op.bytesLess a.toList b.toList = false := by rw [t1.out, t2.out, h1]
      have h4 : (a.toList == b.toList) = false := by rw [t1.out, t2.out]; simpa using h0
      rw [h1] at hr
      simp only [Bool.false_eq_true, if_false] at hr
      clear h0 h1
      subst hr
      go_wp2
      go_ret
      exact ⟨rfl, rfl⟩
    · have h3 : Op.bytesLess a.toList b.toList = true := by rw [t1.out, t2.out, h1]
      rw [h1] at hr
      simp only [if_true] at hr
      clear h0 h1
      subst hr
      go_wp2
      go_ret
      exact ⟨rfl, rfl⟩
end Go.Proofs.YtokebgmlenlciaaDoor.Pa
