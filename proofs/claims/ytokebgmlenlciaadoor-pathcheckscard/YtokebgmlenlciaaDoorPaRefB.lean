/-
  The document's own answers: Split, as the plain functions say; old memory stays. Conditions: texts of fewer than 2^40 bytes.
-/
import Derived.Test.YtokebgmlenlciaaDoorRows
import Derived.Test.YtokebgmlenlciaaDoorPaPlain
import Derived.Test.YtokebgmlenlciaaDoorPaLib
import Derived.Test.YtokebgmlenlciaaDoorPaRune
import Derived.Test.YtokebgmlenlciaaDoorPaShelf
import Derived.Test.YtokebgmlenlciaaDoorPaGood
import Derived.Test.YtokebgmlenlciaaDoorPaSplit
import Derived.Test.YtokebgmlenlciaaDoorPaSort
import Derived.Test.YtokebgmlenlciaaDoorPaCheck
import Derived.Test.YtokebgmlenlciaaDoorPaAwake
import Derived.Test.YtokebgmlenlciaaDoorPaMore
import Derived.Test.YtokebgmlenlciaaDoorPaOwn
import Derived.Test.YtokebgmlenlciaaDoorPaRefA
import Derived.Test.YtokebgmlenlciaaDoorOctKit
import Derived.WalkKit
import Derived.WalkSpells
import Derived.WalkLawsBesides
import Derived.ProofKit
import Derived.OpenShut
import Derived.Laws.BytesArg
import Derived.Laws.Externs
import Derived.Deep.QuietTactic
import Derived.BigQuiet
import Derived.BigRegion
import Derived.Lib.Hide
import Derived.Lib.Bytealg
import Derived.IntWalk
import Derived.Deep.LoopGhost
import Derived.Laws.OwnMore
import Derived.Deep.OwnRows
import Derived.Deep.Draws
import Derived.Deep.MidRow
namespace Go.Proofs.YtokebgmlenlciaaDoor.Pa
open Go Go.RowKit
open Oct (TextsAt)

/-- the pieces from a place on: none behind the end -/
def from_ (l : Tx) (k : Nat) : List Tx := if k ≤ l.length then pieces (l.drop k) else []
/-- Split's loop: at a place, since another, so many pieces laid down -/
structure Cuts (s : ByteArray) (i f : Nat) (L : List ByteArray) : Prop where
  place : (i ≤ s.size ∧ f ≤ i) ∨ (i = s.size + 1 ∧ f = s.size + 1)
  no : ∀ j, f ≤ j → j < i → j < s.size → s.data.toList.getD j 0 ≠ 47
  all : pieces s.data.toList = L.map (fun x => x.data.toList) ++ from_ s.data.toList f
  names : ∀ x ∈ L, isName x.data.toList = true
  few : L.length ≤ f
  small : ∀ x ∈ L, x.size ≤ s.size
theorem Cuts.start (s : ByteArray) : Cuts s 0 0 [] := by
  refine ⟨Or.inl ⟨by omega, by omega⟩, fun j h1 h2 => by omega, ?_, by simp, by simp, by simp⟩
  simp [from_]
theorem Cuts.go {s : ByteArray} {i f : Nat} {L : List ByteArray} (h : Cuts s i f L) (hi : i < s.size) (hc : s.data.toList.getD i 0 ≠ 47) : Cuts s (i + 1) f L := by
  refine ⟨?_, fun j h1 h2 h3 => ?_, h.all, h.names, h.few, h.small⟩
  · rcases h.place with ⟨a, b⟩ | ⟨a, b⟩
    · exact Or.inl ⟨by omega, by omega⟩
    · omega
  · by_cases e : j = i
    · subst e; exact hc
    · exact h.no j h1 (by omega) h3
/-- the piece between two places -/
theorem cut_piece {s : ByteArray} {i f : Nat} {L : List ByteArray} (h : Cuts s i f L) (hi : i ≤ s.size) (hend : i = s.size ∨ (i < s.size ∧ s.data.toList.getD i 0 = 47)) :
    from_ s.data.toList f = (s.extract f i).data.toList :: from_ s.data.toList (i + 1) := by
  have hz := size_list s
  have hfi : f ≤ i := by rcases h.place with ⟨a, b⟩ | ⟨a, b⟩ <;> omega
  have e0 : (s.extract f i).data.toList = (s.data.toList.drop f).take (i - f) := data_extract s f i
  have no : 47 ∉ (s.data.toList.drop f).take (i - f) := by
    intro hm
    obtain ⟨j, hj, e⟩ := List.getElem_of_mem hm
    rw [List.length_take, List.length_drop] at hj
    rw [List.getElem_take, List.getElem_drop] at e
    have := h.no (f + j) (by omega) (by omega) (by omega)
    rw [List.getD_eq_getElem?_getD, List.getElem?_eq_getElem (by omega)] at this
    exact this e
  unfold from_
  rw [if_pos (by omega), e0]
  rcases hend with rfl | ⟨hlt, hc⟩
  · rw [if_neg (by omega)]
    have : (s.data.toList.drop f).take (s.size - f) = s.data.toList.drop f := List.take_of_length_le (by rw [List.length_drop]; omega)
    rw [this] at no ⊢
    exact pieces_one _ no
  · rw [if_pos (by omega)]
    have e1 : s.data.toList.drop f = (s.data.toList.drop f).take (i - f) ++ 47 :: s.data.toList.drop (i + 1) := by
      have h1 := (List.take_append_drop (i - f) (s.data.toList.drop f)).symm
      have h2 : (s.data.toList.drop f).drop (i - f) = 47 :: s.data.toList.drop (i + 1) := by
        rw [List.drop_drop, show f + (i - f) = i by omega, drop_get (l := s.data.toList) (k := i) (by omega), hc]
      rw [h2] at h1
      exact h1
    rw [e1, pieces_slash _ _ no]
    congr 1
    rw [List.take_left' (by rw [List.length_take, List.length_drop]; omega)]
theorem Cuts.add {s : ByteArray} {i f : Nat} {L : List ByteArray} (h : Cuts s i f L) (hi : i ≤ s.size) (hend : i = s.size ∨ (i < s.size ∧ s.data.toList.getD i 0 = 47)) (hn : isName (s.extract f i).data.toList = true) : Cuts s (i + 1) (i + 1) (L ++ [s.extract f i]) := by
  have hfi : f ≤ i := by rcases h.place with ⟨a, b⟩ | ⟨a, b⟩ <;> omega
  refine ⟨?_, fun j h1 h2 => by omega, ?_, fun x hx => ?_, ?_, fun x hx => ?_⟩
  · rcases hend with rfl | ⟨hlt, _⟩
    · exact Or.inr ⟨rfl, rfl⟩
    · exact Or.inl ⟨by omega, by omega⟩
  · rw [h.all, cut_piece h hi hend]; simp
  · rcases List.mem_append.1 hx with hx | hx
    · exact h.names x hx
    · rw [List.mem_singleton] at hx; rw [hx]; exact hn
  · have := h.few; simp; omega
  · rcases List.mem_append.1 hx with hx | hx
    · exact h.small x hx
    · rw [List.mem_singleton] at hx; rw [hx]; exact size_extract_le _ _ _
theorem Cuts.bad {s : ByteArray} {i f : Nat} {L : List ByteArray} (h : Cuts s i f L) (hi : i ≤ s.size) (hend : i = s.size ∨ (i < s.size ∧ s.data.toList.getD i 0 = 47)) (hn : isName (s.extract f i).data.toList = false) : fault s.data.toList = 30 := by
  unfold fault
  have : (pieces s.data.toList).all isName = false := by
    rw [Bool.eq_false_iff]
    intro hall
    rw [List.all_eq_true] at hall
    have := hall (s.extract f i).data.toList (by rw [h.all, cut_piece h hi hend]; exact List.mem_append_right _ (List.mem_cons_self ..))
    rw [hn] at this
    exact absurd this (by decide)
  rw [this]; rfl
theorem Cuts.end {s : ByteArray} {i f : Nat} {L : List ByteArray} (h : Cuts s i f L) (hi : ¬ i ≤ s.size) : pieces s.data.toList = L.map (fun x => x.data.toList) ∧ fault s.data.toList = if 64 < L.length then 33 else 0 := by
  have hz := size_list s
  have hf : f = s.size + 1 := by rcases h.place with ⟨a, b⟩ | ⟨a, b⟩ <;> omega
  have e : pieces s.data.toList = L.map (fun x => x.data.toList) := by
    rw [h.all, hf]; unfold from_; rw [if_neg (by omega)]; simp
  refine ⟨e, ?_⟩
  unfold fault
  have : (pieces s.data.toList).all isName = true := by
    rw [e, List.all_map, List.all_eq_true]; exact fun x hx => h.names x hx
  rw [this, e, List.length_map]; rfl
/-- what Split answers -/
def Splits (s : ByteArray) (e : Ending) (w : World) : Prop := ∃ (a : Option Addr) (len cap b off : Nat) (T : Nat → ByteArray), e = .returned (.tuple #[.slice a len cap, .int .i64 (fault s.data.toList)]) ∧ TextsAt w a b off len T ∧ (fault s.data.toList ≠ 0 → len = 0) ∧ (fault s.data.toList = 0 → tx T len = pieces s.data.toList)
theorem Splits.no {s : ByteArray} {w : World} {c : Nat} (hf : fault s.data.toList = c) (hc : c ≠ 0) : Splits s (.returned (.tuple #[.slice none 0 0, .int .i64 (c : Int)])) w :=
  ⟨none, 0, 0, 0, 0, fun _ => ByteArray.empty, by rw [hf], ⟨fun h => by omega, fun i h => by omega, fun _ => by show (0 : Nat) ≤ _; omega⟩, fun _ => rfl, fun h => absurd (hf.symm.trans h) hc⟩
theorem Splits.yes {s : ByteArray} {w : World} {a : Option Addr} {len cap b off : Nat} {T : Nat → ByteArray} (hf : fault s.data.toList = 0) (hT : TextsAt w a b off len T) (h : tx T len = pieces s.data.toList) : Splits s (.returned (.tuple #[.slice a len cap, .int .i64 0])) w :=
  ⟨a, len, cap, b, off, T, by rw [hf]; rfl, hT, fun g => absurd hf g, fun _ => h⟩
theorem size_extract_ok (s : ByteArray) (f i : Nat) : (s.extract f i).size ≤ s.size := size_extract_le s f i
set_option maxRecDepth 100000 in
set_option maxHeartbeats 2000000 in
theorem RSplit_calls (s : ByteArray) (w : World) (hs : s.size ≤ 1099511627000) :
    Calls Tryd.prog 12 #[.string s] w fun e w' => Splits s e w' ∧ Below w.heap.size w w' := by
  have o1 := Lib.hid (OwnL.new w w.heap.size (Nat.le_refl _))
  have b1 := Lib.hid ((Below.refl w.heap.size w).alloc (Nat.le_refl _) (.cells #[] 9))
  go_enter Tryd.func12, Tryd.ntmps12
  go_wp2
  generalize w.alloc (.cells #[] 9) = w1 at *
  go_loopw [4, 5, 6] (fun v x y wr => ∃ (i f : Nat) (L : List ByteArray), i ≤ s.size + 1 ∧ f ≤ i ∧ x = .int .i64 f ∧ y = .int .i64 i ∧ Hid (Cuts s i f L) ∧ Hid (OwnL w.heap.size wr v L) ∧ Hid (Below w.heap.size w wr)) (fun _ _ y _ => s.size + 1 - (intOf y).toNat)
  case atStart => exact ⟨0, 0, [], by omega, by omega, rfl, rfl, Lib.hid (Cuts.start s), o1, b1⟩
  case round =>
    clear o1 b1
    obtain ⟨i, f, L, hi, hfi, rfl, rfl, hC, hO, hB⟩ := hrel
    by_cases hle : i ≤ s.size
    · have i1 : (i : Int) ≤ s.size := by omega
      have i0 : 0 ≤ (i : Int) := by omega
      have f0 : 0 ≤ (f : Int) := by omega
      have f1 : (f : Int) ≤ i := by omega
      by_cases hgo : i < s.size ∧ s.data.toList.getD i 0 ≠ 47
      · obtain ⟨hlt, hc⟩ := hgo
        have i2 : (i : Int) < s.size := by omega
        obtain ⟨c, hcb⟩ : ∃ c : UInt8, s[i]'hlt = c := ⟨_, rfl⟩
        have nx := Lib.hid (hC.out.go hlt hc)
        rw [← get_list s i hlt, hcb] at hc
        have n1 : ((c.toNat : Int) == 47) = false := (byte_eq c 47).trans (decide_eq_false hc)
        clear hc
        go_wp2
        exact ⟨⟨i + 1, f, L, by omega, by omega, rfl, by go_num, nx, hO, hB⟩, by simp [intOf]; omega⟩
      · have hend : i = s.size ∨ (i < s.size ∧ s.data.toList.getD i 0 = 47) := by
          rcases Nat.lt_or_ge i s.size with g | g
          · exact Or.inr ⟨g, Classical.not_not.1 fun h => hgo ⟨g, h⟩⟩
          · exact Or.inl (by omega)
        have hgd := RGood_calls (s.extract f i)
        cases hx : isName (s.extract f i).data.toList with
        | false =>
          have hf := Lib.hid (hC.out.bad hle hend hx)
          rw [hx] at hgd
          replace hgd := Lib.hid hgd
          clear hgo hx
          rcases hend with rfl | ⟨hlt, hc⟩
          · have i2 : ¬ (s.size : Int) < s.size := by omega
            go_wp2_with fail
            refine (hgd.out wr).mono ?_
            rintro e w2 ⟨rfl, rfl⟩
            go_wp2
            go_ret2
            exact ⟨Splits.no hf.out (by decide), hB.out⟩
          · have i2 : (i : Int) < s.size := by omega
            obtain ⟨c, hcb⟩ : ∃ c : UInt8, s[i]'hlt = c := ⟨_, rfl⟩
            rw [← get_list s i hlt, hcb] at hc
            have n1 : ((c.toNat : Int) == 47) = true := (byte_eq c 47).trans (decide_eq_true hc)
            clear hc
            go_wp2_with fail
            refine (hgd.out wr).mono ?_
            rintro e w2 ⟨rfl, rfl⟩
            go_wp2
            go_ret2
            exact ⟨Splits.no hf.out (by decide), hB.out⟩
        | true =>
          have nx := Lib.hid (hC.out.add hle hend hx)
          have hlen : L.length ≤ 1099511627776 := by have := hC.out.few; omega
          rw [hx] at hgd
          replace hgd := Lib.hid hgd
          clear hgo hx
          rcases hend with rfl | ⟨hlt, hc⟩
          · have i2 : ¬ (s.size : Int) < s.size := by omega
            go_wp2_with fail
            refine (hgd.out wr).mono ?_
            rintro e w2 ⟨rfl, rfl⟩
            go_wp2_with (at_builtin; refine wp_append_text rfl _ _ rfl w.heap.size u4 L (s.extract f s.size) rfl rfl hO.out hB.out.size hlen ?_)
            intro v' w5 hO5 hB5
            have hB6 := Lib.hid (hB5 w hB.out)
            replace hO5 := Lib.hid hO5
            clear hO hB hB5 hlen
            go_wp2
            exact ⟨⟨s.size + 1, s.size + 1, _, by omega, by omega, by go_num, by go_num, nx, hO5, hB6⟩, by first | (simp [intOf]; done) | (simp [intOf]; omega)⟩
          · have i2 : (i : Int) < s.size := by omega
            obtain ⟨c, hcb⟩ : ∃ c : UInt8, s[i]'hlt = c := ⟨_, rfl⟩
            rw [← get_list s i hlt, hcb] at hc
            have n1 : ((c.toNat : Int) == 47) = true := (byte_eq c 47).trans (decide_eq_true hc)
            clear hc
            go_wp2_with fail
            refine (hgd.out wr).mono ?_
            rintro e w2 ⟨rfl, rfl⟩
            go_wp2_with (at_builtin; refine wp_append_text rfl _ _ rfl w.heap.size u4 L (s.extract f i) rfl rfl hO.out hB.out.size hlen ?_)
            intro v' w5 hO5 hB5
            have hB6 := Lib.hid (hB5 w hB.out)
            replace hO5 := Lib.hid hO5
            clear hO hB hB5 hlen
            go_wp2
            exact ⟨⟨i + 1, i + 1, _, by omega, by omega, by go_num, by go_num, nx, hO5, hB6⟩, by simp [intOf]; omega⟩
    · have d0 : decide ((i : Int) ≤ s.size) = false := decide_eq_false (by omega)
      have d1 : (s.size : Int) < i := by omega
      obtain ⟨hp, hf⟩ := hC.out.end hle
      have hz : Hid (∀ t ∈ L, t.size ≤ 140737488351232) := Lib.hid fun t ht => by have := hC.out.small t ht; omega
      obtain ⟨g, cp, rfl, hle', ht⟩ := hO.out.texts hz.out
      replace ht := Lib.hid ht
      replace hp := Lib.hid hp
      clear hO hC
      by_cases h64 : 64 < L.length
      · rw [if_pos h64] at hf
        have l1 : (64 : Int) < L.length := by omega
        replace hf := Lib.hid hf
        go_wp2
        go_ret2
        exact ⟨Splits.no hf.out (by decide), hB.out⟩
      · rw [if_neg h64] at hf
        have l1 : ¬ (64 : Int) < L.length := by omega
        replace hf := Lib.hid hf
        go_wp2
        go_ret2
        exact ⟨Splits.yes hf.out ht.out (by rw [tx_getD, hp.out]), hB.out⟩
end Go.Proofs.YtokebgmlenlciaaDoor.Pa
