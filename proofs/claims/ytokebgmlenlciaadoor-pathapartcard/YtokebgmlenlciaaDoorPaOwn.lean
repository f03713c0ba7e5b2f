/-
  A slice of texts of the call's own that grows by append: what it holds, and that old memory stays. Conditions: fewer than 2^40 texts.
-/
import Derived.Test.YtokebgmlenlciaaDoorRows
import Derived.Test.YtokebgmlenlciaaDoorPaPlain
import Derived.Test.YtokebgmlenlciaaDoorPaLib
import Derived.Test.YtokebgmlenlciaaDoorPaRune
import Derived.Test.YtokebgmlenlciaaDoorPaShelf
import Derived.Test.YtokebgmlenlciaaDoorPaGood
import Derived.Test.YtokebgmlenlciaaDoorPaSplit
import Derived.Test.YtokebgmlenlciaaDoorPaSort
import Derived.Test.YtokebgmlenlciaaDoorPaCheck
import Derived.Test.YtokebgmlenlciaaDoorOctKit
import Derived.WalkKit
import Derived.WalkSpells
import Derived.WalkLawsBesides
import Derived.ProofKit
import Derived.OpenShut
import Derived.Laws.BytesArg
import Derived.Laws.Externs
import Derived.Deep.QuietTactic
import Derived.BigQuiet
import Derived.BigRegion
import Derived.Lib.Hide
import Derived.Lib.Bytealg
import Derived.IntWalk
import Derived.Deep.LoopGhost
import Derived.Laws.OwnMore
import Derived.Deep.OwnRows
import Derived.Deep.Draws
import Derived.Deep.MidRow
import Derived.Laws.AppendOwn
namespace Go.Proofs.YtokebgmlenlciaaDoor.Pa
open Go Go.RowKit
open Oct (TextsAt)

theorem infoText : (Tryd.prog.info? 9).map (fun i => (i.zero, i.size, i.bytes)) = some (some (.string ⟨#[]⟩), 1, 16) := by kernel_rfl
/-- a slice of texts in a row of the call's own -/
def OwnL (B : Nat) (w : World) (v : Value) (L : List ByteArray) : Prop := w.ownsRow B 9 1 v L.length (L.map Value.string) ∧ v ≠ .slice none 0 0
theorem OwnL.new (w : World) (B : Nat) (hB : B ≤ w.heap.size) : OwnL B (w.alloc (.cells #[] 9)) (.slice (some ⟨w.heap.size, 0, none⟩) 0 0) [] := by
  refine ⟨⟨by simp, Or.inr ⟨w.heap.size, 0, #[], rfl, hB, (show _ = _ by show (w.heap.push _)[w.heap.size]? = _; simp), by simp, by simp [maxLen], by simp, by simp⟩⟩, by simp⟩
theorem OwnL.below {B : Nat} {w w' : World} {v : Value} {L : List ByteArray} (h : OwnL B w v L) (b : Below w.heap.size w w') : OwnL B w' v L := by
  obtain ⟨⟨h1, h2⟩, hne⟩ := h
  refine ⟨⟨h1, ?_⟩, hne⟩
  rcases h2 with h2 | ⟨g, cap, cur, e1, e2, e3, e4⟩
  · exact Or.inl h2
  · exact Or.inr ⟨g, cap, cur, e1, e2, (b.block g (Array.getElem?_eq_some_iff.1 e3).1).trans e3, e4⟩
theorem OwnL.texts {B : Nat} {w : World} {v : Value} {L : List ByteArray} (h : OwnL B w v L) (hz : ∀ s ∈ L, s.size ≤ 140737488351232) : ∃ g cap, v = .slice (some ⟨g, 0, none⟩) L.length cap ∧ L.length ≤ cap ∧ TextsAt w (some ⟨g, 0, none⟩) g 0 L.length (fun i => L.getD i ByteArray.empty) := by
  obtain ⟨ho, hne⟩ := h
  rcases ho.2 with ⟨hv, _⟩ | ⟨g, cap, cur, hv, _, _, hle, _⟩
  · exact absurd hv hne
  · refine ⟨g, cap, hv, hle, fun _ => rfl, fun i hi => ?_, fun i => ?_⟩
    · subst hv
      have := ho.cells (g := g) rfl i (.string (L.getD i ByteArray.empty)) (by
        rw [List.getElem?_map, List.getD_eq_getElem?_getD, List.getElem?_eq_getElem hi]; rfl)
      rwa [Addr.add_mid] at this
    · by_cases hi : i < L.length
      · rw [List.getD_eq_getElem?_getD, List.getElem?_eq_getElem hi]; exact hz _ (List.getElem_mem hi)
      · rw [List.getD_eq_getElem?_getD, List.getElem?_eq_none (by omega)]; show (0 : Nat) ≤ _; omega
theorem OwnL.len {B : Nat} {w : World} {v : Value} {L : List ByteArray} (h : OwnL B w v L) : ∃ g cap, v = .slice (some ⟨g, 0, none⟩) L.length cap := by
  obtain ⟨ho, hne⟩ := h
  rcases ho.2 with ⟨hv, _⟩ | ⟨g, cap, cur, hv, _⟩
  · exact absurd hv hne
  · exact ⟨g, cap, hv⟩
/-- append(out, t), as the walk stands at it -/
theorem wp_append_text {ops : Array Oper} {rest : List Oper} {o : Oper} {a : Act} {Q : Exit → Act → World → Prop} {w : World} (hgd : o.guard = none) (s x : Operand)
    (ho : o.op = .call { callee := .builtin .append, args := #[s, x], argTypes := #[22, 22] })
    (B : Nat) (v : Value) (L : List ByteArray) (t : ByteArray) (hs : a.eval s = v) (hx : a.eval x = .slice (some ⟨w.heap.size, 0, none⟩) 1 1)
    (hown : OwnL B w v L) (hB : B ≤ w.heap.size) (hlen : L.length ≤ 1099511627776)
    (h : ∀ v' w', OwnL B w' v' (L ++ [t]) → (∀ u, Below B u w → Below B u w') → wpList Tryd.prog ops Q rest (a.put o.dst v') w') : wpList Tryd.prog ops Q (o :: rest) a (w.alloc (.cells #[.string t] 9)) := by
  obtain ⟨i0, hi, hz0, hz1, hz2⟩ := info_parts infoText
  have hoA := hown.1.alloc (.cells #[.string t] 9)
  have hnews : ∀ (j : Nat) (u : Value), ([.string t] : List Value)[j]? = some u → (w.alloc (.cells #[.string t] 9)).cell? ((⟨w.heap.size, 0, none⟩ : Addr).add j) = some u := fun j u hj => by
    match j, hj with
    | 0, hj => simp at hj; subst hj; simp [Addr.add]
    | j + 1, hj => simp at hj
  refine wpList_append_own _ hgd s x 22 ho B 9 i0 (.string ⟨#[]⟩) 1 16 Tryd.underlying22 hi hz0 hz1 hz2 rfl (by decide) v L.length (L.map Value.string) hs hoA ⟨w.heap.size, 0, none⟩ 1 1 [.string t] hx rfl hnews
    (fun u hu => by rw [List.mem_singleton] at hu; subst hu; rfl) (by unfold maxLen; omega) (by omega) (by simp; omega) ?_
  intro v' w' hown' hgrow hnil
  refine h v' w' ⟨by simpa using hown', fun e => by have := (hnil.1 e).1; exact hown.2 this⟩ fun u hu => ?_
  exact (hu.alloc hB (.cells #[.string t] 9)).grown hgrow (by simp; omega) (fun k hk => (hoA.lt k hk).1)
end Go.Proofs.YtokebgmlenlciaaDoor.Pa
