/-
  An object that came in, opened: what its fields are and where its lists lie. Conditions: none.
-/
import Derived.Test.YtmbbnabongnojaaDoorRows
import Derived.Test.YtmbbnabongnojaaDoorObPlain
import Derived.Test.YtmbbnabongnojaaDoorObGood
import Derived.Test.YtmbbnabongnojaaDoorOctKit
import Derived.ProofKit
import Derived.OpenShut
import Derived.SizedLaws
import Derived.Carry
import Derived.WalkKit
import Derived.Deep.Draws
import Derived.Deep.SlicePairs
import Derived.Deep.Slices
import Derived.Deep.Strs
namespace Go.Proofs.YtmbbnabongnojaaDoor.Ob
open Go Go.RowKit Go.WideShapes Go.ChangeShapes
open Oct (empty)

theorem cellsInt : Tryd.prog.cellsOf 3 = 1 := by kernel_rfl
theorem cellsStr : Tryd.prog.cellsOf 9 = 1 := by kernel_rfl
theorem cellsEnts : Tryd.prog.cellsOf 22 = 1 := by kernel_rfl
theorem cellsTexts : Tryd.prog.cellsOf 23 = 1 := by kernel_rfl
theorem cellsEnt : Tryd.prog.cellsOf 47 = 3 := by kernel_rfl
theorem cellsObj : Tryd.prog.cellsOf 25 = 7 := by kernel_rfl
theorem list1 {α : Type} {l : List α} (h : l.length = 1) : ∃ a, l = [a] := by
  match l, h with
  | [a], _ => exact ⟨a, rfl⟩
theorem list3 {α : Type} {l : List α} (h : l.length = 3) : ∃ a b c, l = [a, b, c] := by
  match l, h with
  | [a, b, c], _ => exact ⟨a, b, c, rfl⟩
theorem list7 {α : Type} {l : List α} (h : l.length = 7) : ∃ a b c d e f g, l = [a, b, c, d, e, f, g] := by
  match l, h with
  | [a, b, c, d, e, f, g], _ => exact ⟨a, b, c, d, e, f, g, rfl⟩
section
variable {H : Type} {enc : TypeId × Value → H} {w : World} {base : Nat} {spare : Nat → Bool} {held : Bool}
theorem open_ents {fuel : Nat} {c : Value} {x : DataW H × List MemPlace} (h : DataW.trod enc Tryd.prog w base spare held fuel 22 [c] = some x) :
    ∃ (a : Option Addr) (cap b off : Nat) (L : List Ent), c = .slice a L.length cap ∧ EntsAt w a b off L ∧ L.length ≤ cap ∧ L.length ≤ maxLen := by
  rcases DataW.trod_slice Tryd.underlying22 h with ⟨hcs, _⟩ | ⟨ad, len, cap, elems, rest, n, _, hcs, _, hb, hl, hm, hlen, hel, _⟩
  · simp at hcs
    subst hcs
    exact ⟨none, 0, 0, 0, [], rfl, ⟨fun h => absurd h (Nat.lt_irrefl _), fun i e he => by simp at he, fun i e he => by simp at he, fun i e he => by simp at he⟩, Nat.le_refl _, Nat.zero_le _⟩
  · simp at hcs
    subst hcs
    have each : ∀ i, i < len → ∃ e : Ent, w.cell? (ad.add (i * 3)) = some (.string e.name) ∧ w.cell? (ad.add (i * 3 + 1)) = some (.int .i64 e.kind) ∧ w.cell? (ad.add (i * 3 + 2)) = some (.string e.id) := fun i hi => by
      have g := hel i hi
      rw [List.getElem?_eq_getElem (by omega), Option.bind_eq_some_iff] at g
      obtain ⟨cs', h1, h2⟩ := g
      rw [cellsEnt] at h1
      obtain ⟨_, hl3, hcell⟩ := World.cells?_some h1
      obtain ⟨y0, y1, y2, k, _, _, g0, g1, g2⟩ := Deep.trod_struct3 Tryd.underlying47 h2
      obtain ⟨v0, v1, v2, rfl⟩ := list3 hl3
      simp only [cellsInt, cellsStr] at g0 g1 g2
      obtain ⟨s0, q0, _, _⟩ := DataW.trod_string Tryd.underlying9 g0
      obtain ⟨z1, q1, _, _⟩ := DataW.trod_int Tryd.underlying3 g1
      obtain ⟨s2, q2, _, _⟩ := DataW.trod_string Tryd.underlying9 g2
      simp at q0 q1 q2
      have e0 := hcell 0 (by omega)
      have e1 := hcell 1 (by omega)
      have e2 := hcell 2 (by omega)
      rw [Deep.add_add] at e0 e1 e2
      exact ⟨⟨s0, z1, s2⟩, by simpa [q0] using e0, by simpa [q1] using e1, by simpa [q2] using e2⟩
    obtain ⟨z, hz⟩ := Deep.choose_lt each
    have hL : ((List.range len).map z).length = len := by simp
    have hget : ∀ i e, ((List.range len).map z)[i]? = some e → i < len ∧ e = z i := fun i e he => by
      rw [List.getElem?_map] at he
      by_cases hi : i < len
      · rw [List.getElem?_range hi] at he; simp at he; exact ⟨hi, he.symm⟩
      · rw [List.getElem?_eq_none (by simpa using hi)] at he; simp at he
    by_cases hp : 0 < len
    · obtain ⟨b, off, spot⟩ := ad
      have hspot : spot = none := by simpa [Addr.add] using World.cell?_spot (hz 0 hp).1
      subst hspot
      refine ⟨some ⟨b, off, none⟩, cap, b, off, (List.range len).map z, by rw [hL], ⟨fun _ => rfl, fun i e he => ?_, fun i e he => ?_, fun i e he => ?_⟩, by omega, by omega⟩
      all_goals (obtain ⟨hi, rfl⟩ := hget i e he)
      · rw [← add_plain]; exact (hz i hi).1
      · rw [Nat.add_assoc, ← add_plain]; exact (hz i hi).2.1
      · rw [Nat.add_assoc, ← add_plain]; exact (hz i hi).2.2
    · obtain rfl : len = 0 := by omega
      exact ⟨some ad, cap, 0, 0, [], rfl, ⟨fun h => absurd h (Nat.lt_irrefl _), fun i e he => by simp at he, fun i e he => by simp at he, fun i e he => by simp at he⟩, Nat.zero_le _, Nat.zero_le _⟩
theorem open_pars {fuel : Nat} {c : Value} {x : DataW H × List MemPlace} (h : DataW.trod enc Tryd.prog w base spare held fuel 23 [c] = some x) :
    ∃ (a : Option Addr) (cap b off : Nat) (L : List ByteArray), c = .slice a L.length cap ∧ ParsAt w a b off L ∧ L.length ≤ cap ∧ L.length ≤ maxLen := by
  rcases DataW.trod_slice Tryd.underlying23 h with ⟨hcs, _⟩ | ⟨ad, len, cap, elems, rest, n, _, hcs, _, hb, hl, hm, hlen, hel, _⟩
  · simp at hcs
    subst hcs
    exact ⟨none, 0, 0, 0, [], rfl, ⟨fun h => absurd h (Nat.lt_irrefl _), fun i e he => by simp at he⟩, Nat.le_refl _, Nat.zero_le _⟩
  · simp at hcs
    subst hcs
    have each : ∀ i, i < len → ∃ s : ByteArray, w.cell? (ad.add i) = some (.string s) := fun i hi => by
      have g := hel i hi
      rw [List.getElem?_eq_getElem (by omega), Option.bind_eq_some_iff] at g
      obtain ⟨cs', h1, h2⟩ := g
      rw [cellsStr, Nat.mul_one] at h1
      obtain ⟨_, hl3, hcell⟩ := World.cells?_some h1
      obtain ⟨v0, rfl⟩ := list1 hl3
      obtain ⟨s0, q0, _, _⟩ := DataW.trod_string Tryd.underlying9 h2
      simp at q0
      have e0 := hcell 0 (by omega)
      rw [Deep.add_add] at e0
      exact ⟨s0, by simpa [q0] using e0⟩
    obtain ⟨z, hz⟩ := Deep.choose_lt each
    have hL : ((List.range len).map z).length = len := by simp
    have hget : ∀ i e, ((List.range len).map z)[i]? = some e → i < len ∧ e = z i := fun i e he => by
      rw [List.getElem?_map] at he
      by_cases hi : i < len
      · rw [List.getElem?_range hi] at he; simp at he; exact ⟨hi, he.symm⟩
      · rw [List.getElem?_eq_none (by simpa using hi)] at he; simp at he
    by_cases hp : 0 < len
    · obtain ⟨b, off, spot⟩ := ad
      have hspot : spot = none := by simpa [Addr.add] using World.cell?_spot (hz 0 hp)
      subst hspot
      refine ⟨some ⟨b, off, none⟩, cap, b, off, (List.range len).map z, by rw [hL], ⟨fun _ => rfl, fun i e he => ?_⟩, by omega, by omega⟩
      obtain ⟨hi, rfl⟩ := hget i e he
      rw [← add_plain]; exact hz i hi
    · obtain rfl : len = 0 := by omega
      exact ⟨some ad, cap, 0, 0, [], rfl, ⟨fun h => absurd h (Nat.lt_irrefl _), fun i e he => by simp at he⟩, Nat.zero_le _, Nat.zero_le _⟩
set_option maxRecDepth 100000 in
theorem open_obj {r : Reach} {b0 : Nat} {v : Value} {d : DataW H} {p : List MemPlace} (ok : Value.okWide Tryd.prog w r b0 25 v) (h : DataW.Trod enc Tryd.prog w base spare held 25 v d p) :
    ∃ (x : Obj) (ea : Option Addr) (ec : Nat) (pa : Option Addr) (pc : Nat), v = val x ea ec pa pc ∧ ObAt w x ea ec pa pc ∧ x.ents.length ≤ maxLen ∧ x.pars.length ≤ maxLen := by
  simp only [Value.okWide, Tryd.underlying25] at ok
  obtain ⟨cs, rfl, h2, _⟩ := ok
  rw [cellsObj] at h2
  obtain ⟨fuel, hf⟩ := h
  obtain ⟨xs, m, _, _, _, hlen, hx⟩ := DataW.trod_struct Tryd.underlying25 hf
  obtain ⟨l⟩ := cs
  obtain ⟨c0, c1, c2, c3, c4, c5, c6, rfl⟩ := list7 (l := l) h2
  obtain ⟨y0, y1, y2, y3, y4, y5, y6, rfl⟩ := list7 (l := xs) hlen
  have g0 : DataW.trod enc Tryd.prog w base spare held m 3 [c0] = some y0 := by
    have g := hx 0 _ rfl
    simp only [Value.cells, cellsInt, cellsStr, cellsEnts, cellsTexts] at g
    exact g
  have g1 : DataW.trod enc Tryd.prog w base spare held m 9 [c1] = some y1 := by
    have g := hx 1 _ rfl
    simp only [Value.cells, cellsInt, cellsStr, cellsEnts, cellsTexts] at g
    exact g
  have g2 : DataW.trod enc Tryd.prog w base spare held m 22 [c2] = some y2 := by
    have g := hx 2 _ rfl
    simp only [Value.cells, cellsInt, cellsStr, cellsEnts, cellsTexts] at g
    exact g
  have g3 : DataW.trod enc Tryd.prog w base spare held m 9 [c3] = some y3 := by
    have g := hx 3 _ rfl
    simp only [Value.cells, cellsInt, cellsStr, cellsEnts, cellsTexts] at g
    exact g
  have g4 : DataW.trod enc Tryd.prog w base spare held m 23 [c4] = some y4 := by
    have g := hx 4 _ rfl
    simp only [Value.cells, cellsInt, cellsStr, cellsEnts, cellsTexts] at g
    exact g
  have g5 : DataW.trod enc Tryd.prog w base spare held m 3 [c5] = some y5 := by
    have g := hx 5 _ rfl
    simp only [Value.cells, cellsInt, cellsStr, cellsEnts, cellsTexts] at g
    exact g
  have g6 : DataW.trod enc Tryd.prog w base spare held m 9 [c6] = some y6 := by
    have g := hx 6 _ rfl
    simp only [Value.cells, cellsInt, cellsStr, cellsEnts, cellsTexts] at g
    exact g
  clear hx hf
  obtain ⟨k, q0, _, _⟩ := DataW.trod_int Tryd.underlying3 g0
  obtain ⟨da, q1, _, _⟩ := DataW.trod_string Tryd.underlying9 g1
  obtain ⟨ea, ec, eb, eo, L, rfl, hE, hEc, hEm⟩ := open_ents g2
  obtain ⟨tr, q3, _, _⟩ := DataW.trod_string Tryd.underlying9 g3
  obtain ⟨pa, pc, pb, po, M, rfl, hP, hPc, hPm⟩ := open_pars g4
  obtain ⟨ht, q5, _, _⟩ := DataW.trod_int Tryd.underlying3 g5
  obtain ⟨nt, q6, _, _⟩ := DataW.trod_string Tryd.underlying9 g6
  simp at q0 q1 q3 q5 q6
  subst q0 q1 q3 q5 q6
  exact ⟨⟨k, da, L, tr, M, ht, nt⟩, ea, ec, pa, pc, rfl, ⟨⟨eb, eo, hE⟩, ⟨pb, po, hP⟩, hEc, hPc⟩, hEm, hPm⟩
end
end Go.Proofs.YtmbbnabongnojaaDoor.Ob
