/-
  A cell that came in, opened: what its fields are, where its lists lie, how long its texts are. Conditions: none.
-/
import Derived.Test.YtdmpkgdlelagjaaGreatDoorRows
import Derived.Test.YtdmpkgdlelagjaaGreatDoorTrLook
import Derived.Test.YtdmpkgdlelagjaaGreatDoorOctKit
import Derived.ProofKit
import Derived.OpenShut
import Derived.SizedLaws
import Derived.Carry
import Derived.Deep.Slices
import Derived.Deep.Strs
namespace Go.Proofs.YtdmpkgdlelagjaaGreatDoor.Tr
open Go Go.RowKit Go.WideShapes Go.ChangeShapes

theorem cellsInt : Tryz.prog.cellsOf 3 = 1 := by kernel_rfl
theorem cellsStr : Tryz.prog.cellsOf 9 = 1 := by kernel_rfl
theorem cellsTexts : Tryz.prog.cellsOf 22 = 1 := by kernel_rfl
theorem cellsCell : Tryz.prog.cellsOf 25 = 5 := by kernel_rfl
theorem list5 {α : Type} {l : List α} (h : l.length = 5) : ∃ a b c d e, l = [a, b, c, d, e] := by
  match l, h with
  | [a, b, c, d, e], _ => exact ⟨a, b, c, d, e, rfl⟩
section
variable {H : Type} {enc : TypeId × Value → H} {w : World} {base : Nat} {held : Bool}
theorem open_list {fuel : Nat} {c : Value} {y : DataW H × List MemPlace} (hf : DataW.trod enc Tryz.prog w base (fun _ => true) held fuel 22 [c] = some y) (hw : ∀ n ∈ y.1.weights Tryz.prog 22, n ≤ reachBytes) :
    ∃ (L : List ByteArray), Lst w c L ∧ L.length ≤ 140737488351232 ∧ ∀ x ∈ L, x.size ≤ 140737488351232 := by
  rcases open_strings Tryz.underlying22 Tryz.underlying9 cellsStr hf with ⟨hcs, _⟩ | ⟨x, l, cap, ss, hcs, _, hl, hm, hz, hx, hcell, _⟩
  · simp at hcs
    subst hcs
    exact ⟨[], Lst.nil w, Nat.zero_le _, fun x h => by simp at h⟩
  · simp at hcs
    subst hcs
    simp only [if_true] at hz
    subst hx
    have hle : cap ≤ reachBytes := by
      have g := hw (((strs (ss.take l) : List (DataW H)).length + (strs (ss.drop l) : List (DataW H)).length) * Tryz.prog.bytesOf 9) (by simp [DataW.weights, Tryz.underlying22])
      simp only [strs, List.length_map, List.length_take, List.length_drop] at g
      have hb : 0 < Tryz.prog.bytesOf 9 := of_decide_eq_true (by kernel_rfl)
      have : cap ≤ cap * Tryz.prog.bytesOf 9 := Nat.le_mul_of_pos_right _ hb
      have e2 : min l ss.length + (ss.length - l) = cap := by omega
      rw [e2] at g
      omega
    simp only [reachBytes] at hle
    have zs : ∀ x ∈ ss.take l, x.size ≤ 140737488351232 := fun x hx => by
      have g : (x.data.toList.length) ∈ DataW.weights Tryz.prog 22 (.slice (strs (ss.take l)) (strs (ss.drop l)) : DataW H) := by
        simp only [DataW.weights, Tryz.underlying22, List.mem_cons, List.mem_append]
        right
        exact Or.inl (Oct.weightsAll_mem (d := .lit (.string x.data.toList)) (List.mem_map.2 ⟨_, hx, rfl⟩) _ (by simp [DataW.weights]))
      exact Oct.size_reach (hw _ g)
    have hlen : (ss.take l).length = l := by rw [List.length_take]; omega
    refine ⟨ss.take l, ?_, by omega, zs⟩
    by_cases hp : 0 < ss.length
    · obtain ⟨b, off, spot⟩ := x
      have hspot : spot = none := by simpa [Addr.add] using World.cell?_spot (hcell 0 hp)
      subst hspot
      refine ⟨some ⟨b, off, none⟩, cap, b, off, by rw [hlen], by rw [hlen]; omega, ⟨fun _ => rfl, fun i s hs => ?_⟩⟩
      have hi : i < l := by have := (List.getElem?_eq_some_iff.1 hs).1; omega
      rw [List.getElem?_take_of_lt hi] at hs
      have := hcell i (by omega)
      rw [List.getD_eq_getElem?_getD, hs] at this
      rw [← add_plain]; exact this
    · have hss : ss = [] := List.length_eq_zero_iff.1 (by omega)
      subst hss
      simp only [List.length_nil] at hz
      have : l = 0 := by omega
      subst this
      exact ⟨some x, cap, 0, 0, by simp, by simp, TxAt.nil _ _ _ _⟩
theorem weights_each {P : Program} : ∀ {ts : List TypeId} {ds : List (DataW H)} {j : Nat} {t : TypeId} {d : DataW H}, ts[j]? = some t → ds[j]? = some d → ∀ n ∈ d.weights P t, n ∈ DataW.weightsEach P ts ds
  | [], _, _, _, _, h, _, _, _ => by simp at h
  | _ :: _, [], _, _, _, _, h, _, _ => by simp at h
  | t :: ts, d :: ds, 0, _, _, h, g, n, hn => by
    simp at h g; subst h g
    simp only [DataW.weightsEach, List.mem_append]; exact Or.inl hn
  | t :: ts, d :: ds, j + 1, _, _, h, g, n, hn => by
    simp only [DataW.weightsEach, List.mem_append]
    exact Or.inr (weights_each (j := j) (by simpa using h) (by simpa using g) n hn)
set_option maxRecDepth 100000 in
theorem open_cell {r : Reach} {b0 : Nat} {v : Value} {d : DataW H} {p : List MemPlace} (ok : Value.okWide Tryz.prog w r b0 25 v) (h : DataW.Trod enc Tryz.prog w base (fun _ => true) held 25 v d p) (hw : ∀ n ∈ d.weights Tryz.prog 25, n ≤ reachBytes) :
    ∃ (c : Cell) (vi vk : Value), v = cellV c vi vk ∧ Lst w vi c.ids ∧ Lst w vk c.kds ∧ c.ids.length ≤ 140737488351232 ∧ c.kds.length ≤ 140737488351232 ∧ c.pre.size ≤ 140737488351232 ∧ (∀ x ∈ c.ids, x.size ≤ 140737488351232) ∧ (∀ x ∈ c.kds, x.size ≤ 140737488351232) := by
  simp only [Value.okWide, Tryz.underlying25] at ok
  obtain ⟨cs, rfl, h2, _⟩ := ok
  rw [cellsCell] at h2
  obtain ⟨fuel, hf⟩ := h
  obtain ⟨xs, m, _, hd, _, hlen, hx⟩ := DataW.trod_struct Tryz.underlying25 hf
  obtain ⟨l⟩ := cs
  obtain ⟨c0, c1, c2, c3, c4, rfl⟩ := list5 (l := l) h2
  obtain ⟨y0, y1, y2, y3, y4, rfl⟩ := list5 (l := xs) hlen
  have g0 : DataW.trod enc Tryz.prog w base (fun _ => true) held m 9 [c0] = some y0 := by
    have g := hx 0 _ rfl
    simp only [Value.cells, cellsInt, cellsStr, cellsTexts] at g
    exact g
  have g1 : DataW.trod enc Tryz.prog w base (fun _ => true) held m 3 [c1] = some y1 := by
    have g := hx 1 _ rfl
    simp only [Value.cells, cellsInt, cellsStr, cellsTexts] at g
    exact g
  have g2 : DataW.trod enc Tryz.prog w base (fun _ => true) held m 9 [c2] = some y2 := by
    have g := hx 2 _ rfl
    simp only [Value.cells, cellsInt, cellsStr, cellsTexts] at g
    exact g
  have g3 : DataW.trod enc Tryz.prog w base (fun _ => true) held m 22 [c3] = some y3 := by
    have g := hx 3 _ rfl
    simp only [Value.cells, cellsInt, cellsStr, cellsTexts] at g
    exact g
  have g4 : DataW.trod enc Tryz.prog w base (fun _ => true) held m 22 [c4] = some y4 := by
    have g := hx 4 _ rfl
    simp only [Value.cells, cellsInt, cellsStr, cellsTexts] at g
    exact g
  clear hx hf
  simp only [Prod.mk.injEq] at hd
  obtain ⟨rfl, -⟩ := hd
  have hwe : ∀ n ∈ DataW.weightsEach Tryz.prog [9, 3, 9, 22, 22] [y0.1, y1.1, y2.1, y3.1, y4.1], n ≤ reachBytes := fun n hn => hw n (by
    simp only [DataW.weights, Tryz.underlying25]
    exact hn)
  obtain ⟨s0, q0, e0, _⟩ := DataW.trod_string Tryz.underlying9 g0
  obtain ⟨z1, q1, _, _⟩ := DataW.trod_int Tryz.underlying3 g1
  obtain ⟨s2, q2, _, _⟩ := DataW.trod_string Tryz.underlying9 g2
  obtain ⟨I, hI, hIl, hIs⟩ := open_list g3 fun n hn => hwe n (weights_each (j := 3) rfl rfl n hn)
  obtain ⟨K, hK, hKl, hKs⟩ := open_list g4 fun n hn => hwe n (weights_each (j := 4) rfl rfl n hn)
  simp at q0 q1 q2
  subst q0 q1 q2
  refine ⟨⟨s0, z1, s2, I, K⟩, c3, c4, rfl, hI, hK, hIl, hKl, ?_, hIs, hKs⟩
  refine Oct.size_reach (hwe _ (weights_each (j := 0) rfl rfl _ ?_))
  rw [e0]
  simp [DataW.weights]
end
end Go.Proofs.YtdmpkgdlelagjaaGreatDoor.Tr
