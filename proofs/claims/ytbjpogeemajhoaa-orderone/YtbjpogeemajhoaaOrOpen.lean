/-
  Facts that came in, opened, alone and in a list: what they are, where their parents lie, how long their texts are. Conditions: none.
-/
import Derived.Test.YtbjpogeemajhoaaRows
import Derived.Test.YtbjpogeemajhoaaOrMap
import Derived.Test.YtbjpogeemajhoaaOctKit
import Derived.ProofKit
import Derived.OpenShut
import Derived.SizedLaws
import Derived.Carry
import Derived.Deep.Slices
import Derived.Deep.Strs
import Derived.Deep.Draws
namespace Go.Proofs.Ytbjpogeemajhoaa.Or
open Go Go.RowKit Go.WideShapes Go.ChangeShapes

theorem cellsInt : Try.prog.cellsOf 3 = 1 := by kernel_rfl
theorem cellsStr : Try.prog.cellsOf 9 = 1 := by kernel_rfl
theorem cellsTexts : Try.prog.cellsOf 22 = 1 := by kernel_rfl
theorem cellsFact : Try.prog.cellsOf 24 = 3 := by kernel_rfl
theorem list3 {α : Type} {l : List α} (h : l.length = 3) : ∃ a b c, l = [a, b, c] := by
  match l, h with
  | [a, b, c], _ => exact ⟨a, b, c, rfl⟩
section
variable {H : Type} {enc : TypeId × Value → H} {w : World} {base : Nat} {held : Bool}
theorem open_list {fuel : Nat} {c : Value} {y : DataW H × List MemPlace} (hf : DataW.trod enc Try.prog w base (fun _ => true) held fuel 22 [c] = some y) (hw : ∀ n ∈ y.1.weights Try.prog 22, n ≤ reachBytes) :
    ∃ (L : List ByteArray), Lst w c L ∧ L.length ≤ 140737488351232 ∧ ∀ x ∈ L, x.size ≤ 140737488351232 := by
  rcases open_strings Try.underlying22 Try.underlying9 cellsStr hf with ⟨hcs, _⟩ | ⟨x, l, cap, ss, hcs, _, hl, hm, hz, hx, hcell, _⟩
  · simp at hcs
    subst hcs
    exact ⟨[], Lst.nil w, Nat.zero_le _, fun x h => by simp at h⟩
  · simp at hcs
    subst hcs
    simp only [if_true] at hz
    subst hx
    have hle : cap ≤ reachBytes := by
      have g := hw (((strs (ss.take l) : List (DataW H)).length + (strs (ss.drop l) : List (DataW H)).length) * Try.prog.bytesOf 9) (by simp [DataW.weights, Try.underlying22])
      simp only [strs, List.length_map, List.length_take, List.length_drop] at g
      have hb : 0 < Try.prog.bytesOf 9 := of_decide_eq_true (by kernel_rfl)
      have : cap ≤ cap * Try.prog.bytesOf 9 := Nat.le_mul_of_pos_right _ hb
      have e2 : min l ss.length + (ss.length - l) = cap := by omega
      rw [e2] at g
      omega
    simp only [reachBytes] at hle
    have zs : ∀ x ∈ ss.take l, x.size ≤ 140737488351232 := fun x hx => by
      have g : (x.data.toList.length) ∈ DataW.weights Try.prog 22 (.slice (strs (ss.take l)) (strs (ss.drop l)) : DataW H) := by
        simp only [DataW.weights, Try.underlying22, List.mem_cons, List.mem_append]
        right
        exact Or.inl (Oct.weightsAll_mem (d := .lit (.string x.data.toList)) (List.mem_map.2 ⟨_, hx, rfl⟩) _ (by simp [DataW.weights]))
      exact Oct.size_reach (hw _ g)
    have hlen : (ss.take l).length = l := by rw [List.length_take]; omega
    refine ⟨ss.take l, ?_, by omega, zs⟩
    by_cases hp : 0 < ss.length
    · obtain ⟨b, off, spot⟩ := x
      have hspot : spot = none := by simpa [Addr.add] using World.cell?_spot (hcell 0 hp)
      subst hspot
      refine ⟨some ⟨b, off, none⟩, cap, b, off, by rw [hlen], by rw [hlen]; omega, ⟨fun _ => rfl, fun i s hs => ?_⟩⟩
      have hi : i < l := by have := (List.getElem?_eq_some_iff.1 hs).1; omega
      rw [List.getElem?_take_of_lt hi] at hs
      have := hcell i (by omega)
      rw [List.getD_eq_getElem?_getD, hs] at this
      rw [← add_plain]; exact this
    · have hss : ss = [] := List.length_eq_zero_iff.1 (by omega)
      subst hss
      simp only [List.length_nil] at hz
      have : l = 0 := by omega
      subst this
      exact ⟨some x, cap, 0, 0, by simp, by simp, TxAt.nil _ _ _ _⟩
theorem weights_each {P : Program} : ∀ {ts : List TypeId} {ds : List (DataW H)} {j : Nat} {t : TypeId} {d : DataW H}, ts[j]? = some t → ds[j]? = some d → ∀ n ∈ d.weights P t, n ∈ DataW.weightsEach P ts ds
  | [], _, _, _, _, h, _, _, _ => by simp at h
  | _ :: _, [], _, _, _, _, h, _, _ => by simp at h
  | t :: ts, d :: ds, 0, _, _, h, g, n, hn => by
    simp at h g; subst h g
    simp only [DataW.weightsEach, List.mem_append]; exact Or.inl hn
  | t :: ts, d :: ds, j + 1, _, _, h, g, n, hn => by
    simp only [DataW.weightsEach, List.mem_append]
    exact Or.inr (weights_each (j := j) (by simpa using h) (by simpa using g) n hn)
/-- what is known of a fact that came in -/
structure Known (w : World) (x : Fx) : Prop where
  pars : Pars w x
  id : Short x.f.id
  par : ∀ y ∈ x.f.pars, Short y
  len : x.f.pars.length ≤ 140737488351232
  wf : (Lit.int .i64 x.f.high).wf = true
theorem open_parts {fuel : Nat} {v0 v1 v2 : Value} {y : DataW H × List MemPlace} (hf : DataW.trod enc Try.prog w base (fun _ => true) held fuel 24 [v0, v1, v2] = some y) (hw : ∀ n ∈ y.1.weights Try.prog 24, n ≤ reachBytes) :
    ∃ x : Fx, v0 = .string x.f.id ∧ v1 = .int .i64 x.f.high ∧ v2 = .slice x.pa x.f.pars.length x.pc ∧ Known w x := by
  obtain ⟨y0, y1, y2, k, rfl, _, g0, g1, g2⟩ := Deep.trod_struct3 Try.underlying24 hf
  simp only [cellsInt, cellsStr, cellsTexts] at g0 g1 g2
  have hwe : ∀ n ∈ DataW.weightsEach Try.prog [9, 3, 22] [y0.1, y1.1, y2.1], n ≤ reachBytes := fun n hn => hw n (by
    simp only [DataW.weights, Try.underlying24]
    exact hn)
  obtain ⟨s0, q0, e0, _⟩ := DataW.trod_string Try.underlying9 g0
  obtain ⟨z1, q1, _, hz⟩ := DataW.trod_int Try.underlying3 g1
  obtain ⟨I, ⟨pa, pc, pb, po, hv2, hpc, hT⟩, hIl, hIs⟩ := open_list (c := v2) (by simpa using g2) fun n hn => hwe n (weights_each (j := 2) rfl rfl n hn)
  simp at q0 q1
  subst q0 q1 hv2
  refine ⟨⟨⟨s0, z1, I⟩, pa, pc⟩, rfl, rfl, rfl, ⟨hpc, pb, po, hT⟩, ?_, hIs, hIl, hz⟩
  refine Oct.size_reach (hwe _ (weights_each (j := 0) rfl rfl _ ?_))
  rw [e0]
  simp [DataW.weights]
set_option maxRecDepth 100000 in
theorem open_fact {r : Reach} {b0 : Nat} {v : Value} {d : DataW H} {p : List MemPlace} (ok : Value.okWide Try.prog w r b0 24 v) (h : DataW.Trod enc Try.prog w base (fun _ => true) held 24 v d p) (hw : ∀ n ∈ d.weights Try.prog 24, n ≤ reachBytes) :
    ∃ x : Fx, v = x.val ∧ Known w x := by
  simp only [Value.okWide, Try.underlying24] at ok
  obtain ⟨cs, rfl, h2, _⟩ := ok
  rw [cellsFact] at h2
  obtain ⟨fuel, hf⟩ := h
  obtain ⟨l⟩ := cs
  obtain ⟨c0, c1, c2, rfl⟩ := list3 (l := l) h2
  obtain ⟨x, rfl, rfl, rfl, hk⟩ := open_parts (y := (d, p)) hf hw
  exact ⟨x, rfl, hk⟩
set_option maxRecDepth 100000 in
theorem open_facts {r : Reach} {b0 : Nat} {v : Value} {d : DataW H} {p : List MemPlace} (ok : Value.okWide Try.prog w r b0 25 v) (h : DataW.Trod enc Try.prog w base (fun _ => true) held 25 v d p) (hw : ∀ n ∈ d.weights Try.prog 25, n ≤ reachBytes) :
    ∃ (a : Option Addr) (cap b off : Nat) (L : List Fx), v = .slice a L.length cap ∧ FxsAt w a b off L ∧ (∀ x ∈ L, Known w x) ∧ L.length ≤ 140737488351232 := by
  obtain ⟨a, len, cap, rfl⟩ := okWide_slice Try.underlying25 ok
  obtain ⟨fuel, hf⟩ := h
  rcases DataW.trod_slice Try.underlying25 hf with ⟨hcs, _⟩ | ⟨ad, len, cap, elems, rest, n, _, hcs, hx, hb, hl, hm, hlen, hel, _⟩
  · simp [Value.cells] at hcs
    obtain ⟨rfl, rfl, rfl⟩ := hcs
    exact ⟨none, 0, 0, 0, [], rfl, FxsAt.nil _ _ _ _, fun x hx => by simp at hx, Nat.zero_le _⟩
  · simp [Value.cells] at hcs
    obtain ⟨rfl, rfl, rfl⟩ := hcs
    simp only [Prod.mk.injEq] at hx
    obtain ⟨rfl, -⟩ := hx
    have hll : len ≤ 140737488351232 := by
      have g := hw ((List.map (·.1) elems).length * Try.prog.bytesOf 24 + (List.map (·.1) rest).length * Try.prog.bytesOf 24) (by
        rw [← Nat.add_mul]
        simp [DataW.weights, Try.underlying25])
      simp only [List.length_map, hlen] at g
      have hb1 : 0 < Try.prog.bytesOf 24 := of_decide_eq_true (by kernel_rfl)
      have h1 : len ≤ len * Try.prog.bytesOf 24 := Nat.le_mul_of_pos_right _ hb1
      simp only [reachBytes] at g
      omega
    have each : ∀ i, i < len → ∃ x : Fx, w.cell? (ad.add (i * 3)) = some (.string x.f.id) ∧ w.cell? (ad.add (i * 3 + 1)) = some (.int .i64 x.f.high) ∧ w.cell? (ad.add (i * 3 + 2)) = some (.slice x.pa x.f.pars.length x.pc) ∧ Known w x := fun i hi => by
      have g := hel i hi
      have hie : i < elems.length := by omega
      rw [List.getElem?_eq_getElem hie, Option.bind_eq_some_iff] at g
      obtain ⟨cs', h1, h2⟩ := g
      rw [cellsFact] at h1
      obtain ⟨_, hl3, hcell⟩ := World.cells?_some h1
      obtain ⟨v0, v1, v2, rfl⟩ := list3 hl3
      obtain ⟨x, rfl, rfl, rfl, hk⟩ := open_parts h2 fun m hm => hw m (by
        simp only [DataW.weights, Try.underlying25, List.mem_cons, List.mem_append]
        exact Or.inr (Or.inl (Oct.weightsAll_mem (List.mem_map.2 ⟨_, List.getElem_mem hie, rfl⟩) m hm)))
      have e0 := hcell 0 (by omega)
      have e1 := hcell 1 (by omega)
      have e2 := hcell 2 (by omega)
      rw [Deep.add_add] at e0 e1 e2
      exact ⟨x, by simpa using e0, by simpa using e1, by simpa using e2, hk⟩
    obtain ⟨z, hz⟩ := Deep.choose_lt each
    have hL : ((List.range len).map z).length = len := by simp
    have hget : ∀ i e, ((List.range len).map z)[i]? = some e → i < len ∧ e = z i := fun i e he => by
      rw [List.getElem?_map] at he
      by_cases hi : i < len
      · rw [List.getElem?_range hi] at he; simp at he; exact ⟨hi, he.symm⟩
      · rw [List.getElem?_eq_none (by simpa using hi)] at he; simp at he
    by_cases hp : 0 < len
    · obtain ⟨b, off, spot⟩ := ad
      have hspot : spot = none := by simpa [Addr.add] using World.cell?_spot (hz 0 hp).1
      subst hspot
      refine ⟨some ⟨b, off, none⟩, cap, b, off, (List.range len).map z, by rw [hL], ⟨fun _ => rfl, fun i e he => ?_, fun i e he => ?_, fun i e he => ?_⟩, fun x hx => ?_, by rw [hL]; exact hll⟩
      · obtain ⟨hi, rfl⟩ := hget i e he; rw [← add_plain]; exact (hz i hi).1
      · obtain ⟨hi, rfl⟩ := hget i e he; rw [Nat.add_assoc, ← add_plain]; exact (hz i hi).2.1
      · obtain ⟨hi, rfl⟩ := hget i e he; rw [Nat.add_assoc, ← add_plain]; exact (hz i hi).2.2.1
      · obtain ⟨i, hi, rfl⟩ := List.mem_map.1 hx
        exact (hz i (by simpa using hi)).2.2.2
    · obtain rfl : len = 0 := by omega
      exact ⟨some ad, cap, 0, 0, [], rfl, FxsAt.nil _ _ _ _, fun x hx => by simp at hx, Nat.zero_le _⟩
end
theorem Known.facts {w : World} {L : List Fx} (h : ∀ x ∈ L, Known w x) : Facts w L := ⟨fun x hx => (h x hx).pars, fun x hx => (h x hx).id, fun x hx => (h x hx).par, fun x hx => (h x hx).wf⟩
end Go.Proofs.Ytbjpogeemajhoaa.Or
