/-
  Small lemmas for the rows' own steps: what the form's reach says of a text. Conditions: none.
-/
import Derived.Test.YtbjpogeemajhoaaGreatRows
import Derived.ProofKit
import Derived.OpenShut
import Derived.SizedLaws
import Derived.Carry
import Derived.WalkKit
import Derived.Deep.Draws
import Derived.Deep.SlicePairs
namespace Go.Proofs.YtbjpogeemajhoaaGreat.Oct
open Go Go.RowKit Go.WideShapes Go.ChangeShapes

theorem size_reach {s : ByteArray} (h : s.data.toList.length ≤ reachBytes) : s.size ≤ 140737488351232 := by
  have e : s.data.toList.length = s.size := by rw [Array.length_toList]; rfl
  rw [e] at h
  simpa only [reachBytes] using h

/-- 'int(uint(c) % uint(m))', as the walk spells it, is a number below m -/
theorem rem_small (c m : Int) (h0 : 0 < m) (h1 : m ≤ 2147483648) : ∃ k : Nat, wrap64 ((IntKind.u64.wrap c).tmod m) = (k : Int) ∧ (k : Int) < m := by
  rw [IntKind.wrap_u64, Int.tmod_eq_emod_of_nonneg (by omega)]
  have a := Int.emod_nonneg (c % 18446744073709551616) (show m ≠ 0 by omega)
  have b := Int.emod_lt_of_pos (c % 18446744073709551616) h0
  rw [IntWalk.wrap64_in _ ⟨by omega, by omega⟩]
  exact ⟨(c % 18446744073709551616 % m).toNat, by omega, by omega⟩

theorem toList_inj {s t : ByteArray} : s.toList = t.toList ↔ s = t := by
  rw [ByteArray.toList_eq, ByteArray.toList_eq]
  exact ⟨fun h => ByteArray.ext (Array.toList_inj.1 h), fun h => by rw [h]⟩
/-- '==' on texts, as the walk spells it -/
theorem beq_toList (s t : ByteArray) : (s.toList == t.toList) = decide (s = t) := by
  rw [Bool.eq_iff_iff]; simp [toList_inj]

theorem cell_drew {w : World} {p : Addr} {v : Value} (h : w.cell? p = some v) : w.drew.cell? p = some v := h
theorem cell_drewN {w : World} {p : Addr} {v : Value} {n : Nat} (h : w.cell? p = some v) : (w.drewN n).cell? p = some v := h
theorem cell_alloc {w : World} {p : Addr} {v : Value} {o : Obj} (h : w.cell? p = some v) : (w.alloc o).cell? p = some v := by
  have hp : p.block < w.heap.size := by
    rcases Nat.lt_or_ge p.block w.heap.size with g | g
    · exact g
    · simp [World.cell?, Array.getElem?_eq_none g] at h
  exact (((Below.refl w.heap.size w).alloc (Nat.le_refl _) o).cell hp).trans h

theorem below_alloc {u w : World} {o : Obj} (h : Below u.heap.size u w) : Below u.heap.size u (w.alloc o) := h.alloc h.size o
theorem ret_bool {x y : Bool} (h : x = y) : Ending.returned (.bool x) = .returned (.bool y) := by rw [h]

/-- an array of two texts, by value, opened -/
theorem open_str2 {H : Type} {enc : TypeId × Value → H} {P : Program} {w : World} {base b0 : Nat} {spare : Nat → Bool} {held : Bool} {r : Reach} {t e : TypeId} {v : Value} {d : DataW H} {p : List MemPlace}
    (ht : P.underlying t = some (.array 2 e)) (he : P.underlying e = some .string) (hC : P.cellsOf t = 2) (hE : P.cellsOf e = 1)
    (ok : Value.okWide P w r b0 t v) (h : DataW.Trod enc P w base spare held t v d p) : ∃ s0 s1 : ByteArray, v = .agg #[.string s0, .string s1] := by
  simp only [Value.okWide, ht] at ok
  obtain ⟨cs, rfl, h2, _⟩ := ok
  rw [hC] at h2
  obtain ⟨fuel, hf⟩ := h
  obtain ⟨xs, m, _, _, _, hlen, hx⟩ := DataW.trod_array ht hf
  have a0 := hx 0 (by omega)
  have a1 := hx 1 (by omega)
  have n0 : xs[0]? ≠ none := by rw [List.getElem?_eq_getElem (by omega)]; simp
  have n1 : xs[1]? ≠ none := by rw [List.getElem?_eq_getElem (by omega)]; simp
  obtain ⟨y0, e0⟩ := Option.ne_none_iff_exists'.1 n0
  obtain ⟨y1, e1⟩ := Option.ne_none_iff_exists'.1 n1
  rw [e0] at a0
  rw [e1] at a1
  obtain ⟨s0, g0, _, _⟩ := DataW.trod_string he a0
  obtain ⟨s1, g1, _, _⟩ := DataW.trod_string he a1
  simp only [Value.cells, hE] at g0 g1
  obtain ⟨l⟩ := cs
  match l, h2 with
  | [c0, c1], _ =>
    simp at g0 g1
    exact ⟨s0, s1, by rw [g0, g1]⟩

theorem size_isEmpty (s : ByteArray) : (((s.size : Int) == 0) == s.toList.isEmpty) = true := by
  have e : s.data.toList.length = s.size := by rw [Array.length_toList]; rfl
  rw [ByteArray.toList_eq, beq_iff_eq, Bool.eq_iff_iff]
  cases h : s.data.toList with
  | nil => rw [h] at e; simp only [List.length_nil] at e; simp only [beq_iff_eq, List.isEmpty_nil, iff_true]; omega
  | cons x l => rw [h] at e; simp only [List.length_cons] at e; simp only [beq_iff_eq, List.isEmpty_cons, Bool.false_eq_true, iff_false]; omega

/-! ### what the form's reach says of one argument -/
theorem arg_weights {H : Type} {P : Program} {ts : List TypeId} {ds : List (DataW H)} (h : (DataW.weightsEach P ts ds).all (· ≤ reachBytes) = true) {j : Nat} {t : TypeId} {d : DataW H} (ht : ts[j]? = some t) (hd : ds[j]? = some d) :
    ∀ n ∈ d.weights P t, n ≤ reachBytes := fun n hn => by
  have := List.all_eq_true.1 h _ (DataW.weights_mem_each ht hd n hn)
  simpa using this
theorem weightsAll_mem {H : Type} {P : Program} {e : TypeId} {d : DataW H} : ∀ {l : List (DataW H)}, d ∈ l → ∀ n ∈ d.weights P e, n ∈ DataW.weightsAll P e l
  | x :: l, h, n, hn => by
    simp only [DataW.weightsAll, List.mem_append]
    rcases List.mem_cons.1 h with rfl | h
    · exact Or.inl hn
    · exact Or.inr (weightsAll_mem h n hn)
theorem lt_of_cell {w : World} {p : Addr} {v : Value} (h : w.cell? p = some v) : p.block < w.heap.size := by
  rcases Nat.lt_or_ge p.block w.heap.size with g | g
  · exact g
  · simp [World.cell?, Array.getElem?_eq_none g] at h

/-- the integers of a list that came in, as functions of the place -/
structure IntsAt (k : IntKind) (w : World) (a : Option Addr) (b off len : Nat) (N : Nat → Int) : Prop where
  addr : 0 < len → a = some ⟨b, off, none⟩
  cell : ∀ i, i < len → w.cell? ⟨b, off + i, none⟩ = some (.int k (N i))
  wf : ∀ i, (Lit.int k (N i)).wf = true
/-- the texts of a list that came in -/
structure TextsAt (w : World) (a : Option Addr) (b off len : Nat) (T : Nat → ByteArray) : Prop where
  addr : 0 < len → a = some ⟨b, off, none⟩
  cell : ∀ i, i < len → w.cell? ⟨b, off + i, none⟩ = some (.string (T i))
  size : ∀ i, (T i).size ≤ 140737488351232

theorem open_nums {H : Type} {enc : TypeId × Value → H} {P : Program} {w : World} {base b0 : Nat} {held : Bool} {r : Reach} {t e : TypeId} {k : IntKind} {v : Value} {d : DataW H} {p : List MemPlace}
    (ht : P.underlying t = some (.slice e)) (he : P.underlying e = some (.int k)) (hc : P.cellsOf e = 1) (hb : 0 < P.bytesOf e)
    (ok : Value.okWide P w r b0 t v) (h : DataW.Trod enc P w base (fun _ => true) held t v d p) (hw : ∀ n ∈ d.weights P t, n ≤ reachBytes) :
    ∃ (a : Option Addr) (len cap b off : Nat) (N : Nat → Int), v = .slice a len cap ∧ IntsAt k w a b off len N ∧ len ≤ 140737488351232 := by
  obtain ⟨a, len, cap, rfl⟩ := okWide_slice ht ok
  obtain ⟨fuel, hf⟩ := h
  rcases open_ints ht he hc hf with ⟨hcs, _⟩ | ⟨x, l, c, zs, hcs, _, hl, hm, hz, hx, hcell, hwz⟩
  · simp [Value.cells] at hcs
    obtain ⟨rfl, rfl, rfl⟩ := hcs
    exact ⟨_, _, _, 0, 0, fun _ => 0, rfl, ⟨fun g => by omega, fun i hi => by omega, fun i => by cases k <;> rfl⟩, by omega⟩
  · simp [Value.cells] at hcs
    obtain ⟨rfl, rfl, rfl⟩ := hcs
    simp only [if_true] at hz
    simp only [Prod.mk.injEq] at hx
    obtain ⟨rfl, _⟩ := hx
    have hle : cap ≤ reachBytes := by
      have g := hw (((lits k (zs.take len) : List (DataW H)).length + (lits k (zs.drop len) : List (DataW H)).length) * P.bytesOf e) (by simp [DataW.weights, ht])
      simp only [lits, List.length_map, List.length_take, List.length_drop] at g
      have : cap ≤ cap * P.bytesOf e := Nat.le_mul_of_pos_right _ hb
      have e2 : min len zs.length + (zs.length - len) = cap := by omega
      rw [e2] at g
      omega
    simp only [reachBytes] at hle
    have wz : ∀ i, (Lit.int k (zs.getD i 0)).wf = true := fun i => by
      by_cases hi : i < zs.length
      · rw [List.getD_eq_getElem?_getD, List.getElem?_eq_getElem hi]; exact hwz _ (List.getElem_mem hi)
      · rw [List.getD_eq_getElem?_getD, List.getElem?_eq_none (by omega)]; cases k <;> rfl
    by_cases hp : 0 < zs.length
    · obtain ⟨b, off, rfl, hc'⟩ := ints_at hcell hp
      exact ⟨_, _, _, b, off, fun i => zs.getD i 0, rfl, ⟨fun _ => rfl, fun i hi => hc' i (by omega), wz⟩, by omega⟩
    · exact ⟨_, _, _, 0, 0, fun i => zs.getD i 0, rfl, ⟨fun g => by omega, fun i hi => by omega, wz⟩, by omega⟩

theorem open_texts {H : Type} {enc : TypeId × Value → H} {P : Program} {w : World} {base b0 : Nat} {held : Bool} {r : Reach} {t e : TypeId} {v : Value} {d : DataW H} {p : List MemPlace}
    (ht : P.underlying t = some (.slice e)) (he : P.underlying e = some .string) (hc : P.cellsOf e = 1) (hb : 0 < P.bytesOf e)
    (ok : Value.okWide P w r b0 t v) (h : DataW.Trod enc P w base (fun _ => true) held t v d p) (hw : ∀ n ∈ d.weights P t, n ≤ reachBytes) :
    ∃ (a : Option Addr) (len cap b off : Nat) (T : Nat → ByteArray), v = .slice a len cap ∧ TextsAt w a b off len T ∧ len ≤ 140737488351232 := by
  obtain ⟨a, len, cap, rfl⟩ := okWide_slice ht ok
  obtain ⟨fuel, hf⟩ := h
  rcases open_strings ht he hc hf with ⟨hcs, _⟩ | ⟨x, l, c, ss, hcs, _, hl, hm, hz, hx, hcell, _⟩
  · simp [Value.cells] at hcs
    obtain ⟨rfl, rfl, rfl⟩ := hcs
    exact ⟨_, _, _, 0, 0, fun _ => ByteArray.empty, rfl, ⟨fun g => by omega, fun i hi => by omega, fun i => by show (0 : Nat) ≤ _; omega⟩, by omega⟩
  · simp [Value.cells] at hcs
    obtain ⟨rfl, rfl, rfl⟩ := hcs
    simp only [if_true] at hz
    simp only [Prod.mk.injEq] at hx
    obtain ⟨rfl, _⟩ := hx
    have hle : cap ≤ reachBytes := by
      have g := hw (((strs (ss.take len) : List (DataW H)).length + (strs (ss.drop len) : List (DataW H)).length) * P.bytesOf e) (by simp [DataW.weights, ht])
      simp only [strs, List.length_map, List.length_take, List.length_drop] at g
      have : cap ≤ cap * P.bytesOf e := Nat.le_mul_of_pos_right _ hb
      have e2 : min len ss.length + (ss.length - len) = cap := by omega
      rw [e2] at g
      omega
    simp only [reachBytes] at hle
    have zs : ∀ i, (ss.getD i ByteArray.empty).size ≤ 140737488351232 := fun i => by
      by_cases hi : i < ss.length
      · have hmem : ss[i] ∈ ss.take len ++ ss.drop len := by rw [List.take_append_drop]; exact List.getElem_mem hi
        have g : (ss[i].data.toList.length) ∈ DataW.weights P t (.slice (strs (ss.take len)) (strs (ss.drop len)) : DataW H) := by
          simp only [DataW.weights, ht, List.mem_cons, List.mem_append]
          right
          rcases List.mem_append.1 hmem with hm | hm
          · exact Or.inl (weightsAll_mem (d := .lit (.string ss[i].data.toList)) (List.mem_map.2 ⟨_, hm, rfl⟩) _ (by simp [DataW.weights]))
          · exact Or.inr (weightsAll_mem (d := .lit (.string ss[i].data.toList)) (List.mem_map.2 ⟨_, hm, rfl⟩) _ (by simp [DataW.weights]))
        rw [List.getD_eq_getElem?_getD, List.getElem?_eq_getElem hi]
        exact size_reach (hw _ g)
      · rw [List.getD_eq_getElem?_getD, List.getElem?_eq_none (by omega)]; show (0 : Nat) ≤ _; omega
    by_cases hp : 0 < ss.length
    · obtain ⟨b, off, spot⟩ := x
      have hspot : spot = none := by simpa [Addr.add] using World.cell?_spot (hcell 0 hp)
      subst hspot
      exact ⟨_, _, _, b, off, fun i => ss.getD i ByteArray.empty, rfl, ⟨fun _ => rfl, fun i hi => by rw [← add_plain]; exact hcell i (by omega), zs⟩, by omega⟩
    · exact ⟨_, _, _, 0, 0, fun i => ss.getD i ByteArray.empty, rfl, ⟨fun g => by omega, fun i hi => by omega, zs⟩, by omega⟩

/-- the pairs of integers of a list that came in -/
structure PairsAt (k0 k1 : IntKind) (w : World) (a : Option Addr) (b off len : Nat) (X Y : Nat → Int) : Prop where
  addr : 0 < len → a = some ⟨b, off, none⟩
  fst : ∀ i, i < len → w.cell? ⟨b, off + i * 2, none⟩ = some (.int k0 (X i)) ∧ (Lit.int k0 (X i)).wf = true
  snd : ∀ i, i < len → w.cell? ⟨b, off + i * 2 + 1, none⟩ = some (.int k1 (Y i)) ∧ (Lit.int k1 (Y i)).wf = true

theorem open_pairs {H : Type} {enc : TypeId × Value → H} {P : Program} {w : World} {base b0 : Nat} {held : Bool} {r : Reach} {t e : TypeId} {f0 f1 : Field} {k0 k1 : IntKind} {v : Value} {d : DataW H} {p : List MemPlace}
    (ht : P.underlying t = some (.slice e)) (he : P.underlying e = some (.struct #[f0, f1])) (hc : P.cellsOf e = 2) (o0 : f0.offset = 0) (o1 : f1.offset = 1) (e0 : P.underlying f0.type = some (.int k0)) (e1 : P.underlying f1.type = some (.int k1))
    (c0 : P.cellsOf f0.type = 1) (c1 : P.cellsOf f1.type = 1) (hb : 0 < P.bytesOf e)
    (ok : Value.okWide P w r b0 t v) (h : DataW.Trod enc P w base (fun _ => true) held t v d p) (hw : ∀ n ∈ d.weights P t, n ≤ reachBytes) :
    ∃ (a : Option Addr) (len cap b off : Nat) (X Y : Nat → Int), v = .slice a len cap ∧ PairsAt k0 k1 w a b off len X Y ∧ len ≤ 140737488351232 := by
  obtain ⟨a, len, cap, rfl⟩ := okWide_slice ht ok
  obtain ⟨fuel, hf⟩ := h
  rcases Deep.open_slice_pairs ht he hc o0 o1 c0 c1 hf with ⟨hcs, _⟩ | ⟨x, l, c, m, n, V0, V1, D0, D1, P0, P1, hcs, _, hl, hm, hmm, hx, hcell⟩
  · simp [Value.cells] at hcs
    obtain ⟨rfl, rfl, rfl⟩ := hcs
    exact ⟨_, _, _, 0, 0, fun _ => 0, fun _ => 0, rfl, ⟨fun g => by omega, fun i hi => by omega, fun i hi => by omega⟩, by omega⟩
  · simp [Value.cells] at hcs
    obtain ⟨rfl, rfl, rfl⟩ := hcs
    simp only [if_true] at hmm
    subst hmm
    simp only [Prod.mk.injEq] at hx
    obtain ⟨rfl, _⟩ := hx
    have hle : m ≤ reachBytes := by
      have g := hw (((List.range len).map fun i => DataW.agg [D0 i, D1 i]).length * P.bytesOf e + ((List.range (m - len)).map fun j => DataW.agg [D0 (len + j), D1 (len + j)]).length * P.bytesOf e) (by simp [DataW.weights, ht, Nat.add_mul])
      simp only [List.length_map, List.length_range, ← Nat.add_mul] at g
      have : m ≤ m * P.bytesOf e := Nat.le_mul_of_pos_right _ hb
      have e2 : len + (m - len) = m := by omega
      rw [e2] at g
      omega
    simp only [reachBytes] at hle
    have each : ∀ i, i < m → ∃ z : Int × Int, w.cell? (x.add (i * 2)) = some (.int k0 z.1) ∧ (Lit.int k0 z.1).wf = true ∧ w.cell? (x.add (i * 2 + 1)) = some (.int k1 z.2) ∧ (Lit.int k1 z.2).wf = true := fun i hi => by
      obtain ⟨g0, g1, t0, t1⟩ := hcell i hi
      obtain ⟨a0, q0, _, w0⟩ := DataW.trod_int e0 t0
      obtain ⟨a1, q1, _, w1⟩ := DataW.trod_int e1 t1
      simp at q0 q1
      exact ⟨(a0, a1), by rw [g0, q0], w0, by rw [g1, q1], w1⟩
    obtain ⟨z, hz⟩ := Deep.choose_lt each
    by_cases hp : 0 < m
    · obtain ⟨b, off, spot⟩ := x
      have hspot : spot = none := by simpa [Addr.add] using World.cell?_spot (hz 0 hp).1
      subst hspot
      refine ⟨_, _, _, b, off, fun i => (z i).1, fun i => (z i).2, rfl, ⟨fun _ => rfl, fun i hi => ?_, fun i hi => ?_⟩, by omega⟩
      · obtain ⟨a1, a2, _, _⟩ := hz i (by omega)
        exact ⟨by rw [← add_plain]; exact a1, a2⟩
      · obtain ⟨_, _, a1, a2⟩ := hz i (by omega)
        exact ⟨by rw [Nat.add_assoc, ← add_plain]; exact a1, a2⟩
    · exact ⟨_, _, _, 0, 0, fun _ => 0, fun _ => 0, rfl, ⟨fun g => by omega, fun i hi => by omega, fun i hi => by omega⟩, by omega⟩

end Go.Proofs.YtbjpogeemajhoaaGreat.Oct
