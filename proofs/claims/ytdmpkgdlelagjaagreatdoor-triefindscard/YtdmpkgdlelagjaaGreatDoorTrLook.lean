/-
  trie.sums and trie.Look: the sums of a set by its digits, the cell of a set at a prefix, or what is wrong. Conditions: the digest's constants lie where the program lays them; at most 30000 ids.
-/
import Derived.Test.YtdmpkgdlelagjaaGreatDoorRows
import Derived.Test.YtdmpkgdlelagjaaGreatDoorTrDeal
namespace Go.Proofs.YtdmpkgdlelagjaaGreatDoor.Tr
open Go Go.RowKit
open Ident (by_ val dg digit has digits)
open Sh (b_alloc b_drew b_drewN b_next b_then Rises)

theorem kids_size {k : Nat} {L : List ByteArray} : ∀ x ∈ kids k L, x.size = 32 := fun x hx => by
  obtain ⟨d, _, rfl⟩ := List.mem_map.1 hx
  exact sumAt_size _ _
/-- what sums answers: the sum, and the kids' sums, if there are any -/
def SumIs (w : World) (k : Nat) (L : List ByteArray) (e : Ending) (w' : World) : Prop := ∃ v, e = .returned (.tuple #[.string (sumAt k L), v]) ∧ OwnT w.heap.size w' v (if L.length ≤ 8 then [] else kids k L) ∧ Below w.heap.size w w'
theorem index_part (vs : Array Value) (d : Nat) (v : Value) (a : Option Addr) (n c : Nat) (hv : vs[d]? = some v) (hd : d < 16) (e : v = .slice a n c) (w : World) :
    (Instr.index 91 (.agg vs) (.int .i64 (d : Int))).run Tryz.prog w = .ok (.slice a n c) w := by
  have h0 : 0 ≤ (d : Int) ∧ (d : Int) < 16 := by omega
  simp [Instr.index, run_underlying Tryz.underlying91, asIntOf, h0, go_sem, hv, e]
  intro h
  omega
set_option maxHeartbeats 1000000 in
theorem sums_few (k : Nat) (a : Option Addr) (cap b off : Nat) (L : List ByteArray) (w : World) (hT : TxAt w a b off L) (hcap : L.length ≤ cap) (hs : IsSet L) (hK : Sha.Kc w) (h8 : L.length ≤ 8) :
    Calls Tryz.prog 31 #[.slice a L.length cap, .int .i64 (k : Int)] w (SumIs w k L) := by
  have hF := Lib.hid (fewSum_calls a cap b off L w hT hcap hK (by omega) (by rw [jn_len hs.1]; omega))
  have hE : Hid (∀ w', Below w.heap.size w w' → SumIs w k L (.returned (.tuple #[.string (few L), .slice none 0 0])) w') := Lib.hid fun w' hb => ⟨_, by rw [sumAt_few h8], by rw [if_pos h8]; exact OwnT.nil _ _, hb⟩
  obtain ⟨n, hn'⟩ : ∃ n, Hid (L.length = n) := ⟨_, Lib.hid rfl⟩
  rw [hn'.out] at hF ⊢
  have l0 : (n : Int) ≤ 8 := by have := hn'.out; omega
  generalize few L = R at *
  clear hT hs hK h8
  go_enter Tryz.func31, Tryz.ntmps31
  go_wp2_with fail
  refine hF.out.mono ?_
  rintro e w1 ⟨rfl, b1⟩
  have hE1 := Lib.hid (hE.out w1 b1)
  clear hE b1 hF
  go_wp2
  go_ret2
  exact hE1.out
theorem map_next (k d : Nat) (L : List ByteArray) : (List.range d).map (kid k L) ++ [kid k L d] = (List.range (d + 1)).map (kid k L) := by rw [List.range_succ, List.map_append]; rfl
set_option maxRecDepth 100000 in
set_option maxHeartbeats 4000000 in
theorem sums_many (k : Nat) (a : Option Addr) (cap b off : Nat) (L : List ByteArray) (w : World) (hT : TxAt w a b off L) (hcap : L.length ≤ cap) (hn : L.length ≤ 30000) (hs : IsSet L) (hal : Alike k L) (hK : Sha.Kc w) (h8 : ¬ L.length ≤ 8) (hk : k < 64)
    (hih : ∀ (a : Option Addr) (cap b off d : Nat) (w : World), TxAt w a b off (part L k d) → (part L k d).length ≤ cap → Sha.Kc w → Calls Tryz.prog 31 #[.slice a (part L k d).length cap, .int .i64 ((k + 1 : Nat) : Int)] w (SumIs w (k + 1) (part L k d))) :
    Calls Tryz.prog 31 #[.slice a L.length cap, .int .i64 (k : Int)] w (SumIs w k L) := by
  have hD := Lib.hid (deal_calls a cap b off L k w hT hcap (by omega) hs hal hk)
  have hE : Hid (∀ v w', OwnT w.heap.size w' v (kids k L) → Below w.heap.size w w' → SumIs w k L (.returned (.tuple #[.string (many (kids k L)), v])) w') := Lib.hid fun v w' ho hb => ⟨_, by rw [sumAt_many (by omega) hk], by rw [if_neg h8]; exact ho, hb⟩
  have hM := Lib.hid fun (a : Option Addr) (cap b off : Nat) (w : World) (h1 : TxAt w a b off (kids k L)) (h2 : (kids k L).length ≤ cap) (h3 : Sha.Kc w) => manySum_calls a cap b off (kids k L) w h1 h2 h3 (by rw [kids_length]; omega) (by rw [jn_len kids_size, kids_length]; omega)
  replace hih := Lib.hid hih
  obtain ⟨n, hn'⟩ : ∃ n, Hid (L.length = n) := ⟨_, Lib.hid rfl⟩
  rw [hn'.out] at hD h8 hn ⊢
  have l0 : ¬ (n : Int) ≤ 8 := by omega
  have w1k : IntKind.i64.wrap ((k : Int) + 1) = ((k + 1 : Nat) : Int) := by rw [IntWalk.i64_in _ (by omega)]; omega
  replace w1k := Lib.hid w1k
  replace hK := Lib.hid hK
  clear hT hcap h8 hs hal
  go_enter Tryz.func31, Tryz.ntmps31
  go_wp2_with fail
  refine hD.out.mono ?_
  rintro e w1 ⟨vs, rfl, hsz, hvs, b1⟩
  have hB1 := Lib.hid b1
  have hO1 : Hid (OwnT w.heap.size w1 (.slice none 0 0) ((List.range 0).map (kid k L))) := Lib.hid (OwnT.nil _ _)
  replace hvs := Lib.hid hvs
  replace hsz := Lib.hid hsz
  clear hD b1
  go_wp2
  go_loopw [5, 18] (fun v i wr => ∃ d : Nat, d ≤ 16 ∧ i = .int .i64 (d : Int) ∧ Hid (OwnT w.heap.size wr v ((List.range d).map (kid k L))) ∧ Hid (Below w.heap.size w wr)) (fun _ i _ => 16 - (intOf i).toNat)
  case atStart => exact ⟨0, by omega, rfl, hO1, hB1⟩
  case round =>
    clear hO1 hB1
    obtain ⟨d, hd, rfl, hO, hB⟩ := hrel
    by_cases hlt : d < 16
    · have l1 : (d : Int) < 16 := by omega
      have l2 : (0 : Int) ≤ d := by omega
      have hv : vs[d]? = some (vs[d]'(by rw [hsz.out]; omega)) := Array.getElem?_eq_getElem (by rw [hsz.out]; omega)
      obtain ⟨a1, c1, b1, o1, ev, hc1, hT1⟩ := hvs.out d _ hv
      have hix := index_part vs d _ a1 _ c1 hv hlt ev
      have hCall := hih.out a1 c1 b1 o1 d wr (hT1.next hB.out) hc1 (kc_below hK.out hB.out)
      rw [← w1k.out] at hCall
      replace hCall := Lib.hid hCall
      have hnx := Lib.hid (map_next k d L)
      have hl2 : ((List.range d).map (kid k L)).length ≤ 1099511627776 := by simp; omega
      generalize (part L k d).length = m at *
      clear ev hT1 hc1 hv
      have w2k : IntKind.i64.wrap ((k : Int) + 1) = (k : Int) + 1 := IntWalk.i64_in _ (by omega)
      rw [w2k] at hCall
      clear w2k
      go_wp2_with fail
      refine hCall.out.mono ?_
      rintro e w2 ⟨v2, rfl, -, b2⟩
      have hB2 := Lib.hid (b_then hB.out b2)
      have hO2 := Lib.hid (hO.out.next b2)
      have hkd : Hid (sumAt (k + 1) (part L k d) = kid k L d) := Lib.hid rfl
      rw [hkd.out]
      clear hCall b2 hix
      go_wp2_with (at_builtin; refine wp_append_tx rfl _ _ rfl w.heap.size u5 ((List.range d).map (kid k L)) (kid k L d) rfl rfl hO2.out hB2.out.size hl2 ?_)
      intro v' w3 hO3 hB3
      have hO4 := Lib.hid hO3
      have hB4 := Lib.hid (hB3 _ hB2.out)
      rw [hnx.out] at hO4
      clear hO3 hB3
      go_wp2
      exact ⟨⟨d + 1, by omega, by go_num, hO4, hB4⟩, by simp [intOf]; omega⟩
    · obtain rfl : d = 16 := by omega
      have ld : decide (((16 : Nat) : Int) < 16) = false := by decide
      have hO2 : Hid (OwnT w.heap.size wr u5 (kids k L)) := hO
      obtain ⟨a2, c2, b2, o2, rfl, hT2, hc2, -⟩ := hO2.out.at_
      have hM2 := Lib.hid (hM.out a2 c2 b2 o2 wr hT2 hc2 (kc_below hK.out hB.out))
      have hE2 := Lib.hid fun w' (hb : Below wr.heap.size wr w') => hE.out _ w' (hO2.out.next hb) (b_then hB.out hb)
      rw [kids_length] at hM2 hE2 ⊢
      clear hO hO2 hM hE hT2 hc2
      go_wp2_with fail
      refine hM2.out.mono ?_
      rintro e w2 ⟨rfl, bb⟩
      have hE3 := Lib.hid (hE2.out w2 bb)
      clear hE2 bb
      go_wp2
      go_ret2
      exact hE3.out
theorem sums_calls : ∀ (f k : Nat) (a : Option Addr) (cap b off : Nat) (L : List ByteArray) (w : World), k + f = 64 → TxAt w a b off L → L.length ≤ cap → L.length ≤ 30000 → IsSet L → Alike k L → Sha.Kc w →
    Calls Tryz.prog 31 #[.slice a L.length cap, .int .i64 (k : Int)] w (SumIs w k L) := by
  intro f
  induction f with
  | zero =>
    intro k a cap b off L w hkf hT hcap hn hs hal hK
    exact sums_few k a cap b off L w hT hcap hs hK (by
      rcases Nat.lt_or_ge 8 L.length with g | g
      · have := alike_lt hs hal g; omega
      · exact g)
  | succ f ih =>
    intro k a cap b off L w hkf hT hcap hn hs hal hK
    by_cases h8 : L.length ≤ 8
    · exact sums_few k a cap b off L w hT hcap hs hK h8
    · exact sums_many k a cap b off L w hT hcap hn hs hal hK h8 (alike_lt hs hal (by omega)) fun a cap b off d w h1 h2 h3 => ih (k + 1) a cap b off (part L k d) w (by omega) h1 h2 (Nat.le_trans (List.length_filter_le _ _) hn) (hs.filter _) hal.part h3
theorem bcell {W w1 : World} (hb : Below W.heap.size W w1) : (∀ b o, b < W.heap.size → w1.cell? ⟨b, o, none⟩ = W.cell? ⟨b, o, none⟩) ∧ (∀ b o, b < W.heap.size → w1.frozen? ⟨b, o, none⟩ = W.frozen? ⟨b, o, none⟩) :=
  ⟨fun b o h => hb.cell (p := ⟨b, o, none⟩) h, fun b o h => hb.frozen (p := ⟨b, o, none⟩) h⟩
/-- a cell as a value -/
def cellV (c : Cell) (vi vk : Value) : Value := .agg #[.string c.pre, .int .i64 c.count, .string c.sum, vi, vk]
/-- a cell handed back, with an error's number -/
def LookIs (w : World) (c : Cell) (n : Int) (e : Ending) (w' : World) : Prop := ∃ vi vk, e = .returned (.tuple #[cellV c vi vk, .int .i64 n]) ∧ Lst w' vi c.ids ∧ Lst w' vk c.kds ∧ Below w.heap.size w w'
/-- but for two blocks memory is as it was -/
structure Off (x y : Nat) (W W' : World) : Prop where
  size : W'.heap.size = W.heap.size
  block : ∀ g, g ≠ x → g ≠ y → W'.heap[g]? = W.heap[g]?
theorem Off.refl (x y : Nat) (W : World) : Off x y W W := ⟨rfl, fun _ _ _ => rfl⟩
theorem Off.setx {x y : Nat} {W W' : World} (h : Off x y W W') (o : Nat) (u : Value) : Off x y W (W'.setCell ⟨x, o, none⟩ u) :=
  ⟨by simpa [World.setCell] using h.size, fun g h1 h2 => (Below.heap_setCell _ _ _ g h1).trans (h.block g h1 h2)⟩
theorem Off.sety {x y : Nat} {W W' : World} (h : Off x y W W') (o : Nat) (u : Value) : Off x y W (W'.setCell ⟨y, o, none⟩ u) :=
  ⟨by simpa [World.setCell] using h.size, fun g h1 h2 => (Below.heap_setCell _ _ _ g h2).trans (h.block g h1 h2)⟩
theorem OwnT.keep {B : Nat} {w w' : World} {v : Value} {L : List ByteArray} (h : OwnT B w v L) (t : ∀ g, B ≤ g → g < w.heap.size → w'.heap[g]? = w.heap[g]?) : OwnT B w' v L :=
  owns_turn h fun g hg => t g (World.ownsRow.lt h g hg).1 (World.ownsRow.lt h g hg).2
theorem look_end {w w2 w3 W : World} {c : Cell} {n : Int} {v1 v3 : Value} {L1 L3 : List ByteArray} {o : Go.Obj} (b2 : Below (w.heap.size + 1) (w.alloc o) w2) (hO : OwnT (w.heap.size + 1) w2 v1 L1) {o3 : Go.Obj} (b3 : Below (w2.heap.size + 1) (w2.alloc o3) w3) (hO3 : OwnT (w2.heap.size + 1) w3 v3 L3)
    (hW : Off w.heap.size w2.heap.size w3 W) (hb : Below w.heap.size w3 W) (h1 : L1 = c.ids) (h3 : L3 = c.kds) : LookIs w c n (.returned (.tuple #[cellV c v1 v3, .int .i64 n])) W := by
  have s2 := b2.size
  have s3 := b3.size
  rw [World.size_alloc] at s2 s3
  refine ⟨v1, v3, rfl, h1 ▸ (hO.keep (w' := W) fun g h1 h2 => ?_).lst, h3 ▸ (hO3.keep (w' := W) fun g h1 _ => hW.block g (by omega) (by omega)).lst, ?_⟩
  · rw [hW.block g (by omega) (by omega), b3.block g (by omega)]
    exact Below.heap_alloc _ _ _ (by omega)
  · have e1 : Below w.heap.size w w2 := (b_alloc w o).trans (b2.mono (by omega))
    have e2 : Below w.heap.size w w3 := (e1.alloc (by omega) o3).trans (b3.mono (by omega))
    exact e2.trans hb
theorem results_cell2 {P : Program} {fn : Func} {a d : Nat} {t : TypeId} {tmps : Array Value} {w : World} {b o : Nat} {cs : List Value} {ds : TypeDesc} {v : Value} (h : fn.results = #[.cell a t, .tmp d])
    (hx : tmps.getD a undef = .pointer (some ⟨b, o, none⟩)) (hc : w.rangeAt b o cs) (hu : P.underlying t = some ds) (hd : ds.isRow = true) (hi : (P.info? t).map (·.size) = some cs.length) (hv : tmps.getD d undef = v) :
    (results fn tmps).run P w = .ok (.tuple #[.agg cs.toArray, v]) w := by
  have e : (loadVar t ⟨b, o, none⟩).run P w = _ := run_loadVar_mid w b o t cs ds hc hu hd hi
  simp only [results, h]
  simp [asAddr, -Array.getD_eq_getD_getElem?, hx, e, hv]
theorem five_range {W : World} {b : Nat} (h : ∀ j, j < 5 → ∃ z, W.cell? ⟨b, j, none⟩ = some z) (u0 u1 u2 u3 u4 : Value) :
    (((((W.setCell ⟨b, 0, none⟩ u0).setCell ⟨b, 1, none⟩ u1).setCell ⟨b, 2, none⟩ u2).setCell ⟨b, 3, none⟩ u3).setCell ⟨b, 4, none⟩ u4).rangeAt b 0 [u0, u1, u2, u3, u4] := by
  obtain ⟨z0, e0⟩ := h 0 (by omega)
  obtain ⟨z1, e1⟩ := h 1 (by omega)
  obtain ⟨z2, e2⟩ := h 2 (by omega)
  obtain ⟨z3, e3⟩ := h 3 (by omega)
  obtain ⟨z4, e4⟩ := h 4 (by omega)
  have ne : ∀ i j : Nat, i ≠ j → (⟨b, i, none⟩ : Addr) ≠ ⟨b, j, none⟩ := fun i j hij e => hij (congrArg Addr.off e)
  intro j v hv
  rw [Nat.zero_add]
  match j, hv with
  | 0, hv =>
    simp only [List.getElem?_cons_zero] at hv; rw [← hv]
    rw [World.cell?_setCell_other _ _ _ _ (ne _ _ (by decide)), World.cell?_setCell_other _ _ _ _ (ne _ _ (by decide)), World.cell?_setCell_other _ _ _ _ (ne _ _ (by decide)), World.cell?_setCell_other _ _ _ _ (ne _ _ (by decide))]
    exact World.cell?_setCell_same _ _ _ e0
  | 1, hv =>
    simp only [List.getElem?_cons_succ, List.getElem?_cons_zero] at hv; rw [← hv]
    rw [World.cell?_setCell_other _ _ _ _ (ne _ _ (by decide)), World.cell?_setCell_other _ _ _ _ (ne _ _ (by decide)), World.cell?_setCell_other _ _ _ _ (ne _ _ (by decide))]
    refine World.cell?_setCell_same (u := z1) _ _ _ ?_
    rw [World.cell?_setCell_other _ _ _ _ (ne _ _ (by decide))]; exact e1
  | 2, hv =>
    simp only [List.getElem?_cons_succ, List.getElem?_cons_zero] at hv; rw [← hv]
    rw [World.cell?_setCell_other _ _ _ _ (ne _ _ (by decide)), World.cell?_setCell_other _ _ _ _ (ne _ _ (by decide))]
    refine World.cell?_setCell_same (u := z2) _ _ _ ?_
    rw [World.cell?_setCell_other _ _ _ _ (ne _ _ (by decide)), World.cell?_setCell_other _ _ _ _ (ne _ _ (by decide))]; exact e2
  | 3, hv =>
    simp only [List.getElem?_cons_succ, List.getElem?_cons_zero] at hv; rw [← hv]
    rw [World.cell?_setCell_other _ _ _ _ (ne _ _ (by decide))]
    refine World.cell?_setCell_same (u := z3) _ _ _ ?_
    rw [World.cell?_setCell_other _ _ _ _ (ne _ _ (by decide)), World.cell?_setCell_other _ _ _ _ (ne _ _ (by decide)), World.cell?_setCell_other _ _ _ _ (ne _ _ (by decide))]; exact e3
  | 4, hv =>
    simp only [List.getElem?_cons_succ, List.getElem?_cons_zero] at hv; rw [← hv]
    refine World.cell?_setCell_same (u := z4) _ _ _ ?_
    rw [World.cell?_setCell_other _ _ _ _ (ne _ _ (by decide)), World.cell?_setCell_other _ _ _ _ (ne _ _ (by decide)), World.cell?_setCell_other _ _ _ _ (ne _ _ (by decide)), World.cell?_setCell_other _ _ _ _ (ne _ _ (by decide))]; exact e4
  | j + 5, hv => simp at hv
theorem infoCell : (Tryz.prog.info? 25).map (·.size) = some 5 := by kernel_rfl
/-- the result's five cells, another block written meanwhile -/
theorem Off.five {x y : Nat} {W0 W W' : World} (h : Off y y W W') (hxy : x ≠ y) (h5 : ∀ j, j < 5 → ∃ z, W0.cell? ⟨x, j, none⟩ = some z) (e : W.heap[x]? = W0.heap[x]?) : ∀ j, j < 5 → ∃ z, W'.cell? ⟨x, j, none⟩ = some z := fun j hj => by
  obtain ⟨z, hz⟩ := h5 j hj
  exact ⟨z, (World.cell?_of_block (w := W0) (a := ⟨x, j, none⟩) ((h.block x hxy hxy).trans e)).trans hz⟩
theorem cell5 (w : World) (u0 u1 u2 u3 u4 : Value) (t : TypeId) : ∀ j, j < 5 → ∃ z, (w.alloc (.cells #[u0, u1, u2, u3, u4] t)).cell? ⟨w.heap.size, j, none⟩ = some z := fun j hj => by
  match j, hj with
  | 0, _ => exact ⟨u0, by simp [go_sem]⟩
  | 1, _ => exact ⟨u1, by simp [go_sem]⟩
  | 2, _ => exact ⟨u2, by simp [go_sem]⟩
  | 3, _ => exact ⟨u3, by simp [go_sem]⟩
  | 4, _ => exact ⟨u4, by simp [go_sem]⟩
  | j + 5, hj => omega
def noCell : Cell := ⟨⟨#[]⟩, 0, ⟨#[]⟩, [], []⟩
set_option maxRecDepth 100000 in
set_option maxHeartbeats 4000000 in
theorem Look_bad (a : Option Addr) (cap b off : Nat) (L : List ByteArray) (p : ByteArray) (w : World) (hT : TxAt w a b off L) (hn : L.length ≤ 140737488351232) (hs : ¬ IsSet L) :
    Calls Tryz.prog 10 #[.slice a L.length cap, .string p] w (LookIs w noCell 1) := by
  have ba := b_alloc w (.cells #[.string ⟨#[]⟩, .int .i64 0, .string ⟨#[]⟩, .slice none 0 0, .slice none 0 0] 25)
  have hS := Lib.hid (isSet_calls a cap b off L _ (hT.next ba) hn)
  generalize L.length = n at *
  clear hT
  replace hs := Lib.hid hs
  replace ba := Lib.hid ba
  go_enter Tryz.func10, Tryz.ntmps10
  go_wp2_with fail
  refine hS.out.mono ?_
  rintro e w1 ⟨⟨z, rfl, hz⟩, rfl⟩
  obtain rfl : z = false := by cases z with | false => rfl | true => exact absurd (hz.1 rfl) hs.out
  clear hz hS
  go_wp2
  exact bodyPost_ret (v := .tuple #[cellV noCell (.slice none 0 0) (.slice none 0 0), .int .i64 1]) (by simp [results, Tryz.results10, go_sem, cellV, noCell]) rfl ⟨_, _, rfl, Lst.nil _, Lst.nil _, ba.out⟩
set_option maxRecDepth 100000 in
set_option maxHeartbeats 4000000 in
theorem Look_form (a : Option Addr) (cap b off : Nat) (L : List ByteArray) (p : ByteArray) (w : World) (hT : TxAt w a b off L) (hn : L.length ≤ 140737488351232) (hs : IsSet L) (hp : ¬ IsPre p) (hz : p.size ≤ 140737488351232) :
    Calls Tryz.prog 10 #[.slice a L.length cap, .string p] w (LookIs w noCell 4) := by
  have ba := b_alloc w (.cells #[.string ⟨#[]⟩, .int .i64 0, .string ⟨#[]⟩, .slice none 0 0, .slice none 0 0] 25)
  have hS := Lib.hid (isSet_calls a cap b off L _ (hT.next ba) hn)
  have hP := Lib.hid fun w => isPrefix_calls p w hz
  generalize L.length = n at *
  clear hT
  replace hs := Lib.hid hs
  replace hp := Lib.hid hp
  replace ba := Lib.hid ba
  go_enter Tryz.func10, Tryz.ntmps10
  go_wp2_with fail
  refine hS.out.mono ?_
  rintro e w1 ⟨⟨z, rfl, hz⟩, rfl⟩
  obtain rfl : z = true := hz.2 hs.out
  clear hz hS
  go_wp2_with fail
  refine (hP.out _).mono ?_
  rintro e w1 ⟨⟨z, rfl, hz⟩, rfl⟩
  obtain rfl : z = false := by cases z with | false => rfl | true => exact absurd (hz.1 rfl) hp.out
  clear hz hP
  go_wp2
  exact bodyPost_ret (v := .tuple #[cellV noCell (.slice none 0 0) (.slice none 0 0), .int .i64 4]) (by simp [results, Tryz.results10, go_sem, cellV, noCell]) rfl ⟨_, _, rfl, Lst.nil _, Lst.nil _, ba.out⟩
theorem cell_ids' (B : List ByteArray) (p : ByteArray) : (cellOf B p).ids = if (below B p).length ≤ 8 then below B p else [] := rfl
theorem cell_kds' (B : List ByteArray) (p : ByteArray) : (cellOf B p).kds = if (below B p).length ≤ 8 then [] else kids p.size (below B p) := rfl
theorem cellV_of (B : List ByteArray) (p : ByteArray) (vi vk : Value) : cellV (cellOf B p) vi vk = .agg #[.string p, .int .i64 ((below B p).length : Int), .string (sumAt p.size (below B p)), vi, vk] := rfl
set_option maxRecDepth 100000 in
set_option maxHeartbeats 4000000 in
theorem Look_ok (a : Option Addr) (cap b off : Nat) (L : List ByteArray) (p : ByteArray) (w : World) (hT : TxAt w a b off L) (hn : L.length ≤ 30000) (hs : IsSet L) (hp : IsPre p) (hK : Sha.Kc w) :
    Calls Tryz.prog 10 #[.slice a L.length cap, .string p] w (LookIs w (cellOf L p) 0) := by
  have ba := b_alloc w (.cells #[.string ⟨#[]⟩, .int .i64 0, .string ⟨#[]⟩, .slice none 0 0, .slice none 0 0] 25)
  have hS := Lib.hid (isSet_calls a cap b off L _ (hT.next ba) (by omega))
  have hP := Lib.hid fun w => isPrefix_calls p w (by have := hp.1; omega)
  have hBe := Lib.hid (below_calls a cap b off L p _ (hT.next ba) (by omega))
  have hbl : (below L p).length ≤ 30000 := Nat.le_trans (List.length_filter_le _ _) hn
  have hSu := Lib.hid fun (a : Option Addr) (cap b off : Nat) (w : World) (h1 : TxAt w a b off (below L p)) (h2 : (below L p).length ≤ cap) (h3 : Sha.Kc w) => sums_calls (64 - p.size) p.size a cap b off (below L p) w (by have := hp.1; omega) h1 h2 hbl (below_set hs p) alike_below h3
  generalize L.length = n at *
  have hp64 : p.size ≤ 64 := hp.1
  replace hs := Lib.hid hs
  replace hp := Lib.hid hp
  have hK0 := Lib.hid (kc_below hK ba)
  replace ba := Lib.hid ba
  clear hT hK
  go_enter Tryz.func10, Tryz.ntmps10
  go_wp2_with fail
  refine hS.out.mono ?_
  rintro e w1 ⟨⟨z, rfl, hz⟩, rfl⟩
  obtain rfl : z = true := hz.2 hs.out
  clear hz hS
  go_wp2_with fail
  refine (hP.out _).mono ?_
  rintro e w1 ⟨⟨z, rfl, hz⟩, rfl⟩
  obtain rfl : z = true := hz.2 hp.out
  clear hz hP
  go_wp2_with fail
  refine hBe.out.mono ?_
  rintro e w2 ⟨v, rfl, hO, b2⟩
  obtain ⟨hc2, hf2⟩ := bcell b2
  have sz2 : w.heap.size < w2.heap.size := by have := b2.size; simp at this; omega
  have hK2 := Lib.hid (kc_below hK0.out b2)
  replace b2 := Lib.hid b2
  obtain ⟨a1, c1, b1, o1, rfl, hT1, hc1, -⟩ := hO.at_
  have hO0 := Lib.hid hO
  have bb := b_alloc w2 (.cells #[.string p, .int .i64 ((below L p).length : Int), .string ⟨#[]⟩, .slice none 0 0, .slice none 0 0] 25)
  have hSu1 := Lib.hid (hSu.out a1 c1 b1 o1 _ (hT1.next bb) hc1 (kc_below hK2.out bb))
  replace bb := Lib.hid bb
  obtain ⟨m, hm⟩ : ∃ m, Hid ((below L p).length = m) := ⟨_, Lib.hid rfl⟩
  rw [hm.out] at hSu1 hbl bb ⊢
  clear hBe hO hT1 hc1 hSu
  go_wp2_with fail
  refine hSu1.out.mono ?_
  rintro e w3 ⟨v3, rfl, hO3, b3⟩
  obtain ⟨hc3, hf3⟩ := bcell b3
  have sz3 : w2.heap.size + 1 ≤ w3.heap.size := by have := b3.size; simpa using this
  have sz4 : w.heap.size < w3.heap.size := by omega
  have sz5 : w2.heap.size < w3.heap.size := by omega
  replace b3 := Lib.hid b3
  generalize hR : sumAt p.size (below L p) = R at *
  replace hR := Lib.hid hR
  rw [hm.out] at hO3
  by_cases h8 : m ≤ 8
  · rw [if_pos h8] at hO3
    obtain ⟨a3, c3, b3', o3, rfl, hT3, -, -⟩ := hO3.at_
    simp only [List.length_nil] at *
    have hE := Lib.hid fun W (hW : Off w.heap.size w2.heap.size w3 W) (hb : Below w.heap.size w3 W) => look_end (c := cellOf L p) (n := 0) (by have := b2.out; rwa [World.size_alloc] at this) (by have := hO0.out; rwa [World.size_alloc] at this) (by have := b3.out; rwa [World.size_alloc] at this) (by rwa [World.size_alloc] at hO3) hW hb (by rw [cell_ids', hm.out, if_pos h8]) (by rw [cell_kds', hm.out, if_pos h8])
    rw [cellV_of, hR.out, hm.out] at hE
    clear hSu1 hT3 hO3
    go_wp2
    exact bodyPost_ret (results_cell2 Tryz.results10 rfl (five_range (Off.five ((((Off.refl _ _ _).sety _ _).sety _ _).sety _ _) (Nat.ne_of_lt sz2) (cell5 w _ _ _ _ _ _) (((b3.out.block _ (by simp; omega)).trans (Below.heap_alloc _ _ _ sz2)).trans (b2.out.block _ (by simp)))) _ _ _ _ _) Tryz.underlying25 rfl infoCell rfl) rfl
      (hE.out _ (((((((((Off.refl _ _ _).sety _ _).sety _ _).sety _ _).setx _ _).setx _ _).setx _ _).setx _ _).setx _ _)
        (((((((((Below.refl _ _).setCell (p := ⟨w2.heap.size, 2, none⟩) (Nat.le_of_lt sz2) _).setCell (p := ⟨w2.heap.size, 4, none⟩) (Nat.le_of_lt sz2) _).setCell (p := ⟨w2.heap.size, 3, none⟩) (Nat.le_of_lt sz2) _).setCell (p := ⟨w.heap.size, 0, none⟩) (Nat.le_refl _) _).setCell (p := ⟨w.heap.size, 1, none⟩) (Nat.le_refl _) _).setCell (p := ⟨w.heap.size, 2, none⟩) (Nat.le_refl _) _).setCell (p := ⟨w.heap.size, 3, none⟩) (Nat.le_refl _) _).setCell (p := ⟨w.heap.size, 4, none⟩) (Nat.le_refl _) _))
  · rw [if_neg h8] at hO3
    obtain ⟨a3, c3, b3', o3, rfl, hT3, -, -⟩ := hO3.at_
    rw [kids_length] at *
    have hE := Lib.hid fun W (hW : Off w.heap.size w2.heap.size w3 W) (hb : Below w.heap.size w3 W) => look_end (c := cellOf L p) (n := 0) (L1 := []) (v1 := .slice none 0 0) (by have := b2.out; rwa [World.size_alloc] at this) (OwnT.nil _ _) (by have := b3.out; rwa [World.size_alloc] at this) (by rwa [World.size_alloc] at hO3) hW hb (by rw [cell_ids', hm.out, if_neg h8]) (by rw [cell_kds', hm.out, if_neg h8])
    rw [cellV_of, hR.out, hm.out] at hE
    clear hSu1 hT3 hO3
    go_wp2
    exact bodyPost_ret (results_cell2 Tryz.results10 rfl (five_range (Off.five (((Off.refl _ _ _).sety _ _).sety _ _) (Nat.ne_of_lt sz2) (cell5 w _ _ _ _ _ _) (((b3.out.block _ (by simp; omega)).trans (Below.heap_alloc _ _ _ sz2)).trans (b2.out.block _ (by simp)))) _ _ _ _ _) Tryz.underlying25 rfl infoCell rfl) rfl
      (hE.out _ ((((((((Off.refl _ _ _).sety _ _).sety _ _).setx _ _).setx _ _).setx _ _).setx _ _).setx _ _)
        ((((((((Below.refl _ _).setCell (p := ⟨w2.heap.size, 2, none⟩) (Nat.le_of_lt sz2) _).setCell (p := ⟨w2.heap.size, 4, none⟩) (Nat.le_of_lt sz2) _).setCell (p := ⟨w.heap.size, 0, none⟩) (Nat.le_refl _) _).setCell (p := ⟨w.heap.size, 1, none⟩) (Nat.le_refl _) _).setCell (p := ⟨w.heap.size, 2, none⟩) (Nat.le_refl _) _).setCell (p := ⟨w.heap.size, 3, none⟩) (Nat.le_refl _) _).setCell (p := ⟨w.heap.size, 4, none⟩) (Nat.le_refl _) _))
end Go.Proofs.YtdmpkgdlelagjaaGreatDoor.Tr
