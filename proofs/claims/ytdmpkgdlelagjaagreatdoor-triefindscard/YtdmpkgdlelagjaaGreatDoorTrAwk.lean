/-
  What the document fixes by number (awake). Conditions: the digest's constants lie where the program lays them.
-/
import Derived.Test.YtdmpkgdlelagjaaGreatDoorRows
import Derived.Test.YtdmpkgdlelagjaaGreatDoorTrAwake
namespace Go.Proofs.YtdmpkgdlelagjaaGreatDoor.Tr
open Go Go.RowKit
open Ident (by_ val dg digit has digits RowsAt)
open Sh (b_alloc b_drew b_drewN b_next b_then Rises)
open Ts (SetAt)
theorem Draw_ok (a : Option Addr) (cap b off : Nat) (L : List ByteArray) (c : Cell) (vi vk : Value) (w : World) (hT : TxAt w a b off L) (hn : L.length ≤ 30000) (hi : Lst w vi c.ids) (hk : Lst w vk c.kds) (hs : IsSet L) (hK : Sha.Kc w) (hni : c.ids.length ≤ 30000) (hnk : c.kds.length ≤ 140737488351232) (hz : c.pre.size ≤ 140737488351232) (h0 : IsCheck c 0) :
    Calls Tryz.prog 15 #[.slice a L.length cap, cellV c vi vk] w (DrawIs w (lacks L c) (asks L c) 0) :=
  (Draw_calls a cap b off L c vi vk w hT hn hi hk hs hK hni hnk hz).mono fun e w' h => by
    rcases h with ⟨n, h1, h2, _⟩ | ⟨_, h⟩
    · exact absurd (h1.unique h0) h2
    · exact h
theorem Check_ok (c : Cell) (vi vk : Value) (w : World) (hi : Lst w vi c.ids) (hk : Lst w vk c.kds) (hK : Sha.Kc w) (hni : c.ids.length ≤ 30000) (hnk : c.kds.length ≤ 140737488351232) (hz : c.pre.size ≤ 140737488351232) (n : Int) (h : IsCheck c n) :
    Calls Tryz.prog 13 #[cellV c vi vk] w fun e w' => e = .returned (.int .i64 n) ∧ Below w.heap.size w w' :=
  (Check_calls c vi vk w hi hk hK hni hnk hz).mono fun e w' ⟨⟨m, h1, h2⟩, h3⟩ => ⟨by rw [h1, h2.unique h], h3⟩
/-- the cell of few ids at no digits -/
def fewCell (L : List ByteArray) : Cell := ⟨⟨#[]⟩, L.length, few L, L, []⟩
theorem cell_few {L : List ByteArray} (hs : ∀ x ∈ L, x.size = 32) (h : L.length ≤ 8) : cellOf L ⟨#[]⟩ = fewCell L := by
  unfold cellOf fewCell
  rw [below_none hs rfl, if_pos h, if_pos h, sumAt_few h]
theorem few_check {L : List ByteArray} (hs : IsSet L) (h : L.length ≤ 8) : IsCheck (fewCell L) 0 := by
  rw [← cell_few hs.1 h]; exact check_cellOf hs (by omega) ⟨Nat.zero_le _, fun _ hk => absurd hk (Nat.not_lt_zero _)⟩
theorem few_asks (A L : List ByteArray) : asks A (fewCell L) = [] := rfl
theorem pre_none : IsPre ⟨#[]⟩ := ⟨Nat.zero_le _, fun _ hk => absurd hk (Nat.not_lt_zero _)⟩
def oneF : Nat → Nat → UInt8 := fun _ j => if j = 0 then 7 else 0
def one : ByteArray := txt (oneF 0)
theorem ids_one : ids oneF 1 = [one] := rfl
theorem one_set : IsSet [one] := ids_one ▸ ids_set oneF 1
theorem row_one (w : World) : RowsAt (w.alloc (.cells #[.int .u8 7, .int .u8 0, .int .u8 0, .int .u8 0, .int .u8 0, .int .u8 0, .int .u8 0, .int .u8 0, .int .u8 0, .int .u8 0, .int .u8 0, .int .u8 0, .int .u8 0, .int .u8 0, .int .u8 0, .int .u8 0, .int .u8 0, .int .u8 0, .int .u8 0, .int .u8 0, .int .u8 0, .int .u8 0, .int .u8 0, .int .u8 0, .int .u8 0, .int .u8 0, .int .u8 0, .int .u8 0, .int .u8 0, .int .u8 0, .int .u8 0, .int .u8 0] 54)) (some ⟨w.heap.size, 0, none⟩) w.heap.size 0 1 oneF :=
  ⟨fun _ => rfl, fun i hi j hj => by
    obtain rfl : i = 0 := by omega
    rw [show 0 + (0 * 32 + j) = j by omega]
    match j, hj with
    | 0, _ => simp [go_sem, oneF]
    | 1, _ => simp [go_sem, oneF]
    | 2, _ => simp [go_sem, oneF]
    | 3, _ => simp [go_sem, oneF]
    | 4, _ => simp [go_sem, oneF]
    | 5, _ => simp [go_sem, oneF]
    | 6, _ => simp [go_sem, oneF]
    | 7, _ => simp [go_sem, oneF]
    | 8, _ => simp [go_sem, oneF]
    | 9, _ => simp [go_sem, oneF]
    | 10, _ => simp [go_sem, oneF]
    | 11, _ => simp [go_sem, oneF]
    | 12, _ => simp [go_sem, oneF]
    | 13, _ => simp [go_sem, oneF]
    | 14, _ => simp [go_sem, oneF]
    | 15, _ => simp [go_sem, oneF]
    | 16, _ => simp [go_sem, oneF]
    | 17, _ => simp [go_sem, oneF]
    | 18, _ => simp [go_sem, oneF]
    | 19, _ => simp [go_sem, oneF]
    | 20, _ => simp [go_sem, oneF]
    | 21, _ => simp [go_sem, oneF]
    | 22, _ => simp [go_sem, oneF]
    | 23, _ => simp [go_sem, oneF]
    | 24, _ => simp [go_sem, oneF]
    | 25, _ => simp [go_sem, oneF]
    | 26, _ => simp [go_sem, oneF]
    | 27, _ => simp [go_sem, oneF]
    | 28, _ => simp [go_sem, oneF]
    | 29, _ => simp [go_sem, oneF]
    | 30, _ => simp [go_sem, oneF]
    | 31, _ => simp [go_sem, oneF]
    | j + 32, hj => omega⟩
/-- a cell's five values in a block -/
def CellAt (w : World) (b : Nat) (u0 u1 u2 u3 u4 : Value) : Prop := w.cell? ⟨b, 0, none⟩ = some u0 ∧ w.cell? ⟨b, 1, none⟩ = some u1 ∧ w.cell? ⟨b, 2, none⟩ = some u2 ∧ w.cell? ⟨b, 3, none⟩ = some u3 ∧ w.cell? ⟨b, 4, none⟩ = some u4
theorem CellAt.new (w : World) (u0 u1 u2 u3 u4 : Value) (t : TypeId) : CellAt (w.alloc (.cells #[u0, u1, u2, u3, u4] t)) w.heap.size u0 u1 u2 u3 u4 := ⟨by simp [go_sem], by simp [go_sem], by simp [go_sem], by simp [go_sem], by simp [go_sem]⟩
theorem CellAt.lt {w : World} {b : Nat} {u0 u1 u2 u3 u4 : Value} (h : CellAt w b u0 u1 u2 u3 u4) : b < w.heap.size := Oct.lt_of_cell h.1
theorem CellAt.next {w w' : World} {b : Nat} {u0 u1 u2 u3 u4 : Value} (h : CellAt w b u0 u1 u2 u3 u4) (t : Below w.heap.size w w') : CellAt w' b u0 u1 u2 u3 u4 := by
  have hb := h.lt
  obtain ⟨h0, h1, h2, h3, h4⟩ := h
  exact ⟨(t.cell (p := ⟨b, 0, none⟩) hb).trans h0, (t.cell (p := ⟨b, 1, none⟩) hb).trans h1, (t.cell (p := ⟨b, 2, none⟩) hb).trans h2, (t.cell (p := ⟨b, 3, none⟩) hb).trans h3, (t.cell (p := ⟨b, 4, none⟩) hb).trans h4⟩
theorem sum_none (w : World) (hK : Sha.Kc w) : Calls Tryz.prog 22 #[.string ⟨#[108]⟩] w fun e w' => e = .returned (.string (few [])) ∧ Below w.heap.size w w' := Sha.Sum_calls ⟨#[108]⟩ w hK (by decide)
attribute [local irreducible] one few
set_option maxRecDepth 100000 in
set_option maxHeartbeats 8000000 in
theorem awake_calls (w : World) (hK : Sha.Kc w) :
    Calls Tryz.prog 9 #[] w fun e w' => e = .returned (.bool true) ∧ Below w.heap.size w w' := by
  have b0 := b_alloc w (.cells #[.int .u8 7, .int .u8 0, .int .u8 0, .int .u8 0, .int .u8 0, .int .u8 0, .int .u8 0, .int .u8 0, .int .u8 0, .int .u8 0, .int .u8 0, .int .u8 0, .int .u8 0, .int .u8 0, .int .u8 0, .int .u8 0, .int .u8 0, .int .u8 0, .int .u8 0, .int .u8 0, .int .u8 0, .int .u8 0, .int .u8 0, .int .u8 0, .int .u8 0, .int .u8 0, .int .u8 0, .int .u8 0, .int .u8 0, .int .u8 0, .int .u8 0, .int .u8 0] 54)
  have hSo := Lib.hid (sorted_calls (some ⟨w.heap.size, 0, none⟩) 1 w.heap.size 0 1 oneF _ (row_one w) (by omega))
  rw [ids_one] at hSo
  replace hK := Lib.hid hK
  replace b0 := Lib.hid b0
  go_enter Tryz.func9, Tryz.ntmps9
  go_wp2_with fail
  refine hSo.out.mono ?_
  rintro e w1 ⟨v1, rfl, hO1, b1⟩
  obtain ⟨a1, c1, bb1, o1, rfl, hT1, hc1, -⟩ := hO1.at_
  have hB1 := Lib.hid (b_then b0.out b1)
  have hT1h := Lib.hid hT1
  have hLa := Lib.hid (Look_ok none 0 0 0 [] ⟨#[]⟩ w1 (.nil _ _ _ _) (by simp) IsSet.nil pre_none (kc_below hK.out hB1.out))
  rw [cell_few (by simp) (by simp)] at hLa
  clear hSo hO1 b1 hT1
  go_wp2_with fail
  refine hLa.out.mono ?_
  rintro e w2 ⟨vi2, vk2, rfl, hi2, hk2, b2⟩
  obtain ⟨ai2, ci2, -, -, rfl, -⟩ := hi2
  obtain ⟨ak2, ck2, -, -, rfl, -⟩ := hk2
  unfold cellV fewCell
  simp only [List.length_nil, Int.natCast_zero]
  have hB2 := b_then hB1.out b2
  have bA := b_alloc w2 (.cells #[.string ⟨#[]⟩, .int .i64 0, .string (few []), .slice ai2 0 ci2, .slice ak2 0 ck2] 25)
  have cA := CellAt.new w2 (.string ⟨#[]⟩) (.int .i64 0) (.string (few [])) (.slice ai2 0 ci2) (.slice ak2 0 ck2) 25
  have hB2A := Lib.hid (b_then hB2 bA)
  have hT2 := Lib.hid (hT1h.out.next (b_then b2 bA))
  have hLb := Lib.hid (Look_ok a1 c1 bb1 o1 [one] ⟨#[]⟩ _ hT2.out (by simp) one_set pre_none (kc_below hK.out hB2A.out))
  rw [cell_few one_set.1 (by simp)] at hLb
  replace cA := Lib.hid cA
  clear hLa b2 hB2 bA hT1h
  go_wp2_with fail
  generalize w2.alloc (.cells #[.string ⟨#[]⟩, .int .i64 0, .string (few []), .slice ai2 0 ci2, .slice ak2 0 ck2] 25) = w3 at *
  refine hLb.out.mono ?_
  rintro e w4 ⟨vi4, vk4, rfl, hi4, hk4, b4⟩
  obtain ⟨ai4, ci4, bi4, oi4, rfl, hci4, hTi4⟩ := hi4
  obtain ⟨ak4, ck4, bk4, ok4, rfl, hck4, hTk4⟩ := hk4
  unfold cellV fewCell
  unfold fewCell at hTi4 hTk4 hci4 hck4
  dsimp only at hTi4 hTk4 hci4 hck4
  simp only [List.length_nil, List.length_singleton] at hci4 hck4 ⊢
  have hB4 := b_then hB2A.out b4
  have bD := b_alloc w4 (.cells #[.string ⟨#[]⟩, .int .i64 1, .string (few [one]), .slice ai4 1 ci4, .slice ak4 0 ck4] 25)
  have cD := CellAt.new w4 (.string ⟨#[]⟩) (.int .i64 1) (.string (few [one])) (.slice ai4 1 ci4) (.slice ak4 0 ck4) 25
  have hB5 := Lib.hid (b_then hB4 bD)
  have hC5 := Lib.hid (cA.out.next (b_then b4 bD))
  have hT5 := Lib.hid (hT2.out.next (b_then b4 bD))
  have hI5 := Lib.hid (hTi4.next bD)
  have hDa := Lib.hid fun w' (hb : Below w.heap.size w w') (h1 : Lst w' (.slice ai4 1 ci4) [one]) (h2 : Lst w' (.slice ak4 0 ck4) []) => Draw_ok none 0 0 0 [] (fewCell [one]) (.slice ai4 1 ci4) (.slice ak4 0 ck4) w' (.nil _ _ _ _) (by simp) h1 h2 IsSet.nil (kc_below hK.out hb) (by show 1 ≤ 30000; omega) (Nat.zero_le _) (Nat.zero_le _) (few_check one_set (by simp))
  have hDb := Lib.hid fun w' (hb : Below w.heap.size w w') (hT : TxAt w' a1 bb1 o1 [one]) (h1 : Lst w' (.slice ai4 1 ci4) [one]) (h2 : Lst w' (.slice ak4 0 ck4) []) => Draw_ok a1 c1 bb1 o1 [one] (fewCell [one]) (.slice ai4 1 ci4) (.slice ak4 0 ck4) w' hT (by simp) h1 h2 one_set (kc_below hK.out hb) (by show 1 ≤ 30000; omega) (Nat.zero_le _) (Nat.zero_le _) (few_check one_set (by simp))
  have hCh := Lib.hid fun w' (hb : Below w.heap.size w w') (h1 : Lst w' (.slice ai4 1 ci4) [one]) (h2 : Lst w' (.slice ak4 0 ck4) []) => Check_ok (fewCell [one]) (.slice ai4 1 ci4) (.slice ak4 0 ck4) w' h1 h2 (kc_below hK.out hb) (by show 1 ≤ 30000; omega) (Nat.zero_le _) (Nat.zero_le _) 0 (few_check one_set (by simp))
  have hLi := Lib.hid fun w' (hT : TxAt w' ai4 bi4 oi4 [one]) => (⟨ai4, ci4, bi4, oi4, rfl, hci4, hT⟩ : Lst w' (.slice ai4 1 ci4) [one])
  have hLk := Lib.hid fun w' => (⟨ak4, ck4, bk4, ok4, rfl, hck4, .nil _ _ _ _⟩ : Lst w' (.slice ak4 0 ck4) [])
  replace cD := Lib.hid cD
  unfold cellV fewCell at hDa hDb hCh
  simp only [List.length_nil, List.length_singleton, Int.natCast_one] at hDa hDb hCh
  clear hLb b4 bD hTi4 hTk4 hB4 cA hT2 hB2A hci4 hck4
  go_wp2_with fail
  generalize w4.alloc (.cells #[.string ⟨#[]⟩, .int .i64 1, .string (few [one]), .slice ai4 1 ci4, .slice ak4 0 ck4] 25) = w5 at *
  have hDa1 := Lib.hid (hDa.out w5 hB5.out (hLi.out _ hI5.out) (hLk.out _))
  refine hDa1.out.mono ?_
  rintro e w6 ⟨v6, u6, rfl, h6, g6, b6⟩
  replace g6 : Lst w6 u6 [] := g6
  replace h6 : Lst w6 v6 (lacks [] (fewCell [one])) := h6
  have hl6 : Hid (lacks [] (fewCell [one]) = [one]) := Lib.hid (by decide +kernel)
  rw [hl6.out] at h6
  obtain ⟨a6, c6, bb6, o6, rfl, -, hT6⟩ := h6
  obtain ⟨p6, q6, -, -, rfl, -⟩ := g6
  simp only [List.length_nil, List.length_singleton]
  have hB6 := Lib.hid (b_then hB5.out b6)
  have hC6 := Lib.hid (hC5.out.next b6)
  have hD6 := cD.out.next b6
  obtain ⟨d0, d1, d2, d3, d4⟩ := hD6
  have hD6' := Lib.hid (cD.out.next b6)
  have hT6' := Lib.hid hT6
  have hTo6 := Lib.hid (hT5.out.next b6)
  have hI6 := Lib.hid (hI5.out.next b6)
  have hDb1 := Lib.hid (hDb.out w6 hB6.out hTo6.out (hLi.out _ hI6.out) (hLk.out _))
  clear hDa hDa1 hB5 hC5 cD hT5 hI5 hT6 b6 hl6
  go_wp2_with fail
  refine hDb1.out.mono ?_
  rintro e w7 ⟨v7, u7, rfl, h7, g7, b7⟩
  replace g7 : Lst w7 u7 [] := g7
  replace h7 : Lst w7 v7 (lacks [one] (fewCell [one])) := h7
  have hl7 : Hid (lacks [one] (fewCell [one]) = []) := Lib.hid (by decide +kernel)
  rw [hl7.out] at h7
  obtain ⟨a7, c7, -, -, rfl, -, -⟩ := h7
  obtain ⟨p7, q7, -, -, rfl, -⟩ := g7
  simp only [List.length_nil]
  have hB7 := b_then hB6.out b7
  have bX := b_alloc w7 (.cells #[.string ⟨#[120]⟩] 9)
  have hB7X := Lib.hid (b_then hB7 bX)
  have hTx : TxAt (w7.alloc (.cells #[.string ⟨#[120]⟩] 9)) (some ⟨w7.heap.size, 0, none⟩) w7.heap.size 0 [⟨#[120]⟩] := ⟨fun _ => rfl, fun i s hs => by
    match i, hs with
    | 0, hs => simp only [List.getElem?_cons_zero, Option.some.injEq] at hs; subst hs; simp [go_sem]
    | i + 1, hs => simp at hs⟩
  have hLx := Lib.hid (Look_bad (some ⟨w7.heap.size, 0, none⟩) 1 w7.heap.size 0 [⟨#[120]⟩] ⟨#[]⟩ _ hTx (by simp) (fun h => by have := h.1 ⟨#[120]⟩ (by simp); revert this; decide))
  have hC7 := Lib.hid (hC6.out.next (b_then b7 bX))
  have hD7 := Lib.hid (hD6'.out.next (b_then b7 bX))
  have hT7 := Lib.hid (hT6'.out.next (b_then b7 bX))
  have hTo7 := Lib.hid (hTo6.out.next (b_then b7 bX))
  have hI7 := Lib.hid (hI6.out.next (b_then b7 bX))
  simp only [List.length_singleton] at hLx
  clear hDb hDb1 hB6 hC6 hD6' hT6' hTo6 hI6 b7 hl7 bX hTx hB7 d0 d1 d2 d3 d4
  go_wp2_with fail
  generalize w7.alloc (.cells #[.string ⟨#[120]⟩] 9) = w8 at *
  refine hLx.out.mono ?_
  rintro e w9 ⟨vi9, vk9, rfl, hi9, hk9, b9⟩
  obtain ⟨ai9, ci9, -, -, rfl, -⟩ := hi9
  obtain ⟨ak9, ck9, -, -, rfl, -⟩ := hk9
  unfold cellV noCell
  simp only [List.length_nil]
  have bE := b_alloc w9 (.cells #[.string ⟨#[]⟩, .int .i64 0, .string ⟨#[]⟩, .slice ai9 0 ci9, .slice ak9 0 ck9] 25)
  have hB9 := Lib.hid (b_then hB7X.out (b_then b9 bE))
  have hC9 := hC7.out.next (b_then b9 bE)
  obtain ⟨k0, k1, k2, k3, k4⟩ := hC9
  have hD9 := Lib.hid (hD7.out.next (b_then b9 bE))
  have hT9 := Lib.hid (hT7.out.next (b_then b9 bE))
  have hTo9 := Lib.hid (hTo7.out.next (b_then b9 bE))
  have hI9 := Lib.hid (hI7.out.next (b_then b9 bE))
  have hSu := Lib.hid fun w' (hb : Below w.heap.size w w') => sum_none w' (kc_below hK.out hb)
  have e1 := str_eq (rfl : few [] = few [])
  have e2 := str_eq (rfl : one = one)
  clear hLx hB7X hC7 hD7 hT7 hTo7 hI7 b9 bE
  go_wp2_with fail
  generalize w9.alloc (.cells #[.string ⟨#[]⟩, .int .i64 0, .string ⟨#[]⟩, .slice ai9 0 ci9, .slice ak9 0 ck9] 25) = wa at *
  have ha6 := hT9.out.addr (by simp)
  subst ha6
  have ha1 := hTo9.out.addr (by simp)
  subst ha1
  have hlk : w2.heap.size < wa.heap.size := Oct.lt_of_cell k1
  have hSS := Lib.hid fun w' (hb : Below wa.heap.size wa w') =>
    (⟨(hb.cell (p := ⟨w2.heap.size, 1, none⟩) hlk).trans k1, (hb.cell (p := ⟨w2.heap.size, 2, none⟩) hlk).trans k2, (hD9.out.next hb).1, (hD9.out.next hb).2.1, (hD9.out.next hb).2.2.1, (hD9.out.next hb).2.2.2.1, (hD9.out.next hb).2.2.2.2, (hT9.out.next hb).cell 0 one rfl, (hTo9.out.next hb).cell 0 one rfl⟩ :
      w'.cell? ⟨w2.heap.size, 1, none⟩ = some (.int .i64 0) ∧ w'.cell? ⟨w2.heap.size, 2, none⟩ = some (.string (few [])) ∧ w'.cell? ⟨w4.heap.size, 0, none⟩ = some (.string ⟨#[]⟩) ∧ w'.cell? ⟨w4.heap.size, 1, none⟩ = some (.int .i64 1) ∧ w'.cell? ⟨w4.heap.size, 2, none⟩ = some (.string (few [one])) ∧ w'.cell? ⟨w4.heap.size, 3, none⟩ = some (.slice ai4 1 ci4) ∧ w'.cell? ⟨w4.heap.size, 4, none⟩ = some (.slice ak4 0 ck4) ∧ w'.cell? ⟨bb6, o6, none⟩ = some (.string one) ∧ w'.cell? ⟨bb1, o1, none⟩ = some (.string one))
  have bW := Lib.hid (b_drew wa)
  have hBd := Lib.hid (b_then hB9.out (b_drew wa))
  have hLI := Lib.hid fun w' (hb : Below wa.heap.size wa w') => hLi.out w' (hI9.out.next hb)
  clear k0 k1 k2 k3 k4 hD9 hT9 hTo9 hI9 hLi
  simp only [List.append_eq, List.cons_append, List.nil_append]
  go_region_held3 (fun w' : World => w'.cell? ⟨w2.heap.size, 1, none⟩ = some (.int .i64 0) ∧ w'.cell? ⟨w2.heap.size, 2, none⟩ = some (.string (few [])) ∧ w'.cell? ⟨w4.heap.size, 0, none⟩ = some (.string ⟨#[]⟩) ∧ w'.cell? ⟨w4.heap.size, 1, none⟩ = some (.int .i64 1) ∧ w'.cell? ⟨w4.heap.size, 2, none⟩ = some (.string (few [one])) ∧ w'.cell? ⟨w4.heap.size, 3, none⟩ = some (.slice ai4 1 ci4) ∧ w'.cell? ⟨w4.heap.size, 4, none⟩ = some (.slice ak4 0 ck4) ∧ w'.cell? ⟨bb6, o6, none⟩ = some (.string one) ∧ w'.cell? ⟨bb1, o1, none⟩ = some (.string one))
    (first | exact hSS.out _ (b_then bW.out (b_then bb bc)) | exact hSS.out _ (b_then bW.out bb) | exact hSS.out _ bW.out)
    (first
      | (go_at_call 22; refine (hSu.out _ hBd.out).mono ?_; rintro e wb ⟨rfl, bb⟩)
      | (go_at_call 13; refine (hCh.out _ (b_then hBd.out bb) (hLI.out _ (b_then bW.out bb)) (hLk.out _)).mono ?_; rintro e wc ⟨rfl, bc⟩))
  have hE := Lib.hid (b_then hBd.out (b_then bb bc))
  go_wp2
  go_ret
  exact ⟨rfl, hE.out⟩
end Go.Proofs.YtdmpkgdlelagjaaGreatDoor.Tr
