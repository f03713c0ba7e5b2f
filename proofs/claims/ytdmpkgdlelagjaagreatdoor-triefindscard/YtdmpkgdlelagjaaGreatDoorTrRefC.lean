/-
  The document's own calls for layer 10: Look, Same, Check. Conditions: sets of at most 30000 ids; lists and texts of a length that the form's numbers bear.
-/
import Derived.Test.YtdmpkgdlelagjaaGreatDoorRows
import Derived.Test.YtdmpkgdlelagjaaGreatDoorTrRefB
namespace Go.Proofs.YtdmpkgdlelagjaaGreatDoor.Tr
open Go Go.RowKit
open Ident (by_ val dg digit has digits)
open Sh (b_alloc b_drew b_drewN b_next b_then Rises)

theorem tells_yes {P : Program} {f : FuncId} {a : Array Value} {w : World} {p : Prop} (h : Calls P f a w fun e w' => Tells e p ∧ Below w.heap.size w w') (hp : p) : Calls P f a w fun e w' => e = .returned (.bool true) ∧ Below w.heap.size w w' :=
  h.mono fun _ _ ⟨⟨z, h5, h6⟩, h7⟩ => ⟨by rw [h5, h6.2 hp], h7⟩
theorem tells_no {P : Program} {f : FuncId} {a : Array Value} {w : World} {p : Prop} (h : Calls P f a w fun e w' => Tells e p ∧ Below w.heap.size w w') (hp : ¬ p) : Calls P f a w fun e w' => e = .returned (.bool false) ∧ Below w.heap.size w w' :=
  h.mono fun _ _ ⟨⟨z, h5, h6⟩, h7⟩ => ⟨by
    cases z with
    | false => exact h5
    | true => exact absurd (h6.1 rfl) hp, h7⟩
set_option maxRecDepth 100000 in
set_option maxHeartbeats 4000000 in
theorem RLook_bad (a : Option Addr) (cap b off : Nat) (L : List ByteArray) (p : ByteArray) (w : World) (hT : TxAt w a b off L) (hn : L.length ≤ 140737488351232) (hsz : ∀ x ∈ L, x.size ≤ 140737488351232) (hs : ¬ IsSet L) :
    Calls Tryz.prog 11 #[.slice a L.length cap, .string p] w (LookIs w noCell 1) := by
  have ba := b_alloc w (.cells #[.string ⟨#[]⟩, .int .i64 0, .string ⟨#[]⟩, .slice none 0 0, .slice none 0 0] 25)
  have hS := Lib.hid (tells_no (RSet_calls a cap b off L _ (hT.next ba) hn hsz) hs)
  generalize L.length = n at *
  clear hT
  have c5 := Lib.hid (cell5 w (.string ⟨#[]⟩) (.int .i64 0) (.string ⟨#[]⟩) (.slice none 0 0) (.slice none 0 0) 25)
  replace ba := Lib.hid ba
  go_enter Tryz.func11, Tryz.ntmps11
  go_wp2_with fail
  refine hS.out.mono ?_
  rintro e w1 ⟨rfl, b1⟩
  obtain ⟨hc1, hf1⟩ := bcell b1
  have sz1 : w.heap.size + 1 ≤ w1.heap.size := by have := b1.size; simpa using this
  have sz2 : w.heap.size < w1.heap.size := by omega
  have bw1 := Lib.hid (b_then ba.out b1)
  replace b1 := Lib.hid b1
  clear hS
  go_wp2
  exact bodyPost_ret (results_cell2 Tryz.results11 rfl (five_range (fun j hj => by obtain ⟨z, hz⟩ := c5.out j hj; exact ⟨z, (hc1 _ _ (by simp)).trans hz⟩) _ _ _ _ _) Tryz.underlying25 rfl infoCell rfl) rfl
    ⟨_, _, rfl, Lst.nil _, Lst.nil _, (((((bw1.out.setCell (p := ⟨w.heap.size, 0, none⟩) (Nat.le_refl _) _).setCell (p := ⟨w.heap.size, 1, none⟩) (Nat.le_refl _) _).setCell (p := ⟨w.heap.size, 2, none⟩) (Nat.le_refl _) _).setCell (p := ⟨w.heap.size, 3, none⟩) (Nat.le_refl _) _).setCell (p := ⟨w.heap.size, 4, none⟩) (Nat.le_refl _) _)⟩
set_option maxRecDepth 100000 in
set_option maxHeartbeats 4000000 in
theorem RLook_form (a : Option Addr) (cap b off : Nat) (L : List ByteArray) (p : ByteArray) (w : World) (hT : TxAt w a b off L) (hn : L.length ≤ 140737488351232) (hsz : ∀ x ∈ L, x.size ≤ 140737488351232) (hs : IsSet L) (hp : ¬ IsPre p) :
    Calls Tryz.prog 11 #[.slice a L.length cap, .string p] w (LookIs w noCell 4) := by
  have ba := b_alloc w (.cells #[.string ⟨#[]⟩, .int .i64 0, .string ⟨#[]⟩, .slice none 0 0, .slice none 0 0] 25)
  have hS := Lib.hid (tells_yes (RSet_calls a cap b off L _ (hT.next ba) hn hsz) hs)
  have hP := Lib.hid fun w' => tells_false (Ident.RDigits_calls p w') hp
  generalize L.length = n at *
  clear hT
  have c5 := Lib.hid (cell5 w (.string ⟨#[]⟩) (.int .i64 0) (.string ⟨#[]⟩) (.slice none 0 0) (.slice none 0 0) 25)
  replace ba := Lib.hid ba
  go_enter Tryz.func11, Tryz.ntmps11
  go_wp2_with fail
  refine hS.out.mono ?_
  rintro e w1 ⟨rfl, b1⟩
  obtain ⟨hc1, hf1⟩ := bcell b1
  have sz1 : w.heap.size + 1 ≤ w1.heap.size := by have := b1.size; simpa using this
  have sz2 : w.heap.size < w1.heap.size := by omega
  have bw1 := Lib.hid (b_then ba.out b1)
  replace b1 := Lib.hid b1
  have hP1 := Lib.hid (hP.out w1)
  clear hS hP
  go_wp2_with fail
  refine hP1.out.mono ?_
  rintro e w' ⟨rfl, hw'⟩
  obtain rfl := hw'.symm
  clear hw' hP1
  go_wp2
  exact bodyPost_ret (results_cell2 Tryz.results11 rfl (five_range (fun j hj => by obtain ⟨z, hz⟩ := c5.out j hj; exact ⟨z, (hc1 _ _ (by simp)).trans hz⟩) _ _ _ _ _) Tryz.underlying25 rfl infoCell rfl) rfl
    ⟨_, _, rfl, Lst.nil _, Lst.nil _, (((((bw1.out.setCell (p := ⟨w.heap.size, 0, none⟩) (Nat.le_refl _) _).setCell (p := ⟨w.heap.size, 1, none⟩) (Nat.le_refl _) _).setCell (p := ⟨w.heap.size, 2, none⟩) (Nat.le_refl _) _).setCell (p := ⟨w.heap.size, 3, none⟩) (Nat.le_refl _) _).setCell (p := ⟨w.heap.size, 4, none⟩) (Nat.le_refl _) _)⟩
/-- five cells of a block set -/
def set5 (W : World) (b : Nat) (u0 u1 u2 u3 u4 : Value) : World := ((((W.setCell ⟨b, 0, none⟩ u0).setCell ⟨b, 1, none⟩ u1).setCell ⟨b, 2, none⟩ u2).setCell ⟨b, 3, none⟩ u3).setCell ⟨b, 4, none⟩ u4
theorem set5_off (W : World) (b : Nat) (u0 u1 u2 u3 u4 : Value) : Off b b W (set5 W b u0 u1 u2 u3 u4) := ((((((Off.refl _ _ _).setx _ _).setx _ _).setx _ _).setx _ _).setx _ _)
theorem set5_below {w W : World} {b : Nat} (h : Below w.heap.size w W) (hb : w.heap.size ≤ b) (u0 u1 u2 u3 u4 : Value) : Below w.heap.size w (set5 W b u0 u1 u2 u3 u4) :=
  (((((h.setCell (p := ⟨b, 0, none⟩) hb _).setCell (p := ⟨b, 1, none⟩) hb _).setCell (p := ⟨b, 2, none⟩) hb _).setCell (p := ⟨b, 3, none⟩) hb _).setCell (p := ⟨b, 4, none⟩) hb _)
theorem range_next {W W' : World} {b : Nat} {cs : List Value} (h : W.rangeAt b 0 cs) (hb : b < W.heap.size) (t : Below W.heap.size W W') : W'.rangeAt b 0 cs := fun j v hv => (t.cell (p := ⟨b, 0 + j, none⟩) hb).trans (h j v hv)
set_option maxRecDepth 100000 in
set_option maxHeartbeats 4000000 in
theorem RLook_ok (a : Option Addr) (cap b off : Nat) (L : List ByteArray) (p : ByteArray) (w : World) (hT : TxAt w a b off L) (hn : L.length ≤ 30000) (hs : IsSet L) (hp : IsPre p) :
    Calls Tryz.prog 11 #[.slice a L.length cap, .string p] w (LookIs w (cellOf L p) 0) := by
  have ba := b_alloc w (.cells #[.string ⟨#[]⟩, .int .i64 0, .string ⟨#[]⟩, .slice none 0 0, .slice none 0 0] 25)
  have hS := Lib.hid (tells_yes (RSet_calls a cap b off L _ (hT.next ba) (by omega) (fun x hx => by rw [hs.1 x hx]; omega)) hs)
  have hP := Lib.hid fun w' => tells_true (Ident.RDigits_calls p w') hp
  have hBe := Lib.hid fun w' (hb : Below w.heap.size w w') => RBelow_calls a cap b off L p w' (hT.next hb) (by omega)
  have hbl : (below L p).length ≤ 30000 := Nat.le_trans (List.length_filter_le _ _) hn
  have hSu := Lib.hid fun (a : Option Addr) (cap b off : Nat) (w : World) (h1 : TxAt w a b off (below L p)) => RSum_calls (64 - p.size) p (by have := hp.1; omega) hp a cap b off (below L p) w h1 hbl (below_set hs p) (below_below L p)
  have hKi := Lib.hid fun (hk : p.size < 64) (a : Option Addr) (cap b off : Nat) (w : World) (h1 : TxAt w a b off (below L p)) => Rkids_ok a cap b off (below L p) p w h1 hbl hp hk (below_set hs p) (below_below L p)
  have hk64 := Lib.hid fun (h : 8 < (below L p).length) => alike_lt (below_set hs p) alike_below h
  generalize L.length = n at *
  have c5 := Lib.hid (cell5 w (.string ⟨#[]⟩) (.int .i64 0) (.string ⟨#[]⟩) (.slice none 0 0) (.slice none 0 0) 25)
  replace ba := Lib.hid ba
  clear hT hs hp
  go_enter Tryz.func11, Tryz.ntmps11
  go_wp2_with fail
  refine hS.out.mono ?_
  rintro e w1 ⟨rfl, b1⟩
  have b1' := b1
  rw [World.size_alloc] at b1'
  replace b1' := Lib.hid b1'
  have bw1 := Lib.hid (b_then ba.out b1)
  have hP1 := Lib.hid (hP.out w1)
  clear hS hP b1
  go_wp2_with fail
  refine hP1.out.mono ?_
  rintro e w' ⟨rfl, hw'⟩
  obtain rfl := hw'.symm
  have hBe1 := Lib.hid (hBe.out w1 bw1.out)
  clear hw' hP1 hBe
  go_wp2_with fail
  refine hBe1.out.mono ?_
  rintro e w2 ⟨v2, rfl, hO2, b2⟩
  have sz12 : w.heap.size + 1 ≤ w1.heap.size := by have := b1'.out.size; simpa using this
  have b2' := Lib.hid (b1'.out.trans (b2.mono sz12))
  have bw2 := Lib.hid (b_then bw1.out b2)
  have hO2' := Lib.hid (hO2.mono sz12)
  obtain ⟨a2, c2, bb2, o2, rfl, hT2, -, -⟩ := hO2.at_
  have hSu2 := Lib.hid (hSu.out a2 c2 bb2 o2 w2 hT2)
  have hT2h := Lib.hid hT2
  have sz2 := b2.size
  obtain ⟨m, hm⟩ : ∃ m, Hid ((below L p).length = m) := ⟨_, Lib.hid rfl⟩
  rw [hm.out] at hSu2 hbl hKi hk64 hO2' ⊢
  obtain ⟨R, hR⟩ : ∃ R, Hid (sumAt p.size (below L p) = R) := ⟨_, Lib.hid rfl⟩
  rw [hR.out] at hSu2
  clear hBe1 hO2 hT2 hSu b2 b1'
  go_wp2_with fail
  refine hSu2.out.mono ?_
  rintro e w3 ⟨rfl, b3⟩
  have sz23 := b3.size
  have b3' := Lib.hid (b2'.out.trans (b3.mono (by have := b2'.out.size; simpa using this)))
  have bw3 := Lib.hid (b_then bw2.out b3)
  have hO3 := Lib.hid (hO2'.out.next b3)
  have hT3 := Lib.hid (hT2h.out.next b3)
  have sz3 : w.heap.size < w3.heap.size := by omega
  clear hSu2 b3 b2' bw2 hO2' hT2h sz2 sz23 sz12 bw1
  by_cases h8 : m ≤ 8
  · have l0 : (m : Int) ≤ 8 := by omega
    have hr5 := Lib.hid (five_range (W := w3) (b := w.heap.size) (fun j hj => by obtain ⟨z, hz⟩ := c5.out j hj; exact ⟨z, (b3'.out.cell (p := ⟨w.heap.size, j, none⟩) (by show w.heap.size < _; omega)).trans hz⟩) (.string p) (.int .i64 (m : Int)) (.string R) (.slice a2 m c2) (.slice none 0 0))
    have hS5 := Lib.hid (set5_off w3 w.heap.size (.string p) (.int .i64 (m : Int)) (.string R) (.slice a2 m c2) (.slice none 0 0))
    have hB5 := Lib.hid (set5_below (b := w.heap.size) bw3.out (Nat.le_refl _) (.string p) (.int .i64 (m : Int)) (.string R) (.slice a2 m c2) (.slice none 0 0))
    have hE : Hid (LookIs w (cellOf L p) 0 (.returned (.tuple #[cellV (cellOf L p) (.slice a2 m c2) (.slice none 0 0), .int .i64 0])) ((set5 w3 w.heap.size (.string p) (.int .i64 (m : Int)) (.string R) (.slice a2 m c2) (.slice none 0 0)).alloc (.cells #[.string p, .int .i64 (m : Int), .string R, .slice a2 m c2, .slice none 0 0] 25))) := Lib.hid
      ⟨_, _, rfl, by
        rw [cell_ids', hm.out, if_pos h8]
        exact (hO3.out.keep fun g h1 h2 => (Below.heap_alloc _ _ _ (by rw [hS5.out.size]; exact h2)).trans (hS5.out.block g (by omega) (by omega))).lst, by
        rw [cell_kds', hm.out, if_pos h8]; exact Lst.nil _, b_then hB5.out (b_alloc _ _)⟩
    rw [cellV_of, hR.out, hm.out] at hE
    have hc3 : ∀ o, w3.cell? ⟨w.heap.size, o, none⟩ = (w.alloc (.cells #[.string ⟨#[]⟩, .int .i64 0, .string ⟨#[]⟩, .slice none 0 0, .slice none 0 0] 25)).cell? ⟨w.heap.size, o, none⟩ := fun o => b3'.out.cell (p := ⟨w.heap.size, o, none⟩) (by show w.heap.size < _; omega)
    have hf3 : ∀ o, w3.frozen? ⟨w.heap.size, o, none⟩ = (w.alloc (.cells #[.string ⟨#[]⟩, .int .i64 0, .string ⟨#[]⟩, .slice none 0 0, .slice none 0 0] 25)).frozen? ⟨w.heap.size, o, none⟩ := fun o => b3'.out.frozen (p := ⟨w.heap.size, o, none⟩) (by show w.heap.size < _; omega)
    clear hO3 hT3 hKi hk64 h8
    go_wp2
    exact bodyPost_ret (results_cell2 Tryz.results11 rfl (range_next hr5.out (Nat.lt_of_lt_of_eq sz3 hS5.out.size.symm) (b_alloc _ _)) Tryz.underlying25 rfl infoCell rfl) rfl hE.out
  · have l0 : ¬ (m : Int) ≤ 8 := by omega
    have bA := b_alloc w3 (.cells #[.string p, .int .i64 (m : Int), .string R, .slice none 0 0, .slice none 0 0] 25)
    have hKi3 := Lib.hid (hKi.out (hk64.out (by omega)) a2 c2 bb2 o2 _ (hT3.out.next bA))
    have hres : Hid ((w3.alloc (.cells #[.string p, .int .i64 (m : Int), .string R, .slice none 0 0, .slice none 0 0] 25)).heap[w.heap.size]? = (w.alloc (.cells #[.string ⟨#[]⟩, .int .i64 0, .string ⟨#[]⟩, .slice none 0 0, .slice none 0 0] 25)).heap[w.heap.size]?) := Lib.hid ((Below.heap_alloc _ _ _ sz3).trans (b3'.out.block _ (by omega)))
    have hc3 : ∀ o, w3.cell? ⟨w.heap.size, o, none⟩ = (w.alloc (.cells #[.string ⟨#[]⟩, .int .i64 0, .string ⟨#[]⟩, .slice none 0 0, .slice none 0 0] 25)).cell? ⟨w.heap.size, o, none⟩ := fun o => b3'.out.cell (p := ⟨w.heap.size, o, none⟩) (by show w.heap.size < _; omega)
    have hf3 : ∀ o, w3.frozen? ⟨w.heap.size, o, none⟩ = (w.alloc (.cells #[.string ⟨#[]⟩, .int .i64 0, .string ⟨#[]⟩, .slice none 0 0, .slice none 0 0] 25)).frozen? ⟨w.heap.size, o, none⟩ := fun o => b3'.out.frozen (p := ⟨w.heap.size, o, none⟩) (by show w.heap.size < _; omega)
    replace bA := Lib.hid bA
    clear hKi hk64 hT3
    go_wp2_with fail
    refine hKi3.out.mono ?_
    rintro e w4 ⟨v4, rfl, hO4, b4⟩
    obtain ⟨hc4, hf4⟩ := bcell b4
    have sz4 : w3.heap.size + 1 ≤ w4.heap.size := by have := b4.size; simpa using this
    have sz5 : w.heap.size < w4.heap.size := by omega
    have sz6 : w3.heap.size < w4.heap.size := by omega
    have b4' := b4
    rw [World.size_alloc] at b4' hO4
    obtain ⟨a4, c4, b4b, o4, rfl, -, -, -⟩ := hO4.at_
    rw [kids_length] at *
    have hE := Lib.hid fun W (hW : Off w.heap.size w3.heap.size w4 W) (hb : Below w.heap.size w4 W) =>
      look_end (c := cellOf L p) (n := 0) (L1 := []) (v1 := .slice none 0 0) b3'.out (OwnT.nil _ _) b4' hO4 hW hb (by rw [cell_ids', hm.out, if_neg h8]) (by rw [cell_kds', hm.out, if_neg h8])
    rw [cellV_of, hR.out, hm.out] at hE
    have hx5 : Hid (∀ W, Off w3.heap.size w3.heap.size w4 W → ∀ j, j < 5 → ∃ z, W.cell? ⟨w.heap.size, j, none⟩ = some z) := Lib.hid fun W hW => Off.five hW (Nat.ne_of_lt sz3) c5.out ((b4.block _ (by simp; omega)).trans hres.out)
    replace b4 := Lib.hid b4
    replace b4' := Lib.hid b4'
    clear hO4 hKi3 hO3 h8
    go_wp2
    exact bodyPost_ret (results_cell2 Tryz.results11 rfl (five_range (hx5.out _ ((Off.refl _ _ _).setx _ _)) _ _ _ _ _) Tryz.underlying25 rfl infoCell rfl) rfl
      (hE.out _ ((((((((Off.refl _ _ _).sety _ _)).setx _ _).setx _ _).setx _ _).setx _ _).setx _ _)
        ((((((Below.refl _ _).setCell (p := ⟨w3.heap.size, 4, none⟩) (Nat.le_of_lt sz3) _).setCell (p := ⟨w.heap.size, 0, none⟩) (Nat.le_refl _) _).setCell (p := ⟨w.heap.size, 1, none⟩) (Nat.le_refl _) _).setCell (p := ⟨w.heap.size, 2, none⟩) (Nat.le_refl _) _).setCell (p := ⟨w.heap.size, 3, none⟩) (Nat.le_refl _) _ |>.setCell (p := ⟨w.heap.size, 4, none⟩) (Nat.le_refl _) _))
set_option maxRecDepth 100000 in
set_option maxHeartbeats 4000000 in
/-- the document's own comparison of two cells that read alike -/
theorem RSame_yes (c : Cell) (vi vk vi' vk' : Value) (w : World) (hi : Lst w vi c.ids) (hk : Lst w vk c.kds) (hi' : Lst w vi' c.ids) (hk' : Lst w vk' c.kds) (hni : c.ids.length ≤ 1000000) (hnk : c.kds.length ≤ 1000000) :
    Calls Tryz.prog 12 #[cellV c vi vk, cellV c vi' vk'] w fun e w' => e = .returned (.bool true) ∧ Below w.heap.size w w' := by
  obtain ⟨p, n, s, I, K⟩ := c
  obtain ⟨a1, c1, b1, o1, rfl, -, hT1⟩ := hi
  obtain ⟨a2, c2, b2, o2, rfl, -, hT2⟩ := hk
  obtain ⟨a3, c3, b3, o3, rfl, -, hT3⟩ := hi'
  obtain ⟨a4, c4, b4, o4, rfl, -, hT4⟩ := hk'
  unfold cellV
  dsimp only at *
  have hI := Lib.hid fun w' (hb : Below w.heap.size w w') => tells_yes (RTexts_calls a1 c1 b1 o1 I a3 c3 b3 o3 I w' (hT1.next hb) (hT3.next hb) hni hni) rfl
  have hKk := Lib.hid fun w' (hb : Below w.heap.size w w') => tells_yes (RTexts_calls a2 c2 b2 o2 K a4 c4 b4 o4 K w' (hT2.next hb) (hT4.next hb) hnk hnk) rfl
  obtain ⟨ni, hni'⟩ : ∃ ni, I.length = ni := ⟨_, rfl⟩
  obtain ⟨nk, hnk'⟩ : ∃ nk, K.length = nk := ⟨_, rfl⟩
  rw [hni'] at hI ⊢
  rw [hnk'] at hKk ⊢
  have bA := b_alloc w (.cells #[.string p, .int .i64 n, .string s, .slice a1 ni c1, .slice a2 nk c2] 25)
  have bB := b_alloc (w.alloc (.cells #[.string p, .int .i64 n, .string s, .slice a1 ni c1, .slice a2 nk c2] 25)) (.cells #[.string p, .int .i64 n, .string s, .slice a3 ni c3, .slice a4 nk c4] 25)
  have bAB := b_then bA bB
  have hI1 := Lib.hid (hI.out _ bAB)
  have e1 := str_eq (rfl : p = p)
  have e2 := str_eq (rfl : s = s)
  have e3 : (n == n) = true := by simp
  clear hT1 hT2 hT3 hT4 bA bB hni hnk
  replace bAB := Lib.hid bAB
  go_enter Tryz.func12, Tryz.ntmps12
  go_wp2_with fail
  refine hI1.out.mono ?_
  rintro e w5 ⟨rfl, b5⟩
  obtain ⟨hc5, hf5⟩ := bcell b5
  have sz5 : w.heap.size + 1 + 1 ≤ w5.heap.size := by have := b5.size; simpa using this
  have bw5 := b_then bAB.out b5
  have hK1 := Lib.hid (hKk.out w5 bw5)
  replace bw5 := Lib.hid bw5
  replace b5 := Lib.hid b5
  clear hI hI1 hKk
  go_wp2_with fail
  refine hK1.out.mono ?_
  rintro e w6 ⟨rfl, b6⟩
  have bw6 := Lib.hid (b_then bw5.out b6)
  clear b6 hK1
  go_wp2
  go_ret
  exact ⟨rfl, bw6.out⟩
end Go.Proofs.YtdmpkgdlelagjaaGreatDoor.Tr
