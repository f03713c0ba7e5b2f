/-
  The first look: a small graph, reached, opened, ordered, measured. Conditions: none.
-/
import Derived.Test.YtcoccaglbepbdaaGreatRows
import Derived.Test.YtcoccaglbepbdaaGreatGrBuilt
import Derived.Test.YtcoccaglbepbdaaGreatGrOrder
namespace Go.Proofs.YtcoccaglbepbdaaGreat.Rg
open Go.RowKit Sh Gr
open Key (lt)
open Ent (key)
open Ti (keysV keysV_len keysV_snoc info_key IsOf)
open Rf (Sl sl_of_owns)
attribute [local go_sem] fold_none

/-- the small graph -/
def wake : Gph := ⟨[1, 2, 3], fun x => if x = 3 then [] else if x = 2 then [3, 9] else if x = 1 then [2, 3] else []⟩
theorem wake_gph (P : List (Int × Value)) (T : Nat → List Int) (u v x : Value) (hP : P = [(1, u), (2, v), (3, x)]) (h0 : T 0 = [2, 3]) (h1 : T 1 = [9, 3]) (h2 : T 2 = []) : gph P T 3 = wake := by
  subst hP
  simp only [gph, h0, h1, h2]
  rfl
theorem wake_met : IsMet wake.T [1] [1, 2, 3, 9] := by
  refine isMet_of (by unfold Rises; decide) (fun x hx => ?_) (by decide) (by decide)
  have m1 : Gr.Met wake.T [1] 1 := .here (by simp)
  have m2 : Gr.Met wake.T [1] 2 := .on m1 (by decide)
  simp only [List.mem_cons, List.not_mem_nil, or_false] at hx
  rcases hx with rfl | rfl | rfl | rfl
  · exact m1
  · exact m2
  · exact .on m1 (by decide)
  · exact .on m2 (by decide)
theorem wake_small : Small wake := ⟨by decide, fun k => by show (if k = 3 then [] else if k = 2 then [3, 9] else if k = 1 then [2, 3] else [] : List Int).length ≤ 40; split; · simp
                                                           split; · simp
                                                           split <;> simp⟩
theorem wake_ord {L : List Int} {c : Int} (h : OrdIs wake [1, 2, 3] L c) : L = [3, 2, 1] ∧ c = 0 := by
  have g : OrdIs wake [1, 2, 3] [3, 2, 1] 0 := Or.inr ⟨by decide, [1, 2, 3], by unfold Rises; decide, fun _ => Iff.rfl, Or.inr ⟨by decide, rfl⟩⟩
  exact h.unique g
theorem wake_hgt {h c : Int} (g : HgtIs wake 1 h c) : h = 2 ∧ c = 0 := by
  have hH : Hts wake 1 fun x => if x = 1 then 2 else if x = 2 then 1 else 0 := fun x hx hd => by
    have hx2 := (wake_met.2 x).2 hx
    simp only [List.mem_cons, List.not_mem_nil, or_false] at hx2
    rcases hx2 with rfl | rfl | rfl | rfl
    · decide
    · decide
    · decide
    · exact absurd hd (by decide)
  have g2 : HgtIs wake 1 2 0 := Or.inr ⟨by decide, _, wake_met, Or.inr ⟨[3, 2, 1], _, by decide, hH, rfl, rfl⟩⟩
  exact g.unique g2
theorem wake_hgt9 {h c : Int} (g : HgtIs wake 9 h c) : h = 0 ∧ c = 12 := g.unique (Or.inl ⟨by decide, rfl, rfl⟩)
theorem sl_mk (w : World) (xs : List Int) (cs : Array Value) (h : cs = (keysV xs).toArray) (n : Nat) (hn : n = xs.length) : Sl (w.alloc (.cells cs 3)) (.slice (some ⟨w.heap.size, 0, none⟩) n n) xs := by
  subst h hn
  refine ⟨_, _, rfl, fun _ => ⟨w.heap.size, 0, rfl, by simp, fun j hj => ?_⟩⟩
  have : (w.alloc (.cells (keysV xs).toArray 3)).heap[w.heap.size]? = some (.cells (keysV xs).toArray 3 (0, 0)) := World.alloc_heap_new w _
  simp only [World.cell?, this]
  simp [keysV, List.getElem?_eq_getElem hj]

/-- a list of three numbers, cell by cell -/
theorem sl_three {w w' : World} {u : Value} {x y z : Int} (h : Sl w u [x, y, z]) (hb : Below w.heap.size w w') : ∃ g off cap, u = .slice (some ⟨g, off, none⟩) 3 cap ∧ w'.cell? ⟨g, off, none⟩ = some (.int .i64 x) ∧ w'.cell? ⟨g, off + 2, none⟩ = some (.int .i64 z) := by
  obtain ⟨s, c, rfl, h1⟩ := h
  obtain ⟨g, off, rfl, hg, hc⟩ := h1 (by simp)
  exact ⟨g, off, c, rfl, (hb.cell (p := ⟨g, off, none⟩) hg).trans (hc 0 (by simp)), (hb.cell (p := ⟨g, off + 2, none⟩) hg).trans (hc 2 (by simp))⟩
theorem sl_single {w w' : World} {u : Value} {x : Int} (h : Sl w u [x]) (hb : Below w.heap.size w w') : ∃ g off cap, u = .slice (some ⟨g, off, none⟩) 1 cap ∧ w'.cell? ⟨g, off, none⟩ = some (.int .i64 x) := by
  obtain ⟨s, c, rfl, h1⟩ := h
  obtain ⟨g, off, rfl, hg, hc⟩ := h1 (by simp)
  exact ⟨g, off, c, rfl, (hb.cell (p := ⟨g, off, none⟩) hg).trans (hc 0 (by simp))⟩
theorem wake_reach (w : World) (b m : Nat) (v : Value) (h : GraphAt w b m wake) (hv : Sl w v [1]) : Calls Tryz.prog 18 #[.pointer (some ⟨b, 0, none⟩), v] w (GivesS w [1, 2, 3]) :=
  (Reach_calls w b m wake v [1] h wake_small (by simp) hv).mono fun e w' ⟨M, hM, _, hg⟩ => by
    obtain rfl := hM.unique wake_met
    exact hg
theorem wake_open (w : World) (b m : Nat) (v : Value) (h : GraphAt w b m wake) (hv : Sl w v [1]) : Calls Tryz.prog 20 #[.pointer (some ⟨b, 0, none⟩), v] w (GivesS w [9]) :=
  (Open_calls w b m wake v [1] h wake_small (by simp) hv).mono fun e w' ⟨M, hM, _, hg⟩ => by
    obtain rfl := hM.unique wake_met
    exact hg
theorem wake_order (w : World) (b m : Nat) (v : Value) (h : GraphAt w b m wake) (hv : Sl w v [1, 2, 3]) : Calls Tryz.prog 22 #[.pointer (some ⟨b, 0, none⟩), v] w fun e w' => ∃ u, e = .returned (.tuple #[u, .int .i64 0]) ∧ Sl w' u [3, 2, 1] ∧ Below w.heap.size w w' :=
  (Order_calls w b m wake v [1, 2, 3] h wake_small (by simp) hv).mono fun e w' ⟨u, L, c, he, ho, hu, hb⟩ => by
    obtain ⟨rfl, rfl⟩ := wake_ord ho
    exact ⟨u, he, hu, hb⟩
theorem wake_height (w : World) (b m : Nat) (h : GraphAt w b m wake) : Calls Tryz.prog 24 #[.pointer (some ⟨b, 0, none⟩), .int .i64 1] w fun e w' => e = .returned (.tuple #[.int .i64 2, .int .i64 0]) ∧ Below w.heap.size w w' :=
  (Height_calls w b m wake 1 h wake_small).mono fun e w' ⟨x, c, he, hg, hb⟩ => by
    obtain ⟨rfl, rfl⟩ := wake_hgt hg
    exact ⟨he, hb⟩
theorem wake_height9 (w : World) (b m : Nat) (h : GraphAt w b m wake) : Calls Tryz.prog 24 #[.pointer (some ⟨b, 0, none⟩), .int .i64 9] w fun e w' => e = .returned (.tuple #[.int .i64 0, .int .i64 12]) ∧ Below w.heap.size w w' :=
  (Height_calls w b m wake 9 h wake_small).mono fun e w' ⟨x, c, he, hg, hb⟩ => by
    obtain ⟨rfl, rfl⟩ := wake_hgt9 hg
    exact ⟨he, hb⟩
/-- the small graph, built -/
theorem wake_built (w : World) : Calls Tryz.prog 10 #[.slice (some ⟨w.heap.size + 1 + 1, 0, none⟩) 3 3]
    (((w.alloc (.cells #[.int .i64 2, .int .i64 3] 3)).alloc (.cells #[.int .i64 9, .int .i64 3] 3)).alloc (.cells #[.int .i64 1, .slice (some ⟨w.heap.size, 0, none⟩) 2 2, .int .i64 2, .slice (some ⟨w.heap.size + 1, 0, none⟩) 2 2, .int .i64 3, .slice none 0 0] 53))
    fun e w' => ∃ b m b2, e = .returned (.tuple #[.pointer (some ⟨b, 0, none⟩), .pointer (some ⟨b2, 0, none⟩), .bool true]) ∧ GraphAt w' b m wake ∧ Below w.heap.size w w' := by
  have e1 : (w.alloc (.cells #[.int .i64 2, .int .i64 3] 3)).heap.size = w.heap.size + 1 := by simp
  have s1 := (sl_mk w [2, 3] #[.int .i64 2, .int .i64 3] rfl 2 rfl).next (b_alloc _ (.cells #[.int .i64 9, .int .i64 3] 3))
  have s2 := sl_mk (w.alloc (.cells #[.int .i64 2, .int .i64 3] 3)) [9, 3] #[.int .i64 9, .int .i64 3] rfl 2 rfl
  have b1 := b_alloc w (.cells #[.int .i64 2, .int .i64 3] 3)
  have b2 := b_alloc (w.alloc (.cells #[.int .i64 2, .int .i64 3] 3)) (.cells #[.int .i64 9, .int .i64 3] 3)
  rw [e1] at s2
  have e2 : ((w.alloc (.cells #[.int .i64 2, .int .i64 3] 3)).alloc (.cells #[.int .i64 9, .int .i64 3] 3)).heap.size = w.heap.size + 1 + 1 := by simp
  generalize (w.alloc (.cells #[.int .i64 2, .int .i64 3] 3)).alloc (.cells #[.int .i64 9, .int .i64 3] 3) = W at *
  have b3 := b_alloc W (.cells #[.int .i64 1, .slice (some ⟨w.heap.size, 0, none⟩) 2 2, .int .i64 2, .slice (some ⟨w.heap.size + 1, 0, none⟩) 2 2, .int .i64 3, .slice none 0 0] 53)
  have hblk := World.alloc_heap_new W (.cells #[.int .i64 1, .slice (some ⟨w.heap.size, 0, none⟩) 2 2, .int .i64 2, .slice (some ⟨w.heap.size + 1, 0, none⟩) 2 2, .int .i64 3, .slice none 0 0] 53)
  have t1 := s1.next b3
  have t2 := s2.next b3
  have hlt : W.heap.size < (W.alloc (.cells #[.int .i64 1, .slice (some ⟨w.heap.size, 0, none⟩) 2 2, .int .i64 2, .slice (some ⟨w.heap.size + 1, 0, none⟩) 2 2, .int .i64 3, .slice none 0 0] 53)).heap.size := by simp
  have bb := b_then (b_then b1 b2) b3
  generalize W.alloc (.cells #[.int .i64 1, .slice (some ⟨w.heap.size, 0, none⟩) 2 2, .int .i64 2, .slice (some ⟨w.heap.size + 1, 0, none⟩) 2 2, .int .i64 3, .slice none 0 0] 53) = V at *
  rw [e2] at hblk hlt
  obtain ⟨P, hP⟩ : ∃ P : List (Int × Value), P = [(1, .slice (some ⟨w.heap.size, 0, none⟩) 2 2), (2, .slice (some ⟨w.heap.size + 1, 0, none⟩) 2 2), (3, .slice none 0 0)] := ⟨_, rfl⟩
  have hPl : P.length = 3 := by rw [hP]; rfl
  have three : ∀ (i : Nat) p, P[i]? = some p → (i = 0 ∧ p = (1, .slice (some ⟨w.heap.size, 0, none⟩) 2 2)) ∨ (i = 1 ∧ p = (2, .slice (some ⟨w.heap.size + 1, 0, none⟩) 2 2)) ∨ (i = 2 ∧ p = (3, .slice none 0 0)) := fun i p h => by
    subst hP
    match i, h with
    | 0, h => exact Or.inl ⟨rfl, by simpa using h.symm⟩
    | 1, h => exact Or.inr (Or.inl ⟨rfl, by simpa using h.symm⟩)
    | 2, h => exact Or.inr (Or.inr ⟨rfl, by simpa using h.symm⟩)
    | i + 3, h => simp at h
  have hN : NodesAt V (some ⟨w.heap.size + 1 + 1, 0, none⟩) (w.heap.size + 1 + 1) 0 P := ⟨fun _ => ⟨rfl, hlt⟩, fun i p h => by
      rcases three i p h with ⟨rfl, rfl⟩ | ⟨rfl, rfl⟩ | ⟨rfl, rfl⟩ <;> (simp only [World.cell?, hblk]; rfl), fun i p h => by
      rcases three i p h with ⟨rfl, rfl⟩ | ⟨rfl, rfl⟩ | ⟨rfl, rfl⟩ <;> (simp only [World.cell?, hblk]; rfl)⟩
  have hT : ∀ i p, P[i]? = some p → Sl V p.2 ((fun i => if i = 0 then [2, 3] else if i = 1 then [9, 3] else []) i) := fun i p h => by
    rcases three i p h with ⟨rfl, rfl⟩ | ⟨rfl, rfl⟩ | ⟨rfl, rfl⟩
    · exact t1
    · exact t2
    · exact sl_none V
  have hB := built_calls V _ 3 _ _ P _ hN hT
  rw [hPl] at hB
  refine hB.mono ?_
  rintro e w' ⟨b, m, b2, ok, rfl, hb, ⟨rfl, hno⟩ | ⟨rfl, _, hBo⟩⟩
  · refine absurd ⟨by rw [hPl]; omega, fun i hi => ?_⟩ hno
    show (if i = 0 then [2, 3] else if i = 1 then [9, 3] else [] : List Int).length ≤ 40
    split
    · simp
    · split <;> simp
  · rw [hPl, wake_gph P _ _ _ _ hP rfl rfl rfl] at hBo
    exact ⟨b, m, b2, rfl, hBo.gr, b_then bb hb⟩
set_option maxRecDepth 100000 in
set_option maxHeartbeats 4000000 in
theorem awake_calls (w : World) : Calls Tryz.prog 9 #[] w fun e w' => e = .returned (.bool true) ∧ Below w.heap.size w w' := by
  have hBu := Lib.hid (wake_built w)
  go_enter Tryz.func9, Tryz.ntmps9
  go_wp2_with fail
  refine hBu.out.mono ?_
  rintro e w1 ⟨b, m, b2, rfl, hG, b1⟩
  have hR1 := Lib.hid (wake_reach _ b m _ (hG.next (b_alloc w1 (.cells #[.int .i64 1] 3))) (sl_one w1 1))
  have hG1 := Lib.hid fun w' hb => hG.next (W' := w') hb
  replace b1 := Lib.hid b1
  have c0 := Lib.hid (b_alloc w1 (.cells #[.int .i64 1] 3))
  clear hG hBu
  go_wp2_with fail
  refine hR1.out.mono ?_
  rintro e w2 ⟨u2, rfl, hu2, c2⟩
  have d2 := Lib.hid (b_then c0.out c2)
  have hR2 := Lib.hid (wake_open _ b m _ (hG1.out _ (b_then d2.out (b_alloc w2 (.cells #[.int .i64 1] 3)))) (sl_one w2 1))
  have e2 := Lib.hid (b_alloc w2 (.cells #[.int .i64 1] 3))
  replace hu2 := Lib.hid hu2
  clear hR1 c2 c0
  go_wp2_with fail
  refine hR2.out.mono ?_
  rintro e w3 ⟨u3, rfl, hu3, c3⟩
  have f23 := Lib.hid (b_then e2.out c3)
  have d3 := Lib.hid (b_then d2.out f23.out)
  have hR3 := Lib.hid (wake_order _ b m _ (hG1.out _ (b_then d3.out (b_alloc w3 (.cells #[.int .i64 1, .int .i64 2, .int .i64 3] 3)))) (sl_mk w3 [1, 2, 3] #[.int .i64 1, .int .i64 2, .int .i64 3] rfl 3 rfl))
  have e3 := Lib.hid (b_alloc w3 (.cells #[.int .i64 1, .int .i64 2, .int .i64 3] 3))
  replace hu3 := Lib.hid hu3
  clear hR2 c3 e2
  go_wp2_with fail
  refine hR3.out.mono ?_
  rintro e w4 ⟨u4, rfl, hu4, c4⟩
  have f34 := Lib.hid (b_then e3.out c4)
  have d4 := Lib.hid (b_then d3.out f34.out)
  have hR4 := Lib.hid (wake_height w4 b m (hG1.out _ d4.out))
  replace hu4 := Lib.hid hu4
  clear hR3 c4 e3
  go_wp2_with fail
  refine hR4.out.mono ?_
  rintro e w5 ⟨rfl, c5⟩
  have d5 := Lib.hid (b_then d4.out c5)
  have hR5 := Lib.hid (wake_height9 w5 b m (hG1.out _ d5.out))
  replace c5 := Lib.hid c5
  clear hR4
  go_wp2_with fail
  refine hR5.out.mono ?_
  rintro e w6 ⟨rfl, c6⟩
  have d6 := Lib.hid (b_then d5.out c6)
  have f46 := b_then c5.out c6
  have f36 := b_then f34.out f46
  have f26 := b_then f23.out f36
  obtain ⟨ga, oa, ca, rfl, -, ra⟩ := sl_three hu2.out f26
  obtain ⟨gb, ob, cb, rfl, rb⟩ := sl_single hu3.out f36
  obtain ⟨gc, oc, cc, rfl, rc, rd⟩ := sl_three hu4.out f46
  have hH3 := Lib.hid (Has_calls w6 b m wake 3 (hG1.out _ d6.out))
  have hH9 := Lib.hid (Has_calls w6 b m wake 9 (hG1.out _ d6.out))
  rw [show decide ((3 : Int) ∈ wake.D) = true by decide] at hH3
  rw [show decide ((9 : Int) ∈ wake.D) = false by decide] at hH9
  have hend := Lib.hid (b_then b1.out d6.out)
  clear hR5 c5 c6 f46 f36 f26 hu2 hu3 hu4 f23 f34 d2 d3 d4 d5 d6 hG1 b1
  go_wp2_with (first
    | (go_at_call 11; first | (refine hH3.out.mono ?_; rintro e w' ⟨rfl, hw'⟩; obtain rfl := hw'.symm; clear hw' hH3) | (refine hH9.out.mono ?_; rintro e w' ⟨rfl, hw'⟩; obtain rfl := hw'.symm; clear hw' hH9)))
  go_ret
  exact ⟨rfl, hend.out⟩
end Go.Proofs.YtcoccaglbepbdaaGreat.Rg
