/-
  A graph in memory, and what its small functions do: made, a node put in, looked for, what it points to, all nodes. Conditions: a graph is not too great for its count.
-/
import Derived.Test.YtcoccaglbepbdaaGreatRows
import Derived.Test.YtcoccaglbepbdaaGreatGrPlain
import Derived.Test.YtcoccaglbepbdaaGreatShSet
import Derived.Test.YtcoccaglbepbdaaGreatShOf
import Derived.Test.YtcoccaglbepbdaaGreatShAwake
namespace Go.Proofs.YtcoccaglbepbdaaGreat.Gr
open Go.RowKit Sh
open Key (lt)
open Ent (key)
open Ti (SetAt Reads IsOf Makes)
attribute [local go_sem] fold_none

theorem rises_keys {L : List (Int × Option Addr)} {D : List Int} (h : Rises D) (e : L.map (fun x => x.1) = D) : Rises L := by
  subst e
  unfold Rises at *
  exact List.pairwise_map.1 h
theorem map_ins (e : Int × Option Addr) : ∀ L : List (Int × Option Addr), (ins e L).map (fun x => x.1) = ins e.1 (L.map (fun x => x.1))
  | [] => rfl
  | a :: r => by
    have ih := map_ins e r
    show (if lt e.1 a.1 then e :: a :: r else if lt a.1 e.1 then a :: ins e r else e :: r).map (fun x => x.1) = (if lt e.1 a.1 then e.1 :: a.1 :: r.map (fun x => x.1) else if lt a.1 e.1 then a.1 :: ins e.1 (r.map (fun x => x.1)) else e.1 :: r.map (fun x => x.1))
    split
    · rfl
    · split
      · rw [List.map_cons, ih]
      · rfl
theorem mem_ins_pair {e x : Int × Option Addr} {L : List (Int × Option Addr)} (hR : Rises L) (h : x ∈ ins e L) : x = e ∨ (x ∈ L ∧ x.1 ≠ e.1) := by
  induction L with
  | nil => exact Or.inl (by simpa [ins] using h)
  | cons a r ih =>
    have hh := rises_head hR
    have key_pair : ∀ z : Int × Option Addr, key z = z.1 := fun _ => rfl
    unfold ins at h
    split at h
    · next h1 =>
      rcases List.mem_cons.1 h with h | h
      · exact Or.inl h
      · refine Or.inr ⟨h, fun e2 => ?_⟩
        rcases List.mem_cons.1 h with h | h
        · subst h; rw [key_pair, key_pair, e2, Key.irr] at h1; cases h1
        · have := Key.tra _ _ _ h1 (hh x h); rw [key_pair, key_pair, e2, Key.irr] at this; cases this
    · split at h
      · next h2 =>
        rcases List.mem_cons.1 h with h | h
        · subst h; exact Or.inr ⟨by simp, fun e2 => by rw [key_pair, key_pair, e2, Key.irr] at h2; cases h2⟩
        · rcases ih (rises_tail hR) h with h | ⟨h, h3⟩
          · exact Or.inl h
          · exact Or.inr ⟨by simp [h], h3⟩
      · next h1 h2 =>
        have he : key e = key a := by
          rcases Key.tri (key e) (key a) with g | g | g
          · exact absurd g h1
          · exact g
          · exact absurd g h2
        rcases List.mem_cons.1 h with h | h
        · exact Or.inl h
        · refine Or.inr ⟨by simp [h], fun e2 => ?_⟩
          have := hh x h
          rw [← he, key_pair, key_pair, e2, Key.irr] at this; cases this

/-- a graph: its block, and its map's -/
structure GraphAt (W : World) (b m : Nat) (G : Gph) : Prop where
  ok : G.Ok
  box : Boxed W b 89 (.pointer (some ⟨m, 0, none⟩))
  map : ∃ L : List (Int × Option Addr), Tg.At W 123 (some ⟨m, 0, none⟩) L ∧ L.map (fun x => x.1) = G.D ∧ ∀ x ∈ L, SetAt W x.2 (G.T x.1)
theorem box_below {W W' : World} {b : Nat} {t : TypeId} {v : Value} (h : Boxed W b t v) (hb : Below W.heap.size W W') : Boxed W' b t v := (hb.block b h.lt).trans h
theorem GraphAt.next {W W' : World} {b m : Nat} {G : Gph} (h : GraphAt W b m G) (hb : Below W.heap.size W W') : GraphAt W' b m G := by
  obtain ⟨L, h1, h2, h3⟩ := h.map
  exact ⟨h.ok, box_below h.box hb, L, h1.next hb, h2, fun x hx => (h3 x hx).next hb⟩
theorem GraphAt.lt {W : World} {b m : Nat} {G : Gph} (h : GraphAt W b m G) : b < W.heap.size := h.box.lt
theorem GraphAt.mbox {W : World} {b m : Nat} {G : Gph} (h : GraphAt W b m G) : ∃ p, Boxed W m 123 (.pointer p) := by
  obtain ⟨L, h1, -, -⟩ := h.map
  exact h1.box
theorem GraphAt.mlt {W : World} {b m : Nat} {G : Gph} (h : GraphAt W b m G) : m < W.heap.size := by
  obtain ⟨p, hp⟩ := h.mbox
  exact hp.lt
/-- blocks of other types may change -/
theorem GraphAt.stays {W W' : World} {b m : Nat} {G : Gph} (h : GraphAt W b m G) (h1 : Stays 89 W W') (h2 : Stays 123 W W') (h3 : Stays 95 W W') (h4 : Stays 110 W W') (h5 : Stays 115 W W') : GraphAt W' b m G := by
  obtain ⟨L, g1, g2, g3⟩ := h.map
  exact ⟨h.ok, h1 _ _ _ h.box, L, Tg.At.stays g1 h2 h3, g2, fun x hx => Ti.At.stays (g3 x hx) h4 h5⟩
theorem fnd_in {L : List (Int × Option Addr)} {D : List Int} {k : Int} (e : L.map (fun x => x.1) = D) : (fnd k L = none ∧ k ∉ D) ∨ ∃ x, fnd k L = some x ∧ x ∈ L ∧ x.1 = k ∧ k ∈ D := by
  subst e
  cases hf : fnd k L with
  | none =>
    refine Or.inl ⟨rfl, fun h => ?_⟩
    obtain ⟨x, hx, hk⟩ := List.mem_map.1 h
    have h2 : has k L = true := has_iff.2 ⟨x, hx, hk⟩
    rw [has_fnd, hf] at h2; cases h2
  | some x =>
    obtain ⟨h1, h2⟩ := fnd_key hf
    exact Or.inr ⟨x, rfl, h2, h1, List.mem_map.2 ⟨x, h2, h1⟩⟩

theorem all_calls (w : World) (b m : Nat) (G : Gph) (h : GraphAt w b m G) :
    Calls Tryz.prog 37 #[.pointer (some ⟨b, 0, none⟩)] w fun e w' => e = .returned (.pointer (some ⟨m, 0, none⟩)) ∧ w' = w := by
  have c := h.box.cell
  clear h
  go_enter Tryz.func37, Tryz.ntmps37
  go_wp2
  go_ret
  exact ⟨rfl, rfl⟩
theorem allNil_calls (w : World) :
    Calls Tryz.prog 37 #[.pointer none] w fun e w' => e = .returned (.pointer none) ∧ w' = w := by
  go_enter Tryz.func37, Tryz.ntmps37
  go_wp2
  go_ret
  exact ⟨rfl, rfl⟩
theorem Has_calls (w : World) (b m : Nat) (G : Gph) (k : Int) (h : GraphAt w b m G) :
    Calls Tryz.prog 11 #[.pointer (some ⟨b, 0, none⟩), .int .i64 k] w fun e w' => e = .returned (.bool (decide (k ∈ G.D))) ∧ w' = w := by
  have hA := Lib.hid (all_calls w b m G h)
  obtain ⟨L, h1, h2, h3⟩ := h.map
  have hR := rises_keys h.ok.rises h2
  have hG : ∃ v, Hid (Calls Tryz.prog 38 #[.pointer (some ⟨m, 0, none⟩), .int .i64 k] w fun e w' => e = .returned (.tuple #[.pointer v, .bool (decide (k ∈ G.D))]) ∧ w' = w) := by
    rcases fnd_in (k := k) h2 with ⟨hf, hk⟩ | ⟨x, hf, hx, hxk, hk⟩
    · exact ⟨none, Lib.hid (Tg.Get_calls w _ _ L k h1 hR none _ (Or.inl ⟨hf, rfl, by simpa using hk⟩))⟩
    · exact ⟨x.2, Lib.hid (Tg.Get_calls w _ _ L k h1 hR x.2 _ (Or.inr ⟨x, hf, rfl, by simpa using hk⟩))⟩
  obtain ⟨v, hG⟩ := hG
  clear h h1 h2 h3 hR
  generalize decide (k ∈ G.D) = z at *
  go_enter Tryz.func11, Tryz.ntmps11
  go_wp2_with (first
    | (go_at_call 37; refine hA.out.mono ?_; rintro e w' ⟨rfl, hw⟩; obtain rfl := hw.symm; clear hw)
    | (go_at_call 38; refine hG.out.mono ?_; rintro e w' ⟨rfl, hw⟩; obtain rfl := hw.symm; clear hw))
  go_ret
  exact ⟨rfl, rfl⟩
theorem lacks_calls (w : World) (b m : Nat) (G : Gph) (k : Int) (h : GraphAt w b m G) :
    Calls Tryz.prog 45 #[.pointer (some ⟨b, 0, none⟩), .int .i64 k] w fun e w' => e = .returned (.bool (!decide (k ∈ G.D))) ∧ w' = w := by
  have hA := Lib.hid (Has_calls w b m G k h)
  clear h
  generalize decide (k ∈ G.D) = z at *
  go_enter Tryz.func45, Tryz.ntmps45
  go_wp2_with (go_at_call 11; refine hA.out.mono ?_; rintro e w' ⟨rfl, hw⟩; obtain rfl := hw.symm; clear hw)
  go_ret
  exact ⟨rfl, rfl⟩
theorem targets_calls (w : World) (b m : Nat) (G : Gph) (k : Int) (h : GraphAt w b m G) :
    Calls Tryz.prog 40 #[.pointer (some ⟨b, 0, none⟩), .int .i64 k] w fun e w' => (∃ p, e = .returned (.pointer p) ∧ SetAt w p (G.T k)) ∧ w' = w := by
  have hA := Lib.hid (all_calls w b m G h)
  obtain ⟨L, h1, h2, h3⟩ := h.map
  have hR := rises_keys h.ok.rises h2
  have hG : ∃ v z, Hid (Calls Tryz.prog 38 #[.pointer (some ⟨m, 0, none⟩), .int .i64 k] w fun e w' => e = .returned (.tuple #[.pointer v, .bool z]) ∧ w' = w) ∧ Hid (SetAt w v (G.T k)) := by
    rcases fnd_in (k := k) h2 with ⟨hf, hk⟩ | ⟨x, hf, hx, hxk, hk⟩
    · exact ⟨none, _, Lib.hid (Tg.Get_calls w _ _ L k h1 hR none _ (Or.inl ⟨hf, rfl, rfl⟩)), Lib.hid (Or.inl ⟨rfl, h.ok.none k hk⟩)⟩
    · exact ⟨x.2, _, Lib.hid (Tg.Get_calls w _ _ L k h1 hR x.2 _ (Or.inr ⟨x, hf, rfl, rfl⟩)), Lib.hid (hxk ▸ h3 x hx)⟩
  obtain ⟨v, z, hG, hS⟩ := hG
  clear h h1 h2 h3 hR
  go_enter Tryz.func40, Tryz.ntmps40
  go_wp2_with (first
    | (go_at_call 37; refine hA.out.mono ?_; rintro e w' ⟨rfl, hw⟩; obtain rfl := hw.symm; clear hw)
    | (go_at_call 38; refine hG.out.mono ?_; rintro e w' ⟨rfl, hw⟩; obtain rfl := hw.symm; clear hw))
  go_ret
  exact ⟨⟨v, rfl, hS.out⟩, rfl⟩
theorem To_calls (w : World) (b m : Nat) (G : Gph) (k : Int) (h : GraphAt w b m G) (hl : (G.T k).length ≤ 1000000) :
    Calls Tryz.prog 14 #[.pointer (some ⟨b, 0, none⟩), .int .i64 k] w (Lists w 3 (Ti.keysV (G.T k))) := by
  have hA := Lib.hid (targets_calls w b m G k h)
  have hL := Lib.hid fun p (hp : SetAt w p (G.T k)) => Ti.SetList_calls w p _ hp hl
  clear h
  go_enter Tryz.func14, Tryz.ntmps14
  go_wp2_with (first
    | (go_at_call 40; refine hA.out.mono ?_; rintro e w' ⟨⟨p, rfl, hp⟩, hw⟩; obtain rfl := hw.symm; clear hw; have hL2 := Lib.hid (hL.out p hp); clear hp)
    | (go_at_call 33; refine hL2.out.mono ?_; rintro e w' ⟨v, rfl, h1, h2⟩))
  go_ret
  exact ⟨v, rfl, h1, h2⟩
theorem keysV_map (L : List (Int × Option Addr)) : Tg.keysV L = Ti.keysV (L.map fun x => x.1) := by simp [Tg.keysV, Ti.keysV]
theorem Keys_calls (w : World) (b m : Nat) (G : Gph) (h : GraphAt w b m G) (hl : G.D.length ≤ 1000000) :
    Calls Tryz.prog 16 #[.pointer (some ⟨b, 0, none⟩)] w (Lists w 3 (Ti.keysV G.D)) := by
  have hA := Lib.hid (all_calls w b m G h)
  obtain ⟨L, h1, h2, h3⟩ := h.map
  have hL := Lib.hid (Tg.Keys_calls w _ _ L h1 (by rw [← h2, List.length_map] at hl; exact hl))
  rw [keysV_map, h2] at hL
  clear h h1 h2 h3
  go_enter Tryz.func16, Tryz.ntmps16
  go_wp2_with (first
    | (go_at_call 37; refine hA.out.mono ?_; rintro e w' ⟨rfl, hw⟩; obtain rfl := hw.symm; clear hw)
    | (go_at_call 41; refine hL.out.mono ?_; rintro e w' ⟨v, rfl, h1, h2⟩))
  go_ret
  exact ⟨v, rfl, h1, h2⟩
theorem MapNew_calls (w : World) :
    Calls Tryz.prog 69 #[] w fun e w' => e = .returned (.pointer (some ⟨w.heap.size, 0, none⟩)) ∧ Tg.At w' 123 (some ⟨w.heap.size, 0, none⟩) [] ∧ Below w.heap.size w w' := by
  have hE : Hid (Tg.At (w.alloc (.cells #[.pointer none] 123)) 123 (some ⟨w.heap.size, 0, none⟩) [] ∧ Below w.heap.size w (w.alloc (.cells #[.pointer none] 123))) :=
    Lib.hid ⟨Or.inr ⟨w.heap.size, none, .nil, rfl, Boxed.new w _ _, rfl, rfl⟩, b_alloc _ _⟩
  go_enter Tryz.func69, Tryz.ntmps69
  go_wp2
  go_ret
  exact ⟨rfl, hE.out.1, hE.out.2⟩
theorem New_calls (w : World) :
    Calls Tryz.prog 34 #[] w fun e w' => ∃ b m, e = .returned (.pointer (some ⟨b, 0, none⟩)) ∧ w.heap.size ≤ b ∧ w.heap.size ≤ m ∧ GraphAt w' b m Gph.empty ∧ Below w.heap.size w w' := by
  have hN := Lib.hid (MapNew_calls w)
  have hE : Hid (∀ w1, Tg.At w1 123 (some ⟨w.heap.size, 0, none⟩) [] → Below w.heap.size w w1 → ∃ b m, Ending.returned (.pointer (some ⟨w1.heap.size, 0, none⟩)) = Ending.returned (.pointer (some ⟨b, 0, none⟩)) ∧ w.heap.size ≤ b ∧ w.heap.size ≤ m ∧ GraphAt (w1.alloc (.cells #[.pointer (some ⟨w.heap.size, 0, none⟩)] 89)) b m Gph.empty ∧ Below w.heap.size w (w1.alloc (.cells #[.pointer (some ⟨w.heap.size, 0, none⟩)] 89))) := Lib.hid fun w1 h hb =>
    ⟨w1.heap.size, w.heap.size, rfl, hb.size, Nat.le_refl _, ⟨Gph.empty_ok, Boxed.new w1 _ _, [], h.next (b_alloc _ _), rfl, fun x hx => by cases hx⟩, b_then hb (b_alloc _ _)⟩
  go_enter Tryz.func34, Tryz.ntmps34
  go_wp2_with (go_at_call 69; refine hN.out.mono ?_; rintro e w1 ⟨rfl, h1, h2⟩; have hE2 := Lib.hid (hE.out w1 h1 h2); clear h1 h2 hE)
  go_ret
  exact hE2.out
set_option maxHeartbeats 2000000 in
theorem Put_calls (w : World) (b m : Nat) (G : Gph) (k : Int) (a : Option Addr) (cap : Nat) (M : List Int) (h : GraphAt w b m G) (hD : G.D.length < 600000) (hM : M.length < 900000) (hv : Reads w.heap.size w (.slice a M.length cap) M) :
    Calls Tryz.prog 35 #[.pointer (some ⟨b, 0, none⟩), .int .i64 k, .slice a M.length cap] w fun e w' => e = .returned (.tuple #[]) ∧ ∃ L, IsOf M L ∧ GraphAt w' b m (G.put k L) ∧ w.grownBy w' (some m) := by
  have hA := Lib.hid (all_calls w b m G h)
  have hO := Lib.hid (Ti.Of_calls w a cap M hM hv)
  have hP : Hid (∀ w1 L p, IsOf M L → SetAt w1 (some ⟨p, 0, none⟩) L → Below w.heap.size w w1 → Calls Tryz.prog 70 #[.pointer (some ⟨m, 0, none⟩), .int .i64 k, .pointer (some ⟨p, 0, none⟩)] w1 fun e w' => ∃ z, e = .returned (.bool z) ∧ GraphAt w' b m (G.put k L) ∧ w.grownBy w' (some m)) := Lib.hid fun w1 L p hI hS hb => by
    obtain ⟨Q, g1, g2, g3⟩ := (h.next hb).map
    have hR := rises_keys h.ok.rises g2
    refine (Tg.Put_calls w1 123 m Q (k, some ⟨p, 0, none⟩) (by decide) g1 hR (by have hq := congrArg List.length g2; rw [List.length_map] at hq; omega)).mono ?_
    rintro e w' ⟨rfl, t1, t2⟩
    obtain ⟨pm, hpm⟩ := Tg.At.box g1
    refine ⟨_, rfl, ⟨Gph.put_ok h.ok hI.1, (stays_grown (T := 89) (by decide) hpm t2) _ _ _ (h.next hb).box, _, t1, by rw [map_ins, g2]; rfl, fun x hx => ?_⟩, ?_⟩
    · have s4 := stays_grown (T := 110) (by decide) hpm t2
      have s5 := stays_grown (T := 115) (by decide) hpm t2
      rcases mem_ins_pair hR hx with rfl | ⟨hx, hne⟩
      · show SetAt w' _ (if k = k then L else G.T k)
        rw [if_pos rfl]
        exact Ti.At.stays hS s4 s5
      · show SetAt w' _ (if x.1 = k then L else G.T x.1)
        rw [if_neg hne]
        exact Ti.At.stays (g3 x hx) s4 s5
    · exact ⟨t2.os.trans hb.os, t2.tape.trans hb.tape, t2.output.trans hb.output, Nat.le_trans hb.size t2.size, fun q hq hne => (t2.block q (Nat.lt_of_lt_of_le hq hb.size) hne).trans (hb.block q hq)⟩
  clear h hv
  go_enter Tryz.func35, Tryz.ntmps35
  go_wp2_with (first
    | (go_at_call 37; refine hA.out.mono ?_; rintro e w' ⟨rfl, hw⟩; obtain rfl := hw.symm; clear hw)
    | (go_at_call 26; refine hO.out.mono ?_; rintro e w1 ⟨L, hI, p, rfl, -, hS, hb⟩; have hP2 := Lib.hid (hP.out w1 L p hI hS hb); replace hI := Lib.hid hI; clear hP hS hb hA hO)
    | (go_at_call 70; refine hP2.out.mono ?_; rintro e w' ⟨z, rfl, h1, h2⟩))
  go_end0
  exact ⟨rfl, L, hI.out, h1, h2⟩
end Go.Proofs.YtcoccaglbepbdaaGreat.Gr
