/-
  A tree with one entry less. Conditions: a tree is not too great for its count; its keys rise.
-/
import Derived.Test.YtcoccaglbepbdaaGreatRows
import Derived.Test.YtcoccaglbepbdaaGreatShBal
namespace Go.Proofs.YtcoccaglbepbdaaGreat.Ti
open Go.RowKit Sh
open Key (lt)
open Ent (key)
attribute [local go_sem] fold_none

theorem GivesL.of {w w0 w' : World} {L M : List Int} {e : Ending} (h : GivesL w L e w') (hb : Below w0.heap.size w0 w) (hL : L = M) : GivesL w0 M e w' := by
  obtain ⟨p, T, rfl, ht, hf, bb⟩ := h
  exact ⟨p, T, rfl, ht, hf.trans hL, b_then hb bb⟩

set_option maxHeartbeats 4000000 in
set_option maxRecDepth 100000 in
theorem without_calls (T : Tr Int) : ∀ (k : Int) (w : World) (p : Option Addr), IsTree w p T → Rises T.flat → T.num < 700000 →
    Calls Tryz.prog 113 #[.pointer p, .int .i64 k] w (GivesL w (del k T.flat)) := by
  induction T with
  | nil =>
    intro k w p h _ _
    obtain rfl : p = none := h
    have hend : Hid (GivesL w (del k (Tr.nil : Tr Int).flat) (.returned (.pointer none)) w) := Lib.hid (GivesL.mk (T := .nil) rfl (by simp [Tr.flat, del]) (Below.refl _ _))
    go_enter Tryz.func113, Tryz.ntmps113
    go_wp2
    go_ret
    exact hend.out
  | node l x r ihl ihr =>
    intro k w p h hR hb
    have hn := num_node l r x
    obtain ⟨b, pl, pr, rfl, hN, hl, hr⟩ := h
    have hR0 : Rises (l.flat ++ x :: r.flat) := hR
    obtain ⟨rl, rr, r3, r4⟩ := rises_mid hR0
    have hS := Lib.hid fun w' (h : Below w.heap.size w w') => (hN.kept (nodes_below h)).cells
    have c0 := hN.key
    have b0 := Below.refl w.heap.size w
    rcases Key.tri k (key x) with g | g | g
    · have hC := Lib.hid fun w' => Ci.Compare_calls k (key x) (-1) w' (Or.inl ⟨g, rfl⟩)
      have hI := Lib.hid fun w' (h : Below w.heap.size w w') => ihl k w' pl (hl.next h) rl (by omega)
      have hB := Lib.hid fun w' p' T' (h : Below w.heap.size w w') (ht : IsTree w' p' T') (hf : T'.flat = del k l.flat) => balanced_calls w' b _ x pl pr p' pr T' r (hN.kept (nodes_below h)) ht (hr.next h) (by
        have h1 := del_len_le k l.flat
        rw [← hf] at h1
        have h2 : T'.num = T'.flat.length := rfl
        have h3 : l.num = l.flat.length := rfl
        omega)
      have hf : Hid (∀ M, M = del k l.flat → M ++ x :: r.flat = del k (Tr.node l x r).flat) := Lib.hid fun M h => by rw [h]; exact (fnd_left hR0 g).2.1.symm
      clear ihl ihr hl hr hN hR hR0 rl rr r3 r4 g hn hb
      generalize (Tr.node l x r).num = nn at *
      go_enter Tryz.func113, Tryz.ntmps113
      go_wp2_with (go_at_call 97; refine (hC.out _).mono ?_; rintro e w' ⟨rfl, rfl⟩)
      have bc := b_then b0 (b_drew _)
      go_region_held3 (fun w' => w'.cell? ⟨b, 0, none⟩ = some (.int .i64 x) ∧ (partAt ⟨b, 0, none⟩ 1 8).run Tryz.prog w' = .ok ⟨b, 1, none⟩ w' ∧ w'.cell? ⟨b, 1, none⟩ = some (.pointer pl) ∧ w'.cell? ⟨b, 2, none⟩ = some (.pointer pr) ∧ w'.cell? ⟨b, 3, none⟩ = some (.int .i64 (nn : Int)))
        (exact hS.out _ bc)
        (first
          | (go_at_call 113; refine (hI.out _ bc).mono ?_; rintro e9 w9 ⟨p9, T9, rfl, t9, f9, b9⟩; replace f9 := Lib.hid f9; replace bc := b_then bc b9; clear b9)
          | (go_at_call 108; refine (hB.out _ _ _ bc t9 f9.out).mono ?_; rintro e8 w8 h8; have h7 := Lib.hid (h8.of bc (hf.out _ f9.out)); obtain ⟨p8, T8, rfl, -, -, b8⟩ := h8; replace bc := b_then bc b8; clear b8))
      all_goals
        go_wp2
        go_ret
        exact h7.out
    · have hC := Lib.hid fun w' => Ci.Compare_calls k (key x) 0 w' (Or.inr (Or.inl ⟨g, rfl⟩))
      have hd : Hid (del k (Tr.node l x r).flat = l.flat ++ r.flat) := Lib.hid (fnd_here hR0 g.symm).2.1
      have c1 := hN.left
      have c2 := hN.right
      cases r with
      | nil =>
        obtain rfl : pr = none := hr
        have hend : Hid (GivesL w (del k (Tr.node l x .nil).flat) (.returned (.pointer pl)) w) := Lib.hid (GivesL.mk hl (by rw [hd.out]; simp [Tr.flat]) (Below.refl _ _))
        clear ihl ihr hl hN hR hR0 rl rr r3 r4 g hn hb hd hS b0
        go_enter Tryz.func113, Tryz.ntmps113
        go_wp2_with (go_at_call 97; refine (hC.out _).mono ?_; rintro e w' ⟨rfl, rfl⟩)
        go_ret
        exact hend.out
      | node ra xa rb =>
        have hA := at_calls w pr (.node ra xa rb) 0 hr (by omega) (by omega)
        obtain ⟨y, rest, hy⟩ : ∃ y rest, (Tr.node ra xa rb).flat = y :: rest := by
          cases hq : (Tr.node ra xa rb).flat with
          | nil => simp [Tr.flat] at hq
          | cons y rest => exact ⟨y, rest, rfl⟩
        have hA2 : Hid (Calls Tryz.prog 101 #[.pointer pr, .int .i64 0] w fun e w' => Found w (some y) e ∧ w' = w) := Lib.hid (by
          have : nth 0 (Tr.node ra xa rb).flat = some y := by rw [hy]; simp [nth]
          rw [this] at hA; exact hA)
        have hI := Lib.hid fun w' (h : Below w.heap.size w w') => ihr (key y) w' pr (hr.next h) rr (by omega)
        have hdy : Hid (del (key y) (Tr.node ra xa rb).flat = rest) := Lib.hid (by rw [hy]; rw [hy] at rr; exact del_head rr)
        have hB := Lib.hid fun w' bn n' pl' pr' p' T' (h : Below w.heap.size w w') (hNy : Node w bn y pl' pr' n') (ht : IsTree w' p' T') (hf : T'.flat = del (key y) (Tr.node ra xa rb).flat) => balanced_calls w' bn n' y pl' pr' pl p' l T' (hNy.kept (nodes_below h)) (hl.next h) ht (by
          have h1 := del_len_le (key y) (Tr.node ra xa rb).flat
          rw [← hf] at h1
          have h2 : T'.num = T'.flat.length := rfl
          have h3 : (Tr.node ra xa rb).num = (Tr.node ra xa rb).flat.length := rfl
          omega)
        have hf : Hid (∀ M, M = del (key y) (Tr.node ra xa rb).flat → l.flat ++ y :: M = del k (Tr.node l x (Tr.node ra xa rb)).flat) := Lib.hid fun M h => by rw [h, hdy.out, hd.out, hy]
        have hpr : ∃ bb, pr = some bb := by obtain ⟨bb, _, _, h, _⟩ := hr; exact ⟨_, h⟩
        obtain ⟨bb, rfl⟩ := hpr
        clear ihl ihr hl hr hR hR0 rl rr r3 r4 g hn hb hd hdy hA hy
        generalize (Tr.node l x (Tr.node ra xa rb)).num = nn at *
        go_enter Tryz.func113, Tryz.ntmps113
        go_wp2_with (go_at_call 97; refine (hC.out _).mono ?_; rintro e w' ⟨rfl, rfl⟩)
        refine hA2.out.mono ?_
        rintro e w1 ⟨hF, rfl⟩
        rcases hF with ⟨hF, _⟩ | ⟨y', bn, pl', pr', n', hyy, rfl, hNy⟩
        · cases hF
        obtain rfl : y = y' := Option.some.inj hyy
        clear hyy hA2 b0
        have hSy := Lib.hid fun w' (h : Below w1.heap.size w1 w') => (hNy.kept (nodes_below h)).key
        go_wp2_with fail
        have bc := b_drew w1
        go_region_held3 (fun w' => (w'.cell? ⟨b, 0, none⟩ = some (.int .i64 x) ∧ (partAt ⟨b, 0, none⟩ 1 8).run Tryz.prog w' = .ok ⟨b, 1, none⟩ w' ∧ w'.cell? ⟨b, 1, none⟩ = some (.pointer pl) ∧ w'.cell? ⟨b, 2, none⟩ = some (.pointer (some bb)) ∧ w'.cell? ⟨b, 3, none⟩ = some (.int .i64 (nn : Int))) ∧ w'.cell? ⟨bn, 0, none⟩ = some (.int .i64 y))
          (exact ⟨hS.out _ bc, hSy.out _ bc⟩)
          (first
            | (go_at_call 113; refine (hI.out _ bc).mono ?_; rintro e9 w9 ⟨p9, T9, rfl, t9, f9, b9⟩; replace f9 := Lib.hid f9; replace bc := b_then bc b9; clear b9)
            | (go_at_call 108; refine (hB.out _ _ _ _ _ _ _ bc hNy t9 f9.out).mono ?_; rintro e8 w8 h8; have h7 := Lib.hid (h8.of bc (hf.out _ f9.out)); obtain ⟨p8, T8, rfl, -, -, b8⟩ := h8; replace bc := b_then bc b8; clear b8))
        all_goals
          go_wp2
          go_ret
          exact h7.out
    · have hC := Lib.hid fun w' => Ci.Compare_calls k (key x) 1 w' (Or.inr (Or.inr ⟨g, rfl⟩))
      have hI := Lib.hid fun w' (h : Below w.heap.size w w') => ihr k w' pr (hr.next h) rr (by omega)
      have hB := Lib.hid fun w' p' T' (h : Below w.heap.size w w') (ht : IsTree w' p' T') (hf : T'.flat = del k r.flat) => balanced_calls w' b _ x pl pr pl p' l T' (hN.kept (nodes_below h)) (hl.next h) ht (by
        have h1 := del_len_le k r.flat
        rw [← hf] at h1
        have h2 : T'.num = T'.flat.length := rfl
        have h3 : r.num = r.flat.length := rfl
        omega)
      have hf : Hid (∀ M, M = del k r.flat → l.flat ++ x :: M = del k (Tr.node l x r).flat) := Lib.hid fun M h => by rw [h]; exact (fnd_right hR0 g).2.1.symm
      clear ihl ihr hl hr hN hR hR0 rl rr r3 r4 g hn hb
      generalize (Tr.node l x r).num = nn at *
      go_enter Tryz.func113, Tryz.ntmps113
      go_wp2_with (go_at_call 97; refine (hC.out _).mono ?_; rintro e w' ⟨rfl, rfl⟩)
      have bc := b_then b0 (b_drew _)
      go_region_held3 (fun w' => w'.cell? ⟨b, 0, none⟩ = some (.int .i64 x) ∧ (partAt ⟨b, 0, none⟩ 1 8).run Tryz.prog w' = .ok ⟨b, 1, none⟩ w' ∧ w'.cell? ⟨b, 1, none⟩ = some (.pointer pl) ∧ w'.cell? ⟨b, 2, none⟩ = some (.pointer pr) ∧ w'.cell? ⟨b, 3, none⟩ = some (.int .i64 (nn : Int)))
        (exact hS.out _ bc)
        (first
          | (go_at_call 113; refine (hI.out _ bc).mono ?_; rintro e9 w9 ⟨p9, T9, rfl, t9, f9, b9⟩; replace f9 := Lib.hid f9; replace bc := b_then bc b9; clear b9)
          | (go_at_call 108; refine (hB.out _ _ _ bc t9 f9.out).mono ?_; rintro e8 w8 h8; have h7 := Lib.hid (h8.of bc (hf.out _ f9.out)); obtain ⟨p8, T8, rfl, -, -, b8⟩ := h8; replace bc := b_then bc b8; clear b8))
      all_goals
        go_wp2
        go_ret
        exact h7.out
end Go.Proofs.YtcoccaglbepbdaaGreat.Ti
namespace Go.Proofs.YtcoccaglbepbdaaGreat.Ts
open Go.RowKit Sh
open Key (lt)
open Ent (key)
attribute [local go_sem] fold_none

end Go.Proofs.YtcoccaglbepbdaaGreat.Ts
namespace Go.Proofs.YtcoccaglbepbdaaGreat.Tm
open Go.RowKit Sh
open Key (lt)
open Ent (key)
attribute [local go_sem] fold_none

end Go.Proofs.YtcoccaglbepbdaaGreat.Tm
namespace Go.Proofs.YtcoccaglbepbdaaGreat.Tg
open Go.RowKit Sh
open Key (lt)
open Ent (key)
attribute [local go_sem] fold_none

theorem GivesL.of {w w0 w' : World} {L M : List (Int × Option Addr)} {e : Ending} (h : GivesL w L e w') (hb : Below w0.heap.size w0 w) (hL : L = M) : GivesL w0 M e w' := by
  obtain ⟨p, T, rfl, ht, hf, bb⟩ := h
  exact ⟨p, T, rfl, ht, hf.trans hL, b_then hb bb⟩

end Go.Proofs.YtcoccaglbepbdaaGreat.Tg
