/-
  A tree with an entry more, and with one less. Conditions: a tree is not too great for its count; its keys rise.
-/
import Derived.Test.YtdmpkgdlelagjaaGreatDoorRows
import Derived.Test.YtdmpkgdlelagjaaGreatDoorShBal
namespace Go.Proofs.YtdmpkgdlelagjaaGreatDoor.Ti
open Go.RowKit Sh
open Key (lt)
open Ent (key)
attribute [local go_sem] fold_none

end Go.Proofs.YtdmpkgdlelagjaaGreatDoor.Ti
namespace Go.Proofs.YtdmpkgdlelagjaaGreatDoor.Ts
open Go.RowKit Sh
open Key (lt)
open Ent (key)
attribute [local go_sem] fold_none

theorem GivesL.from {w w0 w' : World} {L M : List ByteArray} {e : Ending} (h : GivesL w L e w') (hb : Below w0.heap.size w0 w) (hL : L = M) : GivesL w0 M e w' := by
  obtain ⟨p, T, rfl, ht, hf, bb⟩ := h
  exact ⟨p, T, rfl, ht, hf.trans hL, b_then hb bb⟩

set_option maxHeartbeats 4000000 in
set_option maxRecDepth 100000 in
theorem with_calls (e : ByteArray) (T : Tr ByteArray) : ∀ (w : World) (p : Option Addr), IsTree w p T → Rises T.flat → T.num < 700000 →
    Calls Tryz.prog 86 #[.pointer p, .string e, .agg #[]] w (GivesL w (ins e T.flat)) := by
  induction T with
  | nil =>
    intro w p h _ _
    obtain rfl : p = none := h
    have b0 := b_alloc w (.cells #[] 85)
    have hend : Hid (∀ w' n, Below w.heap.size w w' → n = w'.heap.size → GivesL w (ins e (Tr.nil : Tr ByteArray).flat) (.returned (.pointer (some ⟨n, 0, none⟩))) (w'.alloc (.cells #[.string e, .pointer none, .pointer none, .int .i64 1] 137))) := Lib.hid fun w' n h hn => by
      subst hn
      exact GivesL.mk (T := .node .nil e .nil) (IsTree.mk (Node.new w' e none none 1) rfl rfl rfl) (by simp [Tr.flat, ins]) (b_then h (b_alloc _ _))
    go_enter Tryz.func86, Tryz.ntmps86
    go_wp2
    go_ret
    exact hend.out _ _ b0 (by simp)
  | node l x r ihl ihr =>
    intro w p h hR hb
    have hn := num_node l r x
    obtain ⟨b, pl, pr, rfl, hN, hl, hr⟩ := h
    have hR0 : Rises (l.flat ++ x :: r.flat) := hR
    obtain ⟨rl, rr, r3, r4⟩ := rises_mid hR0
    have b0 := b_alloc w (.cells #[] 85)
    have hS := Lib.hid fun w' (h : Below w.heap.size w w') => (hN.kept (nodes_below h)).cells
    have c0 := (hN.kept (nodes_below b0)).key
    rcases Key.tri (key e) (key x) with g | g | g
    · have hC := Lib.hid fun w' => Cs.Compare_calls (key e) (key x) (-1) w' (Or.inl ⟨g, rfl⟩)
      have hI := Lib.hid fun w' (h : Below w.heap.size w w') => ihl w' pl (hl.next h) rl (by omega)
      have hB := Lib.hid fun w' p' T' (h : Below w.heap.size w w') (ht : IsTree w' p' T') (hf : T'.flat = ins e l.flat) => balanced_calls w' b _ x pl pr p' pr T' r (hN.kept (nodes_below h)) ht (hr.next h) (by
        have h1 := ins_len_le e l.flat
        rw [← hf] at h1
        have h2 : T'.num = T'.flat.length := rfl
        have h3 : l.num = l.flat.length := rfl
        omega)
      have hf : Hid (∀ M, M = ins e l.flat → M ++ x :: r.flat = ins e (Tr.node l x r).flat) := Lib.hid fun M h => by rw [h]; exact (ins_left e x r.flat g l.flat).symm
      clear ihl ihr hl hr hN hR hR0 rl rr r3 r4 g hn hb
      generalize (Tr.node l x r).num = nn at *
      go_enter Tryz.func86, Tryz.ntmps86
      go_wp2_with (go_at_call 115; refine (hC.out _).mono ?_; rintro e w' ⟨rfl, rfl⟩)
      have bc := b_then b0 (b_drew _)
      go_region_held3 (fun w' => w'.cell? ⟨b, 0, none⟩ = some (.string x) ∧ (partAt ⟨b, 0, none⟩ 1 16).run Tryz.prog w' = .ok ⟨b, 1, none⟩ w' ∧ w'.cell? ⟨b, 1, none⟩ = some (.pointer pl) ∧ w'.cell? ⟨b, 2, none⟩ = some (.pointer pr) ∧ w'.cell? ⟨b, 3, none⟩ = some (.int .i64 (nn : Int)))
        (exact hS.out _ bc)
        (first
          | (go_at_call 86; refine (hI.out _ bc).mono ?_; rintro e9 w9 ⟨p9, T9, rfl, t9, f9, b9⟩; replace f9 := Lib.hid f9; replace bc := b_then bc b9; clear b9)
          | (go_at_call 116; refine (hB.out _ _ _ bc t9 f9.out).mono ?_; rintro e8 w8 h8; have h7 := Lib.hid (h8.from bc (hf.out _ f9.out)); obtain ⟨p8, T8, rfl, -, -, b8⟩ := h8; replace bc := b_then bc b8; clear b8))
      all_goals
        go_wp2
        go_ret
        exact h7.out
    · have hC := Lib.hid fun w' => Cs.Compare_calls (key e) (key x) 0 w' (Or.inr (Or.inl ⟨g, rfl⟩))
      have hf : Hid (ins e (Tr.node l x r).flat = (Tr.node l e r).flat) := Lib.hid (ins_here e x r.flat g l.flat r3)
      have hnn : (Tr.node l x r).num = l.num + 1 + r.num := hn
      have hx : x = e := g.symm
      have hend : Hid (∀ w' n c, Below w.heap.size w w' → n = w'.heap.size → c = #[.string e, .pointer pl, .pointer pr, .int .i64 ((Tr.node l x r).num : Int)] → GivesL w (ins e (Tr.node l x r).flat) (.returned (.pointer (some ⟨n, 0, none⟩))) (w'.alloc (.cells c 137))) := Lib.hid fun w' n c h hn hc => by
        subst hn hc
        have h2 := b_then h (b_alloc w' (.cells #[.string e, .pointer pl, .pointer pr, .int .i64 ((Tr.node l x r).num : Int)] 137))
        exact GivesL.mk (T := .node l e r) (IsTree.mk (Node.new w' e pl pr _) (hl.next h2) (hr.next h2) hnn) hf.out.symm h2
      replace hx := Lib.hid hx
      clear ihl ihr hl hr hN hR hR0 rl rr r3 r4 g hn hb hnn hf
      generalize (Tr.node l x r).num = nn at *
      go_enter Tryz.func86, Tryz.ntmps86
      go_wp2_with (go_at_call 115; refine (hC.out _).mono ?_; rintro e w' ⟨rfl, rfl⟩)
      have bc := b_then b0 (b_drew _)
      go_region_held3 (fun w' => w'.cell? ⟨b, 0, none⟩ = some (.string x) ∧ (partAt ⟨b, 0, none⟩ 1 16).run Tryz.prog w' = .ok ⟨b, 1, none⟩ w' ∧ w'.cell? ⟨b, 1, none⟩ = some (.pointer pl) ∧ w'.cell? ⟨b, 2, none⟩ = some (.pointer pr) ∧ w'.cell? ⟨b, 3, none⟩ = some (.int .i64 (nn : Int)))
        (first | exact hS.out _ bc | exact hS.out _ (b_then bc (b_alloc _ _)))
        (fail)
      all_goals
        go_wp2
        go_ret
        exact hend.out _ _ _ bc (by simp) (by rw [hx.out])
    · have hC := Lib.hid fun w' => Cs.Compare_calls (key e) (key x) 1 w' (Or.inr (Or.inr ⟨g, rfl⟩))
      have hI := Lib.hid fun w' (h : Below w.heap.size w w') => ihr w' pr (hr.next h) rr (by omega)
      have hB := Lib.hid fun w' p' T' (h : Below w.heap.size w w') (ht : IsTree w' p' T') (hf : T'.flat = ins e r.flat) => balanced_calls w' b _ x pl pr pl p' l T' (hN.kept (nodes_below h)) (hl.next h) ht (by
        have h1 := ins_len_le e r.flat
        rw [← hf] at h1
        have h2 : T'.num = T'.flat.length := rfl
        have h3 : r.num = r.flat.length := rfl
        omega)
      have hf : Hid (∀ M, M = ins e r.flat → l.flat ++ x :: M = ins e (Tr.node l x r).flat) := Lib.hid fun M h => by rw [h]; exact (ins_right e x r.flat g l.flat r3).symm
      clear ihl ihr hl hr hN hR hR0 rl rr r3 r4 g hn hb
      generalize (Tr.node l x r).num = nn at *
      go_enter Tryz.func86, Tryz.ntmps86
      go_wp2_with (go_at_call 115; refine (hC.out _).mono ?_; rintro e w' ⟨rfl, rfl⟩)
      have bc := b_then b0 (b_drew _)
      go_region_held3 (fun w' => w'.cell? ⟨b, 0, none⟩ = some (.string x) ∧ (partAt ⟨b, 0, none⟩ 1 16).run Tryz.prog w' = .ok ⟨b, 1, none⟩ w' ∧ w'.cell? ⟨b, 1, none⟩ = some (.pointer pl) ∧ w'.cell? ⟨b, 2, none⟩ = some (.pointer pr) ∧ w'.cell? ⟨b, 3, none⟩ = some (.int .i64 (nn : Int)))
        (exact hS.out _ bc)
        (first
          | (go_at_call 86; refine (hI.out _ bc).mono ?_; rintro e9 w9 ⟨p9, T9, rfl, t9, f9, b9⟩; replace f9 := Lib.hid f9; replace bc := b_then bc b9; clear b9)
          | (go_at_call 116; refine (hB.out _ _ _ bc t9 f9.out).mono ?_; rintro e8 w8 h8; have h7 := Lib.hid (h8.from bc (hf.out _ f9.out)); obtain ⟨p8, T8, rfl, -, -, b8⟩ := h8; replace bc := b_then bc b8; clear b8))
      all_goals
        go_wp2
        go_ret
        exact h7.out
end Go.Proofs.YtdmpkgdlelagjaaGreatDoor.Ts
namespace Go.Proofs.YtdmpkgdlelagjaaGreatDoor.Tm
open Go.RowKit Sh
open Key (lt)
open Ent (key)
attribute [local go_sem] fold_none

end Go.Proofs.YtdmpkgdlelagjaaGreatDoor.Tm
