/-
  The document's own graph, as rows of nodes: what place, Has, To and Keys answer. Conditions: as many nodes as the statements ask of.
-/
import Derived.Test.YtcoccaglbepbdaaGreatRows
import Derived.Test.YtcoccaglbepbdaaGreatGrPlain
import Derived.Test.YtcoccaglbepbdaaGreatGrGrid
import Derived.Test.YtcoccaglbepbdaaGreatShRefC
namespace Go.Proofs.YtcoccaglbepbdaaGreat.Rg
open Go.RowKit Sh Gr
open Key (lt)
open Ent (key)
open Ti (keysV keysV_len keysV_snoc info_key)
open Rf (Sl sl_of_owns)
attribute [local go_sem] fold_none

/-- nodes in memory: keys, and slices of what they point to -/
structure NodesAt (W : World) (s : Option Addr) (g off : Nat) (P : List (Int × Value)) : Prop where
  addr : 0 < P.length → s = some ⟨g, off, none⟩ ∧ g < W.heap.size
  key : ∀ (i : Nat) p, P[i]? = some p → W.cell? ⟨g, off + i * 2, none⟩ = some (.int .i64 p.1)
  val : ∀ (i : Nat) p, P[i]? = some p → W.cell? ⟨g, off + i * 2 + 1, none⟩ = some p.2
theorem NodesAt.turn {W W' : World} {s : Option Addr} {g off : Nat} {P : List (Int × Value)} (h : NodesAt W s g off P) (hs : W.heap.size ≤ W'.heap.size) (t : 0 < P.length → W'.heap[g]? = W.heap[g]?) : NodesAt W' s g off P := by
  have hpos : ∀ (i : Nat) p, P[i]? = some p → 0 < P.length := fun i p he => by have := (List.getElem?_eq_some_iff.1 he).1; omega
  exact ⟨fun h0 => ⟨(h.addr h0).1, Nat.lt_of_lt_of_le (h.addr h0).2 hs⟩, fun i p he => (World.cell?_of_block (w := W) (a := ⟨g, off + i * 2, none⟩) (t (hpos i p he))).trans (h.key i p he), fun i p he => (World.cell?_of_block (w := W) (a := ⟨g, off + i * 2 + 1, none⟩) (t (hpos i p he))).trans (h.val i p he)⟩
theorem NodesAt.next {W W' : World} {s : Option Addr} {g off : Nat} {P : List (Int × Value)} (h : NodesAt W s g off P) (hb : Below W.heap.size W W') : NodesAt W' s g off P := h.turn hb.size fun h0 => hb.block g (h.addr h0).2
/-- what nodes are of a graph -/
structure OfG (G : Gph) (P : List (Int × Value)) : Prop where
  nodup : (P.map fun p => p.1).Nodup
  mem : ∀ x, x ∈ G.D ↔ x ∈ P.map fun p => p.1
/-- the document's graph in memory -/
structure RefAt (W : World) (b : Nat) (G : Gph) : Prop where
  ok : G.Ok
  all : ∃ (s : Option Addr) (cap g off : Nat) (P : List (Int × Value)), Boxed W b 56 (.slice s P.length cap) ∧ NodesAt W s g off P ∧ OfG G P ∧ ∀ p ∈ P, Sl W p.2 (G.T p.1)
theorem RefAt.next {W W' : World} {b : Nat} {G : Gph} (h : RefAt W b G) (hb : Below W.heap.size W W') : RefAt W' b G := by
  obtain ⟨s, cap, g, off, P, h1, h2, h3, h4⟩ := h.all
  exact ⟨h.ok, s, cap, g, off, P, box_below h1 hb, h2.next hb, h3, fun p hp => (h4 p hp).next hb⟩
theorem RefAt.lt {W : World} {b : Nat} {G : Gph} (h : RefAt W b G) : b < W.heap.size := by
  obtain ⟨s, cap, g, off, P, h1, -⟩ := h.all
  exact h1.lt
theorem OfG.len {G : Gph} {P : List (Int × Value)} (hG : G.Ok) (h : OfG G P) : P.length = G.D.length := by
  have h1 := nodup_len _ G.D h.nodup fun x hx => (h.mem x).2 hx
  have h2 := nodup_len G.D _ (rises_nodup hG.rises) fun x hx => (h.mem x).1 hx
  rw [List.length_map] at h1 h2
  omega

/-- where a node stands -/
def Stands (P : List (Int × Value)) (k : Int) (e : Ending) : Prop := (∃ (i : Nat) (p : Int × Value), e = .returned (.int .i64 (i : Int)) ∧ P[i]? = some p ∧ p.1 = k) ∨ (e = .returned (.int .i64 (-1)) ∧ k ∉ P.map fun p => p.1)
set_option maxHeartbeats 2000000 in
theorem place_calls (w : World) (b : Nat) (k : Int) (s : Option Addr) (cap g off : Nat) (P : List (Int × Value)) (hB : Boxed w b 56 (.slice s P.length cap)) (hN : NodesAt w s g off P) (hP : P.length ≤ 1000) :
    Calls Tryz.prog 39 #[.pointer (some ⟨b, 0, none⟩), .int .i64 k] w fun e w' => Stands P k e ∧ w' = w := by
  have cb := hB.cell
  replace hN := Lib.hid hN
  obtain ⟨n, hn⟩ : ∃ n, Hid (P.length = n) := ⟨_, Lib.hid rfl⟩
  rw [hn.out] at cb hP
  clear hB
  go_enter Tryz.func39, Tryz.ntmps39
  go_wp2
  go_loopg [5] n (fun gg s5 wr => ∃ (i : Nat), s5 = .int .i64 (i : Int) ∧ i ≤ n ∧ n - i ≤ gg ∧ Hid (∀ j p, j < i → P[j]? = some p → p.1 ≠ k) ∧ wr = w)
  case atStart => exact ⟨0, rfl, by omega, by omega, Lib.hid (fun j p h => by omega), rfl⟩
  case round =>
    obtain ⟨i, rfl, hi, hgg, hpre, rfl⟩ := hrel
    by_cases hlt : i < n
    · have hip : P[i]? = some (P[i]'(by rw [hn.out]; exact hlt)) := List.getElem?_eq_getElem _
      obtain ⟨rfl, hg⟩ := hN.out.addr (by rw [hn.out]; omega)
      have ck := hN.out.key i _ hip
      have l1 : (i : Int) < n := by omega
      have l2 : (0 : Int) ≤ i := by omega
      have hw1 : IntKind.i64.wrap ((i : Int) + 1) = ((i + 1 : Nat) : Int) := wrap_nat (i + 1) (by omega)
      have hms : Hid (n - (i + 1) < gk) := Lib.hid (by omega)
      have hi2 : Hid (i + 1 ≤ n) := Lib.hid (by omega)
      replace hip := Lib.hid hip
      generalize P[i]'(by rw [hn.out]; exact hlt) = p at *
      by_cases hk : p.1 = k
      · have hbe : (p.1 == k) = true := by simpa using hk
        have hend : Hid (Stands P k (.returned (.int .i64 (i : Int)))) := Lib.hid (Or.inl ⟨i, p, rfl, hip.out, hk⟩)
        clear hgg hlt hk hi
        go_wp2
        go_ret
        exact ⟨hend.out, rfl⟩
      · have hbe : (p.1 == k) = false := by simpa using hk
        have hpre2 : Hid (∀ j q, j < i + 1 → P[j]? = some q → q.1 ≠ k) := Lib.hid fun j q hj hq => by
          by_cases e : j = i
          · subst e; rw [← Option.some.inj (hip.out.symm.trans hq)]; exact hk
          · exact hpre.out j q (by omega) hq
        clear hgg hlt hk hi
        go_wp2
        go_roundg (n - (i + 1))
        case measure => exact hms.out
        case rel => exact ⟨i + 1, by simp, hi2.out, Nat.le_refl _, hpre2, rfl⟩
    · obtain rfl : i = n := by omega
      have l1 : ¬ (i : Int) < i := by omega
      have hend : Hid (Stands P k (.returned (.int .i64 (-1)))) := Lib.hid (Or.inr ⟨rfl, fun h => by
        obtain ⟨p, hp, e⟩ := List.mem_map.1 h
        obtain ⟨j, hj⟩ := List.mem_iff_getElem?.1 hp
        exact hpre.out j p (by rw [← hn.out]; exact (List.getElem?_eq_some_iff.1 hj).1) hj e⟩)
      go_wp2
      go_ret
      exact ⟨hend.out, rfl⟩
theorem RHas_calls (w : World) (b : Nat) (G : Gph) (k : Int) (h : RefAt w b G) (hD : G.D.length ≤ 1000) :
    Calls Tryz.prog 12 #[.pointer (some ⟨b, 0, none⟩), .int .i64 k] w fun e w' => e = .returned (.bool (decide (k ∈ G.D))) ∧ w' = w := by
  obtain ⟨s, cap, g, off, P, h1, h2, h3, h4⟩ := h.all
  have hp := Lib.hid (place_calls w b k s cap g off P h1 h2 (by rw [h3.len h.ok]; exact hD))
  have hm := Lib.hid (h3.mem k)
  clear h h1 h2 h3 h4
  go_enter Tryz.func12, Tryz.ntmps12
  go_wp2_with (go_at_call 39; refine hp.out.mono ?_; rintro e w' ⟨(⟨i, p, rfl, hi, hk⟩ | ⟨rfl, hk⟩), hw'⟩ <;> (obtain rfl := hw'.symm; clear hw' hp))
  · go_ret
    have : k ∈ G.D := hm.out.2 (List.mem_map.2 ⟨p, List.mem_of_getElem? hi, hk⟩)
    exact ⟨by simp [this], rfl⟩
  · go_ret
    have : k ∉ G.D := fun e => hk (hm.out.1 e)
    exact ⟨by simp [this], rfl⟩
/-- a list handed back that lay there -/
def Lent (w : World) (L : List Int) (e : Ending) (w' : World) : Prop := ∃ v, e = .returned v ∧ Sl w v L ∧ w' = w
theorem RTo_calls (w : World) (b : Nat) (G : Gph) (k : Int) (h : RefAt w b G) (hD : G.D.length ≤ 1000) :
    Calls Tryz.prog 15 #[.pointer (some ⟨b, 0, none⟩), .int .i64 k] w (Lent w (G.T k)) := by
  obtain ⟨s, cap, g, off, P, h1, h2, h3, h4⟩ := h.all
  have hp := Lib.hid (place_calls w b k s cap g off P h1 h2 (by rw [h3.len h.ok]; exact hD))
  have hno : Hid (k ∉ (P.map fun p => p.1) → Lent w (G.T k) (.returned (.slice none 0 0)) w) := Lib.hid fun hk => by
    refine ⟨_, rfl, ?_, rfl⟩
    rw [h.ok.none k fun e => hk ((h3.mem k).1 e)]
    exact ⟨none, 0, rfl, fun h => by simp at h⟩
  have hyes : Hid (∀ i p, P[i]? = some p → p.1 = k → w.cell? ⟨b, 0, none⟩ = some (.slice s P.length cap) ∧ s = some ⟨g, off, none⟩ ∧ i < P.length ∧ w.cell? ⟨g, off + i * 2 + 1, none⟩ = some p.2 ∧ Lent w (G.T k) (.returned p.2) w) := Lib.hid fun i p hi hk => by
    have hlt := (List.getElem?_eq_some_iff.1 hi).1
    exact ⟨h1.cell, (h2.addr (by omega)).1, hlt, h2.val i p hi, _, rfl, hk ▸ h4 p (List.mem_of_getElem? hi), rfl⟩
  clear h h1 h2 h3 h4
  go_enter Tryz.func15, Tryz.ntmps15
  go_wp2_with fail
  refine hp.out.mono ?_
  rintro e w' ⟨(⟨i, p, rfl, hi, hk⟩ | ⟨rfl, hk⟩), hw'⟩ <;> (obtain rfl := hw'.symm; clear hw' hp)
  · obtain ⟨c0, rfl, hlt, c1, hend⟩ := hyes.out i p hi hk
    have l0 : ¬ (i : Int) < 0 := by omega
    have l1 : (i : Int) < P.length := by omega
    have l2 : (0 : Int) ≤ i := by omega
    replace hend := Lib.hid hend
    clear hyes hno hi hk hlt
    go_wp2
    go_ret
    exact hend.out
  · have hend := Lib.hid (hno.out hk)
    clear hyes hno hk
    go_wp2
    go_ret
    exact hend.out
end Go.Proofs.YtcoccaglbepbdaaGreat.Rg
