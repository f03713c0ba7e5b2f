/-
  The document's own graph: a node put in. Conditions: as many nodes as the statements ask of.
-/
import Derived.Test.YtcoccaglbepbdaaGreatRows
import Derived.Test.YtcoccaglbepbdaaGreatGrRefB
import Derived.Test.YtcoccaglbepbdaaGreatGrOrder
namespace Go.Proofs.YtcoccaglbepbdaaGreat.Rg
open Go.RowKit Sh Gr
open Key (lt)
open Ent (key)
open Ti (keysV keysV_len keysV_snoc info_key)
open Rf (Sl sl_of_owns fold_len fold_rises fold_mem)
attribute [local go_sem] fold_none

/-- nodes without a key -/
def sans (k : Int) (P : List (Int × Value)) : List (Int × Value) := P.filter fun p => !decide (p.1 = k)
theorem sans_more (k : Int) (P : List (Int × Value)) (i : Nat) (p : Int × Value) (h : P[i]? = some p) : sans k (P.take (i + 1)) = sans k (P.take i) ++ (if p.1 = k then [] else [p]) := by
  unfold sans
  rw [List.take_add_one, h, List.filter_append]
  by_cases e : p.1 = k <;> simp [e]
theorem ofG_put {G : Gph} {P : List (Int × Value)} (hG : G.Ok) (h : OfG G P) (k : Int) (L : List Int) (v : Value) : OfG (G.put k L) (sans k P ++ [(k, v)]) := by
  have hm : ∀ x, x ∈ (sans k P).map (fun p => p.1) ↔ x ∈ P.map (fun p => p.1) ∧ x ≠ k := fun x => by
    unfold sans
    constructor
    · intro hx
      obtain ⟨p, hp, rfl⟩ := List.mem_map.1 hx
      obtain ⟨h1, h2⟩ := List.mem_filter.1 hp
      exact ⟨List.mem_map.2 ⟨p, h1, rfl⟩, by simpa using h2⟩
    · rintro ⟨hx, hk⟩
      obtain ⟨p, hp, rfl⟩ := List.mem_map.1 hx
      exact List.mem_map.2 ⟨p, List.mem_filter.2 ⟨hp, by simpa using hk⟩, rfl⟩
  refine ⟨?_, fun x => ?_⟩
  · rw [List.map_append, List.nodup_append]
    refine ⟨(h.nodup.sublist (List.Sublist.map _ List.filter_sublist)), by simp, fun a ha c hc => ?_⟩
    rw [List.map_singleton, List.mem_singleton] at hc
    rw [hc]
    exact ((hm a).1 ha).2
  · show x ∈ ins k G.D ↔ _
    rw [mem_ins_int hG.rises, List.map_append, List.mem_append, hm, h.mem]
    simp only [List.map_singleton, List.mem_singleton]
    constructor
    · rintro (rfl | h1)
      · exact Or.inr rfl
      · by_cases e : x = k
        · exact Or.inr e
        · exact Or.inl ⟨h1, e⟩
    · rintro (⟨h1, _⟩ | rfl)
      · exact Or.inr h1
      · exact Or.inl rfl
set_option maxRecDepth 100000 in
set_option maxHeartbeats 4000000 in
theorem RPutG_calls (w : World) (b : Nat) (G : Gph) (k : Int) (v : Value) (M : List Int) (h : RefAt w b G) (hD : G.D.length ≤ 1000) (hM : M.length ≤ 1000) (hv : Sl w v M) :
    Calls Tryz.prog 36 #[.pointer (some ⟨b, 0, none⟩), .int .i64 k, v] w fun e w' => e = .returned (.tuple #[]) ∧ ∃ L, Rises L ∧ (∀ x, x ∈ L ↔ x ∈ M) ∧ RefAt w' b (G.put k L) ∧ w.grownBy w' (some b) := by
  obtain ⟨s, cap, g, off, P, h1, h2, h3, h4⟩ := h.all
  have hPl := h3.len h.ok
  obtain ⟨sv, cv, rfl, -⟩ := sl_box hv
  have hOf := Lib.hid fun w' (hb : Below w.heap.size w w') => ROf_gives w' _ M (by omega) (hv.next hb)
  obtain ⟨n, hn⟩ : ∃ n, Hid (P.length = n) := ⟨_, Lib.hid rfl⟩
  have hn1 : n ≤ 1000 := by rw [← hn.out]; omega
  rw [hn.out] at h1
  have hbox := Lib.hid fun w' (hb : Below w.heap.size w w') => And.intro (box_below h1 hb) (h2.next hb)
  have o0 : Hid (OwnN w.heap.size (w.alloc (.cells #[] 63)) (.slice (some ⟨w.heap.size, 0, none⟩) 0 0) (sans k (P.take 0))) := Lib.hid (OwnN.new w _ (Nat.le_refl _))
  have b0 := Lib.hid (b_alloc w (.cells #[] 63))
  have hbl : b < w.heap.size := h1.lt
  have hend0 : Hid (∀ v' L lv w2, OwnN w.heap.size w2 v' (sans k P ++ [(k, lv)]) → Below w.heap.size w w2 → Sl w2 lv L → Rises L → (∀ x, x ∈ L ↔ x ∈ M) → w2.cell? ⟨b, 0, none⟩ = some (.slice s n cap) ∧ w2.frozen? ⟨b, 0, none⟩ = false ∧ (∃ L, Rises L ∧ (∀ x, x ∈ L ↔ x ∈ M) ∧ RefAt (w2.setCell ⟨b, 0, none⟩ v') b (G.put k L) ∧ w.grownBy (w2.setCell ⟨b, 0, none⟩ v') (some b))) := Lib.hid fun v' L lv w2 ho hbw2 hL hR hm => by
    have hb1 := box_below h1 hbw2
    refine ⟨hb1.cell, hb1.frozen, L, hR, hm, ⟨Gph.put_ok h.ok hR, ?_⟩, ⟨hbw2.os, hbw2.tape, hbw2.output, by simpa [World.setCell] using hbw2.size, fun q hq hne => (Below.heap_setCell _ _ _ q fun e => hne (by rw [e])).trans (hbw2.block q hq)⟩⟩
    obtain ⟨a, c, g2, rfl, hN⟩ := ho.nodes
    have hne : 0 < (sans k P ++ [(k, lv)]).length → g2 ≠ b := fun h0 e => by
      obtain ⟨e1, _⟩ := hN.addr h0
      subst e
      have := (ho.lt g2 (by rw [e1]; rfl)).1
      omega
    have hslk : ∀ {u : Value} {A : List Int}, Sl w2 u A → Sl (w2.setCell ⟨b, 0, none⟩ (.slice a (sans k P ++ [(k, lv)]).length c)) u A := fun {u A} hs => by
      obtain ⟨s3, c3, e3, h5⟩ := hs
      refine ⟨s3, c3, e3, fun h0 => ?_⟩
      obtain ⟨g3, o3, e4, hg3, hc3⟩ := h5 h0
      refine ⟨g3, o3, e4, by simpa [World.setCell] using hg3, fun j hj => ?_⟩
      have hgb : g3 ≠ b := fun e => by
        have h6 := hc3 j hj
        rw [e] at h6
        simp only [World.cell?, show w2.heap[b]? = _ from hb1] at h6
        cases hx : (o3 + j) with
        | zero => rw [hx] at h6; simp at h6
        | succ x => rw [hx] at h6; simp at h6
      exact (World.cell?_of_block (a := ⟨g3, o3 + j, none⟩) (Below.heap_setCell _ _ _ g3 hgb)).trans (hc3 j hj)
    refine ⟨a, c, g2, 0, _, hb1.set _, hN.turn (by simp [World.setCell]) (fun h0 => Below.heap_setCell _ _ _ g2 (hne h0)), ofG_put h.ok h3 k L lv, fun p hp => ?_⟩
    show Sl _ p.2 (if p.1 = k then L else G.T p.1)
    rcases List.mem_append.1 hp with hp | hp
    · obtain ⟨q1, q2⟩ := List.mem_filter.1 hp
      rw [if_neg (by simpa using q2)]
      exact hslk ((h4 p q1).next hbw2)
    · rw [List.mem_singleton.1 hp]
      rw [if_pos rfl]
      exact hslk hL
  clear h h1 h2 h3 hPl hv
  have hval : Hid (∀ p ∈ P, p.2.oneCell' = true) := Lib.hid fun p hp => by
    obtain ⟨_, _, e, _⟩ := h4 p hp
    rw [e]; rfl
  have hvs : Hid (∀ p ∈ P, ∃ a l c, p.2 = .slice a l c) := Lib.hid fun p hp => by
    obtain ⟨_, _, e, _⟩ := h4 p hp
    exact ⟨_, _, _, e⟩
  clear h4
  go_enter Tryz.func36, Tryz.ntmps36
  go_wp2
  go_loopg [6, 7] n (fun gg s6 s7 wr => ∃ (i : Nat), s7 = .int .i64 (i : Int) ∧ i ≤ n ∧ n - i ≤ gg ∧ Hid (OwnN w.heap.size wr s6 (sans k (P.take i))) ∧ Hid (Below w.heap.size w wr))
  case atStart => exact ⟨0, rfl, by omega, by omega, o0, b0⟩
  case round =>
    clear o0 b0
    obtain ⟨i, rfl, hi, hgg, ho, hb⟩ := hrel
    obtain ⟨hbx, hN⟩ := hbox.out wr hb.out
    have cb := hbx.cell
    have hsl : (sans k (P.take i)).length ≤ i := by
      unfold sans
      refine Nat.le_trans (List.length_filter_le _ _) ?_
      rw [List.length_take]; omega
    by_cases hlt : i < n
    · have hip : P[i]? = some (P[i]'(by rw [hn.out]; exact hlt)) := List.getElem?_eq_getElem _
      obtain ⟨rfl, hg⟩ := hN.addr (by rw [hn.out]; omega)
      have ck := hN.key i _ hip
      have cv2 := hN.val i _ hip
      have hpv := hval.out _ (List.mem_of_getElem? hip)
      obtain ⟨qa, ql, qc, hq⟩ := hvs.out _ (List.mem_of_getElem? hip)
      have l1 : (i : Int) < n := by omega
      have l2 : (0 : Int) ≤ i := by omega
      have hw1 : IntKind.i64.wrap ((i : Int) + 1) = ((i + 1 : Nat) : Int) := wrap_nat (i + 1) (by omega)
      have hms : Hid (n - (i + 1) < gk) := Lib.hid (by omega)
      have hi2 : Hid (i + 1 ≤ n) := Lib.hid (by omega)
      have hst := Lib.hid (sans_more k P i _ hip)
      generalize P[i]'(by rw [hn.out]; exact hlt) = p at *
      obtain ⟨y, z⟩ := p
      dsimp only at ck cv2 hpv hq hst
      subst hq
      have hbs := Lib.hid hb.out.size
      have hsl2 : (sans k (P.take i)).length ≤ 1099511627776 := by omega
      generalize sans k (P.take i) = A at *
      clear hN hip hg hlt hgg hi hsl
      by_cases hk : y = k
      · have hbe : (y != k) = false := by simpa using hk
        rw [if_pos hk, List.append_nil] at hst
        have ho2 : Hid (OwnN w.heap.size wr u6 (sans k (P.take (i + 1)))) := Lib.hid (by rw [hst.out]; exact ho.out)
        replace hk := Lib.hid hk
        clear ho
        go_wp2
        go_roundg (n - (i + 1))
        case measure => exact hms.out
        case rel => exact ⟨i + 1, by simp, hi2.out, Nat.le_refl _, ho2, hb⟩
      · have hbe : (y != k) = true := by simpa using hk
        rw [if_neg hk] at hst
        replace hk := Lib.hid hk
        go_wp2_with (first
          | (fail)
          | (at_builtin; refine wp_append_node rfl _ _ rfl w.heap.size u6 A (y, .slice qa ql qc) rfl rfl rfl ho.out hbs.out hsl2 ?_; intro v' w5 hO5 hB5 _; have hO6 : Hid (OwnN w.heap.size w5 v' (sans k (P.take (i + 1)))) := Lib.hid (by rw [hst.out]; exact hO5); have hB6 := Lib.hid (hB5 w hb.out); clear hO5 hB5 ho hb cb ck cv2))
        go_roundg (n - (i + 1))
        case measure => exact hms.out
        case rel => exact ⟨i + 1, by simp, hi2.out, Nat.le_refl _, hO6, hB6⟩
    · obtain rfl : i = n := by omega
      have l1 : ¬ (i : Int) < i := by omega
      have ho2 : Hid (OwnN w.heap.size wr u6 (sans k P)) := Lib.hid (by have := ho.out; rw [List.take_of_length_le (by rw [hn.out]; exact Nat.le_refl _)] at this; exact this)
      have hOf2 := Lib.hid (hOf.out wr hb.out)
      have hbs := Lib.hid hb.out.size
      have hsl2 : (sans k P).length ≤ 1099511627776 := by
        unfold sans
        have := List.length_filter_le (fun p : Int × Value => !decide (p.1 = k)) P
        rw [hn.out] at this
        omega
      clear hN ho hOf hbx
      go_wp2_with (first
        | (go_at_call 52; refine hOf2.out.mono ?_; rintro e w5 ⟨lv, L, rfl, hfr, hSl, hR, hm, -, b5⟩; obtain ⟨la, ll, lc, rfl⟩ : ∃ a l c, lv = .slice a l c := (by obtain ⟨a, c, e, _⟩ := hSl; exact ⟨_, _, _, e⟩); have hB5 := Lib.hid (b_next hb.out b5 (Nat.le_refl _)); have ho5 : Hid (OwnN w.heap.size w5 u6 (sans k P)) := Lib.hid (ho2.out.kept (row := none) ⟨b5.os, b5.tape, b5.output, b5.size, fun k hk _ => b5.block k hk⟩ (by cases u6.ownBlock with | none => exact Or.inl rfl | some q => exact Or.inr (by simp))); have hbs5 := Lib.hid hB5.out.size; have hfin : Hid (∀ v' w6, OwnN w.heap.size w6 v' (sans k P ++ [(k, .slice la ll lc)]) → Below w.heap.size w w6 → (w5.alloc (.cells #[.int .i64 k, .slice la ll lc] 63)).grownBy w6 u6.ownBlock → w6.cell? ⟨b, 0, none⟩ = some (.slice s i cap) ∧ w6.frozen? ⟨b, 0, none⟩ = false ∧ (∃ L, Rises L ∧ (∀ x, x ∈ L ↔ x ∈ M) ∧ RefAt (w6.setCell ⟨b, 0, none⟩ v') b (G.put k L) ∧ w.grownBy (w6.setCell ⟨b, 0, none⟩ v') (some b))) := Lib.hid (fun v' w6 h6 h7 h8 => hend0.out v' L _ w6 h6 h7 (sl_grown (hSl.next (b_alloc w5 _)) h8 (fun q e e2 => by have h9 := (ho2.out.lt q e).2; have h10 := hfr q e2; omega)) hR hm); clear hSl hR hm b5 hOf2 ho2 hend0 hb hbox hfr)
        | (at_builtin; refine wp_append_node rfl _ _ rfl w.heap.size u6 (sans k P) (k, .slice la ll lc) rfl rfl rfl ho5.out hbs5.out hsl2 ?_; intro v' w6 hO6 hB6 hG6; obtain ⟨na, nl, nc, rfl⟩ : ∃ a l c, v' = .slice a l c := (by obtain ⟨a, c, g9, e, _⟩ := hO6.nodes; exact ⟨_, _, _, e⟩); obtain ⟨cb6, fb6, hend⟩ := hfin.out _ w6 hO6 (hB6 w hB5.out) hG6; replace hend := Lib.hid hend; clear hO6 hB6 hG6 hfin ho5))
      go_end0
      exact ⟨rfl, hend.out⟩
end Go.Proofs.YtcoccaglbepbdaaGreat.Rg
