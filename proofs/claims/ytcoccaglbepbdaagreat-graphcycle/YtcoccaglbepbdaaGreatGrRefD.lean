/-
  The document's own answer to what is met from some keys on. Conditions: a graph, and keys, as the statements ask of.
-/
import Derived.Test.YtcoccaglbepbdaaGreatRows
import Derived.Test.YtcoccaglbepbdaaGreatGrRefC
namespace Go.Proofs.YtcoccaglbepbdaaGreat.Rg
open Go.RowKit Sh Gr
open Key (lt)
open Ent (key)
open Ti (keysV keysV_len keysV_snoc info_key)
open Rf (Sl sl_of_owns fold_len fold_rises fold_mem)
attribute [local go_sem] fold_none

/-- what is met so far, behind i nodes of a pass that began with S0 -/
structure Pass (G : Gph) (F : List Int) (P : List (Int × Value)) (S0 S : List Int) (i : Nat) (grown : Bool) : Prop where
  rises : Rises S
  met : ∀ x ∈ S, Gr.Met G.T F x
  from_ : ∀ x ∈ F, x ∈ S
  yes : grown = true → S0.length < S.length
  no : grown = false → S = S0 ∧ ∀ (j : Nat) p, j < i → P[j]? = some p → p.1 ∈ S → ∀ x ∈ G.T p.1, x ∈ S
theorem fold_grows {A B : List Int} (hA : Rises A) : A.length ≤ (B.foldl (fun d x => ins x d) A).length ∧ (¬ A.length < (B.foldl (fun d x => ins x d) A).length → B.foldl (fun d x => ins x d) A = A ∧ ∀ x ∈ B, x ∈ A) := by
  have hm := fun x => fold_mem B hA x
  have hR := fold_rises B hA
  have h1 : A.length ≤ (B.foldl (fun d x => ins x d) A).length := nodup_len A _ (rises_nodup hA) fun x hx => (hm x).2 (Or.inr hx)
  refine ⟨h1, fun h => ?_⟩
  have h2 : ∀ x ∈ B, x ∈ A := fun x hx => Classical.byContradiction fun e => by
    have := nodup_len (x :: A) (B.foldl (fun d x => ins x d) A) (List.nodup_cons.2 ⟨e, rises_nodup hA⟩) fun y hy => (hm y).2 ((List.mem_cons.1 hy).elim (fun q => Or.inl (q ▸ hx)) Or.inr)
    rw [List.length_cons] at this
    omega
  exact ⟨rises_one hR hA fun x => by rw [hm]; exact ⟨fun q => q.elim (h2 x) id, Or.inr⟩, h2⟩
theorem Pass.skip {G : Gph} {F S0 S : List Int} {P : List (Int × Value)} {i : Nat} {g : Bool} {p : Int × Value} (h : Pass G F P S0 S i g) (hp : P[i]? = some p) (hn : p.1 ∉ S) : Pass G F P S0 S (i + 1) g :=
  ⟨h.rises, h.met, h.from_, h.yes, fun e => ⟨(h.no e).1, fun j q hj hq hqs => by
    by_cases e2 : j = i
    · subst e2; rw [Option.some.inj (hp.symm.trans hq)] at hn; exact absurd hqs hn
    · exact (h.no e).2 j q (by omega) hq hqs⟩⟩
theorem Pass.step {G : Gph} {F S0 S N : List Int} {P : List (Int × Value)} {i : Nat} {g : Bool} {p : Int × Value} (h : Pass G F P S0 S i g) (h0 : S0.length ≤ S.length) (hp : P[i]? = some p) (hn : p.1 ∈ S) (hN : N = (G.T p.1).foldl (fun d x => ins x d) S) :
    Pass G F P S0 N (i + 1) (g || decide (S.length < N.length)) ∧ S.length ≤ N.length := by
  subst hN
  obtain ⟨f1, f2⟩ := fold_grows (B := G.T p.1) h.rises
  have hm := fun x => fold_mem (G.T p.1) h.rises x
  refine ⟨⟨fold_rises _ h.rises, fun x hx => ((hm x).1 hx).elim (fun e => .on (h.met _ hn) e) (h.met x), fun x hx => (hm x).2 (Or.inr (h.from_ x hx)), fun e => ?_, fun e => ?_⟩, f1⟩
  · cases g with
    | true => have := h.yes rfl; omega
    | false => simp at e; omega
  · simp only [Bool.or_eq_false_iff, decide_eq_false_iff_not] at e
    obtain ⟨e1, e2⟩ := f2 e.2
    obtain ⟨e3, e4⟩ := h.no e.1
    rw [e1]
    refine ⟨e3, fun j q hj hq hqs => ?_⟩
    by_cases e5 : j = i
    · subst e5
      rw [← Option.some.inj (hp.symm.trans hq)]
      exact e2
    · exact e4 j q (by omega) hq hqs
theorem Pass.done {G : Gph} {F S0 S : List Int} {P : List (Int × Value)} {i : Nat} (hG : G.Ok) (hO : OfG G P) (hi : P.length ≤ i) (h : Pass G F P S0 S i false) : IsMet G.T F S :=
  isMet_of h.rises h.met h.from_ fun y hy x hx => by
    by_cases hd : y ∈ G.D
    · obtain ⟨p, hp, rfl⟩ := List.mem_map.1 ((hO.mem y).1 hd)
      obtain ⟨j, hj⟩ := List.mem_iff_getElem?.1 hp
      exact (h.no rfl).2 j p (by have := (List.getElem?_eq_some_iff.1 hj).1; omega) hj hy x hx
    · rw [hG.none y hd] at hx; cases hx
theorem has_mem {x : Int} {l : List Int} : has x l = decide (x ∈ l) := by
  rw [Bool.eq_iff_iff, has_iff]
  simp only [decide_eq_true_eq]
  exact ⟨fun ⟨a, h, e⟩ => (show a = x from e) ▸ h, fun h => ⟨x, h, rfl⟩⟩

set_option maxRecDepth 100000 in
set_option maxHeartbeats 4000000 in
theorem RMet_calls (w : World) (b : Nat) (G : Gph) (v : Value) (F : List Int) (h : RefAt w b G) (hS : Small G) (hF : F.length ≤ 500) (hv : Sl w v F) :
    Calls Tryz.prog 47 #[.pointer (some ⟨b, 0, none⟩), v] w fun e w' => ∃ M, IsMet G.T F M ∧ M.length ≤ 3000 ∧ GivesS w M e w' := by
  obtain ⟨s, cap, g, off, P, h1, h2, h3, h4⟩ := h.all
  have hok := Lib.hid h.ok
  have hO := Lib.hid h3
  have hnd := hS.nodes
  have hPl := h3.len h.ok
  obtain ⟨n, hn⟩ : ∃ n, Hid (P.length = n) := ⟨_, Lib.hid rfl⟩
  have hn1 : n ≤ 60 := by rw [← hn.out]; omega
  rw [hn.out] at h1
  have hbox := Lib.hid fun w' (hb : Below w.heap.size w w') => And.intro (box_below h1 hb).cell (h2.next hb)
  have h42 := Lib.hid fun w' (hb : Below w.heap.size w w') p (hp : p ∈ P) => (h4 p hp).next hb
  have hOf := Lib.hid (ROf_gives w v F (by omega) hv)
  obtain ⟨sv, cv, rfl, -⟩ := sl_box hv
  clear h h1 h2 h3 h4 hPl hnd hv
  go_enter Tryz.func47, Tryz.ntmps47
  go_wp2_with fail
  refine hOf.out.mono ?_
  rintro e w1 ⟨u, S1, rfl, -, hS1, hR1, hm1, hl1, b1⟩
  obtain ⟨ua, uc, rfl, hS12⟩ := sl_box hS1
  have hP1 : Hid (Rises S1 ∧ (∀ x ∈ S1, Gr.Met G.T F x) ∧ (∀ x ∈ F, x ∈ S1)) := Lib.hid ⟨hR1, fun x hx => .here ((hm1 x).1 hx), fun x hx => (hm1 x).2 hx⟩
  replace b1 := Lib.hid b1
  clear hOf hS1 hR1 hm1 hl1
  go_wp2
  go_loopg [5, 6] (2 * (3000 - S1.length) + 1) (fun gg s5 s6 wr => ∃ (S : List Int) (a : Option Addr) (l c : Nat) (grown : Bool), s5 = .slice a l c ∧ s6 = .bool grown ∧ 2 * (3000 - S.length) + (if grown then 1 else 0) ≤ gg ∧ Hid (Sl wr (.slice a l c) S) ∧ Hid (Rises S ∧ (∀ x ∈ S, Gr.Met G.T F x) ∧ (∀ x ∈ F, x ∈ S)) ∧ Hid (grown = false → IsMet G.T F S) ∧ Hid (Below w.heap.size w wr))
  case atStart => exact ⟨S1, _, _, _, true, rfl, rfl, Nat.le_refl _, hS12, hP1, Lib.hid (fun e => by cases e), b1⟩
  case round =>
    clear hS12 hP1 b1
    obtain ⟨S, a, l, c, grown, rfl, rfl, hgg, hSl, hP, hdone, hb⟩ := hrel
    have hlen := Lib.hid (met_len hok.out hS hP.out.1 hP.out.2.1)
    cases grown with
    | false =>
      have hend : Hid (∃ M, IsMet G.T F M ∧ M.length ≤ 3000 ∧ GivesS w M (.returned (.slice a l c)) wr) := Lib.hid ⟨S, hdone.out rfl, by have := hlen.out; omega, _, rfl, hSl.out, hb.out⟩
      clear hSl hP hdone hgg hlen
      go_wp2
      go_ret
      exact hend.out
    | true =>
      have hP0 : Hid (Pass G F P S S 0 false) := Lib.hid ⟨hP.out.1, hP.out.2.1, hP.out.2.2, (fun e => by cases e), fun _ => ⟨rfl, fun j p hj => by omega⟩⟩
      have hgg2 : Hid (2 * (3000 - S.length) + 1 ≤ gk) := Lib.hid (by simpa using hgg)
      clear hdone hP hgg
      go_wp2
      go_loopw [5, 6, 7] (fun s5 s6 s7 wr2 => ∃ (S2 : List Int) (a : Option Addr) (l c : Nat) (gr : Bool) (i : Nat), s5 = .slice a l c ∧ s6 = .bool gr ∧ s7 = .int .i64 (i : Int) ∧ i ≤ n ∧ Hid (Sl wr2 (.slice a l c) S2) ∧ Hid (Pass G F P S S2 i gr ∧ S.length ≤ S2.length) ∧ Hid (Below w.heap.size w wr2)) (fun _ _ s7 _ => n - (intOf s7).toNat)
      case atStart => exact ⟨S, a, l, c, false, 0, rfl, rfl, rfl, by omega, hSl, Lib.hid ⟨hP0.out, Nat.le_refl _⟩, hb⟩
      case round =>
        clear hSl hP0 hb
        obtain ⟨S2, a, l, c, gr, i, rfl, rfl, rfl, hi, hSl, hP, hb⟩ := hrel
        obtain ⟨cb, hN⟩ := hbox.out wr hb.out
        have hlen2 := met_len hok.out hS hP.out.1.rises hP.out.1.met
        by_cases hlt : i < n
        · have hip : P[i]? = some (P[i]'(by rw [hn.out]; exact hlt)) := List.getElem?_eq_getElem _
          obtain ⟨rfl, hg⟩ := hN.addr (by rw [hn.out]; omega)
          have ck := hN.key i _ hip
          have cv2 := hN.val i _ hip
          have hTo := h42.out wr hb.out _ (List.mem_of_getElem? hip)
          have l1 : (i : Int) < n := by omega
          have l2 : (0 : Int) ≤ i := by omega
          have hw1 : IntKind.i64.wrap ((i : Int) + 1) = ((i + 1 : Nat) : Int) := wrap_nat (i + 1) (by omega)
          have hms : Hid (n - (i + 1) < n - i) := Lib.hid (by omega)
          have hi2 : Hid (i + 1 ≤ n) := Lib.hid (by omega)
          generalize P[i]'(by rw [hn.out]; exact hlt) = p at *
          have hHas := Rf.RHas_calls wr (.slice a l c) S2 p.1 (by omega) hSl.out
          rw [has_mem] at hHas
          by_cases hin : p.1 ∈ S2
          · rw [show decide (p.1 ∈ S2) = true by simpa using hin] at hHas
            obtain ⟨q1, q2⟩ := hP.out.1.step hP.out.2 hip hin rfl
            have hUn := Lib.hid (Rf.RUnion_calls wr (.slice a l c) p.2 S2 (G.T p.1) (by omega) (by have := hS.to p.1; omega) hP.out.1.rises hSl.out hTo)
            have hq3 := Nat.le_trans hP.out.2 q2
            have hl2 : l = S2.length := by obtain ⟨_, _, e, _⟩ := hSl.out; simp at e; exact e.2.1
            obtain ⟨N, hN2⟩ : ∃ N, Hid ((G.T p.1).foldl (fun d x => ins x d) S2 = N) := ⟨_, Lib.hid rfl⟩
            rw [hN2.out] at q1 q2 hq3 hUn
            obtain ⟨pa, pl, pc, hp2⟩ : ∃ a l c, p.2 = .slice a l c := by obtain ⟨_, _, e, _⟩ := hTo; exact ⟨_, _, _, e⟩
            obtain ⟨y, z⟩ := p
            dsimp only at *
            subst hp2
            replace hHas := Lib.hid hHas
            replace q1 := Lib.hid (And.intro q1 hq3)
            clear hN hip hg hTo hlt hi hin hP hlen2 q2 hq3 hSl
            subst hl2
            have hNl : Hid (∀ g2 : Bool, (gr || decide (S2.length < N.length)) = g2 → Pass G F P S N (i + 1) g2 ∧ S.length ≤ N.length) := Lib.hid fun g2 e => e ▸ q1.out
            clear q1
            cases gr with
            | true =>
              have q2 := Lib.hid (hNl.out true rfl)
              clear hNl
              go_wp2_with (first
                | (go_at_call 56; refine hHas.out.mono ?_; rintro e w' ⟨rfl, hw'⟩; obtain rfl := hw'.symm; clear hw' hHas)
                | (go_at_call 78; refine hUn.out.mono ?_; rintro e w5 ⟨u5, rfl, hu5, b5⟩; have hB5 := Lib.hid (b_next hb.out b5 (Nat.le_refl _)); obtain ⟨xa, xc, rfl, hu6⟩ := sl_box hu5; clear hu5 b5 hUn hb cb))
              exact ⟨⟨N, xa, _, xc, true, i + 1, rfl, rfl, by simp, hi2.out, hu6, q2, hB5⟩, by have := hms.out; simp [intOf]; omega⟩
            | false =>
              by_cases hgt : S2.length < N.length
              · have q2 := Lib.hid (hNl.out true (by simp [hgt]))
                have g1 : decide ((S2.length : Int) < N.length) = true := decide_eq_true (by omega)
                have g2 : (S2.length : Int) < N.length := by omega
                clear hNl
                go_wp2_with (first
                  | (go_at_call 56; refine hHas.out.mono ?_; rintro e w' ⟨rfl, hw'⟩; obtain rfl := hw'.symm; clear hw' hHas)
                  | (go_at_call 78; refine hUn.out.mono ?_; rintro e w5 ⟨u5, rfl, hu5, b5⟩; have hB5 := Lib.hid (b_next hb.out b5 (Nat.le_refl _)); obtain ⟨xa, xc, rfl, hu6⟩ := sl_box hu5; clear hu5 b5 hUn hb cb))
                exact ⟨⟨N, xa, _, xc, true, i + 1, rfl, by simp, by simp, hi2.out, hu6, q2, hB5⟩, by have := hms.out; simp [intOf]; omega⟩
              · have q2 := Lib.hid (hNl.out false (by simp [hgt]))
                have g1 : decide ((S2.length : Int) < N.length) = false := decide_eq_false (by omega)
                have g2 : ¬ (S2.length : Int) < N.length := by omega
                clear hNl
                go_wp2_with (first
                  | (go_at_call 56; refine hHas.out.mono ?_; rintro e w' ⟨rfl, hw'⟩; obtain rfl := hw'.symm; clear hw' hHas)
                  | (go_at_call 78; refine hUn.out.mono ?_; rintro e w5 ⟨u5, rfl, hu5, b5⟩; have hB5 := Lib.hid (b_next hb.out b5 (Nat.le_refl _)); obtain ⟨xa, xc, rfl, hu6⟩ := sl_box hu5; clear hu5 b5 hUn hb cb))
                exact ⟨⟨N, xa, _, xc, false, i + 1, rfl, by simp, by simp, hi2.out, hu6, q2, hB5⟩, by have := hms.out; simp [intOf]; omega⟩
          · rw [show decide (p.1 ∈ S2) = false by simpa using hin] at hHas
            have q1 := Lib.hid (And.intro (hP.out.1.skip hip hin) hP.out.2)
            replace hHas := Lib.hid hHas
            clear hN hip hg hTo hlt hi hin hP hlen2
            go_wp2_with (go_at_call 56; refine hHas.out.mono ?_; rintro e w' ⟨rfl, hw'⟩; obtain rfl := hw'.symm; clear hw' hHas)
            exact ⟨⟨S2, a, l, c, gr, i + 1, rfl, rfl, by simp, hi2.out, hSl, q1, hb⟩, by have := hms.out; simp [intOf]; omega⟩
        · obtain rfl : i = n := by omega
          have l1 : ¬ (i : Int) < i := by omega
          have hdone2 : Hid (gr = false → IsMet G.T F S2) := Lib.hid fun e => (e ▸ hP.out.1).done hok.out hO.out (by rw [hn.out]; exact Nat.le_refl _)
          have hP2 : Hid (Rises S2 ∧ (∀ x ∈ S2, Gr.Met G.T F x) ∧ (∀ x ∈ F, x ∈ S2)) := Lib.hid ⟨hP.out.1.rises, hP.out.1.met, hP.out.1.from_⟩
          have hms : Hid (2 * (3000 - S2.length) + (if gr then 1 else 0) < gk) := Lib.hid (by
            have h1 := hgg2.out
            have h2 := hP.out.2
            have h3 := hlen.out
            cases gr with
            | true => have := hP.out.1.yes rfl; simp; omega
            | false => simp; omega)
          clear hP hN hlen2 hgg2
          go_wp2
          go_roundg (2 * (3000 - S2.length) + (if gr then 1 else 0))
          case measure => exact hms.out
          case rel => exact ⟨S2, a, l, c, gr, rfl, rfl, Nat.le_refl _, hSl, hP2, hdone2, hb⟩
end Go.Proofs.YtcoccaglbepbdaaGreat.Rg
