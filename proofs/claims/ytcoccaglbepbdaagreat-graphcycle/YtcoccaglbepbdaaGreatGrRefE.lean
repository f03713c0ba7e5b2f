/-
  The document's own answers to Reach, Open and Order. Conditions: a graph, and keys, as the statements ask of.
-/
import Derived.Test.YtcoccaglbepbdaaGreatRows
import Derived.Test.YtcoccaglbepbdaaGreatGrRefD
namespace Go.Proofs.YtcoccaglbepbdaaGreat.Rg
open Go.RowKit Sh Gr
open Key (lt)
open Ent (key)
open Ti (keysV keysV_len keysV_snoc info_key)
open Rf (Sl sl_of_owns fold_len fold_rises fold_mem)
attribute [local go_sem] fold_none

theorem meet_filter (A B : List Int) : A.filter (fun a => has a B) = A.filter fun a => decide (a ∈ B) := List.filter_congr fun _ _ => has_mem
theorem minus_filter (A B : List Int) : A.filter (fun a => !has a B) = A.filter fun a => !decide (a ∈ B) := List.filter_congr fun x _ => by rw [has_mem]
set_option maxHeartbeats 2000000 in
theorem RReach_calls (w : World) (b : Nat) (G : Gph) (v : Value) (F : List Int) (h : RefAt w b G) (hS : Small G) (hF : F.length ≤ 500) (hv : Sl w v F) :
    Calls Tryz.prog 19 #[.pointer (some ⟨b, 0, none⟩), v] w fun e w' => ∃ M, IsMet G.T F M ∧ M.length ≤ 3000 ∧ GivesS w (reach G.D M) e w' := by
  have hM := Lib.hid (RMet_calls w b G v F h hS hF hv)
  have hK := Lib.hid fun w' (hb : Below w.heap.size w w') => RKeys_calls w' b G (h.next hb) (by have := hS.nodes; omega)
  have hD := hS.nodes
  obtain ⟨sv, cv, rfl, -⟩ := sl_box hv
  clear h hv
  go_enter Tryz.func19, Tryz.ntmps19
  go_wp2_with fail
  refine hM.out.mono ?_
  rintro e w1 ⟨M, h1, h2, u, rfl, h3, h4⟩
  have hK2 := Lib.hid (hK.out w1 h4)
  clear hM hK
  go_wp2_with fail
  refine hK2.out.mono ?_
  rintro e w2 ⟨u2, rfl, h5, h6⟩
  have hMe := Lib.hid (Rf.RMeet_calls w2 u M u2 G.D (by omega) h5 (by omega) (h3.next h6))
  have b02 := Lib.hid (b_then h4 h6)
  replace h1 := Lib.hid h1
  replace h2 := Lib.hid h2
  clear hK2 h3 h4 h5 h6
  go_wp2_with fail
  refine hMe.out.mono ?_
  rintro e w3 ⟨u3, rfl, h7, h8⟩
  have hend : Hid (GivesS w (reach G.D M) (.returned u3) w3) := Lib.hid ⟨u3, rfl, by have := sl_of_owns h7; rw [meet_filter] at this; exact this, b_then b02.out h8⟩
  clear h7 h8 hMe
  go_wp2
  go_ret
  exact ⟨M, h1.out, h2.out, hend.out⟩
set_option maxHeartbeats 2000000 in
theorem ROpen_calls (w : World) (b : Nat) (G : Gph) (v : Value) (F : List Int) (h : RefAt w b G) (hS : Small G) (hF : F.length ≤ 500) (hv : Sl w v F) :
    Calls Tryz.prog 21 #[.pointer (some ⟨b, 0, none⟩), v] w fun e w' => ∃ M, IsMet G.T F M ∧ M.length ≤ 3000 ∧ GivesS w (opened G.D M) e w' := by
  have hM := Lib.hid (RMet_calls w b G v F h hS hF hv)
  have hK := Lib.hid fun w' (hb : Below w.heap.size w w') => RKeys_calls w' b G (h.next hb) (by have := hS.nodes; omega)
  have hD := hS.nodes
  obtain ⟨sv, cv, rfl, -⟩ := sl_box hv
  clear h hv
  go_enter Tryz.func21, Tryz.ntmps21
  go_wp2_with fail
  refine hM.out.mono ?_
  rintro e w1 ⟨M, h1, h2, u, rfl, h3, h4⟩
  have hK2 := Lib.hid (hK.out w1 h4)
  clear hM hK
  go_wp2_with fail
  refine hK2.out.mono ?_
  rintro e w2 ⟨u2, rfl, h5, h6⟩
  have hMe := Lib.hid (Rf.RMinus_calls w2 u M u2 G.D (by omega) h5 (by omega) (h3.next h6))
  have b02 := Lib.hid (b_then h4 h6)
  replace h1 := Lib.hid h1
  replace h2 := Lib.hid h2
  clear hK2 h3 h4 h5 h6
  go_wp2_with fail
  refine hMe.out.mono ?_
  rintro e w3 ⟨u3, rfl, h7, h8⟩
  have hend : Hid (GivesS w (opened G.D M) (.returned u3) w3) := Lib.hid ⟨u3, rfl, by have := sl_of_owns h7; rw [minus_filter] at this; exact this, b_then b02.out h8⟩
  clear h7 h8 hMe
  go_wp2
  go_ret
  exact ⟨M, h1.out, h2.out, hend.out⟩

/-- the first of a list that can be next, as it is looked for -/
def Looks (T : Int → List Int) (L : List Int) (i : Nat) (at_ : Int) : Prop := (at_ = -1 ∧ ∀ j, j < i → ready T L (L[j]?.getD 0) = false) ∨ (∃ a : Nat, at_ = (a : Int) ∧ a < i ∧ a < L.length ∧ ready T L (L[a]?.getD 0) = true ∧ ∀ j, j < a → ready T L (L[j]?.getD 0) = false)
theorem find_at : ∀ (L : List Int) (p : Int → Bool) (a : Nat), a < L.length → p (L[a]?.getD 0) = true → (∀ j, j < a → p (L[j]?.getD 0) = false) → L.find? p = some (L[a]?.getD 0)
  | [], _, _, h, _, _ => by simp at h
  | x :: L, p, 0, _, h, _ => by simp at h; simp [h]
  | x :: L, p, a + 1, h, h1, h2 => by
    have := h2 0 (by omega)
    simp at this
    rw [List.find?_cons, this]
    have ih := find_at L p a (by simpa using h) (by simpa using h1) fun j hj => by have := h2 (j + 1) (by omega); simpa using this
    simpa using ih
theorem Looks.none_ {T : Int → List Int} {L : List Int} {at_ : Int} (h : Looks T L L.length at_) (ha : at_ < 0) : pick T L = none := by
  rcases h with ⟨_, h⟩ | ⟨a, rfl, _⟩
  · unfold pick
    rw [List.find?_eq_none]
    intro x hx
    obtain ⟨j, hj, e⟩ := List.getElem_of_mem hx
    have := h j hj
    rw [List.getElem?_eq_getElem hj] at this
    simp only [Option.getD_some] at this
    rw [← e, this]; simp
  · omega
theorem Looks.some_ {T : Int → List Int} {L : List Int} {i : Nat} {a : Nat} (h : Looks T L i (a : Int)) : a < L.length ∧ pick T L = some (L[a]?.getD 0) := by
  rcases h with ⟨e, _⟩ | ⟨a2, e, _, h1, h2, h3⟩
  · omega
  · have : a2 = a := by omega
    subst this
    exact ⟨h1, find_at L _ a2 h1 h2 h3⟩
theorem ready_filter (T : Int → List Int) (L : List Int) (x : Int) : ready T L x = decide (((T x).filter fun a => has a L).length = 0) := by
  rw [Bool.eq_iff_iff, ready_iff, decide_eq_true_eq, List.length_eq_zero_iff, List.filter_eq_nil_iff]
  simp [has_mem]
theorem sl_grown2 {W W' : World} {u : Value} {A : List Int} {row : Option Nat} (h : Sl W u A) (hg : W.grownBy W' row) (hr : 0 < A.length → ∀ q, row = some q → u.ownBlock ≠ some q) : Sl W' u A := by
  by_cases h0 : 0 < A.length
  · exact sl_grown h hg (hr h0)
  · obtain ⟨s, c, rfl, _⟩ := h
    exact ⟨s, c, rfl, fun e => absurd e h0⟩
theorem owns_next {W W' : World} {base : Nat} {e : TypeId} {size n : Nat} {v : Value} {xs : List Value} (h : W.ownsRow base e size v n xs) (hb : Below W.heap.size W W') : W'.ownsRow base e size v n xs :=
  h.kept (row := none) ⟨hb.os, hb.tape, hb.output, hb.size, fun k hk _ => hb.block k hk⟩ (by
    cases v.ownBlock with
    | none => exact Or.inl rfl
    | some q => exact Or.inr (by simp))
/-- on the way: what is done, what is left -/
structure Way2 (G : Gph) (S o L : List Int) : Prop where
  rises : Rises L
  done : order G.T S.length S = (order G.T L.length L).map (o ++ ·)
  len : o.length + L.length = S.length
theorem Way2.step {G : Gph} {S o L : List Int} {x : Int} (h : Way2 G S o L) (hx : pick G.T L = some x) : Way2 G S (o ++ [x]) (del x L) ∧ (del x L).length + 1 = L.length := by
  have hl := del_len h.rises (pick_some hx).1
  refine ⟨⟨rises_del _ h.rises, ?_, by rw [List.length_append, List.length_singleton]; have := h.len; omega⟩, hl⟩
  rw [h.done, ← hl, order_pick hx]
  cases order G.T (del x L).length (del x L) <;> simp
theorem without_del (L : List Int) (x : Int) : L.filter (fun a => !decide (a = x)) = del x L := rfl

set_option maxRecDepth 100000 in
set_option maxHeartbeats 4000000 in
theorem ROrder_calls (w : World) (b : Nat) (G : Gph) (v : Value) (K : List Int) (h : RefAt w b G) (hS : Small G) (hK : K.length ≤ 100) (hv : Sl w v K) :
    Calls Tryz.prog 23 #[.pointer (some ⟨b, 0, none⟩), v] w (Ordered w G K) := by
  obtain ⟨i0, hi, hz0, hz1, hz2⟩ := info_parts info_key
  have hOf := Lib.hid (ROf_gives w v K (by omega) hv)
  have hKs := Lib.hid fun w' (hb : Below w.heap.size w w') => RKeys_calls w' b G (h.next hb) (by have := hS.nodes; omega)
  have hTo := Lib.hid fun w' k (hb : Below w.heap.size w w') => RTo_calls w' b G k (h.next hb) (by have := hS.nodes; omega)
  have hD := hS.nodes
  obtain ⟨sv, cv, rfl, -⟩ := sl_box hv
  clear h hv
  go_enter Tryz.func23, Tryz.ntmps23
  go_wp2_with fail
  refine hOf.out.mono ?_
  rintro e w1 ⟨u, S, rfl, hf, hS1, hR, hm, hl, b1⟩
  have hK2 := Lib.hid (hKs.out w1 b1)
  have hSl : S.length ≤ 100 := Nat.le_trans hl hK
  obtain ⟨ua, uc, rfl, hS2⟩ := sl_box hS1
  replace b1 := Lib.hid b1
  replace hR := Lib.hid hR
  replace hm := Lib.hid hm
  clear hOf hKs hl hf hS1
  go_wp2_with fail
  refine hK2.out.mono ?_
  rintro e w2 ⟨u2, rfl, h5, h6⟩
  have hMi := Lib.hid (Rf.RMinus_calls w2 _ S u2 G.D (by omega) h5 (by omega) (hS2.out.next h6))
  have b02 := Lib.hid (b_then b1.out h6)
  have hS3 := Lib.hid (hS2.out.next h6)
  clear hK2 h5 h6 hS2
  go_wp2_with fail
  refine hMi.out.mono ?_
  rintro e w3 ⟨u3, rfl, h7, h8⟩
  obtain ⟨ma, mc, rfl⟩ := row_shape h7
  have b03 := Lib.hid (b_then b02.out h8)
  have hS4 := Lib.hid (hS3.out.next h8)
  clear hMi h7 h8 hS3
  by_cases hall : ∀ x ∈ K, x ∈ G.D
  · have hzero : (S.filter fun a => !has a G.D).length = 0 := by
      rw [minus_filter, List.length_eq_zero_iff, List.filter_eq_nil_iff]
      intro x hx
      have := hall x ((hm.out x).1 hx)
      simp [this]
    rw [hzero]
    replace hall := Lib.hid hall
    have b4 := b_alloc w3 (.cells #[] 3)
    have hS5 := Lib.hid (hS4.out.next b4)
    have b04 := Lib.hid (b_then b03.out b4)
    have hW0 : Hid (Way2 G S [] S) := Lib.hid ⟨hR.out, by cases order G.T S.length S <;> simp, by simp⟩
    have ho0 : Hid ((w3.alloc (.cells #[] 3)).ownsRow w.heap.size 3 1 (.slice (some ⟨w3.heap.size, 0, none⟩) 0 0) (keysV ([] : List Int)).length (keysV [])) := Lib.hid (owns_mono (Rf.alloc_none w3) b03.out.size)
    have hsep0 : Hid (0 < S.length → (Value.slice ua S.length uc).ownBlock ≠ (Value.slice (some ⟨w3.heap.size, 0, none⟩) 0 0).ownBlock) := Lib.hid fun h0 => by
      obtain ⟨s9, c9, e9, h9⟩ := hS4.out
      obtain ⟨g9, o9, e8, hl9, _⟩ := h9 h0
      have : ua = s9 := by simp at e9; exact e9.1
      rw [this, e8]
      simp [Value.ownBlock]
      omega
    clear hzero b4 hS4
    go_wp2
    go_loopg [6, 7] S.length (fun gg s6 s7 wr => ∃ (o L : List Int) (la : Option Addr) (lc : Nat), s6 = .slice la L.length lc ∧ L.length ≤ gg ∧ Hid (Way2 G S o L) ∧ Hid (Sl wr (.slice la L.length lc) L) ∧ Hid (wr.ownsRow w.heap.size 3 1 s7 (keysV o).length (keysV o)) ∧ Hid (0 < L.length → (Value.slice la L.length lc).ownBlock ≠ s7.ownBlock) ∧ Hid (Below w.heap.size w wr))
    case atStart => exact ⟨[], S, ua, uc, rfl, Nat.le_refl _, hW0, hS5, ho0, hsep0, b04⟩
    case round =>
      clear hW0 hS5 ho0 hsep0 b04
      obtain ⟨o, L, la, lc, rfl, hgg, hW, hL, ho, hsep, hb⟩ := hrel
      obtain ⟨oa, oc, rfl⟩ := row_shape ho.out
      have hLS : L.length ≤ 100 := by have := hW.out.len; omega
      have hoS : o.length ≤ 100 := by have := hW.out.len; omega
      by_cases h0 : L.length = 0
      · obtain rfl : L = [] := List.length_eq_zero_iff.1 h0
        have hend : Hid (Ordered w G K (.returned (.tuple #[.slice oa o.length oc, .int .i64 0])) wr) := Lib.hid (Ordered.yes hall.out hR.out hm.out (by rw [hW.out.done]; simp [order]) (sl_of_owns ho.out) hb.out)
        have l1 : ¬ (0 : Int) < (([] : List Int).length : Int) := by simp
        clear hL ho hsep hW
        go_wp2
        go_ret2
        exact hend.out
      · have l1 : (0 : Int) < L.length := by omega
        have l1n : 0 < L.length := by omega
        replace h0 := Lib.hid h0
        have hK0 : Hid (Looks G.T L 0 (-1)) := Lib.hid (Or.inl ⟨rfl, fun j hj => by omega⟩)
        have hb0 := Lib.hid (Below.refl wr.heap.size wr)
        go_wp2
        go_loopw [8, 9] (fun s8 s9 wr2 => ∃ (i : Nat) (at_ : Int), s8 = .int .i64 at_ ∧ s9 = .int .i64 (i : Int) ∧ i ≤ L.length ∧ (at_ = -1 ∨ 0 ≤ at_) ∧ Hid (Looks G.T L i at_) ∧ Hid (Below wr.heap.size wr wr2)) (fun _ s9 _ => L.length - (intOf s9).toNat)
        case atStart => exact ⟨0, -1, rfl, rfl, by omega, by omega, hK0, hb0⟩
        case round =>
          clear hK0 hb0
          obtain ⟨i, at_, rfl, rfl, hil, hat, hLk, hb2⟩ := hrel
          by_cases ha : at_ = -1
          · subst ha
            by_cases hlt : i < L.length
            · obtain ⟨lg, lo, rfl, cl⟩ := sl_cell hL.out hb2.out hlt
              obtain ⟨x, hx⟩ : ∃ x, Hid (L[i]?.getD 0 = x) := ⟨_, Lib.hid rfl⟩
              rw [hx.out] at cl
              have hTo2 := Lib.hid (hTo.out wr x (b_next hb.out hb2.out (Nat.le_refl _)))
              have hMe := Lib.hid fun z (hz : Sl wr z (G.T x)) => Rf.RMeet_calls wr z (G.T x) (.slice (some ⟨lg, lo, none⟩) L.length lc) L (by omega) (hL.out.next hb2.out) (by have := hS.to x; omega) hz
              have k1 : (i : Int) < L.length := by omega
              have k2 : (0 : Int) ≤ i := by omega
              have hw1 : IntKind.i64.wrap ((i : Int) + 1) = ((i + 1 : Nat) : Int) := wrap_nat (i + 1) (by omega)
              have hms : Hid (L.length - (i + 1) < L.length - i) := Lib.hid (by omega)
              have hi2 : Hid (i + 1 ≤ L.length) := Lib.hid (by omega)
              have hrf := Lib.hid (ready_filter G.T L x)
              have hold : Hid (∀ j, j < i → ready G.T L (L[j]?.getD 0) = false) := Lib.hid (by
                rcases hLk.out with ⟨_, h⟩ | ⟨a, e, _⟩
                · exact h
                · omega)
              have hlt2 := Lib.hid hlt
              clear hlt hil hLk
              by_cases hz : ((G.T x).filter fun a => has a L).length = 0
              · have hLk2 : Hid (Looks G.T L (i + 1) (i : Int)) := Lib.hid (Or.inr ⟨i, rfl, by omega, hlt2.out, by rw [hx.out, hrf.out]; simp [hz], hold.out⟩)
                replace hz := Lib.hid hz
                go_wp2_with (first
                  | (go_at_call 15; refine hTo2.out.mono ?_; rintro e w' ⟨z, rfl, hsz, hw'⟩; obtain rfl := hw'.symm; have hMe2 := Lib.hid (hMe.out z hsz); clear hw' hTo2 hMe hsz)
                  | (go_at_call 46; refine hMe2.out.mono ?_; rintro e w5 ⟨u5, rfl, ho5, b5⟩; obtain ⟨xa, xc, rfl⟩ := row_shape ho5; rw [hz.out]; have hb5 := Lib.hid (b_next hb2.out b5 (Nat.le_refl _)); clear ho5 b5 hMe2))
                exact ⟨⟨i + 1, (i : Int), rfl, by simp, hi2.out, by omega, hLk2, hb5⟩, by have := hms.out; simp [intOf]; omega⟩
              · have hLk2 : Hid (Looks G.T L (i + 1) (-1)) := Lib.hid (Or.inl ⟨rfl, fun j hj => by
                  by_cases e : j = i
                  · subst e; rw [hx.out, hrf.out]; simp [hz]
                  · exact hold.out j (by omega)⟩)
                have d0 : ((((G.T x).filter fun a => has a L).length : Int) == 0) = false := by simp; simpa using hz
                obtain ⟨fl, hfl⟩ : ∃ fl, Hid (((G.T x).filter fun a => has a L).length = fl) := ⟨_, Lib.hid rfl⟩
                rw [hfl.out] at d0
                replace hz := Lib.hid hz
                go_wp2_with (first
                  | (go_at_call 15; refine hTo2.out.mono ?_; rintro e w' ⟨z, rfl, hsz, hw'⟩; obtain rfl := hw'.symm; have hMe2 := Lib.hid (hMe.out z hsz); clear hw' hTo2 hMe hsz)
                  | (go_at_call 46; refine hMe2.out.mono ?_; rintro e w5 ⟨u5, rfl, ho5, b5⟩; obtain ⟨xa, xc, rfl⟩ := row_shape ho5; rw [hfl.out]; have hb5 := Lib.hid (b_next hb2.out b5 (Nat.le_refl _)); clear ho5 b5 hMe2))
                exact ⟨⟨i + 1, -1, rfl, by simp, hi2.out, by omega, hLk2, hb5⟩, by have := hms.out; simp [intOf]; omega⟩
            · obtain rfl : i = L.length := by omega
              have k1 : ¬ (L.length : Int) < L.length := by omega
              have hpn := hLk.out.none_ (by omega)
              have hend : Hid (Ordered w G K (.returned (.tuple #[.slice none 0 0, .int .i64 23])) wr) := Lib.hid (Ordered.ring hall.out hR.out hm.out (by
                rw [hW.out.done]
                obtain ⟨n9, hn9⟩ := Nat.exists_eq_succ_of_ne_zero h0.out
                rw [hn9, order_stuck hpn]; rfl) (b_next hb.out hb2.out (Nat.le_refl _)))
              clear hpn hLk hL ho hsep hW
              go_wp2
              go_ret2
              exact hend.out
          · obtain ⟨a, rfl⟩ : ∃ a : Nat, at_ = (a : Int) := ⟨at_.toNat, by omega⟩
            obtain ⟨hal, hpk⟩ := hLk.out.some_
            obtain ⟨x, hx⟩ : ∃ x, Hid (L[a]?.getD 0 = x) := ⟨_, Lib.hid rfl⟩
            rw [hx.out] at hpk
            obtain ⟨hW2, hdl⟩ := hW.out.step hpk
            obtain ⟨lg, lo, rfl, cl⟩ := sl_cell hL.out hb2.out hal
            rw [hx.out] at cl
            have hc9 : Hid (∀ w6, Sl w6 (.slice (some ⟨lg, lo, none⟩) L.length lc) L → w6.cell? ⟨lg, lo + a, none⟩ = some (.int .i64 x)) := Lib.hid fun w6 h6 => by
              obtain ⟨g9, o9, e9, c9⟩ := sl_cell h6 (Below.refl _ _) hal
              cases e9
              rw [hx.out] at c9
              exact c9
            have k1 : (a : Int) < L.length := by omega
            have k2 : (0 : Int) ≤ a := by omega
            have k3 : ¬ (a : Int) < 0 := by omega
            have hgk : Hid ((del x L).length < gk) := Lib.hid (by omega)
            replace hW2 := Lib.hid hW2
            clear hpk hdl hal hLk ha hat hgg hx
            have hil2 := Lib.hid hil
            clear hil
            by_cases hlt : i < L.length
            · have k4 : (i : Int) < L.length := by omega
              clear hlt
              have hw5 : Hid (wr.ownsRow w.heap.size 3 1 (.slice oa o.length oc) (keysV o).length (keysV o)) := Lib.hid (owns_next ho.out hb2.out)
              have hL5 := Lib.hid (hL.out.next hb2.out)
              have hbw := Lib.hid (b_next hb.out hb2.out (Nat.le_refl _))
              have hbs := Lib.hid hbw.out.size
              go_wp2_with (first
                | (go_at_call 53; refine hWi.out.mono ?_; rintro e w7 ⟨u7, rfl, ho7, b7⟩; obtain ⟨xa, xc, rfl⟩ := row_shape ho7; have hb7 := Lib.hid (b_next hb6.out b7 (Nat.le_refl _)); have hs7 : Hid (Sl w7 (.slice xa (del x L).length xc) (del x L)) := Lib.hid (sl_of_owns ho7); have hsp7 : Hid (0 < (del x L).length → (Value.slice xa (del x L).length xc).ownBlock ≠ v'.ownBlock) := Lib.hid (fun _ e9 => by cases h9 : v'.ownBlock with | none => rw [h9] at e9; rcases ho7.2 with ⟨e8, h8⟩ | ⟨g8, c8, _, e8, _⟩; (· rw [keysV_len] at h8; omega); (· rw [e8] at e9; simp [Value.ownBlock] at e9) | some q => rw [h9] at e9; have h6 := (ho6.out.lt q h9).2; have h7 := (ho7.lt q e9).1; omega); have ho8 := Lib.hid (owns_next ho6.out b7); clear ho7 b7 hWi ho6 hb6)
                | (at_builtin; refine wpList_append_own _ rfl _ _ 23 rfl w.heap.size 3 i0 (.int .i64 0) 1 8 Tryz.underlying23 hi hz0 hz1 hz2 rfl (by decide) _ _ _ rfl (hw5.out.alloc _) ⟨wr.heap.size, 0, none⟩ 1 1 [.int .i64 x] rfl rfl (cell_one_new _ _ _) (by simp [Value.oneCell']) (by rw [keysV_len]; simp [maxLen]; omega) (by rw [keysV_len]; omega) (by have := hbs.out; simp; omega) ?_; intro v' w6 ho' hgrow _; have ho6 : Hid (w6.ownsRow w.heap.size 3 1 v' (keysV (o ++ [x])).length (keysV (o ++ [x]))) := Lib.hid (by rw [keysV_snoc, List.length_append]; exact ho'); have hb6 : Hid (Below w.heap.size w w6) := Lib.hid ((b_next hbw.out (b_alloc _ _) (Nat.le_refl _)).grown hgrow (by have := hbs.out; simp; omega) (fun q e => (hw5.out.lt q e).1)); have hs6 := sl_grown2 (hL5.out.next (b_alloc wr (.cells #[.int .i64 x] 3))) hgrow (fun h9 q e9 e8 => hsep.out h9 (e8.trans e9.symm)); have hWi := Lib.hid (Rf.RWithout_calls w6 _ L x (by omega) hs6); rw [without_del] at hWi; obtain ⟨c6, hc6⟩ : ∃ c6, Hid (w6.cell? ⟨lg, lo + a, none⟩ = c6) := ⟨_, Lib.hid rfl⟩; have cl6 : w6.cell? ⟨lg, lo + a, none⟩ = some (.int .i64 x) := hc9.out w6 hs6; clear ho' hgrow hs6 hL5 hw5 hL))
              go_roundg (del x L).length
              case measure => exact hgk.out
              case rel => exact ⟨o ++ [x], del x L, xa, xc, rfl, Nat.le_refl _, hW2, hs7, ho8, hsp7, hb7⟩
            · have k4 : ¬ (i : Int) < L.length := by omega
              clear hlt
              have hw5 : Hid (wr.ownsRow w.heap.size 3 1 (.slice oa o.length oc) (keysV o).length (keysV o)) := Lib.hid (owns_next ho.out hb2.out)
              have hL5 := Lib.hid (hL.out.next hb2.out)
              have hbw := Lib.hid (b_next hb.out hb2.out (Nat.le_refl _))
              have hbs := Lib.hid hbw.out.size
              go_wp2_with (first
                | (go_at_call 53; refine hWi.out.mono ?_; rintro e w7 ⟨u7, rfl, ho7, b7⟩; obtain ⟨xa, xc, rfl⟩ := row_shape ho7; have hb7 := Lib.hid (b_next hb6.out b7 (Nat.le_refl _)); have hs7 : Hid (Sl w7 (.slice xa (del x L).length xc) (del x L)) := Lib.hid (sl_of_owns ho7); have hsp7 : Hid (0 < (del x L).length → (Value.slice xa (del x L).length xc).ownBlock ≠ v'.ownBlock) := Lib.hid (fun _ e9 => by cases h9 : v'.ownBlock with | none => rw [h9] at e9; rcases ho7.2 with ⟨e8, h8⟩ | ⟨g8, c8, _, e8, _⟩; (· rw [keysV_len] at h8; omega); (· rw [e8] at e9; simp [Value.ownBlock] at e9) | some q => rw [h9] at e9; have h6 := (ho6.out.lt q h9).2; have h7 := (ho7.lt q e9).1; omega); have ho8 := Lib.hid (owns_next ho6.out b7); clear ho7 b7 hWi ho6 hb6)
                | (at_builtin; refine wpList_append_own _ rfl _ _ 23 rfl w.heap.size 3 i0 (.int .i64 0) 1 8 Tryz.underlying23 hi hz0 hz1 hz2 rfl (by decide) _ _ _ rfl (hw5.out.alloc _) ⟨wr.heap.size, 0, none⟩ 1 1 [.int .i64 x] rfl rfl (cell_one_new _ _ _) (by simp [Value.oneCell']) (by rw [keysV_len]; simp [maxLen]; omega) (by rw [keysV_len]; omega) (by have := hbs.out; simp; omega) ?_; intro v' w6 ho' hgrow _; have ho6 : Hid (w6.ownsRow w.heap.size 3 1 v' (keysV (o ++ [x])).length (keysV (o ++ [x]))) := Lib.hid (by rw [keysV_snoc, List.length_append]; exact ho'); have hb6 : Hid (Below w.heap.size w w6) := Lib.hid ((b_next hbw.out (b_alloc _ _) (Nat.le_refl _)).grown hgrow (by have := hbs.out; simp; omega) (fun q e => (hw5.out.lt q e).1)); have hs6 := sl_grown2 (hL5.out.next (b_alloc wr (.cells #[.int .i64 x] 3))) hgrow (fun h9 q e9 e8 => hsep.out h9 (e8.trans e9.symm)); have hWi := Lib.hid (Rf.RWithout_calls w6 _ L x (by omega) hs6); rw [without_del] at hWi; obtain ⟨c6, hc6⟩ : ∃ c6, Hid (w6.cell? ⟨lg, lo + a, none⟩ = c6) := ⟨_, Lib.hid rfl⟩; have cl6 : w6.cell? ⟨lg, lo + a, none⟩ = some (.int .i64 x) := hc9.out w6 hs6; clear ho' hgrow hs6 hL5 hw5 hL))
              go_roundg (del x L).length
              case measure => exact hgk.out
              case rel => exact ⟨o ++ [x], del x L, xa, xc, rfl, Nat.le_refl _, hW2, hs7, ho8, hsp7, hb7⟩
  · have hex : ∃ x ∈ K, x ∉ G.D := Classical.byContradiction fun e => hall fun x hx => Classical.byContradiction fun e2 => e ⟨x, hx, e2⟩
    obtain ⟨x, hx1, hx2⟩ := hex
    have hpos : 0 < (S.filter fun a => !has a G.D).length := List.length_pos_of_mem (List.mem_filter.2 ⟨(hm.out x).2 hx1, by rw [has_mem]; simp [hx2]⟩)
    have hend := Lib.hid (Ordered.none_ hx1 hx2 b03.out)
    have l1 : (0 : Int) < ((S.filter fun a => !has a G.D).length : Int) := by omega
    generalize (S.filter fun a => !has a G.D).length = fl at *
    clear hpos hall hx1 hx2
    go_wp2
    go_ret2
    exact hend.out
end Go.Proofs.YtcoccaglbepbdaaGreat.Rg
