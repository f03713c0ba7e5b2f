/-
  graph's among: for each of some keys the places of those of them that it points to. Conditions: as many keys as the statements ask of.
-/
import Derived.Test.YtcoccaglbepbdaaGreatRows
import Derived.Test.YtcoccaglbepbdaaGreatGrHeight
import Derived.Test.YtcoccaglbepbdaaGreatGrRound
import Derived.Sort.LoopGhostIn
namespace Go.Proofs.YtcoccaglbepbdaaGreat.Gr
open Go.RowKit Go.Shelf Sh
open Ti (SetAt Keeps setAll1_stops keeps_put keysV keysV_len keysV_snoc info_key)
open Rf (Sl sl_of_owns)
attribute [local go_sem] Oper.semAt_some fold_none

/-- the places in a list of those of some keys that are there -/
def plc (S : List Int) (L : List Int) : List Int := (L.filter fun y => decide (y ∈ S)).map fun y => ((S.idxOf y : Nat) : Int)
theorem plc_snoc_in {S L : List Int} {y : Int} (h : y ∈ S) : plc S (L ++ [y]) = plc S L ++ [((S.idxOf y : Nat) : Int)] := by
  unfold plc
  rw [List.filter_append, List.map_append]
  congr 1
  simp [h]
theorem plc_snoc_out {S L : List Int} {y : Int} (h : y ∉ S) : plc S (L ++ [y]) = plc S L := by
  unfold plc
  rw [List.filter_append, List.map_append]
  simp [h]
theorem plc_len (S L : List Int) : (plc S L).length ≤ L.length := by
  unfold plc
  rw [List.length_map]
  exact List.length_filter_le _ _
theorem idx_of_at {S : List Int} (hR : Rises S) {k : Nat} {y : Int} (hk : k < S.length) (h : S[k]?.getD 0 = y) : S.idxOf y = k ∧ y ∈ S := by
  rw [List.getElem?_eq_getElem hk] at h
  simp only [Option.getD_some] at h
  subst h
  have hm : S[k] ∈ S := List.getElem_mem hk
  refine ⟨?_, hm⟩
  have h1 := List.idxOf_lt_length_of_mem hm
  have h2 : S[S.idxOf S[k]] = S[k] := List.getElem_idxOf h1
  exact (List.getElem_inj (rises_nodup hR)).1 h2
/-- the rows of the first keys -/
def Among (S : List Int) (T : Int → List Int) (p : Nat) (F : List (List Int)) : Prop := F.length = S.length ∧ ∀ q, q < S.length → F[q]? = some (if q < p then plc S (T (S[q]?.getD 0)) else [])
/-- blocks that hold what is to be done later are as they were -/
def Held (Ds : List Nat) (W : World) : Prop := ∀ D ∈ Ds, W.heap[D]? = some (.deferred (some []))

/-- what is to be done later, by its blocks -/
def later (Ds : List Nat) : List Deferred := Ds.map fun D => { target := .collected D, args := #[] }
theorem leaves_all {F : Fence} {n : Nat} {P : Program} {fn : Func} {tmps : Array Value} {R : Ending → World → Prop} : ∀ (Ds : List Nat) (W : World), Ds.Nodup → Held Ds W →
    (∀ W', (∀ k, k ∉ Ds → W'.heap[k]? = W.heap[k]?) → W'.heap.size = W.heap.size → W'.os = W.os → W'.tape = W.tape → W'.output = W.output → LeavesIn F n P fn tmps R [] .returning W') → LeavesInM F n P fn tmps R (later Ds) .returning W
  | [], W, _, _, h => h W (fun _ _ => rfl) rfl rfl rfl rfl
  | D :: Ds, W, hn, hh, h => by
    obtain ⟨h1, h2⟩ := List.nodup_cons.1 hn
    refine ⟨by simp, .inl ⟨D, _, rfl, run_takeDeferred (hh D (by simp)), ?_⟩⟩
    refine leaves_all Ds _ h2 (fun E hE => (World.putObj_heap_other fun e => h1 (by rw [← e]; exact hE)).trans (hh E (by simp [hE]))) fun W' g1 g2 g3 g4 g5 => ?_
    refine h W' (fun k hk => (g1 k fun e => hk (by simp [e])).trans (World.putObj_heap_other fun e => hk (by simp [e]))) (by rw [g2]; simp [World.putObj]) g3 g4 g5
/-- a going's memory stays whatever blocks that are no cells do -/
theorem stays_at {T t : TypeId} {W : World} {g : Nat} {c : Array Value} {z : Nat × Nat} (hg : W.heap[g]? = some (.cells c t z)) (hne : t ≠ T) (o : Nat) (v : Value) : Stays T W (W.setCell ⟨g, o, none⟩ v) := fun k c2 z2 hk => by
  refine (Below.heap_setCell _ _ _ k fun e => ?_).trans hk
  subst e
  rw [hk] at hg
  simp at hg
  exact hne hg.2.1.symm
theorem Grid.own_ {base g B B6 : Nat} {F : List (List Int)} : OwnFrom B (fun (_ : List Int) W => ∃ vs, Grid W base g F vs ∧ ∀ v ∈ vs, v.ownBlock ≠ some B6) := fun _ W W' row ⟨vs, h, hv6⟩ hg hr => ⟨vs, h.grown hg (fun q e => by
  obtain ⟨-, o, ho, hc⟩ := hr q e
  refine ⟨fun e2 => ?_, fun v hv e2 => ?_⟩
  · rw [e2, h.blk] at ho; cases ho; cases hc
  · obtain ⟨j, hj⟩ := List.mem_iff_getElem?.1 hv
    have hlt : j < F.length := by rw [← h.len]; exact (List.getElem?_eq_some_iff.1 hj).1
    have ho2 := h.own j F[j] v (List.getElem?_eq_getElem hlt) hj
    rcases ho2.2 with ⟨rfl, _⟩ | ⟨g', cap, cur, rfl, _, hb, _⟩
    · simp [Value.ownBlock] at e2
    · have : g' = q := by simpa [Value.ownBlock] using e2
      rw [← this, hb] at ho; cases ho; cases hc), hv6⟩
theorem held_own {Ds : List Nat} {B : Nat} (hB : ∀ D ∈ Ds, D < B) : OwnFrom B (fun (_ : List Int) W => Held Ds W) := fun _ W W' row h hg hr D hD => by
  refine (hg.block D (Array.getElem?_eq_some_iff.1 (h D hD)).1 fun e => ?_).trans (h D hD)
  have := (hr D e.symm).1
  have := hB D hD
  omega
theorem held_grown {Ds : List Nat} {W W' : World} {row : Option Nat} (h : Held Ds W) (hg : W.grownBy W' row) (hr : ∀ q, row = some q → ∃ c t z, W.heap[q]? = some (.cells c t z)) : Held Ds W' := fun D hD => by
  refine (hg.block D (Array.getElem?_eq_some_iff.1 (h D hD)).1 fun e => ?_).trans (h D hD)
  obtain ⟨c, t, z, e2⟩ := hr D e.symm
  rw [h D hD] at e2; cases e2
/-- the memory of one going -/
structure Gone (w : World) (keys : Value) (n p : Nat) (B6 : Nat) (Ds : List Nat) (F : List (List Int)) (W : World) : Prop where
  b3 : Boxed W w.heap.size 23 keys
  b5 : Boxed W (w.heap.size + 1 + 1) 70 (.slice (some ⟨w.heap.size + 1, 0, none⟩) n n)
  b6 : Boxed W B6 3 (.int .i64 (p : Int))
  grid : ∃ vs, Grid W w.heap.size (w.heap.size + 1) F vs ∧ ∀ v ∈ vs, v.ownBlock ≠ some B6
  below : Below w.heap.size w W
  held : Held Ds W
  first : w.heap.size + 1 + 1 < B6
theorem gone_own {w : World} {keys : Value} {n p B6 B : Nat} {Ds : List Nat} {f : List Int → List (List Int)} (hB : w.heap.size ≤ B) (hD : ∀ D ∈ Ds, D < B) : OwnFrom B (fun (pre : List Int) W => Gone w keys n p B6 Ds (f pre) W) := fun s W W' row h hg hr => by
  have hbox : ∀ {b : Nat} {t : TypeId} {v : Value}, Boxed W b t v → Boxed W' b t v := fun {b t v} hb => hb.kept hg fun e => by
    obtain ⟨-, o, ho, hc⟩ := hr b e.symm
    rw [show W.heap[b]? = _ from hb] at ho; cases ho; cases hc
  exact ⟨hbox h.b3, hbox h.b5, hbox h.b6, Grid.own_ (B := B) [] W W' row h.grid hg hr, ownFrom_below (β := Unit) (Nat.le_refl _) hB () W W' row h.below hg hr, held_own hD [] W W' row h.held hg hr, h.first⟩

/-- all rows -/
def Amongst (w : World) (S : List Int) (T : Int → List Int) (e : Ending) (w' : World) : Prop := ∃ u F, e = .returned u ∧ Among S T S.length F ∧ Reads2 w' u F ∧ Below w.heap.size w w'
theorem Grid.cells_ {W W' : World} {base g : Nat} {rows : List (List Int)} {vs : List Value} (h : Grid W base g rows vs) (hk : ∀ (k : Nat) (c : Array Value) (t : TypeId) (z : Nat × Nat), W.heap[k]? = some (Obj.cells c t z) → W'.heap[k]? = some (Obj.cells c t z)) : Grid W' base g rows vs :=
  ⟨hk _ _ _ _ h.blk, h.len, fun j r v h1 h2 => by
    have ho := h.own j r v h1 h2
    refine ⟨ho.1, ?_⟩
    rcases ho.2 with e | ⟨g', cap, cur, e1, e2, e3, e4⟩
    · exact Or.inl e
    · exact Or.inr ⟨g', cap, cur, e1, e2, hk _ _ _ _ e3, e4⟩, h.apart⟩
set_option maxRecDepth 100000 in
set_option maxHeartbeats 4000000 in
theorem among_calls (w : World) (b m : Nat) (G : Gph) (v : Value) (S : List Int) (h : GraphAt w b m G) (hS : Small G) (hR : Rises S) (hn : S.length ≤ 100) (hv : Sl w v S) :
    Calls Tryz.prog 51 #[.pointer (some ⟨b, 0, none⟩), v] w (Amongst w S G.T) := by
  obtain ⟨i0, hi, hz0, hz1_, hz2_⟩ := info_parts info_key
  obtain ⟨i1, hi1, hy0, hy1, hy2⟩ := info_parts (show (Tryz.prog.info? 23).map (fun i => (i.zero, i.size, i.bytes)) = some (some (.slice none 0 0), 1, 24) by kernel_rfl)
  obtain ⟨sv, cv, rfl, hv2⟩ := sl_box hv
  obtain ⟨n, hnl⟩ : ∃ n, n = S.length := ⟨_, rfl⟩
  rw [← hnl] at hv2 hn ⊢
  replace hnl := Lib.hid hnl
  have hmk : ∀ w1, (Instr.makeSlice 70 (.int .i64 (n : Int)) (.int .i64 (n : Int))).run Tryz.prog w1 = .ok (.slice (some ⟨w1.heap.size, 0, none⟩) n n) (w1.alloc (.cells (madeCells #[.slice none 0 0] n) 23)) := fun w1 => by
    have h := run_makeSlice (P := Tryz.prog) w1 70 23 i1 _ Tryz.underlying70 hi1 hy0 .i64 .i64 (n : Int) (n : Int) (by omega) (by omega) (by rw [hy1]; omega) (by rw [hy2]; omega) (by omega)
    simpa [hy1, Value.cells] using h
  have b0 := b_alloc w (.cells #[.slice sv n cv] 23)
  have bO := Boxed.new w 23 (.slice sv n cv)
  have c0 := bO.cell
  have hmk1 := hmk (w.alloc (.cells #[.slice sv n cv] 23))
  clear hv hmk
  refine (callsIn_wide (n := 3)).1 ?_
  refine callsIn_of_wp_marks Tryz.func51 rfl trivial ?_ rfl
  simp only [Tryz.ntmps51, List.size_toArray, List.length_cons, List.length_nil, Nat.reduceAdd, Nat.reduceSub, Array.replicate_succ, Array.replicate_zero, List.push_toArray, List.append_toArray, List.nil_append, List.cons_append]
  gi_wp2_with fail
  have b1 := b_alloc (w.alloc (.cells #[.slice sv n cv] 23)) (.cells (madeCells #[Value.slice none 0 0] n) 23)
  have hgr1 := Grid.new (w.alloc (.cells #[.slice sv n cv] 23)) w.heap.size n
  have hsA : (w.alloc (.cells #[.slice sv n cv] 23)).heap.size = w.heap.size + 1 := by simp
  rw [hsA] at hgr1
  have hsB : ((w.alloc (.cells #[.slice sv n cv] 23)).alloc (.cells (madeCells #[Value.slice none 0 0] n) 23)).heap.size = w.heap.size + 1 + 1 := by simp
  have bT := Boxed.new ((w.alloc (.cells #[.slice sv n cv] 23)).alloc (.cells (madeCells #[Value.slice none 0 0] n) 23)) 70 (.slice (some ⟨w.heap.size + 1, 0, none⟩) n n)
  rw [hsB] at bT
  have b2 := b_alloc ((w.alloc (.cells #[.slice sv n cv] 23)).alloc (.cells (madeCells #[Value.slice none 0 0] n) 23)) (.cells #[.slice (some ⟨w.heap.size + 1, 0, none⟩) n n] 70)
  have hgr2 := hgr1.next b2
  have bO2 := (bO.alloc (.cells (madeCells #[Value.slice none 0 0] n) 23)).alloc (.cells #[.slice (some ⟨w.heap.size + 1, 0, none⟩) n n] 70)
  have b03 := b_then b0 (b_then b1 b2)
  have hA0 : Hid (Among S G.T 0 (List.replicate n [])) := Lib.hid ⟨by simp [hnl.out], fun q hq => by simp [hnl.out, hq]⟩
  have hG := Lib.hid fun w' (hb : Below w.heap.size w w') => h.next hb
  generalize (((w.alloc (.cells #[.slice sv n cv] 23)).alloc (.cells (madeCells #[Value.slice none 0 0] n) 23)).alloc (.cells #[.slice (some ⟨w.heap.size + 1, 0, none⟩) n n] 70)) = w3 at *
  replace hgr2 := Lib.hid hgr2
  replace bO2 := Lib.hid bO2
  replace bT := Lib.hid bT
  replace b03 := Lib.hid b03
  clear b0 b1 b2 hgr1 hsA hsB bO c0 hmk1 h
  refine wpIn_loop_ghost_k (fun gg a wr => ∃ (p : Nat) (F : List (List Int)) (vs : List Value) (Ds : List Nat) (u6 u7 u17 u18 u19 u20 u21 u22 u23 u24 u43 : Value),
      (p ≤ n ∧ n - p ≤ gg ∧ Hid (Grid wr w.heap.size (w.heap.size + 1) F vs) ∧ Hid (Among S G.T p F) ∧ Hid (Boxed wr w.heap.size 23 (.slice sv n cv)) ∧ Hid (Boxed wr (w.heap.size + 1 + 1) 70 (.slice (some ⟨w.heap.size + 1, 0, none⟩) n n)) ∧ Hid (Below w.heap.size w wr) ∧ Hid (Ds.Nodup ∧ Held Ds wr ∧ ∀ D ∈ Ds, w.heap.size ≤ D)) ∧
      a = { tmps := #[.pointer (some ⟨b, 0, none⟩), .slice sv n cv, undef, .pointer (some ⟨w.heap.size, 0, none⟩), .slice none 0 0, .pointer (some ⟨w.heap.size + 1 + 1, 0, none⟩), u6, u7, undef, undef, undef, .slice sv n cv, .int .i64 (n : Int), .slice (some ⟨w.heap.size + 1, 0, none⟩) n n, .slice sv n cv, .int .i64 (n : Int), .int .i64 (p : Int), u17, u18, u19, u20, u21, u22, u23, u24, undef, undef, undef, undef, undef, undef, undef, undef, undef, undef, undef, undef, undef, undef, undef, undef, undef, undef, u43, undef], defers := later Ds }) n ?start ?round
  case start => exact ⟨0, _, _, [], _, _, _, _, _, _, _, _, _, _, _, ⟨by omega, by omega, hgr2, hA0, bO2, bT, b03, Lib.hid ⟨List.nodup_nil, (fun D hD => by cases hD), fun D hD => by cases hD⟩⟩, rfl⟩
  case round =>
    rintro gk a wr ⟨p, F, vs, Ds, u6, u7, u17, u18, u19, u20, u21, u22, u23, u24, u43, ⟨hp, hgg, hGr, hAm, hb3, hb5, hbw, hDs⟩, rfl⟩ J KK hJ hKK
    clear hgr2 hA0 bO2 bT b03
    by_cases hlt : p < n
    · have hlo : p < S.length := by rw [← hnl.out]; exact hlt
      obtain ⟨gs, off, rfl, ck⟩ := sl_cell hv2.out hbw.out hlo
      have hTg := Lib.hid (targets_calls _ b m G (S[p]?.getD 0) (hG.out _ (b_then hbw.out (b_alloc wr (.cells #[.int .i64 (p : Int)] 3)))))
      have hAl := Lib.hid fun w2 p => Ti.SetAll_calls w2 p
      have l1 : (p : Int) < n := by omega
      have l2 : (0 : Int) ≤ p := by omega
      have hms : Hid (n - (p + 1) < gk) := Lib.hid (by omega)
      have hp2 : Hid (p + 1 ≤ n) := Lib.hid (by omega)
      have hp3 : Hid (p < n ∧ p < S.length) := Lib.hid ⟨hlt, hlo⟩
      have hw1 : IntKind.i64.wrap ((p : Int) + 1) = ((p + 1 : Nat) : Int) := wrap_nat (p + 1) (by omega)
      have hTk : Hid ((G.T (S[p]?.getD 0)).length ≤ 40) := Lib.hid (hS.to _)
      obtain ⟨k, hke⟩ : ∃ k, Hid (S[p]?.getD 0 = k) := ⟨_, Lib.hid rfl⟩
      rw [hke.out] at ck hTg hTk
      clear hlo hgg hlt hp
      gi_wp2_with (first
        | (refine ⟨trivial, ?_⟩; gi_at_call 40; refine (callsIn_wide.2 hTg.out).mono ?_; rintro e w4 ⟨⟨pt, rfl, hpt⟩, hw4⟩; obtain rfl := hw4.symm; clear hw4 hTg)
        | (refine ⟨trivial, ?_⟩; gi_at_call 64; refine (callsIn_wide.2 (hAl.out _ _)).mono ?_; rintro e w4 ⟨rfl, rfl⟩))
      have ba := b_alloc wr (.cells #[.int .i64 (p : Int)] 3)
      have bb := b_alloc (wr.alloc (.cells #[.int .i64 (p : Int)] 3)) (.cells #[.pointer pt] 41)
      have bab := b_then ba bb
      have x6 := (Boxed.new wr 3 (.int .i64 (p : Int))).alloc (.cells #[.pointer pt] 41)
      have xA := Boxed.new (wr.alloc (.cells #[.int .i64 (p : Int)] 3)) 41 (.pointer pt)
      rw [World.size_alloc] at xA
      have hst := Lib.hid (setAll1_stops 2 _ (wr.heap.size + 1) pt (G.T k) xA.cell (hpt.next bb))
      have hlen := hGr.out.len
      have hFl := hAm.out.1
      have hFp := hAm.out.2 p hp3.out.2
      rw [if_neg (Nat.lt_irrefl p)] at hFp
      have hwr : w.heap.size + 1 + 1 < wr.heap.size := hb5.out.lt
      have hI0 : Gone w (.slice (some ⟨gs, off, none⟩) n cv) n p wr.heap.size Ds (F.set p (plc S [])) ((wr.alloc (.cells #[.int .i64 (p : Int)] 3)).alloc (.cells #[.pointer pt] 41)) := by
        have hset : F.set p (plc S []) = F := by
          apply List.ext_getElem?
          intro i
          by_cases e : i = p
          · subst e
            rw [hFp, List.getElem?_set_self (by have := hp3.out.2; omega)]
            rfl
          · rw [List.getElem?_set_ne (Ne.symm e)]
        rw [hset]
        refine ⟨box_below hb3.out bab, box_below hb5.out bab, x6, ⟨vs, hGr.out.next bab, fun v hv e => ?_⟩, b_then hbw.out bab, ?_, hwr⟩
        · obtain ⟨j, hj⟩ := List.mem_iff_getElem?.1 hv
          have hjl : j < F.length := by rw [← hlen]; exact (List.getElem?_eq_some_iff.1 hj).1
          have := ((hGr.out.own j F[j] v (List.getElem?_eq_getElem hjl) hj).lt _ e).2
          omega
        · exact held_grown (row := none) hDs.out.2.1 ⟨bab.os, bab.tape, bab.output, bab.size, fun k hk _ => bab.block k hk⟩ fun q e => by cases e
      have hDlt : ∀ D ∈ Ds, D < ((wr.alloc (.cells #[.int .i64 (p : Int)] 3)).alloc (.cells #[.pointer pt] 41)).heap.size := fun D hD => by
        have := (Array.getElem?_eq_some_iff.1 (hDs.out.2.1 D hD)).1
        simp; omega
      have hsz1 : ((wr.alloc (.cells #[.int .i64 (p : Int)] 3)).alloc (.cells #[.pointer pt] 41)).heap.size = wr.heap.size + 1 + 1 := by simp
      replace hI0 := Lib.hid hI0
      clear hGr hpt ba bb bab x6 xA hb3 hb5
      generalize ((wr.alloc (.cells #[.int .i64 (p : Int)] 3)).alloc (.cells #[.pointer pt] 41)) = W1 at *
      refine wpIn_rangeFunc_ownG rfl (by omega) (gf := 90) (lb := #[.pointer (some ⟨wr.heap.size + 1, 0, none⟩)]) rfl trivial (enters_of Tryz.func90 (by kernel_rfl) rfl)
        hst.out (fun h k => Keeps.trans h k) keeps_put (Below.refl _ _) (fun _ => rfl)
        (fun pre W => Gone w (.slice (some ⟨gs, off, none⟩) n cv) n p wr.heap.size Ds (F.set p (plc S pre)) W)
        (fun _ _ _ => False)
        (gone_own (by omega) hDlt)
        (fun _ _ _ _ _ hs _ _ => hs)
        hI0.out
        (fun x => { tmps := #[.pointer (some ⟨b, 0, none⟩), .slice (some ⟨gs, off, none⟩) n cv, undef, .pointer (some ⟨w.heap.size, 0, none⟩), .slice none 0 0, .pointer (some ⟨w.heap.size + 1 + 1, 0, none⟩), .pointer (some ⟨wr.heap.size, 0, none⟩), .int .i64 k, .int .i64 x, undef, undef, .slice (some ⟨gs, off, none⟩) n cv, .int .i64 (n : Int), .slice (some ⟨w.heap.size + 1, 0, none⟩) n n, .slice (some ⟨gs, off, none⟩) n cv, .int .i64 (n : Int), .int .i64 (p : Int), .bool true, .int .i64 (p : Int), .pointer (some ⟨gs, off + p, none⟩), .int .i64 k, .pointer (some ⟨b, 0, none⟩), .int .i64 k, .pointer pt, .func (.func 90) #[] #[.pointer (some ⟨wr.heap.size + 1, 0, none⟩)], .int .i64 x, undef, undef, undef, undef, undef, undef, undef, undef, undef, undef, undef, undef, undef, undef, undef, undef, undef, u43, undef], defers := [] }) ?assign ?body ?done ?stop
      case assign =>
        intro l x W K hK
        gi_wp2
        exact hK
      case body =>
        rintro l pre x W hGn hlt2
        have hSe := Lib.hid (Search_calls W _ S x (by have := hnl.out; omega) hR (hv2.out.next hGn.below))
        have c3 := hGn.b3.cell
        replace hGn := Lib.hid hGn
        clear hst hI0 hDlt hAl
        gi_wp2_with (refine ⟨trivial, ?_⟩; gi_at_call 82; refine (callsIn_wide.2 hSe.out).mono ?_; rintro e w5 ⟨⟨kx, z, rfl, hz⟩, hw5⟩; obtain rfl := hw5.symm; clear hw5 hSe; rcases hz with ⟨rfl, hz1, hz2⟩ | ⟨rfl, hz1⟩)
        · obtain ⟨hix, hxm⟩ := idx_of_at hR hz1 hz2
          have hpl := plc_snoc_in (L := pre) hxm
          rw [hix] at hpl
          have c5 := hGn.out.b5.cell
          have c6 := hGn.out.b6.cell
          obtain ⟨vs2, hgr, hn6⟩ := hGn.out.grid
          have hFs : (F.set p (plc S pre))[p]? = some (plc S pre) := List.getElem?_set_self (by have := hp3.out.2; omega)
          obtain ⟨vp, hvp, cp, hop⟩ := hgr.at_ hFs
          obtain ⟨va, vc, rfl⟩ := row_shape hop
          have hcell : Hid (∀ w', Below W.heap.size W w' → w'.cell? ⟨w.heap.size + 1 + 1, 0, none⟩ = some (.slice (some ⟨w.heap.size + 1, 0, none⟩) n n) ∧ w'.cell? ⟨wr.heap.size, 0, none⟩ = some (.int .i64 (p : Int))) := Lib.hid fun w' hb =>
            ⟨(hb.cell (p := ⟨w.heap.size + 1 + 1, 0, none⟩) hGn.out.b5.lt).trans c5, (hb.cell (p := ⟨wr.heap.size, 0, none⟩) hGn.out.b6.lt).trans c6⟩
          have cd : W.drew.cell? ⟨w.heap.size + 1, p, none⟩ = some (.slice va (plc S pre).length vc) := cp
          have ce : (W.alloc (.cells #[.int .i64 (kx : Int)] 3)).cell? ⟨w.heap.size + 1, p, none⟩ = some (.slice va (plc S pre).length vc) := ((b_alloc W _).cell (p := ⟨w.heap.size + 1, p, none⟩) hgr.lt).trans cp
          have hz1' := hz1_
          have hz2' := hz2_
          have hop0 : Hid (W.drew.ownsRow w.heap.size 3 1 (.slice va (plc S pre).length vc) (keysV (plc S pre)).length (keysV (plc S pre))) := Lib.hid hop
          have hnew : Hid (∀ (j : Nat) u, [Value.int .i64 (kx : Int)][j]? = some u → (W.drew.alloc (.cells #[.int .i64 (kx : Int)] 3)).cell? ((⟨W.heap.size, 0, none⟩ : Addr).add j) = some u) := Lib.hid (cell_one_new W.drew _ _)
          have hpl1 : (plc S pre).length ≤ 40 := Nat.le_trans (plc_len S pre) (by have := hTk.out; omega)
          have hb1 : Hid ((keysV (plc S pre)).length + 1 ≤ maxLen) := Lib.hid (by rw [keysV_len]; simp [maxLen]; omega)
          have hb2 : Hid (((keysV (plc S pre)).length + 1) * 8 ≤ 140737488355328) := Lib.hid (by rw [keysV_len]; omega)
          have hb3 : Hid (w.heap.size ≤ (W.drew.alloc (.cells #[.int .i64 (kx : Int)] 3)).heap.size) := Lib.hid (by have := hGn.out.below.size; simp; omega)
          have hb4 : Hid ((W.drew.alloc (.cells #[.int .i64 (kx : Int)] 3)).heap.size = W.heap.size + 1) := Lib.hid (by simp)
          have hW0 := b_then (b_drew W) (b_alloc W.drew (.cells #[.int .i64 (kx : Int)] 3))
          have hfin : Hid (∀ g' cap' w2, w2.ownsRow w.heap.size 3 1 (.slice (some ⟨g', 0, none⟩) ((keysV (plc S pre)).length + 1) cap') ((keysV (plc S pre)).length + 1) (keysV (plc S pre) ++ [.int .i64 (kx : Int)]) → (W.drew.alloc (.cells #[.int .i64 (kx : Int)] 3)).grownBy w2 (Value.slice va (plc S pre).length vc).ownBlock → ((Value.slice va (plc S pre).length vc).ownBlock = some g' ∨ g' = W.heap.size + 1) →
              w2.cell? ⟨w.heap.size + 1, p, none⟩ = some (.slice va (plc S pre).length vc) ∧ w2.frozen? ⟨w.heap.size + 1, p, none⟩ = false ∧ w2.cell? ⟨w.heap.size + 1 + 1, 0, none⟩ = some (.slice (some ⟨w.heap.size + 1, 0, none⟩) n n) ∧ w2.cell? ⟨wr.heap.size, 0, none⟩ = some (.int .i64 (p : Int)) ∧
              Hid ((w2.setCell ⟨w.heap.size + 1, p, none⟩ (.slice (some ⟨g', 0, none⟩) ((keysV (plc S pre)).length + 1) cap')).cell? ⟨w.heap.size + 1 + 1, 0, none⟩ = some (.slice (some ⟨w.heap.size + 1, 0, none⟩) n n) ∧ (w2.setCell ⟨w.heap.size + 1, p, none⟩ (.slice (some ⟨g', 0, none⟩) ((keysV (plc S pre)).length + 1) cap')).cell? ⟨wr.heap.size, 0, none⟩ = some (.int .i64 (p : Int)) ∧
                KeepsFrom W1.heap.size W (w2.setCell ⟨w.heap.size + 1, p, none⟩ (.slice (some ⟨g', 0, none⟩) ((keysV (plc S pre)).length + 1) cap')) ∧ Keeps W (w2.setCell ⟨w.heap.size + 1, p, none⟩ (.slice (some ⟨g', 0, none⟩) ((keysV (plc S pre)).length + 1) cap')) ∧
                Gone w (.slice (some ⟨gs, off, none⟩) n cv) n p wr.heap.size Ds (F.set p (plc S (pre ++ [x]))) (w2.setCell ⟨w.heap.size + 1, p, none⟩ (.slice (some ⟨g', 0, none⟩) ((keysV (plc S pre)).length + 1) cap')))) := Lib.hid fun g' cap' w2 ho' hgrow hat => by
            have hln : (keysV (plc S pre)).length + 1 = (keysV (plc S pre ++ [(kx : Int)])).length := by rw [keysV_snoc]; simp
            have ho2 : w2.ownsRow w.heap.size 3 1 (.slice (some ⟨g', 0, none⟩) ((keysV (plc S pre)).length + 1) cap') (keysV (plc S pre ++ [(kx : Int)])).length (keysV (plc S pre ++ [(kx : Int)])) := by
              rw [← hln, keysV_snoc]; exact ho'
            obtain ⟨cg, fg, hG2, hb7⟩ := hgr.appended (v' := .slice (some ⟨g', 0, none⟩) ((keysV (plc S pre)).length + 1) cap') (x := (kx : Int)) hFs hvp hW0 ho2 hgrow (by
              rcases hat with e | e
              · exact Or.inl e.symm
              · exact Or.inr ⟨g', rfl, by omega⟩) (Nat.le_succ _)
            have hne6 : (Value.slice va (plc S pre).length vc).ownBlock ≠ some wr.heap.size := hn6 _ (List.mem_of_getElem? hvp)
            have hW0s : (W.drew.alloc (.cells #[.int .i64 (kx : Int)] 3)).heap.size = W.heap.size + 1 := hb4.out
            have d3 : Boxed w2 w.heap.size 23 (.slice (some ⟨gs, off, none⟩) n cv) := (box_below hGn.out.b3 hW0).kept hgrow ((box_below hGn.out.b3 hW0).not_row (by decide) (hop0.out.alloc _))
            have d5 : Boxed w2 (w.heap.size + 1 + 1) 70 (.slice (some ⟨w.heap.size + 1, 0, none⟩) n n) := (box_below hGn.out.b5 hW0).kept hgrow ((box_below hGn.out.b5 hW0).not_row (by decide) (hop0.out.alloc _))
            have d6 : Boxed w2 wr.heap.size 3 (.int .i64 (p : Int)) := (box_below hGn.out.b6 hW0).kept hgrow (fun e => hne6 e.symm)
            have hset : (F.set p (plc S pre)).set p (plc S pre ++ [(kx : Int)]) = F.set p (plc S (pre ++ [x])) := by rw [List.set_set, hpl]
            rw [hset] at hG2
            have hkeep : ∀ {b : Nat} {t : TypeId} {v : Value}, Boxed w2 b t v → b ≠ w.heap.size + 1 → Boxed (w2.setCell ⟨w.heap.size + 1, p, none⟩ (.slice (some ⟨g', 0, none⟩) ((keysV (plc S pre)).length + 1) cap')) b t v := fun {b t v} hb hne => (Below.heap_setCell _ _ _ b hne).trans hb
            have e3 := hkeep d3 (by omega)
            have e5 := hkeep d5 (by omega)
            have e6 := hkeep d6 (by omega)
            have hblk2 : ∃ c z, w2.heap[w.heap.size + 1]? = some (.cells c 23 z) := by
              have h1 := hgrow.block (w.heap.size + 1) (by rw [hW0s]; have := hgr.lt; omega) (fun e => by
                rcases hop.2 with ⟨e2, _⟩ | ⟨g9, cap9, cur9, e2, _, hb9, _⟩
                · rw [e2] at e; simp [Value.ownBlock] at e
                · rw [e2] at e
                  have e3 : w.heap.size + 1 = g9 := by simpa [Value.ownBlock] using e
                  rw [← e3, hgr.blk] at hb9
                  simp at hb9)
              exact ⟨_, _, h1.trans ((hW0.block _ hgr.lt).trans hgr.blk)⟩
            obtain ⟨c8, z8, hblk2⟩ := hblk2
            have hrow : ∀ q, (Value.slice va (plc S pre).length vc).ownBlock = some q → ∃ c t z, (W.drew.alloc (.cells #[.int .i64 (kx : Int)] 3)).heap[q]? = some (Obj.cells c t z) := fun q e => by
              rcases (hop0.out.alloc (.cells #[.int .i64 (kx : Int)] 3)).2 with ⟨e2, _⟩ | ⟨g9, cap9, cur9, e2, _, hb9, _⟩
              · rw [e2] at e; simp [Value.ownBlock] at e
              · rw [e2] at e
                have e3 : g9 = q := by simpa [Value.ownBlock] using e
                exact ⟨_, _, _, e3 ▸ hb9⟩
            refine ⟨cg, fg, d5.cell, d6.cell, Lib.hid ⟨e5.cell, e6.cell, ?_, ⟨?_, ?_⟩, ⟨e3, e5, e6, ⟨_, hG2, fun v hv => ?_⟩, hGn.out.below.trans hb7, ?_, hGn.out.first⟩⟩⟩
            · refine (((KeepsOthers.drew W).trans (KeepsOthers.alloc W.drew _)).trans ((KeepsOthers.of_grownBy hgrow fun j o ej hj => ?_).trans (KeepsOthers.setCell _ _ _))).from _
              obtain ⟨c9, t9, z9, h9⟩ := hrow j ej
              rw [h9] at hj; cases hj; rfl
            · exact (stays_below hW0).trans ((stays_row (by decide) (hop0.out.alloc _) hgrow).trans (stays_at hblk2 (by decide) _ _))
            · exact (stays_below hW0).trans ((stays_row (by decide) (hop0.out.alloc _) hgrow).trans (stays_at hblk2 (by decide) _ _))
            · rcases List.mem_or_eq_of_mem_set hv with hv | rfl
              · exact hn6 v hv
              · intro e
                have e9 : g' = wr.heap.size := by simpa [Value.ownBlock] using e
                rcases hat with e8 | e8
                · rw [e9] at e8; exact hne6 e8
                · have := hGn.out.b6.lt; omega
            · refine held_grown (row := some (w.heap.size + 1)) (held_grown (held_grown (row := none) hGn.out.held ⟨hW0.os, hW0.tape, hW0.output, hW0.size, fun k hk _ => hW0.block k hk⟩ fun q e => by cases e) hgrow fun q e => hrow q e) ⟨rfl, rfl, rfl, by simp [World.setCell], fun k _ hk => Below.heap_setCell _ _ _ k fun e => hk (by rw [e])⟩ fun q e => ?_
              have e9 : w.heap.size + 1 = q := by simpa using e
              subst e9
              exact ⟨_, _, _, hblk2⟩
          refine region_round (S := (fun w' => w'.cell? ⟨w.heap.size + 1 + 1, 0, none⟩ = some (.slice (some ⟨w.heap.size + 1, 0, none⟩) n n) ∧ w'.cell? ⟨wr.heap.size, 0, none⟩ = some (.int .i64 (p : Int)))) (by kernel_rfl) (by kernel_rfl) (fun ⟨_, _, h⟩ => h) (hcell.out _ (b_drew W)) (fun hHeld => ?_)
          refine wpAnyH_take (i := 0) (oi := { dst := some 33, op := _, type := _, pos := _, after := _, guard := none }) (v := ?vq2) rfl (by kernel_rfl) (by kernel_rfl) (by kernel_rfl) (fun _ _ _ h => h) (Or.inl ⟨by rfl, ?hyq2⟩) (by assumption) ?restq2
          case hyq2 => (intro w hSw; (try dsimp only at hSw); go_simp <;> with_reducible rfl)
          (try simp only [Act.put, List.setIfInBounds_toArray, List.set_cons_zero, List.set_cons_succ])
          refine wpAnyH_take (i := 1) (oi := { dst := some 34, op := _, type := _, pos := _, after := _, guard := none }) (v := ?vq3) rfl (by kernel_rfl) (by kernel_rfl) (by kernel_rfl) (fun _ _ _ h => h) (Or.inl ⟨by rfl, ?hyq3⟩) (by assumption) ?restq3
          case hyq3 => (intro w hSw; (try dsimp only at hSw); go_simp <;> with_reducible rfl)
          (try simp only [Act.put, List.setIfInBounds_toArray, List.set_cons_zero, List.set_cons_succ])
          refine wpAnyH_take (i := 2) (oi := { dst := some 35, op := _, type := _, pos := _, after := _, guard := none }) (v := ?vq4) rfl (by kernel_rfl) (by kernel_rfl) (by kernel_rfl) (fun _ _ _ h => h) (Or.inl ⟨by rfl, ?hyq4⟩) (by assumption) ?restq4
          case hyq4 => (intro w hSw; (try dsimp only at hSw); go_simp <;> with_reducible rfl)
          (try simp only [Act.put, List.setIfInBounds_toArray, List.set_cons_zero, List.set_cons_succ])
          refine wpAnyH_take (i := 3) (oi := { dst := some 36, op := _, type := _, pos := _, after := _, guard := none }) (v := ?vq5) rfl (by kernel_rfl) (by kernel_rfl) (by kernel_rfl) (fun _ _ _ h => h) (Or.inl ⟨by rfl, ?hyq5⟩) (by assumption) ?restq5
          case hyq5 => (intro w hSw; (try dsimp only at hSw); go_simp <;> with_reducible rfl)
          (try simp only [Act.put, List.setIfInBounds_toArray, List.set_cons_zero, List.set_cons_succ])
          refine wpAnyH_take (i := 4) (oi := { dst := some 37, op := _, type := _, pos := _, after := _, guard := none }) (v := ?vq6) rfl (by kernel_rfl) (by kernel_rfl) (by kernel_rfl) (fun _ _ _ h => h) (Or.inl ⟨by rfl, ?hyq6⟩) (by assumption) ?restq6
          case hyq6 => (intro w hSw; (try dsimp only at hSw); go_simp <;> with_reducible rfl)
          (try simp only [Act.put, List.setIfInBounds_toArray, List.set_cons_zero, List.set_cons_succ])
          refine wpAnyH_take (i := 6) (oi := { dst := some 39, op := _, type := _, pos := _, after := _, guard := none }) (v := ?vq7) rfl (by kernel_rfl) (by kernel_rfl) (by kernel_rfl) (fun _ _ _ h => h) (Or.inl ⟨by rfl, ?hyq7⟩) (by assumption) ?restq7
          case hyq7 => (intro w hSw; (try dsimp only at hSw); go_simp <;> with_reducible rfl)
          (try simp only [Act.put, List.setIfInBounds_toArray, List.set_cons_zero, List.set_cons_succ])
          refine wpAnyH_ready (rs := [5, 7]) (by kernel_rfl) (by simp) ?_
          refine AllReadyH.cons (o := { dst := some 38, op := _, type := _, pos := _, after := _, guard := none }) rfl (fun K hK => ?_) ?_
          · go_simp
            refine hK.out _ _ (by first | exact hcell.out _ (b_drew W) | exact hcell.out _ (b_then (b_drew W) (b_alloc _ _))) (fun hHeld => ?_)
            clear hK K
            (try simp only [Act.put, List.setIfInBounds_toArray, List.set_cons_zero, List.set_cons_succ])
            refine wpAnyH_ready (rs := [7]) (by kernel_rfl) (by simp) ?_
            refine AllReadyH.cons (o := { dst := some 40, op := _, type := _, pos := _, after := _, guard := none }) rfl (fun K hK => ?_) AllReadyH.nil
            go_simp
            refine hK.out _ _ (hcell.out _ (b_then (b_drew W) (b_alloc _ _))) (fun hHeld => ?_)
            clear hK K
            (try simp only [Act.put, List.setIfInBounds_toArray, List.set_cons_zero, List.set_cons_succ])
            refine wpAnyH_ready (rs := [8]) (by kernel_rfl) (by simp) ?_
            refine AllReadyH.cons (o := { dst := some 41, op := _, type := _, pos := _, after := _, guard := none }) rfl (fun K hK => ?_) AllReadyH.nil
            (refine step_append_lies _ rfl _ _ 23 rfl w.heap.size 3 i0 (.int .i64 0) 1 8 Tryz.underlying23 hi hz0 hz1' hz2' rfl (by decide) _ _ _ rfl (hop0.out.alloc _) ⟨W.heap.size, 0, none⟩ 1 1 [.int .i64 (kx : Int)] rfl rfl hnew.out (by simp [Value.oneCell']) (by decide) hb1.out hb2.out hb3.out (W.heap.size + 1) hb4.out ?_; intro g' cap' w2 ho' hgrow hat hlt3; obtain ⟨cg, fg, c52, c62, hend⟩ := hfin.out g' cap' w2 ho' hgrow hat; clear ho' hgrow hat hlt3)
            refine hK.out _ _ (⟨c52, c62⟩) (fun hHeld => ?_)
            clear hK K
            (try simp only [Act.put, List.setIfInBounds_toArray, List.set_cons_zero, List.set_cons_succ])
            refine wpAnyH_take (i := 9) (oi := { dst := some 42, op := _, type := _, pos := _, after := _, guard := none }) (v := ?vq8) rfl (by kernel_rfl) (by kernel_rfl) (by kernel_rfl) (fun _ _ _ h => h) (Or.inl ⟨by rfl, ?hyq8⟩) (by assumption) ?restq8
            case hyq8 => (intro w hSw; (try dsimp only at hSw); go_simp <;> with_reducible rfl)
            (try simp only [Act.put, List.setIfInBounds_toArray, List.set_cons_zero, List.set_cons_succ])
            refine wpAnyH_ready (rs := [10]) (by kernel_rfl) (by simp) ?_
            refine AllReadyH.cons (o := { dst := none, op := _, type := _, pos := _, after := _, guard := none }) rfl (fun K hK => ?_) AllReadyH.nil
            go_simp
            refine hK.out _ _ (⟨hend.out.1, hend.out.2.1⟩) (fun hHeld => ?_)
            clear hK K
            (try simp only [Act.put, List.setIfInBounds_toArray, List.set_cons_zero, List.set_cons_succ])
            refine wpAnyH_done (by kernel_rfl) ?_ _
            exact hend.out.2.2
          refine AllReadyH.cons (o := { dst := some 40, op := _, type := _, pos := _, after := _, guard := none }) rfl (fun K hK => ?_) AllReadyH.nil
          go_simp
          refine hK.out _ _ (hcell.out _ (b_then (b_drew W) (b_alloc _ _))) (fun hHeld => ?_)
          clear hK K
          (try simp only [Act.put, List.setIfInBounds_toArray, List.set_cons_zero, List.set_cons_succ])
          refine wpAnyH_ready (rs := [5]) (by kernel_rfl) (by simp) ?_
          refine AllReadyH.cons (o := { dst := some 38, op := _, type := _, pos := _, after := _, guard := none }) rfl (fun K hK => ?_) AllReadyH.nil
          go_simp
          refine hK.out _ _ (by first | exact hcell.out _ (b_drew W) | exact hcell.out _ (b_then (b_drew W) (b_alloc _ _))) (fun hHeld => ?_)
          clear hK K
          (try simp only [Act.put, List.setIfInBounds_toArray, List.set_cons_zero, List.set_cons_succ])
          refine wpAnyH_ready (rs := [8]) (by kernel_rfl) (by simp) ?_
          refine AllReadyH.cons (o := { dst := some 41, op := _, type := _, pos := _, after := _, guard := none }) rfl (fun K hK => ?_) AllReadyH.nil
          (refine step_append_lies _ rfl _ _ 23 rfl w.heap.size 3 i0 (.int .i64 0) 1 8 Tryz.underlying23 hi hz0 hz1' hz2' rfl (by decide) _ _ _ rfl (hop0.out.alloc _) ⟨W.heap.size, 0, none⟩ 1 1 [.int .i64 (kx : Int)] rfl rfl hnew.out (by simp [Value.oneCell']) (by decide) hb1.out hb2.out hb3.out (W.heap.size + 1) hb4.out ?_; intro g' cap' w2 ho' hgrow hat hlt3; obtain ⟨cg, fg, c52, c62, hend⟩ := hfin.out g' cap' w2 ho' hgrow hat; clear ho' hgrow hat hlt3)
          refine hK.out _ _ (⟨c52, c62⟩) (fun hHeld => ?_)
          clear hK K
          (try simp only [Act.put, List.setIfInBounds_toArray, List.set_cons_zero, List.set_cons_succ])
          refine wpAnyH_take (i := 9) (oi := { dst := some 42, op := _, type := _, pos := _, after := _, guard := none }) (v := ?vq9) rfl (by kernel_rfl) (by kernel_rfl) (by kernel_rfl) (fun _ _ _ h => h) (Or.inl ⟨by rfl, ?hyq9⟩) (by assumption) ?restq9
          case hyq9 => (intro w hSw; (try dsimp only at hSw); go_simp <;> with_reducible rfl)
          (try simp only [Act.put, List.setIfInBounds_toArray, List.set_cons_zero, List.set_cons_succ])
          refine wpAnyH_ready (rs := [10]) (by kernel_rfl) (by simp) ?_
          refine AllReadyH.cons (o := { dst := none, op := _, type := _, pos := _, after := _, guard := none }) rfl (fun K hK => ?_) AllReadyH.nil
          go_simp
          refine hK.out _ _ (⟨hend.out.1, hend.out.2.1⟩) (fun hHeld => ?_)
          clear hK K
          (try simp only [Act.put, List.setIfInBounds_toArray, List.set_cons_zero, List.set_cons_succ])
          refine wpAnyH_done (by kernel_rfl) ?_ _
          exact hend.out.2.2
        · have hpl := plc_snoc_out (L := pre) hz1
          refine ⟨KeepsFrom.refl _ _, ⟨Ti.nodes_refl _, fun _ _ _ h => h⟩, ?_⟩
          show Gone _ _ _ _ _ _ (F.set p (plc S (pre ++ [x]))) _
          rw [hpl]; exact hGn.out
      case done =>
        rintro D ys W hD rfl hGn hK
        have hnew : Hid ((D :: Ds).Nodup ∧ Held (D :: Ds) W ∧ ∀ E ∈ D :: Ds, w.heap.size ≤ E) := Lib.hid ⟨List.nodup_cons.2 ⟨fun e => by have := hDlt D e; omega, hDs.out.1⟩, fun E hE => (List.mem_cons.1 hE).elim (fun e => by rw [e]; exact hK) (hGn.held E), fun E hE => (List.mem_cons.1 hE).elim (fun e => by omega) (hDs.out.2.2 E)⟩
        obtain ⟨vs2, hg2, -⟩ := hGn.grid
        have hAm2 : Hid (Among S G.T (p + 1) (F.set p (plc S (G.T k)))) := Lib.hid ⟨by simp [hFl], fun q hq => by
          by_cases e : q = p
          · subst e
            rw [List.getElem?_set_self (by omega), if_pos (by omega), hke.out]
          · rw [List.getElem?_set_ne (Ne.symm e), hAm.out.2 q hq]
            by_cases h : q < p
            · rw [if_pos h, if_pos (by omega)]
            · rw [if_neg h, if_neg (by omega)]⟩
        replace hg2 := Lib.hid hg2
        have y3 := Lib.hid hGn.b3
        have y5 := Lib.hid hGn.b5
        have yb := Lib.hid hGn.below
        clear hGn hDlt hD hK hI0 hst hAm hAl
        gi_wp2
        exact ⟨n - (p + 1), hms.out, hJ _ _ _ ⟨p + 1, _, vs2, D :: Ds, _, _, _, _, _, _, _, _, _, _, _, ⟨hp2.out, Nat.le_refl _, hg2, hAm2, y3, y5, yb, hnew⟩, rfl⟩⟩
      case stop =>
        rintro D c pre W _ _ h _
        exact h.elim
    · obtain rfl : p = n := by omega
      have l1 : ¬ (p : Int) < p := by omega
      have c5 := hb5.out.cell
      have hAe := Lib.hid hAm.out
      clear hJ hKK
      gi_wp2
      refine leaves_all Ds _ hDs.out.1 hDs.out.2.1 fun W' g1 g2 g3 g4 g5 => ?_
      have hcs : ∀ (k : Nat) (c : Array Value) (t : TypeId) (z : Nat × Nat), wr.heap[k]? = some (Obj.cells c t z) → W'.heap[k]? = some (Obj.cells c t z) := fun k c t z hk => (g1 k fun e => by rw [hDs.out.2.1 k e] at hk; cases hk).trans hk
      have hrd := (hGr.out.cells_ hcs).reads (n := p) (cap := p) (by rw [hAe.out.1]; exact hnl.out)
      refine ⟨_, results_tmp rfl _ _ _, .slice (some ⟨w.heap.size + 1, 0, none⟩) p p, F, rfl, by rw [← hnl.out]; exact hAe.out, hrd, ?_⟩
      exact ⟨g3.trans hbw.out.os, g4.trans hbw.out.tape, g5.trans hbw.out.output, by rw [g2]; exact hbw.out.size, fun k hk => (g1 k fun e => by have := hDs.out.2.2 k e; omega).trans (hbw.out.block k hk)⟩
end Go.Proofs.YtcoccaglbepbdaaGreat.Gr
