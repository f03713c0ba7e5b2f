/-
  The document's right and Log answer what a list's facts say; old memory stays. Conditions: lists of no more than a hundred thousand, heights below the greatest int.
-/
import Derived.Test.YtbjpogeemajhoaaRows
import Derived.Test.YtbjpogeemajhoaaOrMap
import Derived.Test.YtbjpogeemajhoaaOrHigh
import Derived.Test.YtbjpogeemajhoaaOrFall
import Derived.Test.YtbjpogeemajhoaaOrLog
import Derived.Test.YtbjpogeemajhoaaOrRef
import Derived.Deep.Cut
import Derived.Deep.LoopGhost
import Derived.Deep.RegionHeld3
namespace Go.Proofs.Ytbjpogeemajhoaa.Or
open Go Go.RowKit

/-- append(facts, x), as the walk stands at it -/
theorem wp_append_fx {ops : Array Oper} {rest : List Oper} {o : Oper} {a : Act} {Q : Exit → Act → World → Prop} {w : World} (hgd : o.guard = none) (s x : Operand)
    (ho : o.op = .call { callee := .builtin .append, args := #[s, x], argTypes := #[25, 25] })
    (B : Nat) (v : Value) (L : List Fx) (l : Fx) (hs : a.eval s = v) (hx : a.eval x = .slice (some ⟨w.heap.size, 0, none⟩) 1 1)
    (hown : OwnX B w v L) (hB : B ≤ w.heap.size) (hlen : L.length ≤ 1099511627776)
    (h : ∀ v' w', OwnX B w' v' (L ++ [l]) → (∀ u, Below B u w → Below B u w') → wpList Try.prog ops Q rest (a.put o.dst v') w') : wpList Try.prog ops Q (o :: rest) a (w.alloc (.cells #[.string l.f.id, .int .i64 l.f.high, .slice l.pa l.f.pars.length l.pc] 24)) := by
  obtain ⟨i0, hi, hz0, hz1, hz2⟩ := info_parts infoFct
  have hoA := World.ownsRow.alloc hown (.cells #[.string l.f.id, .int .i64 l.f.high, .slice l.pa l.f.pars.length l.pc] 24)
  have hnews : ∀ (j : Nat) (u : Value), l.cells[j]? = some u → (w.alloc (.cells #[.string l.f.id, .int .i64 l.f.high, .slice l.pa l.f.pars.length l.pc] 24)).cell? ((⟨w.heap.size, 0, none⟩ : Addr).add j) = some u := fun j u hj => by
    match j, hj with
    | 0, hj => simp [Fx.cells] at hj; subst hj; simp [Addr.add]
    | 1, hj => simp [Fx.cells] at hj; subst hj; simp [Addr.add]
    | 2, hj => simp [Fx.cells] at hj; subst hj; simp [Addr.add]
    | j + 3, hj => simp [Fx.cells] at hj
  refine wpList_append_own _ hgd s x 25 ho B 24 i0 (.agg #[.string ⟨#[]⟩, .int .i64 0, .slice none 0 0]) 3 48 Try.underlying25 hi hz0 hz1 hz2 rfl (by decide) v L.length (rowF L) hs hoA ⟨w.heap.size, 0, none⟩ 1 1 l.cells hx rfl hnews
    (fun u hu => by simp [Fx.cells] at hu; rcases hu with rfl | rfl | rfl <;> rfl) (by unfold maxLen; omega) (by omega) (by simp; omega) ?_
  intro v' w' hown' hgrow hnil
  refine h v' w' (by unfold OwnX; rw [← rowF_snoc, List.length_append]; exact hown') fun u hu => ?_
  exact (hu.alloc hB (.cells #[.string l.f.id, .int .i64 l.f.high, .slice l.pa l.f.pars.length l.pc] 24)).grown hgrow (by simp; omega) (fun k hk => (World.ownsRow.lt hoA k hk).1)
theorem OwnX.box {B : Nat} {w : World} {v : Value} {L : List Fx} (h : OwnX B w v L) : ∃ a cap, v = .slice a L.length cap := by
  obtain ⟨a, cap, _, _, e, _⟩ := h.at_
  exact ⟨a, cap, e⟩
theorem highs_snoc {L : List Fct} {P : List ByteArray} {k : Nat} {z : ByteArray} {g : Fct} (ho : Once L) (hk : P[k]? = some z) (hg : g ∈ L) (e : g.id = z) : highs L (P.take (k + 1)) = highs L (P.take k) ++ [g.high] := by
  unfold highs
  rw [List.take_add_one, hk, List.map_append]
  subst e
  simp [find_fact ho hg]
theorem highs_mem {L : List Fx} {P : List ByteArray} (ho : Once (plain L)) (hw : ∀ z ∈ P, ∃ g ∈ L, g.f.id = z) {n : Int} (h : n ∈ highs (plain L) P) : ∃ g ∈ L, g.f.high = n := by
  unfold highs at h
  obtain ⟨z, hz, rfl⟩ := List.mem_map.1 h
  obtain ⟨g, hg, rfl⟩ := hw z hz
  exact ⟨g, hg, by rw [find_fact ho (List.mem_map.2 ⟨g, hg, rfl⟩)]; rfl⟩
set_option maxRecDepth 100000 in
set_option maxHeartbeats 2000000 in
/-- the document's right -/
theorem RRight_calls (w : World) (a : Option Addr) (cap b off : Nat) (L : List Fx) (x : Fx) (h : Fine w a b off L) (hp : Pars w x) (hxl : x.f.pars.length ≤ 100000) (ho : Once (plain L)) (hw : ∀ z ∈ x.f.pars, ∃ g ∈ L, g.f.id = z) :
    Calls Try.prog 37 #[.slice a L.length cap, x.val] w fun e w' => e = .returned (.bool (decide (Right (plain L) x.f))) ∧ Below w.heap.size w w' := by
  have hbox := Lib.hid (FxBlk.new w x)
  have hA := b_alloc w (.cells #[.string x.f.id, .int .i64 x.f.high, .slice x.pa x.f.pars.length x.pc] 24)
  obtain ⟨w0, hw0⟩ : ∃ w0, w0 = w.alloc (.cells #[.string x.f.id, .int .i64 x.f.high, .slice x.pa x.f.pars.length x.pc] 24) := ⟨_, rfl⟩
  rw [← hw0] at hbox hA
  have hA2 := b_alloc w0 (.cells #[] 3)
  have hO1 := Lib.hid (OwnN.new w0 w0.heap.size (Nat.le_refl _))
  have hb1 := Lib.hid (b_then hA hA2)
  have hb01 := Lib.hid hA2
  have hX1 := Lib.hid (hbox.out.next hA2)
  have hPl := Lib.hid fun w' (bb : Below w.heap.size w w') (s : ByteArray) => place_calls w' a cap b off L s (h.at_.next bb) h.few
  have hF := Lib.hid h
  obtain ⟨-, pb, po, hT⟩ := hp
  replace hT := Lib.hid hT
  have hend : Hid (highs (plain L) (x.f.pars.take x.f.pars.length) = highs (plain L) x.f.pars ∧ (highs (plain L) x.f.pars).length = x.f.pars.length) := Lib.hid ⟨by rw [List.take_length], by unfold highs; rw [List.length_map]⟩
  have hlen : Hid (∀ k, k ≤ x.f.pars.length → (highs (plain L) (x.f.pars.take k)).length = k) := Lib.hid fun k hk => by unfold highs; rw [List.length_map, List.length_take]; omega
  have hwf : Hid (∀ n ∈ highs (plain L) x.f.pars, (Lit.int .i64 n).wf = true) := Lib.hid fun n hn => by
    obtain ⟨g, hg, rfl⟩ := highs_mem ho hw hn
    exact h.facts.wf g hg
  have hsm : Hid (Ob.hgt (fun i => (highs (plain L) x.f.pars)[i]?.getD 0) x.f.pars.length = height (highs (plain L) x.f.pars)) := Lib.hid (by
    rw [← hend.out.2]
    refine hgt_height _ fun n hn => ?_
    obtain ⟨g, hg, rfl⟩ := highs_mem ho hw hn
    exact ⟨(wf_range (h.facts.wf g hg)).1, h.high g hg⟩)
  obtain ⟨r, hr⟩ : ∃ r, r = height (highs (plain L) x.f.pars) := ⟨_, rfl⟩
  rw [← hr] at hsm
  have hdr : Hid (decide (Right (plain L) x.f) = decide (x.f.high = r)) := Lib.hid (decide_eq_decide.2 (by unfold Right; rw [← hr]))
  rw [hdr.out]
  replace hr := Lib.hid hr
  replace ho := Lib.hid ho
  replace hw := Lib.hid hw
  obtain ⟨n, hn⟩ : ∃ n, Hid (n = L.length) := ⟨_, Lib.hid rfl⟩
  have hl := h.few
  rw [← hn.out] at hPl hl ⊢
  dsimp only [Fx.val]
  clear h hA hA2 hbox
  go_enter Try.func37, Try.ntmps37
  have hw00 : Hid (w.heap.size ≤ w0.heap.size) := Lib.hid (by rw [hw0]; simp)
  have hw01 : Hid (w.heap.size < w0.heap.size) := Lib.hid (by rw [hw0]; simp)
  go_upto_region 1 with (fail)
  rw [← hw0]
  clear hw0
  go_wp2_with fail
  generalize w0.alloc (.cells #[] 3) = w1 at *
  go_loopw [5, 6] (fun v i wr => ∃ k : Nat, k ≤ x.f.pars.length ∧ i = .int .i64 (k : Int) ∧ OwnN w0.heap.size wr v (highs (plain L) (x.f.pars.take k)) ∧ Below w.heap.size w wr ∧ Below w0.heap.size w1 wr ∧ FxBlk wr w.heap.size x) (fun _ i _ => x.f.pars.length - (intOf i).toNat)
  case atStart => exact ⟨0, Nat.zero_le _, rfl, by simpa [highs] using hO1.out, hb1.out, Below.refl _ _, hX1.out⟩
  case round =>
    obtain ⟨k, hk, rfl, hown, hb, hb0, hX⟩ := hrel
    clear hO1
    obtain ⟨x0, x1, x2⟩ := hX.cell
    by_cases hlt : k < x.f.pars.length
    · have hyx : ∃ z, x.f.pars[k]? = some z ∧ z ∈ x.f.pars := ⟨x.f.pars[k], List.getElem?_eq_getElem hlt, List.getElem_mem hlt⟩
      obtain ⟨z, hz, hzP⟩ := hyx
      have hT2 := hT.out.below hb (fun h0 => hT.out.where_ h0)
      have ct := hT2.cell k z hz
      have hpa := hT.out.addr (by omega)
      rw [hpa] at x2
      have k1 : (k : Int) < x.f.pars.length := by omega
      have k0 : 0 ≤ (k : Int) := by omega
      have hwk : IntKind.i64.wrap ((k : Int) + 1) = ((k + 1 : Nat) : Int) := wrapN k (by omega)
      have hwk2 : wrap64 ((k : Int) + 1) = ((k + 1 : Nat) : Int) := wrap_next k (by omega)
      have hms : Hid (x.f.pars.length - (k + 1) < x.f.pars.length - k) := Lib.hid (by omega)
      have hkl : Hid (k + 1 ≤ x.f.pars.length) := Lib.hid hlt
      have hPlc := Lib.hid (hPl.out wr hb z)
      have hsnoc := Lib.hid fun g (hg : g ∈ plain L) (e : g.id = z) => highs_snoc ho.out hz hg e
      have hl2 : (highs (plain L) (x.f.pars.take k)).length ≤ 1099511627776 := by rw [hlen.out k hk]; omega
      obtain ⟨ga, gc, rfl⟩ := hown.box
      have hgz : Hid (∃ g ∈ L, g.f.id = z) := Lib.hid (hw.out z hzP)
      replace hb := Lib.hid hb
      replace hb0 := Lib.hid hb0
      replace hown := Lib.hid hown
      generalize highs (plain L) (x.f.pars.take k) = N at *
      clear hT2 hpa hlt hk hz hzP
      go_wp2_with fail
      refine hPlc.out.mono ?_
      rintro e w' ⟨⟨p, rfl, hp⟩, rfl⟩
      clear hPlc ct
      rcases hp with ⟨_, hno⟩ | ⟨j, q, rfl, hj, hqz, -⟩
      · obtain ⟨g, hg, e⟩ := hgz.out
        exact absurd e (hno g hg)
      · have hjn : j < n := by rw [hn.out]; exact (List.getElem?_eq_some_iff.1 hj).1
        have j1 : (j : Int) < n := by omega
        have j0 : 0 ≤ (j : Int) := by omega
        have hL2 := hF.out.at_.next hb.out
        have cj := hL2.high j q hj
        obtain rfl := hF.out.at_.addr (by have := hn.out; omega)
        have hns := Lib.hid (hsnoc.out q.f (List.mem_map.2 ⟨q, List.mem_of_getElem? hj, rfl⟩) hqz)
        have hown' := hown.out
        have hbs0 : Hid (w0.heap.size ≤ wr.heap.size) := Lib.hid (Nat.le_trans hb01.out.size hb0.out.size)
        clear hsnoc hL2 hj hqz hjn hgz
        go_wp2_with (first
          | (at_builtin; refine wp_append_n rfl _ _ rfl w0.heap.size (.slice ga N.length gc) N q.f.high rfl rfl hown' hbs0.out hl2 ?_; intro v' w' ho' hb')
          | go_in)
        have hb2 := hb' _ hb0.out
        have hbw : Below w.heap.size w w' := hb1.out.trans (hb2.mono hw00.out)
        have hX2 := hX1.out.below hb2 hw01.out
        go_roundw
        case measure => simp [intOf]; exact hms.out
        case rel => exact ⟨k + 1, hkl.out, by simp, by rw [hns.out]; exact ho', hbw, hb2, hX2⟩
    · obtain rfl : k = x.f.pars.length := by omega
      rw [hend.out.1] at hown
      obtain ⟨a2, c2, b2, o2, rfl, hI⟩ := hown.at_ hwf.out
      rw [hend.out.2] at hI ⊢
      have hH := Lib.hid (Ob.RHeight_calls a2 x.f.pars.length c2 b2 o2 _ wr.drew ⟨hI.addr, hI.cell, hI.wf⟩ (by omega))
      rw [hsm.out] at hH
      have d0 : ¬ (x.f.pars.length : Int) < x.f.pars.length := by omega
      have x1' : wr.drew.cell? ⟨w.heap.size, 1, none⟩ = some (.int .i64 x.f.high) := x1
      have hbd := Lib.hid (b_next hb (b_drew1 wr) (Nat.le_refl _))
      clear hI hlt
      go_wp2_with fail
      go_region_held3 (fun w' => w'.cell? ⟨w.heap.size, 1, none⟩ = some (.int .i64 x.f.high)) (first | exact x1' | exact x1)
        (first | (go_at_call 62; refine hH.out.mono ?_; rintro e w' ⟨rfl, hw'⟩; obtain rfl := hw'.symm; clear hw'))
      all_goals
        have hq : (x.f.high == r) = decide (x.f.high = r) := by rw [Bool.eq_iff_iff]; simp
        go_wp2
        go_ret
        exact ⟨by rw [← hq]; rfl, hbd.out⟩
/-! ### a fact put in where it stands -/
def insR (x : Fx) : List Fx → List Fx
  | [] => [x]
  | g :: r => if under g.f x.f then x :: g :: r else g :: insR x r
theorem insR_neg {x g : Fx} {r : List Fx} (h : ¬ under g.f x.f) : insR x (g :: r) = g :: insR x r := by rw [insR, if_neg h]
theorem insR_mem (x : Fx) : ∀ (G : List Fx) (y : Fx), y ∈ insR x G ↔ y = x ∨ y ∈ G
  | [], y => by simp [insR]
  | g :: r, y => by
    unfold insR
    split
    · simp
    · rw [List.mem_cons, insR_mem x r y, List.mem_cons]
      constructor
      · rintro (h | h | h)
        · exact Or.inr (Or.inl h)
        · exact Or.inl h
        · exact Or.inr (Or.inr h)
      · rintro (h | h | h)
        · exact Or.inr (Or.inl h)
        · exact Or.inl h
        · exact Or.inr (Or.inr h)
theorem insR_len (x : Fx) : ∀ G : List Fx, (insR x G).length = G.length + 1
  | [] => rfl
  | g :: r => by
    unfold insR
    split
    · simp
    · simp [insR_len x r]
theorem insR_falls (x : Fx) : ∀ G : List Fx, G.Pairwise (fun a b => under b.f a.f) → (∀ g ∈ G, g.f.id ≠ x.f.id) → (insR x G).Pairwise (fun a b => under b.f a.f)
  | [], _, _ => by simp [insR]
  | g :: r, h, hn => by
    obtain ⟨h1, h2⟩ := List.pairwise_cons.1 h
    unfold insR
    by_cases hu : under g.f x.f
    · rw [if_pos hu]
      refine List.pairwise_cons.2 ⟨fun y hy => ?_, h⟩
      rcases List.mem_cons.1 hy with rfl | hy
      · exact hu
      · exact under_tra (h1 y hy) hu
    · rw [if_neg hu]
      have hgx : under x.f g.f := by
        rcases under_tri x.f g.f with q | q | q
        · exact q
        · exact absurd q.2.symm (hn g (by simp))
        · exact absurd q hu
      refine List.pairwise_cons.2 ⟨fun y hy => ?_, insR_falls x r h2 fun g hg => hn g (by simp [hg])⟩
      rcases (insR_mem x r y).1 hy with rfl | hy
      · exact hgx
      · exact h1 y hy
/-- on the way: what is put together so far -/
def Mix (x : Fx) (G N : List Fx) (put : Bool) (k : Nat) : Prop := if put = true then N ++ G.drop k = insR x G else N ++ insR x (G.drop k) = insR x G
theorem Mix.start (x : Fx) (G : List Fx) : Mix x G [] false 0 := by simp [Mix]
theorem Mix.later {x : Fx} {G N : List Fx} {k : Nat} {g : Fx} (h : Mix x G N true k) (hk : G[k]? = some g) : Mix x G (N ++ [g]) true (k + 1) := by
  have h' : N ++ G.drop k = insR x G := h
  show (N ++ [g]) ++ G.drop (k + 1) = insR x G
  obtain ⟨hlt, rfl⟩ := List.getElem?_eq_some_iff.1 hk
  rw [← h', ← List.getElem_cons_drop hlt]; simp
theorem Mix.here {x : Fx} {G N : List Fx} {k : Nat} {g : Fx} (h : Mix x G N false k) (hk : G[k]? = some g) (hu : under g.f x.f) : Mix x G (N ++ [x] ++ [g]) true (k + 1) := by
  have h' : N ++ insR x (G.drop k) = insR x G := h
  show (N ++ [x] ++ [g]) ++ G.drop (k + 1) = insR x G
  obtain ⟨hlt, rfl⟩ := List.getElem?_eq_some_iff.1 hk
  rw [← h', ← List.getElem_cons_drop hlt]
  unfold insR
  rw [if_pos hu]; simp
theorem Mix.on {x : Fx} {G N : List Fx} {k : Nat} {g : Fx} (h : Mix x G N false k) (hk : G[k]? = some g) (hu : ¬ under g.f x.f) : Mix x G (N ++ [g]) false (k + 1) := by
  have h' : N ++ insR x (G.drop k) = insR x G := h
  show (N ++ [g]) ++ insR x (G.drop (k + 1)) = insR x G
  obtain ⟨hlt, rfl⟩ := List.getElem?_eq_some_iff.1 hk
  rw [← h', ← List.getElem_cons_drop hlt]
  rw [insR_neg hu]
  simp
theorem Mix.end_ {x : Fx} {G N : List Fx} {put : Bool} (h : Mix x G N put G.length) : (put = true → N = insR x G) ∧ (put = false → N ++ [x] = insR x G) := by
  cases put with
  | true => exact ⟨fun _ => by have h' : N ++ G.drop G.length = insR x G := h; simpa using h', fun e => by cases e⟩
  | false => exact ⟨fun e => (by cases e), fun _ => by have h' : N ++ insR x (G.drop G.length) = insR x G := h; simpa [insR] using h'⟩
theorem Mix.len {x : Fx} {G N : List Fx} {put : Bool} {k : Nat} (h : Mix x G N put k) : N.length ≤ G.length + 1 := by
  have hl := insR_len x G
  cases put with
  | true => have h' : N ++ G.drop k = insR x G := h; rw [← h', List.length_append] at hl; omega
  | false => have h' : N ++ insR x (G.drop k) = insR x G := h; rw [← h', List.length_append] at hl; omega
/-- a log on the way: of the first i facts those that are met -/
structure Part (L : List Fx) (B : Nat → Bool) (i : Nat) (G : List Fx) : Prop where
  falls : G.Pairwise fun a b => under b.f a.f
  mem : ∀ y, y ∈ G ↔ ∃ j, j < i ∧ L[j]? = some y ∧ B j = true
  right : ∀ j y, j < i → L[j]? = some y → B j = true → Right (plain L) y.f
theorem Part.start (L : List Fx) (B : Nat → Bool) : Part L B 0 [] := ⟨List.Pairwise.nil, fun y => ⟨fun h => by simp at h, fun ⟨j, hj, _⟩ => absurd hj (Nat.not_lt_zero _)⟩, fun j y hj => absurd hj (Nat.not_lt_zero _)⟩
theorem Part.skip {L : List Fx} {B : Nat → Bool} {i : Nat} {G : List Fx} (h : Part L B i G) (hB : B i = false) : Part L B (i + 1) G := by
  refine ⟨h.falls, fun y => (h.mem y).trans ⟨fun ⟨j, hj, h1, h2⟩ => ⟨j, by omega, h1, h2⟩, fun ⟨j, hj, h1, h2⟩ => ⟨j, ?_, h1, h2⟩⟩, fun j y hj h1 h2 => h.right j y ?_ h1 h2⟩
  · by_cases e : j = i
    · subst e; rw [hB] at h2; cases h2
    · omega
  · by_cases e : j = i
    · subst e; rw [hB] at h2; cases h2
    · omega
theorem Part.put {L : List Fx} {B : Nat → Bool} {i : Nat} {G : List Fx} {x : Fx} (h : Part L B i G) (ho : (L.map fun y => y.f.id).Nodup) (hB : B i = true) (hx : L[i]? = some x) (hr : Right (plain L) x.f) : Part L B (i + 1) (insR x G) := by
  refine ⟨insR_falls x G h.falls fun g hg e => ?_, fun y => ?_, fun j y hj h1 h2 => ?_⟩
  · obtain ⟨j, hj, h1, h2⟩ := (h.mem g).1 hg
    obtain ⟨rfl, _⟩ := place_one ho h1 hx e
    omega
  · rw [insR_mem, h.mem]
    constructor
    · rintro (rfl | ⟨j, hj, h1, h2⟩)
      · exact ⟨i, by omega, hx, hB⟩
      · exact ⟨j, by omega, h1, h2⟩
    · rintro ⟨j, hj, h1, h2⟩
      by_cases e : j = i
      · subst e; rw [hx] at h1; cases h1; exact Or.inl rfl
      · exact Or.inr ⟨j, by omega, h1, h2⟩
  · by_cases e : j = i
    · subst e; rw [hx] at h1; cases h1; exact hr
    · exact h.right j y (by omega) h1 h2
theorem Part.few {L : List Fx} {B : Nat → Bool} {i : Nat} {G : List Fx} (h : Part L B i G) (ho : (L.map fun y => y.f.id).Nodup) : G.length ≤ L.length := by
  refine fxs_len (L := L) (ids_nodup ho ?_ ?_) ?_
  · unfold List.Nodup
    exact h.falls.imp fun {a b} hab (e : a = b) => under_irr a.f (by rw [← e] at hab; exact hab)
  · exact fun y hy => let ⟨j, _, h1, _⟩ := (h.mem y).1 hy; List.mem_of_getElem? h1
  · exact fun y hy => let ⟨j, _, h1, _⟩ := (h.mem y).1 hy; List.mem_of_getElem? h1
/-- a log that is done -/
theorem Part.log {L : List Fx} {B : Nat → Bool} {G : List Fx} {x : ByteArray} {y0 : Fx} (h : Part L B L.length G) (ho : (L.map fun y => y.f.id).Nodup) (hy : y0 ∈ L) (hx : y0.f.id = x) (hw : Whole (plain L) x) (hB : ∀ i y, L[i]? = some y → (B i = true ↔ Met (plain L) x y.f)) : IsLog (plain L) x 0 (plain G) := by
  refine .ok (once_iff.2 ho) (List.mem_map.2 ⟨y0, hy, rfl⟩) hx hw (fun g hg => ?_) ⟨?_, fun f => ?_⟩
  · obtain ⟨y, hy, rfl⟩ := List.mem_map.1 hg.mem
    obtain ⟨j, hj, rfl⟩ := List.mem_iff_getElem.1 hy
    exact h.right j _ hj (List.getElem?_eq_getElem hj) ((hB j _ (List.getElem?_eq_getElem hj)).2 hg)
  · rw [List.pairwise_map]; exact h.falls
  · rw [List.mem_map]
    constructor
    · rintro ⟨y, hy, rfl⟩
      obtain ⟨j, _, h1, h2⟩ := (h.mem y).1 hy
      exact (hB j y h1).1 h2
    · intro hm
      obtain ⟨y, hy, rfl⟩ := List.mem_map.1 hm.mem
      obtain ⟨j, hj, rfl⟩ := List.mem_iff_getElem.1 hy
      exact ⟨_, (h.mem _).2 ⟨j, hj, List.getElem?_eq_getElem hj, (hB j _ (List.getElem?_eq_getElem hj)).2 hm⟩, rfl⟩
end Go.Proofs.Ytbjpogeemajhoaa.Or
