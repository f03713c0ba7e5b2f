/-
  What is met from some keys on, by the program: slices.Clone, slices.AppendSeq over a set, graph's met. Conditions: a graph is not too great.
-/
import Derived.Test.YtcoccaglbepbdaaGreatRows
import Derived.Test.YtcoccaglbepbdaaGreatGrGraph
import Derived.Test.YtcoccaglbepbdaaGreatShFrom
import Derived.Test.YtcoccaglbepbdaaGreatShRef
import Derived.Lib.SliceRun
namespace Go.Proofs.YtcoccaglbepbdaaGreat.Gr
open Go.RowKit Go.Shelf Sh
open Key (lt)
open Ent (key)
open Ti (SetAt Reads IsOf Makes Keeps setAll1_stops keeps_put keysV keysV_len keysV_snoc info_key)
open Rf (Sl sl_of_owns)
attribute [local go_sem] Oper.semAt_some fold_none

/-- append to a row of one's own, inside a fence, with the word of where the new row lies -/
theorem wpListIn_append_at {F : Fence} {n : Nat} {P : Program} (w : World) {ops : Array Oper} {rest : List Oper} {o : Oper} {a : Act} {Q : Exit → Act → World → Prop}
    (hg : o.guard = none) (s x : Operand) (t : TypeId) (hop : o.op = Op.call { callee := Callee.builtin Builtin.append, args := #[s, x], argTypes := #[t, t] })
    (base : Nat) (e : TypeId) (i : TypeInfo) (z : Value) (size bytes : Nat) (h1 : P.underlying t = some (.slice e)) (h2 : P.info? e = some i) (h3 : i.zero = some z) (h4 : i.size = size) (h5 : i.bytes = bytes) (h6 : z.cells.size = size) (h7 : 0 < size)
    (v : Value) (k : Nat) (xs : List Value) (hs : a.eval s = v) (hown : w.ownsRow base e size v k xs) (ad : Addr) (m c : Nat) (news : List Value) (hx : a.eval x = .slice (some ad) m c) (hn : news.length = m * size)
    (hc : ∀ j u, news[j]? = some u → w.cell? (ad.add j) = some u) (h1c : ∀ u ∈ news, u.oneCell' = true) (b1 : k + m ≤ maxLen) (b2 : (k + m) * bytes ≤ 140737488355328) (b3 : base ≤ w.heap.size)
    (hK : ∀ v' w', w'.ownsRow base e size v' (k + m) (xs ++ news) → w.grownBy w' v.ownBlock → (v'.ownBlock = v.ownBlock ∨ v'.ownBlock = some w.heap.size) → wpListIn F n P ops Q rest (a.put o.dst v') w') :
    wpListIn F n P ops Q (o :: rest) a w := by
  refine wpListIn_plain hg fun K hK' => ?_
  obtain ⟨v', w', hrun, r1, r2, _, r4⟩ := run_append_own_at (P := P) w base t o.type e i z size bytes h1 h2 h3 h4 h5 h6 h7 v k xs hown ad m c news hn hc h1c b1 b2 b3
  unfold Oper.wpIn
  refine ⟨?_, ?_⟩
  · simp [Oper.about, hop, resolve, Target.leads, Sem.run_pure]
  · rw [Oper.semAt_plain F _ _ (by rw [hop]; intro c hc'; cases hc')]
    simp [execOp, hop, resolve, invoke, builtin, hs, hx, hrun, Result.andThen]
    exact hK' _ _ (hK v' w' r1 r2 r4)

theorem ownFrom_grown {β : Type} {B : Nat} {w₀ : World} {row : Option Nat} (hB : w₀.heap.size ≤ B) : OwnFrom B (fun (_ : β) W => w₀.grownBy W row) :=
  fun _ W W' r hs hg hr => ⟨hg.os.trans hs.os, hg.tape.trans hs.tape, hg.output.trans hs.output, Nat.le_trans hs.size hg.size, fun k hk hne => (hg.block k (Nat.lt_of_lt_of_le hk hs.size) fun e => by
    have := (hr k e.symm).1
    omega).trans (hs.block k hk hne)⟩
/-- a row in a box, and where it lies -/
def InBox (w : World) (base B : Nat) (row : Option Nat) (A : List Int) (W : World) : Prop :=
  (∃ v, Boxed W B 23 v ∧ W.ownsRow base 3 1 v (keysV A).length (keysV A) ∧ (v.ownBlock = row ∨ ∃ g, v.ownBlock = some g ∧ w.heap.size ≤ g)) ∧ w.grownBy W row
theorem grown_then {w W w1 : World} {row own : Option Nat} {tmp : Obj} {B : Nat} {v' : Value} (h : w.grownBy W row) (hg : (W.alloc tmp).grownBy w1 own) (hr : own = row ∨ ∃ g, own = some g ∧ w.heap.size ≤ g) (hB : w.heap.size ≤ B) :
    w.grownBy (w1.setCell ⟨B, 0, none⟩ v') row := by
  refine ⟨hg.os.trans h.os, hg.tape.trans h.tape, hg.output.trans h.output, ?_, fun k hk hne => ?_⟩
  · have h1 := (grownBy_setCell' w1 B v').size
    have h2 := hg.size
    have h3 := h.size
    rw [World.size_alloc] at h2
    omega
  · refine (Below.heap_setCell _ _ _ k fun e => by dsimp only at e; omega).trans ?_
    refine (hg.block k (by have := h.size; rw [World.size_alloc]; omega) fun e => ?_).trans ?_
    · rcases hr with hr | ⟨g, hr, hl⟩
      · exact hne (by rw [e, hr])
      · rw [hr] at e; have : k = g := by simpa using e
        omega
    · exact (Below.heap_alloc _ _ _ (Nat.lt_of_lt_of_le hk h.size)).trans (h.block k hk hne)

set_option maxRecDepth 100000 in
set_option maxHeartbeats 4000000 in
/-- what a set's iterator gives, appended to a row of the call's own -/
theorem AppendSeq_calls (w : World) (base B : Nat) (a : Option Addr) (u : Value) (A L : List Int) (hA : A.length + L.length ≤ 1000000) (hbase : base ≤ w.heap.size) (hB : w.cell? ⟨B, 0, none⟩ = some (.pointer a)) (hS : SetAt w a L) (hu : w.ownsRow base 3 1 u (keysV A).length (keysV A)) :
    Calls Tryz.prog 77 #[u, .func (.func 90) #[] #[.pointer (some ⟨B, 0, none⟩)]] w fun e w' => ∃ v, e = .returned v ∧ w'.ownsRow base 3 1 v (keysV (A ++ L)).length (keysV (A ++ L)) ∧ (v.ownBlock = u.ownBlock ∨ ∃ g, v.ownBlock = some g ∧ w.heap.size ≤ g) ∧ w.grownBy w' u.ownBlock := by
  obtain ⟨i0, hi, hz0, hz1, hz2⟩ := info_parts info_key
  have hlt : B < w.heap.size := World.block_lt_of_cell? w _ hB
  have b1 := b_alloc w (.cells #[u] 23)
  have bO := Boxed.new w 23 u
  have hst := setAll1_stops 2 (w.alloc (.cells #[u] 23)) B a L ((b1.cell (p := ⟨B, 0, none⟩) hlt).trans hB) (hS.next b1)
  have hsz : (w.alloc (.cells #[u] 23)).heap.size = w.heap.size + 1 := by simp
  have hI0 : InBox w base w.heap.size u.ownBlock (A ++ []) (w.alloc (.cells #[u] 23)) := by
    rw [List.append_nil]
    exact ⟨⟨u, bO, hu.alloc _, Or.inl rfl⟩, World.grownBy_alloc w _ _⟩
  clear hB hS hlt hu
  replace hst := Lib.hid hst
  replace hI0 := Lib.hid hI0
  replace hsz := Lib.hid hsz
  obtain ⟨ua, un, uc, rfl⟩ : ∃ ua un uc, u = .slice ua un uc := by
    obtain ⟨⟨v, hv, hr, _⟩, _⟩ := hI0.out
    have : v = u := by
      have h1 := hv.symm.trans bO
      simpa using h1
    subst this
    rcases hr.2 with ⟨rfl, _⟩ | ⟨g, cap, cur, rfl, _⟩
    · exact ⟨_, _, _, rfl⟩
    · exact ⟨_, _, _, rfl⟩
  clear bO b1
  refine (callsIn_wide (n := 3)).1 ?_
  refine callsIn_of_wp_marks Tryz.func77 rfl trivial ?_ rfl
  simp only [Tryz.ntmps77, List.size_toArray, List.length_cons, List.length_nil, Nat.reduceAdd, Nat.reduceSub, Array.replicate_succ, Array.replicate_zero, List.push_toArray, List.append_toArray, List.nil_append, List.cons_append]
  gi_wp2_with fail
  generalize w.alloc (.cells #[.slice ua un uc] 23) = W1 at *
  obtain ⟨row, hro⟩ : ∃ row, Hid ((Value.slice ua un uc).ownBlock = row) := ⟨_, Lib.hid rfl⟩
  rw [hro.out] at hI0
  have hsz1 := hsz.out
  refine wpIn_rangeFunc_ownG rfl (by omega) (gf := 90) (lb := #[.pointer (some ⟨B, 0, none⟩)]) rfl trivial (enters_of Tryz.func90 (by kernel_rfl) rfl)
    hst.out (fun h k => Keeps.trans h k) keeps_put (Below.refl _ _) (fun _ => rfl)
    (fun pre W => InBox w base w.heap.size row (A ++ pre) W)
    (fun _ _ _ => False)
    (OwnFrom.and (Own.from (holdsRow_own base w.heap.size 23 3 1 (fun pre => (keysV (A ++ pre)).length) (fun pre => keysV (A ++ pre)) (fun pre v => v.ownBlock = row ∨ ∃ g, v.ownBlock = some g ∧ w.heap.size ≤ g)) _) (ownFrom_grown (by omega)))
    (fun _ _ _ _ _ hs _ _ => hs)
    hI0.out
    (fun x => { tmps := #[.slice ua un uc, .func (.func 90) #[] #[.pointer (some ⟨B, 0, none⟩)], .pointer (some ⟨w.heap.size, 0, none⟩), undef, .slice none 0 0, .int .i64 x, .func (.func 90) #[] #[.pointer (some ⟨B, 0, none⟩)], .int .i64 x, undef, undef, undef, undef, undef], defers := [] }) ?assign ?body ?done ?stop
  case assign =>
    intro l x W K hK
    gi_wp2
    exact hK
  case body =>
    rintro l pre x W ⟨⟨v, hv, hrow, hat⟩, hgr⟩ hlt
    have hc := hv.cell
    have hp1 : Hid ((keysV (A ++ pre)).length < 1000000) := Lib.hid (by rw [keysV_len, List.length_append]; omega)
    have hp2 := Lib.hid (keysV_snoc (A ++ pre) x)
    have hsW : Hid (w.heap.size ≤ W.heap.size) := Lib.hid hgr.size
    have hat2 := Lib.hid hat
    have hgr2 := Lib.hid hgr
    clear hat hgr
    generalize keysV (A ++ pre) = N at *
    gi_wp2_with (gi_at_builtin; refine wpListIn_append_at _ rfl _ _ 23 rfl base 3 i0 (.int .i64 0) 1 8 Tryz.underlying23 hi hz0 hz1 hz2 rfl (by decide) _ _ _ rfl (hrow.alloc _) ⟨W.heap.size, 0, none⟩ 1 1 [.int .i64 x] rfl rfl (cell_one_new _ _ _) (by simp [Value.oneCell']) (by have := hp1.out; simp [maxLen]; omega) (by have := hp1.out; omega) (by have := hsW.out; simp; omega) ?_; intro v' w1 hown' hgrow hat'; obtain ⟨g', cap', rfl⟩ := ownsRow_succ hown'; obtain ⟨hv1, hv2, hr2, hk2, hb2⟩ := hv.appended (by decide) hrow (Nat.le_trans hbase hsW.out) hbase hown' hgrow; have hc1 := hv1.cell; have hf1 := hv1.frozen; have h11 := Lib.hid (grown_then (v' := .slice (some ⟨g', 0, none⟩) (N.length + 1) cap') hgr2.out hgrow hat2.out (Nat.le_refl _)); have hKp : Hid (Keeps W (w1.setCell ⟨w.heap.size, 0, none⟩ (.slice (some ⟨g', 0, none⟩) (N.length + 1) cap'))) := Lib.hid ⟨stays_append (by decide) (by decide) hrow hgrow hv1, stays_append (by decide) (by decide) hrow hgrow hv1⟩; replace hat' := Lib.hid hat'; clear hgrow)
    have hl2 : Hid ((keysV (A ++ (pre ++ [x]))).length = N.length + 1) := Lib.hid (by rw [← List.append_assoc, hp2.out]; simp)
    refine ⟨hk2.from _, hKp.out, ⟨_, hv2, ?_, ?_⟩, h11.out⟩
    · rw [hl2.out, ← List.append_assoc, hp2.out]; exact hr2
    · have h12 := hsW.out
      rcases hat'.out with h | h
      · exact hat2.out.elim (fun e => Or.inl (h.trans e)) fun ⟨g, e, hl⟩ => Or.inr ⟨g, h.trans e, hl⟩
      · exact Or.inr ⟨_, h, by simp; omega⟩
  case done =>
    rintro D ys W hD rfl ⟨⟨v, hv, hrow, hat⟩, hgr⟩ hK
    have hc := hv.cell
    have hgr2 := Lib.hid hgr
    gi_wp2
    refine ⟨by simp, .inl ⟨_, _, rfl, run_takeDeferred hK, ?_⟩⟩
    rw [hro.out]
    refine ⟨_, results_tmp rfl _ _ _, v, rfl, ownsRow_putObj hrow _ hK rfl, hat, ?_⟩
    exact ownFrom_grown (β := Unit) (B := w.heap.size + 1) (by omega) () W _ (some D) hgr2.out (grownBy_putObj' W D _) fun r e => by cases e; exact ⟨by omega, _, hK, rfl⟩
  case stop =>
    rintro D c pre W _ _ h _
    exact h.elim

theorem keys_cells {M : List Int} {j : Nat} {u : Value} (h : (keysV M)[j]? = some u) : j < M.length ∧ u = .int .i64 (M[j]?.getD 0) := by
  have hl := (List.getElem?_eq_some_iff.1 h).1
  rw [keysV_len] at hl
  refine ⟨hl, ?_⟩
  simp [keysV, List.getElem?_eq_getElem hl] at h ⊢
  exact h.symm
set_option maxRecDepth 100000 in
set_option maxHeartbeats 2000000 in
theorem Clone_calls (w : World) (v : Value) (F : List Int) (hF : F.length ≤ 1000000) (hv : Sl w v F) :
    Calls Tryz.prog 76 #[v] w fun e w' => ∃ u, e = .returned u ∧ w'.ownsRow w.heap.size 3 1 u (keysV F).length (keysV F) ∧ Below w.heap.size w w' := by
  obtain ⟨i0, hi, hz0, hz1, hz2⟩ := info_parts info_key
  obtain ⟨s, cap, rfl, hr⟩ := hv
  have hl := keysV_len F
  cases s with
  | none =>
    obtain rfl : F = [] := by
      by_cases h0 : 0 < F.length
      · obtain ⟨_, _, h, _⟩ := hr h0; cases h
      · exact List.length_eq_zero_iff.1 (by omega)
    clear hr
    have ho := World.ownsRow_nil w w.heap.size 3 1
    have hb := Below.refl w.heap.size w
    have hq := Lib.run_eql_slice_nil (P := Tryz.prog) w 23 3 none 0 cap 0 0 Tryz.underlying23
    go_enter Tryz.func76, Tryz.ntmps76
    go_wp2
    go_ret
    exact ⟨_, rfl, ho, hb⟩
  | some ad =>
    have ho := Rf.alloc_none w
    have b0 := b_alloc w (.cells #[] 3)
    have hc : ∀ (j : Nat) (u : Value), (keysV F)[j]? = some u → (w.alloc (.cells #[] 3)).cell? (ad.add j) = some u := fun j u hj => by
      obtain ⟨h1, rfl⟩ := keys_cells hj
      obtain ⟨g, off, e, hg, h2⟩ := hr (by omega)
      cases e
      rw [Addr.add_mid]
      exact (b0.cell (p := ⟨g, off + j, none⟩) hg).trans (h2 j h1)
    have h1c : ∀ u ∈ keysV F, u.oneCell' = true := Ti.keysV_one F
    clear hr
    replace ho := Lib.hid ho
    replace b0 := Lib.hid b0
    have hq := Lib.run_eql_slice_nil (P := Tryz.prog) w 23 3 (some ad) F.length cap 0 0 Tryz.underlying23
    go_enter Tryz.func76, Tryz.ntmps76
    go_wp2_with (first
      | (fail)
      | (at_builtin; refine wpList_append_own _ rfl _ _ 23 rfl w.heap.size 3 i0 (.int .i64 0) 1 8 Tryz.underlying23 hi hz0 hz1 hz2 rfl (by decide) _ _ _ rfl ho.out ad F.length cap (keysV F) rfl (by rw [hl]; omega) hc h1c ?c3 ?c4 ?c5 ?_))
    case c3 => simp [maxLen]; omega
    case c4 => omega
    case c5 => simp
    intro v' w2 ho' hgrow _
    have hb2 : Hid (Below w.heap.size w w2) := Lib.hid (b0.out.grown hgrow (by simp) (fun q e => (ho.out.lt q e).1))
    have ho2 : Hid (w2.ownsRow w.heap.size 3 1 v' (keysV F).length (keysV F)) := Lib.hid (by rw [hl]; simpa using ho')
    clear ho' hgrow
    go_wp2
    go_ret
    exact ⟨_, rfl, ho2.out, hb2.out⟩

/-- a graph as the statements ask of it -/
structure Small (G : Gph) : Prop where
  nodes : G.D.length ≤ 60
  to : ∀ k, (G.T k).length ≤ 40
/-- all that could be met -/
def uni (G : Gph) (F : List Int) : List Int := F ++ G.D.flatMap G.T
theorem uni_len {G : Gph} (h : Small G) (F : List Int) : (uni G F).length ≤ F.length + 2400 := by
  have : ∀ l : List Int, (l.flatMap G.T).length ≤ 40 * l.length := fun l => by
    induction l with
    | nil => simp
    | cons a l ih => rw [List.flatMap_cons, List.length_append, List.length_cons]; have := h.to a; omega
  have := this G.D
  have := h.nodes
  unfold uni
  rw [List.length_append]
  omega
theorem met_uni {G : Gph} (hG : G.Ok) {F : List Int} {x : Int} (h : Met G.T F x) : x ∈ uni G F := by
  cases h with
  | here a => exact List.mem_append.2 (Or.inl a)
  | @on _ y a b =>
    refine List.mem_append.2 (Or.inr (List.mem_flatMap.2 ⟨y, ?_, b⟩))
    exact Classical.byContradiction fun e => by rw [hG.none y e] at b; cases b
theorem nodup_len : ∀ (l m : List Int), l.Nodup → (∀ x ∈ l, x ∈ m) → l.length ≤ m.length
  | [], _, _, _ => Nat.zero_le _
  | a :: l, m, hn, h => by
    obtain ⟨h1, h2⟩ := List.nodup_cons.1 hn
    have hm := h a (by simp)
    have := nodup_len l (m.erase a) h2 fun x hx => (List.mem_erase_of_ne (fun e => h1 (by rw [← e]; exact hx))).2 (h x (by simp [hx]))
    rw [List.length_erase_of_mem hm] at this
    have := List.length_pos_of_mem hm
    rw [List.length_cons]
    omega
theorem met_len {G : Gph} (hG : G.Ok) (hS : Small G) {F S : List Int} (hR : Rises S) (h : ∀ x ∈ S, Met G.T F x) : S.length ≤ F.length + 2400 :=
  Nat.le_trans (nodup_len S _ (rises_nodup hR) fun x hx => met_uni hG (h x hx)) (uni_len hS F)
/-- on the way: what is met so far, and from what to go on -/
structure Way (G : Gph) (F S A : List Int) : Prop where
  rises : Rises S
  met : ∀ x ∈ S, Met G.T F x
  left : ∀ x ∈ A, Met G.T F x
  all : ∀ x ∈ F, x ∈ S ∨ x ∈ A
  closed : ∀ y ∈ S, ∀ x ∈ G.T y, x ∈ S ∨ x ∈ A
  few : A.length ≤ F.length + 40 * S.length
theorem Way.start (G : Gph) (F : List Int) : Way G F [] F := ⟨List.Pairwise.nil, (fun x h => by cases h), (fun x h => .here h), (fun x h => Or.inr h), (fun y h => by cases h), by simp⟩
theorem Way.done {G : Gph} {F S : List Int} (h : Way G F S []) : IsMet G.T F S :=
  isMet_of h.rises h.met (fun x hx => (h.all x hx).elim id fun e => by cases e) fun y hy x hx => (h.closed y hy x hx).elim id fun e => by cases e
theorem Way.old {G : Gph} {F S A : List Int} {k : Int} (h : Way G F S (A ++ [k])) (hk : k ∈ S) : Way G F S A := by
  have hmem : ∀ x, x ∈ S ∨ x ∈ A ++ [k] → x ∈ S ∨ x ∈ A := fun x e => e.elim Or.inl fun e => (List.mem_append.1 e).elim Or.inr fun e => by
    rw [List.mem_singleton.1 e]; exact Or.inl hk
  have hf := h.few
  rw [List.length_append, List.length_singleton] at hf
  exact ⟨h.rises, h.met, fun x hx => h.left x (List.mem_append.2 (Or.inl hx)), fun x hx => hmem x (h.all x hx), fun y hy x hx => hmem x (h.closed y hy x hx), by omega⟩
theorem Way.new {G : Gph} (hS : Small G) {F S A : List Int} {k : Int} (h : Way G F S (A ++ [k])) (hk : k ∉ S) : Way G F (ins k S) (A ++ G.T k) := by
  have hm : ∀ x, x ∈ ins k S ↔ x = k ∨ x ∈ S := fun x => mem_ins_int h.rises
  have hmem : ∀ x, x ∈ S ∨ x ∈ A ++ [k] → x ∈ ins k S ∨ x ∈ A ++ G.T k := fun x e => e.elim (fun e => Or.inl ((hm x).2 (Or.inr e))) fun e => (List.mem_append.1 e).elim (fun e => Or.inr (List.mem_append.2 (Or.inl e))) fun e =>
    Or.inl ((hm x).2 (Or.inl (List.mem_singleton.1 e)))
  have hkm : Met G.T F k := h.left k (by simp)
  have hf := h.few
  have hl : (ins k S).length = S.length + 1 := by
    rw [length_ins k h.rises]
    have : has (key k) S = false := by
      cases e : has (key k) S with
      | false => rfl
      | true => obtain ⟨a, ha, e2⟩ := has_iff.1 e; exact absurd ((show a = k from e2) ▸ ha) hk
    rw [this]; rfl
  have ht := hS.to k
  rw [List.length_append, List.length_singleton] at hf
  refine ⟨rises_ins k h.rises, fun x hx => ((hm x).1 hx).elim (fun e => e ▸ hkm) (h.met x), fun x hx => (List.mem_append.1 hx).elim (fun e => h.left x (List.mem_append.2 (Or.inl e))) fun e => .on hkm e, fun x hx => hmem x (h.all x hx), fun y hy x hx => ?_, ?_⟩
  · rcases (hm y).1 hy with rfl | hy
    · exact Or.inr (List.mem_append.2 (Or.inr hx))
    · exact hmem x (h.closed y hy x hx)
  · rw [List.length_append, hl]; omega
theorem owns_shrink {W : World} {base g n cap : Nat} {A : List Int} {k : Int} (h : W.ownsRow base 3 1 (.slice (some ⟨g, 0, none⟩) n cap) (keysV (A ++ [k])).length (keysV (A ++ [k]))) : W.ownsRow base 3 1 (.slice (some ⟨g, 0, none⟩) A.length cap) (keysV A).length (keysV A) := by
  have h1 := keysV_len A
  have h2 := keysV_snoc A k
  rcases h.2 with ⟨hv, _⟩ | ⟨g', cap', cur, hv, e1, e2, e3, e4, e5, e6⟩
  · cases hv
  · cases hv
    rw [h2, List.length_append, List.length_singleton] at e3
    rw [h2, List.length_append, List.length_singleton, Nat.mul_one] at e6
    refine ⟨by simp, Or.inr ⟨g, cap, cur, by rw [h1], e1, e2, by omega, e4, e5, ?_⟩⟩
    rw [Nat.mul_one]
    have : cur.toList.take (keysV A).length = (cur.toList.take ((keysV A).length + 1)).take (keysV A).length := by rw [List.take_take]; congr 1; omega
    rw [this, e6]
    simp
theorem ownsRow_other {W W' : World} {base b : Nat} {t : TypeId} {u v : Value} {A : List Int} (h : W.ownsRow base 3 1 v (keysV A).length (keysV A)) (hB : Boxed W b t u) (ht : t ≠ 3) (hg : W.grownBy W' (some b)) : W'.ownsRow base 3 1 v (keysV A).length (keysV A) :=
  h.kept hg (.inr fun e => hB.not_row ht h e.symm)
theorem set_row {W W' : World} {base : Nat} {a : Option Addr} {v : Value} {A S : List Int} (h : SetAt W a S) (hr : W.ownsRow base 3 1 v (keysV A).length (keysV A)) (hg : W.grownBy W' v.ownBlock) : SetAt W' a S :=
  Ti.At.stays h (stays_row (by decide) hr hg) (stays_row (by decide) hr hg)
theorem row_shape {W : World} {base : Nat} {v : Value} {A : List Int} (h : W.ownsRow base 3 1 v (keysV A).length (keysV A)) : ∃ a cap, v = .slice a A.length cap := by
  have hl := keysV_len A
  rcases h.2 with ⟨rfl, h0⟩ | ⟨g, cap, cur, rfl, _⟩
  · exact ⟨none, 0, by rw [hl] at h0; rw [h0]⟩
  · exact ⟨_, _, by rw [hl]⟩
theorem row_last {W : World} {base : Nat} {v : Value} {A : List Int} {k : Int} (h : W.ownsRow base 3 1 v (keysV (A ++ [k])).length (keysV (A ++ [k]))) : ∃ g cap, v = .slice (some ⟨g, 0, none⟩) (A.length + 1) cap ∧ A.length + 1 ≤ cap ∧ base ≤ g ∧ W.cell? ⟨g, A.length, none⟩ = some (.int .i64 k) := by
  have hl := keysV_len (A ++ [k])
  rw [List.length_append, List.length_singleton] at hl
  rcases h.2 with ⟨rfl, h0⟩ | ⟨g, cap, cur, hv, hb, _, hle, _⟩
  · rw [hl] at h0; omega
  · refine ⟨g, cap, by rw [hv, hl], by rw [← hl]; exact hle, hb, ?_⟩
    have hc := World.ownsRow.cells h (g := g) (by rw [hv]; rfl) A.length (.int .i64 k) (by rw [keysV_snoc, List.getElem?_append_right (by rw [keysV_len]; omega)]; simp [keysV_len])
    rw [Addr.add_mid, Nat.zero_add] at hc
    exact hc
theorem owns_mono {W : World} {base base' : Nat} {e : TypeId} {size n : Nat} {v : Value} {xs : List Value} (h : W.ownsRow base e size v n xs) (hb : base' ≤ base) : W.ownsRow base' e size v n xs :=
  ⟨h.1, h.2.elim Or.inl fun ⟨g, cap, cur, e1, e2, e3⟩ => Or.inr ⟨g, cap, cur, e1, Nat.le_trans hb e2, e3⟩⟩
theorem Lists.from {w w0 w' : World} {et : TypeId} {M : List Value} {e : Ending} (h : Lists w et M e w') (hb : Below w0.heap.size w0 w) : Lists w0 et M e w' := by
  obtain ⟨v, e, ⟨h1, h2⟩, h3⟩ := h
  exact ⟨v, e, ⟨owns_mono h1 hb.size, h2⟩, b_then hb h3⟩
/-- the ghost of met's loop -/
def gauge (S A : List Int) : Nat := 41 * (3000 - S.length) + A.length

set_option maxRecDepth 100000 in
set_option maxHeartbeats 4000000 in
theorem met_calls (w : World) (b m : Nat) (G : Gph) (v : Value) (F : List Int) (h : GraphAt w b m G) (hS : Small G) (hF : F.length ≤ 500) (hv : Sl w v F) :
    Calls Tryz.prog 44 #[.pointer (some ⟨b, 0, none⟩), v] w fun e w' => ∃ M, IsMet G.T F M ∧ M.length ≤ 3000 ∧ Lists w 3 (keysV M) e w' := by
  have hr0 : Reads w.heap.size w (.slice none 0 0) [] := ⟨_, _, rfl, fun h => by simp at h⟩
  have hO := Lib.hid (Ti.Of_calls w none 0 [] (by simp) hr0)
  have hC := Lib.hid fun w1 (hb : Below w.heap.size w w1) => Clone_calls w1 v F (by omega) (hv.next hb)
  have hG := Lib.hid fun w1 (hb : Below w.heap.size w w1) => h.next hb
  have hok := Lib.hid h.ok
  have hvs : ∃ sa cap, v = .slice sa F.length cap := by obtain ⟨sa, cap, e, _⟩ := hv; exact ⟨sa, cap, e⟩
  obtain ⟨sa, cap, rfl⟩ := hvs
  clear hr0 h hv
  go_enter Tryz.func44, Tryz.ntmps44
  go_wp2_with (first
    | (go_at_call 26; refine hO.out.mono ?_; rintro e w1 ⟨L, hI, sb, rfl, hsb, hS1, b1⟩; have hC2 := Lib.hid (hC.out w1 b1); replace b1 := Lib.hid b1; replace hS1 := Lib.hid hS1; replace hI := Lib.hid hI; clear hO hC)
    | (go_at_call 76; refine hC2.out.mono ?_; rintro e w2 ⟨u, rfl, hown, b2⟩; clear hC2))
  obtain rfl : L = [] := by
    cases L with
    | nil => rfl
    | cons x L => have := (hI.out.2.1 x).1 (by simp); cases this
  have hbs := b1.out.size
  have b12 := b_then b1.out b2
  have hS2 := hS1.out.next b2
  have hown2 : w2.ownsRow w.heap.size 3 1 u (keysV F).length (keysV F) := by
    refine ⟨hown.1, ?_⟩
    rcases hown.2 with e | ⟨g, cap, cur, e1, e2, e3⟩
    · exact Or.inl e
    · exact Or.inr ⟨g, cap, cur, e1, by omega, e3⟩
  clear hown hI hS1 b1 b2
  go_loopg [6] (gauge [] F) (fun gg s6 wr => ∃ S A, Hid (Way G F S A) ∧ gauge S A ≤ gg ∧ Hid (SetAt wr (some ⟨sb, 0, none⟩) S) ∧ Hid (wr.ownsRow w.heap.size 3 1 s6 (keysV A).length (keysV A)) ∧ Hid (Below w.heap.size w wr))
  case atStart => exact ⟨[], F, Lib.hid (Way.start G F), Nat.le_refl _, Lib.hid hS2, Lib.hid hown2, Lib.hid b12⟩
  case round =>
    obtain ⟨S, A, hW, hgg, hSr, hor, hbr⟩ := hrel
    clear hS2 hown2 b12
    have hSl := met_len hok.out hS hW.out.rises hW.out.met
    rcases List.eq_nil_or_concat A with rfl | ⟨A', k, rfl⟩
    · have hM := Lib.hid hW.out.done
      obtain ⟨a1, c1, rfl⟩ := row_shape hor.out
      have hL := Lib.hid (Ti.SetList_calls wr (some ⟨sb, 0, none⟩) S hSr.out (by omega))
      have hS3 : Hid (S.length ≤ 3000) := Lib.hid (by omega)
      clear hor hSr hG hSl hgg hW
      go_wp2_with (go_at_call 33; refine hL.out.mono ?_; rintro e w' h1; have h2 := Lib.hid (Lists.from h1 hbr.out); obtain ⟨v', rfl, -⟩ := h1)
      go_ret
      exact ⟨S, hM.out, hS3.out, h2.out⟩
    · rw [List.concat_eq_append] at *
      have hwAl := hW.out.few
      rw [List.length_append, List.length_singleton] at hwAl
      obtain ⟨g, c1, rfl, hcap, hgb, hck⟩ := row_last hor.out
      have hsh := Lib.hid (owns_shrink hor.out)
      obtain ⟨n, hn⟩ : ∃ n, n = A'.length := ⟨_, rfl⟩
      obtain ⟨N, hN⟩ : ∃ N, N = A'.length + 1 := ⟨_, rfl⟩
      rw [← hN]
      have l1 : (0 : Int) < (N : Int) := by omega
      have l2 : (0 : Int) ≤ (n : Int) := by omega
      have l3 : (n : Int) < (N : Int) := by omega
      have l4 : (n : Int) ≤ (c1 : Int) := by omega
      have l5 : n ≤ c1 := by omega
      have w1' : IntKind.i64.wrap ((N : Int) - 1) = (n : Int) := by rw [show ((N : Int) - 1) = (n : Int) by omega]; exact wrap_nat _ (by omega)
      have hcell : wr.cell? ⟨g, n, none⟩ = some (.int .i64 k) := by rw [hn]; exact hck
      rw [← hn] at hsh
      replace hn := Lib.hid hn
      replace hN := Lib.hid hN
      have hAdd := Ti.Add_calls wr sb S k hSr.out hW.out.rises (by omega)
      obtain ⟨pb, hpb⟩ := Ti.At.box hSr.out
      have hB2 := Lib.hid fun (w' : World) (ht : Ti.Turns wr 110 sb (ins k S) w') => And.intro (ownsRow_other hsh.out hpb (by decide) ht.2) (ht.below hbr.out (by omega))
      have hms1 : Hid (k ∈ S → gauge S A' < gk) := Lib.hid fun _ => by
        unfold gauge at hgg ⊢
        rw [List.length_append, List.length_singleton] at hgg
        omega
      clear hor hgb hpb hwAl hck hcap
      cases hz : has (key k) S with
      | true =>
        have hkS : k ∈ S := by obtain ⟨a, ha, e⟩ := has_iff.1 hz; exact (show a = k from e) ▸ ha
        have hW2 := Lib.hid (hW.out.old hkS)
        have hins : ins k S = S := by
          refine rises_one (rises_ins k hW.out.rises) hW.out.rises fun x => ?_
          rw [mem_ins_int hW.out.rises]
          exact ⟨fun e => e.elim (fun e => e ▸ hkS) id, Or.inr⟩
        have hms2 := Lib.hid (hms1.out hkS)
        rw [hz, hins] at hAdd
        rw [hins] at hB2
        replace hAdd := Lib.hid hAdd
        clear hz hW hms1 hgg hkS hins hG hsh hSr hbr hSl
        go_wp2_with (go_at_call 28; refine hAdd.out.mono ?_; rintro e w2 ⟨rfl, hT⟩; obtain ⟨o2, bb2⟩ := hB2.out w2 hT; have hS3 := Lib.hid hT.1; clear hT hB2)
        go_roundg (gauge S A')
        case measure => exact hms2.out
        case rel => exact ⟨S, A', hW2, Nat.le_refl _, hS3, Lib.hid o2, Lib.hid bb2⟩
      | false =>
        have hkS : k ∉ S := fun e => by
          have : has (key k) S = true := has_iff.2 ⟨k, e, rfl⟩
          rw [hz] at this; cases this
        have hW2 := Lib.hid (hW.out.new hS hkS)
        have hlen := length_ins k hW.out.rises
        rw [hz] at hlen hAdd
        rw [if_neg (by simp)] at hlen
        have hTk := hS.to k
        have hms2 : Hid (gauge (ins k S) (A' ++ G.T k) < gk) := Lib.hid (by
          unfold gauge at hgg ⊢
          rw [List.length_append, List.length_singleton] at hgg
          rw [List.length_append, hlen]
          omega)
        have hfew : Hid (A'.length + (G.T k).length ≤ 1000000) := Lib.hid (by
          have := hW2.out.few
          rw [List.length_append, hlen] at this
          omega)
        replace hAdd := Lib.hid hAdd
        have hTg := Lib.hid fun w2 (hb : Below w.heap.size w w2) => targets_calls w2 b m G k (hG.out w2 hb)
        have hAl := Lib.hid fun w2 p => Ti.SetAll_calls w2 p
        have hSeq : Hid (∀ w2 p, Below w.heap.size w w2 → SetAt w2 (some ⟨sb, 0, none⟩) (ins k S) → w2.ownsRow w.heap.size 3 1 (.slice (some ⟨g, 0, none⟩) n c1) (keysV A').length (keysV A') → SetAt w2 p (G.T k) →
            Calls Tryz.prog 77 #[.slice (some ⟨g, 0, none⟩) n c1, .func (.func 90) #[] #[.pointer (some ⟨w2.heap.size, 0, none⟩)]] (w2.alloc (.cells #[.pointer p] 41)) fun e w' => ∃ v, e = .returned v ∧ w'.ownsRow w.heap.size 3 1 v (keysV (A' ++ G.T k)).length (keysV (A' ++ G.T k)) ∧ SetAt w' (some ⟨sb, 0, none⟩) (ins k S) ∧ Below w.heap.size w w') := Lib.hid fun w2 p h1 h2 h3 h4 => by
          have ba := b_alloc w2 (.cells #[.pointer p] 41)
          refine (AppendSeq_calls (w2.alloc (.cells #[.pointer p] 41)) w.heap.size w2.heap.size p _ A' (G.T k) hfew.out (Nat.le_trans h1.size ba.size) (Boxed.new w2 _ _).cell (h4.next ba) (h3.alloc _)).mono ?_
          rintro e w' ⟨v, rfl, r1, r2, r3⟩
          refine ⟨v, rfl, r1, set_row (h2.next ba) (h3.alloc _) r3, (b_then h1 ba).grown r3 (Nat.le_trans h1.size ba.size) fun q e => ?_⟩
          exact (h3.lt q e).1
        clear hz hms1 hgg hkS hsh hSr hSl hlen hTk hW hG hbr
        go_wp2_with (go_at_call 28; refine hAdd.out.mono ?_; rintro e w2 ⟨rfl, hT⟩; obtain ⟨o2, bb2⟩ := hB2.out w2 hT; have hTg2 := Lib.hid (hTg.out w2 bb2); have hAl2 := Lib.hid (hAl.out w2); have hSeq2 := Lib.hid fun p (hp : SetAt w2 p (G.T k)) => hSeq.out w2 p bb2 hT.1 o2 hp; clear hT hB2 hTg hAl hSeq bb2 o2)
        go_wp2_with (first
          | (go_at_call 40; refine hTg2.out.mono ?_; rintro e w' ⟨⟨p, rfl, hp⟩, hw'⟩; obtain rfl := hw'.symm; clear hw'; have hSeq3 := Lib.hid (hSeq2.out p hp); clear hp hSeq2)
          | (go_at_call 64; refine (hAl2.out _).mono ?_; rintro e w' ⟨rfl, rfl⟩)
          | (go_at_call 77; refine hSeq3.out.mono ?_; rintro e w' ⟨v', rfl, r1, r2, r3⟩))
        go_roundg (gauge (ins k S) (A' ++ G.T k))
        case measure => exact hms2.out
        case rel => exact ⟨_, _, hW2, Nat.le_refl _, Lib.hid r2, Lib.hid r1, Lib.hid r3⟩
end Go.Proofs.YtcoccaglbepbdaaGreat.Gr
