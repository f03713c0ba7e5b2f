/-
  The document's own graph: a node put in, all keys. Conditions: as many nodes as the statements ask of.
-/
import Derived.Test.YtcoccaglbepbdaaGreatRows
import Derived.Test.YtcoccaglbepbdaaGreatGrRefA
import Derived.Test.YtcoccaglbepbdaaGreatGrRefP
import Derived.Test.YtcoccaglbepbdaaGreatGrReach
namespace Go.Proofs.YtcoccaglbepbdaaGreat.Rg
open Go.RowKit Sh Gr
open Key (lt)
open Ent (key)
open Ti (keysV keysV_len keysV_snoc info_key)
open Rf (Sl sl_of_owns fold_len fold_rises fold_mem)
attribute [local go_sem] fold_none

/-- the rising list of some numbers handed back -/
def GivesOf (w : World) (M : List Int) (e : Ending) (w' : World) : Prop := ∃ u L, e = .returned u ∧ (∀ q, u.ownBlock = some q → w.heap.size ≤ q) ∧ Sl w' u L ∧ Rises L ∧ (∀ x, x ∈ L ↔ x ∈ M) ∧ L.length ≤ M.length ∧ Below w.heap.size w w'
theorem ROf_gives (w : World) (v : Value) (M : List Int) (hM : M.length ≤ 800000) (hv : Sl w v M) : Calls Tryz.prog 52 #[v] w (GivesOf w M) :=
  (Rf.ROfF_calls w v M hM hv).mono fun e w' ⟨u, h1, hf, h2, h3⟩ => ⟨u, _, h1, hf, h2, fold_rises M List.Pairwise.nil, fun x => by rw [fold_mem M List.Pairwise.nil]; simp, by have := fold_len M ([] : List Int); simpa using this, h3⟩

set_option maxHeartbeats 2000000 in
theorem RKeys_calls (w : World) (b : Nat) (G : Gph) (h : RefAt w b G) (hD : G.D.length ≤ 1000) :
    Calls Tryz.prog 17 #[.pointer (some ⟨b, 0, none⟩)] w (GivesS w G.D) := by
  obtain ⟨s, cap, g, off, P, h1, h2, h3, h4⟩ := h.all
  have hPl := h3.len h.ok
  have hend0 : Hid (∀ wr u, Sl wr u ((P.map fun p => p.1).foldl (fun d x => ins x d) ([] : List Int)) → Below w.heap.size w wr → GivesS w G.D (.returned u) wr) := Lib.hid fun wr u hu hb => by
    have : (P.map fun p => p.1).foldl (fun d x => ins x d) ([] : List Int) = G.D := rises_one (fold_rises _ List.Pairwise.nil) h.ok.rises fun x => by rw [fold_mem _ List.Pairwise.nil, h3.mem]; simp
    exact ⟨u, rfl, this ▸ hu, hb⟩
  obtain ⟨n, hn⟩ : ∃ n, Hid (P.length = n) := ⟨_, Lib.hid rfl⟩
  have hn1 : n ≤ 1000 := by rw [← hn.out]; omega
  rw [hn.out] at h1
  have hbox := Lib.hid fun w' (hb : Below w.heap.size w w') => And.intro (box_below h1 hb).cell (h2.next hb)
  have o0 : Hid (Sl (w.alloc (.cells #[] 3)) (.slice (some ⟨w.heap.size, 0, none⟩) 0 0) (((P.take 0).map fun p => p.1).foldl (fun d x => ins x d) ([] : List Int))) := Lib.hid ⟨_, 0, rfl, fun h => by simp at h⟩
  have b0 := Lib.hid (b_alloc w (.cells #[] 3))
  clear h h1 h2 h3 h4 hPl hD
  go_enter Tryz.func17, Tryz.ntmps17
  go_wp2
  go_loopg [3, 4] n (fun gg s3 s4 wr => ∃ (i : Nat) (ua : Option Addr) (un uc : Nat), s3 = .slice ua un uc ∧ s4 = .int .i64 (i : Int) ∧ i ≤ n ∧ n - i ≤ gg ∧ Hid (Sl wr (.slice ua un uc) (((P.take i).map fun p => p.1).foldl (fun d x => ins x d) ([] : List Int))) ∧ Hid (Below w.heap.size w wr))
  case atStart => exact ⟨0, _, _, _, rfl, rfl, by omega, by omega, o0, b0⟩
  case round =>
    clear o0 b0
    obtain ⟨i, ua, un, uc, rfl, rfl, hi, hgg, ho, hb⟩ := hrel
    obtain ⟨cb, hN⟩ := hbox.out wr hb.out
    by_cases hlt : i < n
    · have hip : P[i]? = some (P[i]'(by rw [hn.out]; exact hlt)) := List.getElem?_eq_getElem _
      obtain ⟨rfl, hg⟩ := hN.addr (by rw [hn.out]; omega)
      have ck := hN.key i _ hip
      have l1 : (i : Int) < n := by omega
      have l2 : (0 : Int) ≤ i := by omega
      have hw1 : IntKind.i64.wrap ((i : Int) + 1) = ((i + 1 : Nat) : Int) := wrap_nat (i + 1) (by omega)
      have hms : Hid (n - (i + 1) < gk) := Lib.hid (by omega)
      have hi2 : Hid (i + 1 ≤ n) := Lib.hid (by omega)
      generalize P[i]'(by rw [hn.out]; exact hlt) = p at *
      have hst : Hid (((P.take (i + 1)).map fun p => p.1).foldl (fun d x => ins x d) ([] : List Int) = ins p.1 (((P.take i).map fun p => p.1).foldl (fun d x => ins x d) ([] : List Int))) := Lib.hid (by
        rw [List.take_add_one, hip, List.map_append, List.foldl_append]; rfl)
      have hPut := Lib.hid (Rf.RPut_calls wr (.slice ua un uc) _ p.1 (by have := fold_len ((P.take i).map fun p => p.1) ([] : List Int); rw [List.length_map, List.length_take, List.length_nil] at this; omega) (fold_rises _ List.Pairwise.nil) ho.out)
      rw [← hst.out] at hPut
      clear hN hip hg ho hst hlt hgg hi
      generalize p.1 = y at *
      go_wp2_with fail
      refine hPut.out.mono ?_
      rintro e w2 ⟨u, rfl, hS, b2⟩
      obtain ⟨xa, xn, xc, rfl⟩ : ∃ a n c, u = .slice a n c := by obtain ⟨s, c, rfl, _⟩ := hS; exact ⟨_, _, _, rfl⟩
      have hb2 := Lib.hid (b_next hb.out b2 (Nat.le_refl _))
      replace hS := Lib.hid hS
      clear hPut b2
      go_wp2
      go_roundg (n - (i + 1))
      case measure => exact hms.out
      case rel => exact ⟨i + 1, xa, xn, xc, rfl, by simp, hi2.out, Nat.le_refl _, hS, hb2⟩
    · obtain rfl : i = n := by omega
      have l1 : ¬ (i : Int) < i := by omega
      have hend := Lib.hid (hend0.out wr _ (by have := ho.out; rw [List.take_of_length_le (by rw [hn.out]; exact Nat.le_refl _)] at this; exact this) hb.out)
      clear hN ho
      go_wp2
      go_ret
      exact hend.out

theorem sl_grown {W W' : World} {u : Value} {A : List Int} {row : Option Nat} (h : Sl W u A) (hg : W.grownBy W' row) (hr : ∀ q, row = some q → u.ownBlock ≠ some q) : Sl W' u A := by
  obtain ⟨s, c, rfl, h1⟩ := h
  refine ⟨s, c, rfl, fun h0 => ?_⟩
  obtain ⟨g, off, rfl, hl, hc⟩ := h1 h0
  exact ⟨g, off, rfl, Nat.lt_of_lt_of_le hl hg.size, fun j hj => (World.cell?_of_block (a := ⟨g, off + j, none⟩) (hg.block g hl fun e => hr g e.symm rfl)).trans (hc j hj)⟩
/-- nodes as cells -/
def rowN (P : List (Int × Value)) : List Value := P.flatMap fun p => [.int .i64 p.1, p.2]
theorem rowN_snoc (P : List (Int × Value)) (p : Int × Value) : rowN P ++ [.int .i64 p.1, p.2] = rowN (P ++ [p]) := by simp [rowN]
theorem rowN_at : ∀ (P : List (Int × Value)) (i : Nat) (p : Int × Value), P[i]? = some p → (rowN P)[i * 2]? = some (.int .i64 p.1) ∧ (rowN P)[i * 2 + 1]? = some p.2
  | [], i, e, h => by simp at h
  | x :: L, 0, e, h => by simp at h; subst h; simp [rowN]
  | x :: L, i + 1, e, h => by
    have ih := rowN_at L i e (by simpa using h)
    have hc : rowN (x :: L) = [.int .i64 x.1, x.2] ++ rowN L := by simp [rowN]
    have hl : ([.int .i64 x.1, x.2] : List Value).length = 2 := rfl
    rw [hc, show (i + 1) * 2 = i * 2 + 2 by omega]
    refine ⟨?_, ?_⟩
    · rw [List.getElem?_append_right (by omega), hl]; exact ih.1
    · rw [List.getElem?_append_right (by omega), hl, show i * 2 + 2 + 1 - 2 = i * 2 + 1 by omega]; exact ih.2
/-- nodes in a row of the call's own -/
def OwnN (B : Nat) (w : World) (v : Value) (P : List (Int × Value)) : Prop := w.ownsRow B 63 2 v P.length (rowN P)
theorem OwnN.new (w : World) (B : Nat) (hB : B ≤ w.heap.size) : OwnN B (w.alloc (.cells #[] 63)) (.slice (some ⟨w.heap.size, 0, none⟩) 0 0) [] := by
  refine ⟨by simp [rowN], Or.inr ⟨w.heap.size, 0, #[], rfl, hB, (show _ = _ by show (w.heap.push _)[w.heap.size]? = _; simp), by simp, by simp [maxLen], by simp, by simp [rowN]⟩⟩
theorem OwnN.nodes {B : Nat} {w : World} {v : Value} {P : List (Int × Value)} (h : OwnN B w v P) : ∃ a cap b, v = .slice a P.length cap ∧ NodesAt w a b 0 P := by
  rcases h.2 with ⟨hv, h0⟩ | ⟨g, cap, cur, hv, h1, h2, h3, _⟩
  · have hP := List.length_eq_zero_iff.1 h0
    subst hP
    exact ⟨none, 0, 0, hv, ⟨fun h => by simp at h, fun i e he => by simp at he, fun i e he => by simp at he⟩⟩
  · have hb : v.ownBlock = some g := by rw [hv]; rfl
    refine ⟨some ⟨g, 0, none⟩, cap, g, hv, ⟨fun _ => ⟨rfl, (World.ownsRow.lt h g hb).2⟩, fun i e he => ?_, fun i e he => ?_⟩⟩
    · have := World.ownsRow.cells h hb _ _ (rowN_at P i e he).1; rwa [Addr.add_mid] at this
    · have := World.ownsRow.cells h hb _ _ (rowN_at P i e he).2; rw [Addr.add_mid] at this; rw [Nat.add_assoc]; exact this
theorem infoNode : (Tryz.prog.info? 63).map (fun i => (i.zero, i.size, i.bytes)) = some (some (.agg #[.int .i64 0, .slice none 0 0]), 2, 32) := by kernel_rfl
/-- append(nodes, n), as the walk stands at it -/
theorem wp_append_node {ops : Array Oper} {rest : List Oper} {o : Oper} {a : Act} {Q : Exit → Act → World → Prop} {w : World} (hgd : o.guard = none) (s x : Operand)
    (ho : o.op = .call { callee := .builtin .append, args := #[s, x], argTypes := #[54, 54] })
    (B : Nat) (v : Value) (P : List (Int × Value)) (p : Int × Value) (h1p : p.2.oneCell' = true) (hs : a.eval s = v) (hx : a.eval x = .slice (some ⟨w.heap.size, 0, none⟩) 1 1)
    (hown : OwnN B w v P) (hB : B ≤ w.heap.size) (hlen : P.length ≤ 1099511627776)
    (h : ∀ v' w', OwnN B w' v' (P ++ [p]) → (∀ u, Below B u w → Below B u w') → (w.alloc (.cells #[.int .i64 p.1, p.2] 63)).grownBy w' v.ownBlock → wpList Tryz.prog ops Q rest (a.put o.dst v') w') : wpList Tryz.prog ops Q (o :: rest) a (w.alloc (.cells #[.int .i64 p.1, p.2] 63)) := by
  obtain ⟨i0, hi, hz0, hz1, hz2⟩ := info_parts infoNode
  have hoA := World.ownsRow.alloc hown (.cells #[.int .i64 p.1, p.2] 63)
  have hnews : ∀ (j : Nat) (u : Value), ([.int .i64 p.1, p.2] : List Value)[j]? = some u → (w.alloc (.cells #[.int .i64 p.1, p.2] 63)).cell? ((⟨w.heap.size, 0, none⟩ : Addr).add j) = some u := fun j u hj => by
    match j, hj with
    | 0, hj => simp at hj; subst hj; simp [Addr.add]
    | 1, hj => simp at hj; subst hj; simp [Addr.add]
    | j + 2, hj => simp at hj
  refine wpList_append_own _ hgd s x 54 ho B 63 i0 (.agg #[.int .i64 0, .slice none 0 0]) 2 32 Tryz.underlying54 hi hz0 hz1 hz2 rfl (by decide) v P.length (rowN P) hs hoA ⟨w.heap.size, 0, none⟩ 1 1 [.int .i64 p.1, p.2] hx rfl hnews
    (fun u hu => by simp at hu; rcases hu with rfl | rfl; rfl; exact h1p) (by unfold maxLen; omega) (by omega) (by simp; omega) ?_
  intro v' w' hown' hgrow hnil
  refine h v' w' (by unfold OwnN; rw [← rowN_snoc, List.length_append]; exact hown') (fun u hu => ?_) hgrow
  exact (hu.alloc hB (.cells #[.int .i64 p.1, p.2] 63)).grown hgrow (by simp; omega) (fun k hk => (World.ownsRow.lt hoA k hk).1)
end Go.Proofs.YtcoccaglbepbdaaGreat.Rg
