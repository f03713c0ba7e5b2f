/-
  The statements' own helpers: what going over a set of numbers gives, all of it and from one on; those of a list from one on. Conditions: a set of at most 1000 numbers.
-/
import Derived.Test.YtkdghmbglaghlaaRows
import Derived.Test.YtkdghmbglaghlaaShFrom
import Derived.Test.YtkdghmbglaghlaaShRefC
namespace Go.Proofs.Ytkdghmbglaghlaa.Rf
open Go.RowKit Sh
open Ti (Reads keysV keysV_len keysV_snoc info_key)

set_option maxHeartbeats 4000000 in
set_option maxRecDepth 100000 in
theorem Above_calls (w : World) (v : Value) (M : List Int) (y : Int) (hM : M.length ≤ 1000000) (hv : Sl w v M) :
    Calls Try.prog 20 #[v, .int .i64 y] w fun e w' => ∃ u, e = .returned u ∧ w'.ownsRow w.heap.size 3 1 u (keysV (M.filter (fun a => !decide (a < y)))).length (keysV (M.filter (fun a => !decide (a < y)))) ∧ Below w.heap.size w w' := by
  obtain ⟨s, cap, rfl, hr⟩ := hv
  obtain ⟨i0, hi, hz0, hz1, hz2⟩ := info_parts info_key
  obtain ⟨p, hpd⟩ : ∃ p : Int → Bool, Hid (p = (fun a => !decide (a < y))) := ⟨_, Lib.hid rfl⟩
  rw [← hpd.out]
  have o0 := Lib.hid (alloc_none w)
  have b0 := Lib.hid (b_alloc w (.cells #[] 3))
  go_enter Try.func20, Try.ntmps20
  go_wp2
  go_loopg [5, 6] M.length (fun gg s5 s6 wr => ∃ (k : Nat) (ua : Option Addr) (un uc : Nat), s5 = .slice ua un uc ∧ s6 = .int .i64 (k : Int) ∧ k ≤ M.length ∧ M.length - k ≤ gg ∧ Hid (wr.ownsRow w.heap.size 3 1 (.slice ua un uc) (keysV ((M.take k).filter p)).length (keysV ((M.take k).filter p))) ∧ Hid (Below w.heap.size w wr))
  case atStart => exact ⟨0, _, _, _, rfl, rfl, by omega, by omega, o0, b0⟩
  case round =>
    clear o0 b0
    obtain ⟨k, ua, un, uc, rfl, rfl, hk, hgg, ho, hb⟩ := hrel
    by_cases hlt : k < M.length
    · obtain ⟨g, off, rfl, hg, hc⟩ := hr (by omega)
      have ck : wr.cell? ⟨g, off + k, none⟩ = some (.int .i64 (M[k]?.getD 0)) := (hb.out.cell (p := ⟨g, off + k, none⟩) hg).trans (hc k hlt)
      have l1 : (k : Int) < M.length := by omega
      have l2 : (0 : Int) ≤ k := by omega
      have hms : Hid (M.length - (k + 1) < gk) := Lib.hid (by omega)
      have hk2 : Hid (k + 1 ≤ M.length) := Lib.hid (by omega)
      have hw1 : IntKind.i64.wrap ((k : Int) + 1) = ((k + 1 : Nat) : Int) := wrap_nat (k + 1) (by omega)
      have hst := Lib.hid (kept_more p M k hlt)
      have hfl : Hid (((M.take k).filter p).length ≤ k) := Lib.hid (by have := List.length_filter_le p (M.take k); simp at this; omega)
      have hk1 : Hid (k < 1000000) := Lib.hid (by omega)
      have hbs := Lib.hid hb.out.size
      obtain ⟨x, hx⟩ : ∃ x, Hid (M[k]?.getD 0 = x) := ⟨_, Lib.hid rfl⟩
      rw [hx.out] at ck hst

      by_cases hp : p x = true
      · have hst2 := Lib.hid hst.out
        rw [hp, if_pos rfl] at hst2
        have hb4 : y ≤ x := by rw [hpd.out] at hp; simp at hp; omega
        have hb3 : decide (y ≤ x) = true := decide_eq_true hb4
        clear hc hr hst hp
        generalize (M.take k).filter p = D at *
        have hl1 := Lib.hid (keysV_len D)
        have hl2 := Lib.hid (keysV_snoc D x)
        go_wp2_with (first
          | (fail)
          | (at_builtin; refine wpList_append_own _ rfl _ _ 22 rfl w.heap.size 3 i0 (.int .i64 0) 1 8 Try.underlying22 hi hz0 hz1 hz2 rfl (by decide) _ _ _ rfl (ho.out.alloc _) ⟨wr.heap.size, 0, none⟩ 1 1 [.int .i64 x] rfl rfl (cell_one_new _ _ _) (by simp [Value.oneCell']) ?c3 ?c4 ?c5 ?_))
        case c3 => have := hl1.out; have := hfl.out; have := hk1.out; simp [maxLen]; omega
        case c4 => have := hl1.out; have := hfl.out; have := hk1.out; omega
        case c5 => have := hbs.out; simp; omega
        intro v' w2 ho' hgrow _
        have hb2 : Hid (Below w.heap.size w w2) := Lib.hid ((b_next hb.out (b_alloc _ _) (Nat.le_refl _)).grown hgrow (by have := hbs.out; simp; omega) (fun q e => (ho.out.lt q e).1))
        obtain ⟨ya, yn, yc, rfl⟩ : ∃ ya yn yc, v' = .slice ya yn yc := by
          rcases ho'.2 with ⟨hv, _⟩ | ⟨g, cap, cur, hv, _⟩
          · exact ⟨_, _, _, hv⟩
          · exact ⟨_, _, _, hv⟩
        have ho2 : Hid (w2.ownsRow w.heap.size 3 1 (.slice ya yn yc) (keysV ((M.take (k + 1)).filter p)).length (keysV ((M.take (k + 1)).filter p))) := Lib.hid (by
          rw [hst2.out, hl2.out, List.length_append]; exact ho')
        clear ho' hgrow
        go_wp2
        go_roundg (M.length - (k + 1))
        case measure => exact hms.out
        case rel => exact ⟨k + 1, ya, yn, yc, rfl, by simp, hk2.out, Nat.le_refl _, ho2, hb2⟩
      · have hp2 : p x = false := by simpa using hp
        have hst2 := Lib.hid hst.out
        rw [hp2] at hst2
        simp only [Bool.false_eq_true, if_false, List.append_nil] at hst2
        have hb4 : x < y := by rw [hpd.out] at hp2; simpa using hp2
        have hb3 : decide (y ≤ x) = false := decide_eq_false (by omega)
        have hb5 : ¬ y ≤ x := by omega
        have ho2 : Hid (wr.ownsRow w.heap.size 3 1 (.slice ua un uc) (keysV ((M.take (k + 1)).filter p)).length (keysV ((M.take (k + 1)).filter p))) := Lib.hid (by rw [hst2.out]; exact ho.out)
        clear hc hr hst hp hp2 ho
        go_wp2_with (fail)
        go_roundg (M.length - (k + 1))
        case measure => exact hms.out
        case rel => exact ⟨k + 1, ua, un, uc, rfl, by simp, hk2.out, Nat.le_refl _, ho2, hb⟩
    · obtain rfl : k = M.length := by omega
      have l1 : ¬ (M.length : Int) < M.length := by omega
      have ho2 : Hid (wr.ownsRow w.heap.size 3 1 (.slice ua un uc) (keysV (M.filter p)).length (keysV (M.filter p))) := Lib.hid (by have := ho.out; rw [List.take_length] at this; exact this)
      clear hr ho
      go_wp2
      go_ret
      exact ⟨_, rfl, ho2.out, hb.out⟩
end Go.Proofs.Ytkdghmbglaghlaa.Rf
namespace Go.Proofs.Ytkdghmbglaghlaa.Ti
open Go.RowKit Go.Shelf Sh
open Key (lt)
attribute [local go_sem] Oper.semAt_some fold_none

theorem run_eql_func_nil {P : Program} (w : World) {t : TypeId} {ps rs : Array TypeId} {vd : Bool} (h : P.underlying t = some (.func ps rs vd)) (f : Fn) (a b : Array Value) : (binOp .eql t (.func f a b) .nilFunc).run P w = .ok (.bool false) w := by
  have h1 : ∀ d : Nat, (Op.equalIn (d + 1) t (.func f a b) .nilFunc).run P w = .ok false w := fun d => by simp [Op.equalIn, run_underlying h]
  have : (Op.equal t (.func f a b) .nilFunc).run P w = .ok false w := h1 9999
  simp [binOp, this]
theorem eql_seq (w : World) (f : Fn) (a b : Array Value) : (binOp .eql 62 (.func f a b) .nilFunc).run Try.prog w = .ok (.bool false) w := run_eql_func_nil w Try.underlying62 f a b
attribute [local go_sem] eql_seq

set_option maxRecDepth 100000 in
set_option maxHeartbeats 4000000 in
theorem goneAll_calls (w : World) (a : Option Addr) (k : Int) (L : List Int) (hA : SetAt w a L) (hl : L.length ≤ 1000) (hR : Rises L) :
    Calls Try.prog 19 #[.pointer a, .bool false, .int .i64 k] w (Lists w 3 (keysV (L))) := by
  obtain ⟨i0, hi, hz0, hz1, hz2⟩ := info_parts info_key
  have o0 := World.ownsRow_made (e := 3) (size := 1) w #[] 0 (Nat.le_refl w.heap.size) (by simp [maxLen]) rfl
  have bO := Boxed.new (w.alloc (.cells #[] 3)) 22 (.slice (some ⟨w.heap.size, 0, none⟩) 0 0)
  rw [World.size_alloc] at bO
  have o1 := o0.alloc (.cells #[.slice (some ⟨w.heap.size, 0, none⟩) 0 0] 22)
  have b1 := b_then (b_alloc w (.cells #[] 3)) (b_alloc _ (.cells #[.slice (some ⟨w.heap.size, 0, none⟩) 0 0] 22))
  have hsz0 : ((w.alloc (.cells #[] 3)).alloc (.cells #[.slice (some ⟨w.heap.size, 0, none⟩) 0 0] 22)).heap.size = w.heap.size + 1 + 1 := by simp
  have hlen : (L).length ≤ 1000 := by exact hl
  obtain ⟨W0, hW0⟩ : ∃ W0, W0 = ((w.alloc (.cells #[] 3)).alloc (.cells #[.slice (some ⟨w.heap.size, 0, none⟩) 0 0] 22)).alloc (.cells #[.pointer a] 25) := ⟨_, rfl⟩
  have x2 := Boxed.new ((w.alloc (.cells #[] 3)).alloc (.cells #[.slice (some ⟨w.heap.size, 0, none⟩) 0 0] 22)) 25 (.pointer a)
  rw [hsz0, ← hW0] at x2
  have bW : Below w.heap.size w W0 := by rw [hW0]; exact b_then b1 (b_alloc _ _)
  have hbox : Boxed W0 (w.heap.size + 1) 22 (.slice (some ⟨w.heap.size, 0, none⟩) 0 0) := by rw [hW0]; exact bO.alloc _
  have hown : W0.ownsRow w.heap.size 3 1 (.slice (some ⟨w.heap.size, 0, none⟩) 0 0) 0 [] := by rw [hW0]; exact o1.alloc _
  have hszW : W0.heap.size = w.heap.size + 3 := by rw [hW0]; simp
  have hst := setAll1_stops 2 W0 (w.heap.size + 1 + 1) a L x2.cell (hA.next bW)
  have hM := Lib.hid fun w' => SetAll_calls w' a

  clear hA o0 o1
  replace hW0 := Lib.hid hW0
  replace hlen := Lib.hid hlen
  replace hst := Lib.hid hst
  replace hown := Lib.hid hown
  replace hbox := Lib.hid hbox
  replace bW := Lib.hid bW
  replace hszW := Lib.hid hszW
  clear bO b1 hsz0
  generalize L = Z at *
  refine (callsIn_wide (n := 3)).1 ?_
  refine callsIn_of_wp_marks Try.func19 rfl trivial ?_ rfl
  simp only [Try.ntmps19, List.size_toArray, List.length_cons, List.length_nil, Nat.reduceAdd, Nat.reduceSub, Array.replicate_succ, Array.replicate_zero, List.push_toArray, List.append_toArray, List.nil_append, List.cons_append]
  gi_wp2_with (refine ⟨trivial, ?_⟩; gi_at_call 40; refine (callsIn_wide.2 (hM.out _)).mono ?_; rintro e w' ⟨rfl, rfl⟩)
  rw [← hW0.out]
  have hszW1 := hszW.out
  refine wpIn_rangeFunc_ownG rfl (by omega) (gf := 63) (lb := #[.pointer (some ⟨w.heap.size + 1 + 1, 0, none⟩)]) rfl trivial (enters_of Try.func63 (by kernel_rfl) rfl)
    hst.out (fun h k => Keeps.trans h k) keeps_put (Below.refl _ _) (fun _ => rfl)
    (fun pre W => (∃ v, Boxed W (w.heap.size + 1) 22 v ∧ W.ownsRow w.heap.size 3 1 v (keysV pre).length (keysV pre) ∧ ∃ g c, v = .slice (some ⟨g, 0, none⟩) (keysV pre).length c) ∧ Below w.heap.size w W)
    (fun _ _ _ => False)
    (OwnFrom.and (Own.from (holdsRow_own w.heap.size (w.heap.size + 1) 22 3 1 (fun pre => (keysV pre).length) keysV (fun pre v => ∃ g c, v = .slice (some ⟨g, 0, none⟩) (keysV pre).length c)) _) (ownFrom_below (Nat.le_refl _) (by omega)))
    (fun _ _ _ _ _ hs _ _ => hs)
    ⟨⟨_, hbox.out, hown.out, _, _, rfl⟩, bW.out⟩
    ?a1 ?assign ?body ?done ?stop
  case assign =>
    intro l x W K hK
    gi_wp2
    exact hK
  case body =>
    rintro l pre x W ⟨⟨v, hv, hrow, g0, c0, rfl⟩, hB⟩ hlt
    have hc := hv.cell
    have hp1 : Hid ((keysV pre).length < Z.length) := Lib.hid (by rw [keysV_len]; exact hlt)
    have hp2 := Lib.hid (keysV_snoc pre x)
    have hq : decide ((1000 : Int) < ((keysV pre).length : Int)) = false := decide_eq_false (by have := hp1.out; have := hlen.out; omega)
    have hq2 : ((keysV pre).length : Int) ≤ 1000 := by have := hp1.out; have := hlen.out; omega
    generalize keysV pre = N at *
    gi_wp2_with (gi_at_builtin; refine wpListIn_append_own _ rfl _ _ 22 rfl w.heap.size 3 i0 (.int .i64 0) 1 8 Try.underlying22 hi hz0 hz1 hz2 rfl (by decide) _ _ _ rfl (hrow.alloc _) ⟨W.heap.size, 0, none⟩ 1 1 [.int .i64 x] rfl rfl (cell_one_new _ _ _) (by simp [Value.oneCell']) (by have := hp1.out; have := hlen.out; simp [maxLen]; omega) (by have := hp1.out; have := hlen.out; omega) (by have := hB.size; simp; omega) ?_; intro v' w1 hown' hgrow _; obtain ⟨g', cap', rfl⟩ := ownsRow_succ hown'; obtain ⟨hv1, hv2, hr2, hk2, hb2⟩ := hv.appended (by decide) hrow hB.size (by omega) hown' hgrow; have hc1 := hv1.cell; have hf1 := hv1.frozen)
    have hnd : Hid (Keeps W (w1.setCell ⟨w.heap.size + 1, 0, none⟩ (.slice (some ⟨g', 0, none⟩) (N.length + 1) cap'))) := Lib.hid ⟨stays_append (by decide) (by decide) hrow hgrow hv1, stays_append (by decide) (by decide) hrow hgrow hv1⟩
    have hl2 : Hid ((keysV (pre ++ [x])).length = N.length + 1) := Lib.hid (by rw [hp2.out]; simp)
    exact ⟨hk2.from _, hnd.out, ⟨_, hv2, by rw [hl2.out, hp2.out]; exact hr2, _, _, by rw [hl2.out]⟩, hB.trans hb2⟩
  case done =>
    rintro D ys W hD rfl ⟨⟨v, hv, hrow, hsome⟩, hB⟩ hK
    have hc := hv.cell
    gi_wp2
    refine ⟨by simp, .inl ⟨_, _, rfl, run_takeDeferred hK, ?_⟩⟩
    exact ⟨_, results_tmp rfl _ _ _, v, rfl, ⟨ownsRow_putObj hrow _ hK rfl, hsome⟩, hB.trans (belowK_b (w := w) (Nat.le_refl _) W D _ _ (by omega) hK rfl rfl)⟩
  case stop =>
    rintro D c pre W _ _ h _
    exact h.elim

set_option maxRecDepth 100000 in
set_option maxHeartbeats 4000000 in
theorem goneFrom_calls (w : World) (a : Option Addr) (k : Int) (L : List Int) (hA : SetAt w a L) (hl : L.length ≤ 1000) (hR : Rises L) :
    Calls Try.prog 19 #[.pointer a, .bool true, .int .i64 k] w (Lists w 3 (keysV (abv k L))) := by
  obtain ⟨i0, hi, hz0, hz1, hz2⟩ := info_parts info_key
  have o0 := World.ownsRow_made (e := 3) (size := 1) w #[] 0 (Nat.le_refl w.heap.size) (by simp [maxLen]) rfl
  have bO := Boxed.new (w.alloc (.cells #[] 3)) 22 (.slice (some ⟨w.heap.size, 0, none⟩) 0 0)
  rw [World.size_alloc] at bO
  have o1 := o0.alloc (.cells #[.slice (some ⟨w.heap.size, 0, none⟩) 0 0] 22)
  have b1 := b_then (b_alloc w (.cells #[] 3)) (b_alloc _ (.cells #[.slice (some ⟨w.heap.size, 0, none⟩) 0 0] 22))
  have hsz0 : ((w.alloc (.cells #[] 3)).alloc (.cells #[.slice (some ⟨w.heap.size, 0, none⟩) 0 0] 22)).heap.size = w.heap.size + 1 + 1 := by simp
  have hlen : (abv k L).length ≤ 1000 := by have := List.length_filter_le (fun x => !lt (Ent.key x) k) L; unfold abv; omega
  obtain ⟨W0, hW0⟩ : ∃ W0, W0 = ((((w.alloc (.cells #[] 3)).alloc (.cells #[.slice (some ⟨w.heap.size, 0, none⟩) 0 0] 22)).alloc (.cells #[.pointer a] 25)).alloc (.cells #[.pointer a] 25)).alloc (.cells #[.int .i64 k] 3) := ⟨_, rfl⟩
  have y0 := ((Boxed.new (((w.alloc (.cells #[] 3)).alloc (.cells #[.slice (some ⟨w.heap.size, 0, none⟩) 0 0] 22)).alloc (.cells #[.pointer a] 25)) 25 (.pointer a)).alloc (.cells #[.int .i64 k] 3))
  have y1 := Boxed.new ((((w.alloc (.cells #[] 3)).alloc (.cells #[.slice (some ⟨w.heap.size, 0, none⟩) 0 0] 22)).alloc (.cells #[.pointer a] 25)).alloc (.cells #[.pointer a] 25)) 3 (.int .i64 k)
  rw [World.size_alloc, hsz0, ← hW0] at y0
  rw [World.size_alloc, World.size_alloc, hsz0, ← hW0] at y1
  have bW : Below w.heap.size w W0 := by rw [hW0]; exact b_then b1 (b_then (b_alloc _ _) (b_then (b_alloc _ _) (b_alloc _ _)))
  have hbox : Boxed W0 (w.heap.size + 1) 22 (.slice (some ⟨w.heap.size, 0, none⟩) 0 0) := by rw [hW0]; exact ((bO.alloc _).alloc _).alloc _
  have hown : W0.ownsRow w.heap.size 3 1 (.slice (some ⟨w.heap.size, 0, none⟩) 0 0) 0 [] := by rw [hW0]; exact ((o1.alloc _).alloc _).alloc _
  have hszW : W0.heap.size = w.heap.size + 5 := by rw [hW0]; simp
  have hst := setFrom1_stops 2 W0 (w.heap.size + 1 + 1 + 1) (w.heap.size + 1 + 1 + 1 + 1) a k L y0.cell y1.cell (hA.next bW) hR
  have hM := Lib.hid fun w' => SetAll_calls w' a
  have hF := Lib.hid fun w2 => SetFrom_calls w2 a k
  clear hA o0 o1
  replace hW0 := Lib.hid hW0
  replace hlen := Lib.hid hlen
  replace hst := Lib.hid hst
  replace hown := Lib.hid hown
  replace hbox := Lib.hid hbox
  replace bW := Lib.hid bW
  replace hszW := Lib.hid hszW
  clear bO b1 hsz0
  generalize abv k L = Z at *
  refine (callsIn_wide (n := 3)).1 ?_
  refine callsIn_of_wp_marks Try.func19 rfl trivial ?_ rfl
  simp only [Try.ntmps19, List.size_toArray, List.length_cons, List.length_nil, Nat.reduceAdd, Nat.reduceSub, Array.replicate_succ, Array.replicate_zero, List.push_toArray, List.append_toArray, List.nil_append, List.cons_append]
  gi_wp2_with (first | (refine ⟨trivial, ?_⟩; gi_at_call 40; refine (callsIn_wide.2 (hM.out _)).mono ?_; rintro e w' ⟨rfl, rfl⟩) | (refine ⟨trivial, ?_⟩; gi_at_call 51; refine (callsIn_wide.2 (hF.out _)).mono ?_; rintro e w' ⟨rfl, rfl⟩))
  rw [← hW0.out]
  have hszW1 := hszW.out
  refine wpIn_rangeFunc_ownG rfl (by omega) (gf := 74) (lb := #[.pointer (some ⟨w.heap.size + 1 + 1 + 1, 0, none⟩), .pointer (some ⟨w.heap.size + 1 + 1 + 1 + 1, 0, none⟩)]) rfl trivial (enters_of Try.func74 (by kernel_rfl) rfl)
    hst.out (fun h k => Keeps.trans h k) keeps_put (Below.refl _ _) (fun _ => rfl)
    (fun pre W => (∃ v, Boxed W (w.heap.size + 1) 22 v ∧ W.ownsRow w.heap.size 3 1 v (keysV pre).length (keysV pre) ∧ ∃ g c, v = .slice (some ⟨g, 0, none⟩) (keysV pre).length c) ∧ Below w.heap.size w W)
    (fun _ _ _ => False)
    (OwnFrom.and (Own.from (holdsRow_own w.heap.size (w.heap.size + 1) 22 3 1 (fun pre => (keysV pre).length) keysV (fun pre v => ∃ g c, v = .slice (some ⟨g, 0, none⟩) (keysV pre).length c)) _) (ownFrom_below (Nat.le_refl _) (by omega)))
    (fun _ _ _ _ _ hs _ _ => hs)
    ⟨⟨_, hbox.out, hown.out, _, _, rfl⟩, bW.out⟩
    ?a1 ?assign ?body ?done ?stop
  case assign =>
    intro l x W K hK
    gi_wp2
    exact hK
  case body =>
    rintro l pre x W ⟨⟨v, hv, hrow, g0, c0, rfl⟩, hB⟩ hlt
    have hc := hv.cell
    have hp1 : Hid ((keysV pre).length < Z.length) := Lib.hid (by rw [keysV_len]; exact hlt)
    have hp2 := Lib.hid (keysV_snoc pre x)
    have hq : decide ((1000 : Int) < ((keysV pre).length : Int)) = false := decide_eq_false (by have := hp1.out; have := hlen.out; omega)
    have hq2 : ((keysV pre).length : Int) ≤ 1000 := by have := hp1.out; have := hlen.out; omega
    generalize keysV pre = N at *
    gi_wp2_with (gi_at_builtin; refine wpListIn_append_own _ rfl _ _ 22 rfl w.heap.size 3 i0 (.int .i64 0) 1 8 Try.underlying22 hi hz0 hz1 hz2 rfl (by decide) _ _ _ rfl (hrow.alloc _) ⟨W.heap.size, 0, none⟩ 1 1 [.int .i64 x] rfl rfl (cell_one_new _ _ _) (by simp [Value.oneCell']) (by have := hp1.out; have := hlen.out; simp [maxLen]; omega) (by have := hp1.out; have := hlen.out; omega) (by have := hB.size; simp; omega) ?_; intro v' w1 hown' hgrow _; obtain ⟨g', cap', rfl⟩ := ownsRow_succ hown'; obtain ⟨hv1, hv2, hr2, hk2, hb2⟩ := hv.appended (by decide) hrow hB.size (by omega) hown' hgrow; have hc1 := hv1.cell; have hf1 := hv1.frozen)
    have hnd : Hid (Keeps W (w1.setCell ⟨w.heap.size + 1, 0, none⟩ (.slice (some ⟨g', 0, none⟩) (N.length + 1) cap'))) := Lib.hid ⟨stays_append (by decide) (by decide) hrow hgrow hv1, stays_append (by decide) (by decide) hrow hgrow hv1⟩
    have hl2 : Hid ((keysV (pre ++ [x])).length = N.length + 1) := Lib.hid (by rw [hp2.out]; simp)
    exact ⟨hk2.from _, hnd.out, ⟨_, hv2, by rw [hl2.out, hp2.out]; exact hr2, _, _, by rw [hl2.out]⟩, hB.trans hb2⟩
  case done =>
    rintro D ys W hD rfl ⟨⟨v, hv, hrow, hsome⟩, hB⟩ hK
    have hc := hv.cell
    gi_wp2
    refine ⟨by simp, .inl ⟨_, _, rfl, run_takeDeferred hK, ?_⟩⟩
    exact ⟨_, results_tmp rfl _ _ _, v, rfl, ⟨ownsRow_putObj hrow _ hK rfl, hsome⟩, hB.trans (belowK_b (w := w) (Nat.le_refl _) W D _ _ (by omega) hK rfl rfl)⟩
  case stop =>
    rintro D c pre W _ _ h _
    exact h.elim
end Go.Proofs.Ytkdghmbglaghlaa.Ti
