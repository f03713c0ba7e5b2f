/-
  Of every two lists of numbers: union, meeting and difference of the sets made of them, gone over, are what plain lists give; whether the first lies within the second; the sets stay as they are (SetJoins). Conditions: none.
-/
import Derived.Test.YtkdghmbglaghlaaRows
import Derived.Test.YtkdghmbglaghlaaOctKit
import Derived.Test.YtkdghmbglaghlaaShAwake
import Derived.Test.YtkdghmbglaghlaaShJoin
import Derived.Test.YtkdghmbglaghlaaShUnion
import Derived.Test.YtkdghmbglaghlaaShWithin
import Derived.Test.YtkdghmbglaghlaaShRefC
import Derived.ProofKit
import Derived.OpenShut
import Derived.Stop.Joined
namespace Go.Proofs.Ytkdghmbglaghlaa.setJoins
open Go Go.ChangeShapes Go.WideShapes Go.ChangeAt Go.RowKit Sh
open Ti (SetAt Makes IsOf keysV)
open Rf (Sl)
attribute [local go_sem] fold_none

theorem reads_sl {W : World} {s : Option Addr} {cap n : Nat} {M : List Int} (hn : M.length = n) (h : Sl W (.slice s n cap) M) : Ti.Reads W.heap.size W (.slice s M.length cap) M := by
  obtain ⟨s', c', e, h1⟩ := h
  rw [← hn] at e
  obtain ⟨rfl, _, rfl⟩ : s = s' ∧ M.length = M.length ∧ cap = c' := by simpa using e
  exact ⟨s, cap, rfl, h1⟩
theorem fold_of {M L : List Int} (h : IsOf M L) : M.foldl (fun d x => ins x d) [] = L := rises_one (Rf.fold_rises M List.Pairwise.nil) h.1 (fun x => by rw [Rf.fold_mem M List.Pairwise.nil x, h.2.1 x]; simp)
theorem fold_union {A B L : List Int} (rA : Rises A) (h : IsOf (A ++ B) L) : B.foldl (fun d x => ins x d) A = L := rises_one (Rf.fold_rises B rA) h.1 (fun x => by rw [Rf.fold_mem B rA x, h.2.1 x, List.mem_append]; exact Or.comm)
theorem within_len (A B : List Int) : (A.all fun x => has x B) = decide ((A.filter fun x => !has x B).length = 0) := by
  rw [Bool.eq_iff_iff]
  simp [List.filter_eq_nil_iff]

set_option maxHeartbeats 8000000 in
set_option maxRecDepth 100000 in
theorem walk (w : World) (s1 s2 : Option Addr) (c1 c2 na nb : Nat) (M N : List Int) (hna : M.length = na) (hnb : N.length = nb) (hv : Sl w (.slice s1 na c1) M) (hu : Sl w (.slice s2 nb c2) N) :
    Calls Try.prog 4 #[.slice s1 na c1, .slice s2 nb c2] w fun e w' => e = .returned (.bool true) ∧ Below w.heap.size w w' := by
  have hAw := Lib.hid (Law.awake_calls w)
  by_cases g1 : 300 < na
  · have d1 : (300 : Int) < na := by omega
    clear hv hu hna hnb
    go_enter Try.func4, Try.ntmps4
    go_wp2_with (go_at_call 8; refine hAw.out.mono ?_; rintro e w1 ⟨rfl, b1⟩)
    go_ret
    exact ⟨rfl, b1⟩
  have d1 : decide ((300 : Int) < na) = false := decide_eq_false (by omega)
  have d2 : (na : Int) ≤ 300 := by omega
  by_cases g2 : 300 < nb
  · have d3 : (300 : Int) < nb := by omega
    clear hv hu hna hnb
    go_enter Try.func4, Try.ntmps4
    go_wp2_with (go_at_call 8; refine hAw.out.mono ?_; rintro e w1 ⟨rfl, b1⟩)
    go_ret
    exact ⟨rfl, b1⟩
  have d3 : decide ((300 : Int) < nb) = false := decide_eq_false (by omega)
  have d4 : (nb : Int) ≤ 300 := by omega
  have hv0 := Lib.hid hv
  have hu0 := Lib.hid hu
  have hm : Hid (na ≤ 300) := Lib.hid (by omega)
  have hn : Hid (nb ≤ 300) := Lib.hid (by omega)
  replace hna := Lib.hid hna
  replace hnb := Lib.hid hnb
  clear hv hu g1 g2
  go_enter Try.func4, Try.ntmps4
  go_wp2_with fail
  refine hAw.out.mono ?_
  rintro e w1 ⟨rfl, b1⟩
  have hv1 := hv0.out.next b1
  have hu1 := hu0.out.next b1
  have hOf := Ti.Of_calls w1 s1 c1 M (by have := hna.out; have := hm.out; omega) (reads_sl hna.out hv1)
  rw [hna.out] at hOf
  replace hOf := Lib.hid hOf
  replace b1 := Lib.hid b1
  clear hAw hv0 hu0
  go_wp2_with fail
  refine hOf.out.mono ?_
  rintro e w2 ⟨A, hA, p, rfl, -, hS, b2⟩
  have hv2 := hv1.next b2
  have hu2 := hu1.next b2
  have b02 := Lib.hid (b_then b1.out b2)
  have hOf2 := Ti.Of_calls w2 s2 c2 N (by have := hnb.out; have := hn.out; omega) (reads_sl hnb.out hu2)
  rw [hnb.out] at hOf2
  replace hOf2 := Lib.hid hOf2
  replace hA := Lib.hid hA
  clear hOf hv1 hu1 b1 b2
  go_wp2_with fail
  refine hOf2.out.mono ?_
  rintro e w3 ⟨B, hB, q, rfl, -, hT, b3⟩
  have hv3 := hv2.next b3
  have hu3 := hu2.next b3
  have hS3 := hS.next b3
  have b03 := Lib.hid (b_then b02.out b3)
  have hO3 := Lib.hid (Rf.ROf_calls w3 (.slice s1 na c1) M (by have := hna.out; have := hm.out; omega) hv3)
  rw [fold_of hA.out] at hO3
  replace hB := Lib.hid hB
  clear hOf2 hv2 hu2 b02 b3 hS
  go_wp2_with fail
  refine hO3.out.mono ?_
  rintro e w4 ⟨x, rfl, hX, b4⟩
  have hu4 := hu3.next b4
  have hS4 := hS3.next b4
  have hT4 := hT.next b4
  have b04 := Lib.hid (b_then b03.out b4)
  have hO4 := Lib.hid (Rf.ROf_calls w4 (.slice s2 nb c2) N (by have := hnb.out; have := hn.out; omega) hu4)
  rw [fold_of hB.out] at hO4
  obtain ⟨xa, xn, xc, rfl⟩ : ∃ a n c, x = .slice a n c := by obtain ⟨s, c, rfl, _⟩ := hX; exact ⟨_, _, _, rfl⟩
  clear hO3 hu3 hv3 b03 b4 hS3 hT
  go_wp2_with fail
  refine hO4.out.mono ?_
  rintro e w5 ⟨y, rfl, hY, b5⟩
  have hX5 := Lib.hid fun w' (h : Below w5.heap.size w5 w') => (hX.next b5).next h
  have hS5 := Lib.hid fun w' (h : Below w5.heap.size w5 w') => (hS4.next b5).next h
  have hT5 := Lib.hid fun w' (h : Below w5.heap.size w5 w') => (hT4.next b5).next h
  have hY5 := Lib.hid fun w' (h : Below w5.heap.size w5 w') => hY.next h
  have b05 := Lib.hid (b_then b04.out b5)
  obtain ⟨ya, yn, yc, rfl⟩ : ∃ a n c, y = .slice a n c := by obtain ⟨s, c, rfl, _⟩ := hY; exact ⟨_, _, _, rfl⟩
  have lA : Hid (A.length ≤ 300) := Lib.hid (by have := hA.out.2.2; have := hna.out; have := hm.out; omega)
  have lB : Hid (B.length ≤ 300) := Lib.hid (by have := hB.out.2.2; have := hnb.out; have := hn.out; omega)
  have rA : Hid (Rises A) := Lib.hid hA.out.1
  have rB : Hid (Rises B) := Lib.hid hB.out.1
  have bc := Lib.hid (Below.refl w5.heap.size w5)
  clear hO4 hu4 hX hY hS4 hT4 b04 b5 hA hB hm hn
  have h6 := Lib.hid (Ti.Union_calls w5 _ _ A B (hS5.out _ bc.out) (hT5.out _ bc.out) (by have := lA.out; omega) (by have := lB.out; omega))
  go_wp2_with fail
  refine h6.out.mono ?_
  rintro e w6 ⟨U, hU, p6, rfl, -, hs6, b6⟩
  have bc6 := Lib.hid (b_then bc.out b6)
  have h7 := Lib.hid (Ti.SetList_calls w6 _ U hs6 (by have h9 := hU.2.2; rw [List.length_append] at h9; have := lA.out; have := lB.out; omega))
  clear h6 hs6 b6 bc
  go_wp2_with fail
  refine h7.out.mono ?_
  rintro e w7 ⟨v7, rfl, ⟨ho7, g7, k7, rfl⟩, b7⟩
  have bc7 := Lib.hid (b_then bc6.out b7)
  have sl7 := Lib.hid (Rf.sl_of_owns ho7)
  have h8 := Lib.hid (Rf.RUnion_calls w7 (.slice xa xn xc) (.slice ya yn yc) A B (by have := lA.out; omega) (by have := lB.out; omega) rA.out (hX5.out _ bc7.out) (hY5.out _ bc7.out))
  rw [fold_union rA.out hU] at h8
  clear h7 ho7 b7 bc6
  go_wp2_with fail
  refine h8.out.mono ?_
  rintro e w8 ⟨u8, rfl, sr8, b8⟩
  have bc8 := Lib.hid (b_then bc7.out b8)
  obtain ⟨ua8, un8, uc8, rfl⟩ : ∃ a n c, u8 = .slice a n c := by obtain ⟨s, c, rfl, _⟩ := sr8; exact ⟨_, _, _, rfl⟩
  have h9 := Rf.RSame_calls w8 (.slice (some ⟨g7, 0, none⟩) (keysV U).length k7) (.slice ua8 un8 uc8) U U (by have h9 := hU.2.2; rw [List.length_append] at h9; have := lA.out; have := lB.out; omega) (sl7.out.next b8) sr8
  rw [decide_eq_true (rfl : U = U)] at h9
  replace h9 := Lib.hid h9
  clear h8 sl7 sr8 b8 bc7
  go_wp2_with fail
  refine h9.out.mono ?_
  rintro e w9 ⟨rfl, b9⟩
  have bc := Lib.hid (b_then bc8.out b9)
  clear h9 b9 bc8
  have h10 := Lib.hid (Ti.Meet_calls w9 _ _ A B (hS5.out _ bc.out) (hT5.out _ bc.out) rA.out rB.out (by have := lA.out; omega))
  go_wp2_with fail
  refine h10.out.mono ?_
  rintro e w10 ⟨p10, rfl, -, hs10, b10⟩
  have bc10 := Lib.hid (b_then bc.out b10)
  have h11 := Lib.hid (Ti.SetList_calls w10 _ (A.filter fun x => has x B) hs10 (by have := List.length_filter_le (fun x => has x B) A; have := lA.out; omega))
  clear h10 hs10 b10 bc
  go_wp2_with fail
  refine h11.out.mono ?_
  rintro e w11 ⟨v11, rfl, ⟨ho11, g11, k11, rfl⟩, b11⟩
  have bc11 := Lib.hid (b_then bc10.out b11)
  have sl11 := Lib.hid (Rf.sl_of_owns ho11)
  have h12 := Lib.hid (Rf.RMeet_calls w11 (.slice xa xn xc) A (.slice ya yn yc) B (by have := lB.out; omega) (hY5.out _ bc11.out) (by have := lA.out; omega) (hX5.out _ bc11.out))
  clear h11 ho11 b11 bc10
  go_wp2_with fail
  refine h12.out.mono ?_
  rintro e w12 ⟨u12, rfl, or12, b12⟩
  have sr12 := Rf.sl_of_owns or12
  clear or12
  have bc12 := Lib.hid (b_then bc11.out b12)
  obtain ⟨ua12, un12, uc12, rfl⟩ : ∃ a n c, u12 = .slice a n c := by obtain ⟨s, c, rfl, _⟩ := sr12; exact ⟨_, _, _, rfl⟩
  have h13 := Rf.RSame_calls w12 (.slice (some ⟨g11, 0, none⟩) (keysV (A.filter fun x => has x B)).length k11) (.slice ua12 un12 uc12) (A.filter fun x => has x B) (A.filter fun x => has x B) (by have := List.length_filter_le (fun x => has x B) A; have := lA.out; omega) (sl11.out.next b12) sr12
  rw [decide_eq_true (rfl : (A.filter fun x => has x B) = (A.filter fun x => has x B))] at h13
  replace h13 := Lib.hid h13
  clear h12 sl11 sr12 b12 bc11
  go_wp2_with fail
  refine h13.out.mono ?_
  rintro e w13 ⟨rfl, b13⟩
  have bc := Lib.hid (b_then bc12.out b13)
  clear h13 b13 bc12
  have h14 := Lib.hid (Ti.Minus_calls w13 _ _ A B (hS5.out _ bc.out) (hT5.out _ bc.out) rA.out rB.out (by have := lA.out; omega))
  go_wp2_with fail
  refine h14.out.mono ?_
  rintro e w14 ⟨p14, rfl, -, hs14, b14⟩
  have bc14 := Lib.hid (b_then bc.out b14)
  have h15 := Lib.hid (Ti.SetList_calls w14 _ (A.filter fun x => !has x B) hs14 (by have := List.length_filter_le (fun x => !has x B) A; have := lA.out; omega))
  clear h14 hs14 b14 bc
  go_wp2_with fail
  refine h15.out.mono ?_
  rintro e w15 ⟨v15, rfl, ⟨ho15, g15, k15, rfl⟩, b15⟩
  have bc15 := Lib.hid (b_then bc14.out b15)
  have sl15 := Lib.hid (Rf.sl_of_owns ho15)
  have h16 := Lib.hid (Rf.RMinus_calls w15 (.slice xa xn xc) A (.slice ya yn yc) B (by have := lB.out; omega) (hY5.out _ bc15.out) (by have := lA.out; omega) (hX5.out _ bc15.out))
  clear h15 ho15 b15 bc14
  go_wp2_with fail
  refine h16.out.mono ?_
  rintro e w16 ⟨u16, rfl, or16, b16⟩
  have sr16 := Rf.sl_of_owns or16
  clear or16
  have bc16 := Lib.hid (b_then bc15.out b16)
  obtain ⟨ua16, un16, uc16, rfl⟩ : ∃ a n c, u16 = .slice a n c := by obtain ⟨s, c, rfl, _⟩ := sr16; exact ⟨_, _, _, rfl⟩
  have h17 := Rf.RSame_calls w16 (.slice (some ⟨g15, 0, none⟩) (keysV (A.filter fun x => !has x B)).length k15) (.slice ua16 un16 uc16) (A.filter fun x => !has x B) (A.filter fun x => !has x B) (by have := List.length_filter_le (fun x => !has x B) A; have := lA.out; omega) (sl15.out.next b16) sr16
  rw [decide_eq_true (rfl : (A.filter fun x => !has x B) = (A.filter fun x => !has x B))] at h17
  replace h17 := Lib.hid h17
  clear h16 sl15 sr16 b16 bc15
  go_wp2_with fail
  refine h17.out.mono ?_
  rintro e w17 ⟨rfl, b17⟩
  have bc := Lib.hid (b_then bc16.out b17)
  clear h17 b17 bc16
  obtain ⟨z, hz⟩ : ∃ z, Hid ((A.all fun x => has x B) = z) := ⟨_, Lib.hid rfl⟩
  have h18 := Ti.Within_calls w17 _ _ A B (hS5.out _ bc.out) (hT5.out _ bc.out) rB.out
  rw [hz.out] at h18
  replace h18 := Lib.hid h18
  obtain ⟨n, hn⟩ : ∃ n, Hid ((A.filter fun x => !has x B).length = n) := ⟨_, Lib.hid rfl⟩
  have hzn : ((n : Int) == 0) = z := by
    rw [← hz.out, within_len, hn.out, Bool.eq_iff_iff]; simp
  go_wp2_with fail
  refine h18.out.mono ?_
  rintro e w18 ⟨rfl, b18⟩
  have bc18 := Lib.hid (b_then bc.out b18)
  have h19 := Lib.hid (Rf.RMinus_calls w18 (.slice xa xn xc) A (.slice ya yn yc) B (by have := lB.out; omega) (hY5.out _ bc18.out) (by have := lA.out; omega) (hX5.out _ bc18.out))
  clear h18 b18 bc
  go_wp2_with fail
  refine h19.out.mono ?_
  rintro e w19 ⟨u19, rfl, or19, b19⟩
  have bc19 := Lib.hid (b_then bc18.out b19)
  obtain ⟨ua, uc, rfl⟩ : ∃ a c, u19 = .slice a n c := by obtain ⟨s, c, rfl, _⟩ := Rf.sl_of_owns or19; exact ⟨_, _, by rw [hn.out]⟩
  have h20 := Lib.hid (Ti.SetList_calls w19 _ A (hS5.out _ bc19.out) (by have := lA.out; omega))
  clear h19 b19 bc18 or19 hn hz
  cases z
  all_goals
    go_wp2_with fail
    refine h20.out.mono ?_
    rintro e w20 ⟨v20, rfl, ⟨ho20, g20, k20, rfl⟩, b20⟩
    have bc20 := Lib.hid (b_then bc19.out b20)
    have h21 := Rf.RSame_calls w20 (.slice (some ⟨g20, 0, none⟩) (keysV A).length k20) (.slice xa xn xc) A A (by have := lA.out; omega) (Rf.sl_of_owns ho20) (hX5.out _ bc20.out)
    rw [decide_eq_true (rfl : A = A)] at h21
    replace h21 := Lib.hid h21
    clear h20 ho20 b20 bc19
    go_wp2_with fail
    refine h21.out.mono ?_
    rintro e w21 ⟨rfl, b21⟩
    have bc21 := Lib.hid (b_then bc20.out b21)
    have h22 := Lib.hid (Ti.SetList_calls w21 _ B (hT5.out _ bc21.out) (by have := lB.out; omega))
    clear h21 b21 bc20
    go_wp2_with fail
    refine h22.out.mono ?_
    rintro e w22 ⟨v22, rfl, ⟨ho22, g22, k22, rfl⟩, b22⟩
    have bc22 := Lib.hid (b_then bc21.out b22)
    have h23 := Rf.RSame_calls w22 (.slice (some ⟨g22, 0, none⟩) (keysV B).length k22) (.slice ya yn yc) B B (by have := lB.out; omega) (Rf.sl_of_owns ho22) (hY5.out _ bc22.out)
    rw [decide_eq_true (rfl : B = B)] at h23
    replace h23 := Lib.hid h23
    clear h22 ho22 b22 bc21
    go_wp2_with fail
    refine h23.out.mono ?_
    rintro e w23 ⟨rfl, b23⟩
    have bE := Lib.hid (b_then b05.out (b_then bc22.out b23))
    clear h23 b23 bc22
    go_wp2
    go_ret
    exact ⟨rfl, bE.out⟩

theorem sl_open {W : World} {a : Option Addr} {len cap b off : Nat} {N : Nat → Int} (h : Oct.IntsAt .i64 W a b off len N) : Sl W (.slice a len cap) ((List.range len).map N) ∧ ((List.range len).map N).length = len := by
  refine ⟨⟨a, cap, by simp, fun h0 => ⟨b, off, h.addr (by simpa using h0), ?_, fun j hj => ?_⟩⟩, by simp⟩
  · exact World.block_lt_of_cell? W _ (h.cell 0 (by simpa using h0))
  · have hj' : j < len := by simpa using hj
    rw [h.cell j hj']
    simp [hj']

theorem own : ownKnob Try.prog.godebug = none := by kernel_rfl
theorem laidOut : laidOutB Try.prog = true := by kernel_rfl
set_option maxRecDepth 100000 in
theorem lifted (os : Os) (started : os.Started) (H : Type) (enc : TypeId × Value → H) :
    ReturnsInHanded {} Try.checked os 4 .any (Rows.setJoinsSpec.pre6 enc Try.prog Try.f4 Rows.setJoinsRow.domain false) (Rows.setJoinsSpec.post enc Try.prog Try.f4 false true false false) := by
  refine returnsInHanded_of_change_sized (C := Try.checked) own started (by kernel_rfl) Try.func4
    (ChangeSpec.witness6 (enc := enc) (C := Try.checked) false ⟨#[], #[.slice none 0 0, .slice none 0 0], []⟩ 8 (by kernel_rfl) (by kernel_rfl) (by kernel_rfl) (by kernel_rfl)) ?_
  intro W base args ds gs before hval0 hW hcnd hsz0 _
  have hval : ∀ (j : Nat) t v, Try.f4.params[j]? = some t → args[j]? = some v → Value.okWide Try.prog W .any base t v := hval0
  have hsz : (DataW.weightsEach Try.prog (Try.f4.params.toList ++ Rows.setJoinsSpec.plain.varTypes Try.prog) (ds ++ gs)).all (· ≤ reachBytes) = true := hsz0
  have hW' := hW
  obtain ⟨p, q, hA0, hV, rfl, hfz, hnd⟩ := hW
  have hA : DataW.TrodAll enc Try.prog W 0 (fun _ => true) true Try.f4.params.toList args.toList ds p := hA0
  rw [Try.params4] at hA hval hsz
  obtain ⟨v0, vs0, d0, ds0, p0, q0, hargs, rfl, rfl, h0, r0⟩ := trodAll_cons hA
  obtain ⟨v1, vs1, d1, ds1, p1, q1, rfl, rfl, rfl, h1, r1⟩ := trodAll_cons r0
  obtain ⟨rfl, rfl, rfl⟩ := trodAll_nil r1
  obtain rfl : args = #[v0, v1] := by cases args; simp_all
  obtain ⟨rfl, rfl⟩ := trodVars_none hV
  have k0 := h0
  have lt0 : ∀ x ∈ p0, x.block < W.heap.size := by obtain ⟨m, hm⟩ := k0; exact DataW.trod_lt m _ _ _ hm
  have ok0 := hval 0 22 v0 rfl rfl
  have k1 := h1
  have lt1 : ∀ x ∈ p1, x.block < W.heap.size := by obtain ⟨m, hm⟩ := k1; exact DataW.trod_lt m _ _ _ hm
  have ok1 := hval 1 22 v1 rfl rfl
  clear hA0 hval0 hsz0
  obtain ⟨a0, n0, c0, x0, o0, N0, rfl, i0, -⟩ := Oct.open_nums Try.underlying22 Try.underlying3 (by kernel_rfl) (of_decide_eq_true (by kernel_rfl)) ok0 h0 (Oct.arg_weights hsz (j := 0) rfl rfl)
  obtain ⟨a1, n1, c1, x1, o1, N1, rfl, i1, -⟩ := Oct.open_nums Try.underlying22 Try.underlying3 (by kernel_rfl) (of_decide_eq_true (by kernel_rfl)) ok1 h1 (Oct.arg_weights hsz (j := 1) rfl rfl)
  refine (walk W a0 a1 c0 c1 n0 n1 _ _ (sl_open (cap := c0) i0).2 (sl_open (cap := c1) i1).2 (sl_open i0).1 (sl_open i1).1).mono fun e W' ⟨he, bel⟩ => ?_
  subst he
  exact ⟨_, rfl, _, _, _, [], _, [], hW', trodAll_mk1 (shut_bool Try.underlying4 _), (trodAll_cons_mk (Below.trod laidOut (by kernel_rfl) (of_decide_eq_true (by kernel_rfl)) k0 bel lt0) (trodAll_cons_mk (Below.trod laidOut (by kernel_rfl) (of_decide_eq_true (by kernel_rfl)) k1 bel lt1) trodAll_mk0)), rfl, bel.frame _, fun h => by cases h⟩

/-- the statement -/
theorem proved : Rows.SetJoinsSaid :=
  OpenClaim.holds_of_wide 4 Try.f4 rfl rfl rfl rfl rfl rfl rfl ⟨rfl, rfl, rfl, rfl, rfl⟩ rfl rfl rfl rfl rfl (by kernel_rfl) Try.func4 (by kernel_rfl)
    (of_decide_eq_true (by kernel_rfl)) (by unfold Func.isWrapper; first | (rw [if_pos (by decide +kernel)]; kernel_rfl) | (rw [if_neg (by decide +kernel)]; exact ⟨rfl, rfl⟩))
    (fun os started H enc _ => lifted os started H enc)
end Go.Proofs.Ytkdghmbglaghlaa.setJoins
