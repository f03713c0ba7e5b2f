/-
  Of every two lists of texts: the union's size is both sets' without the meeting's; the first set is its meeting and its difference, which meet in nothing; each lies within the union (SetAlgebra). Conditions: none.
-/
import Derived.Test.YtkdghmbglaghlaaGreatRows
import Derived.Test.YtkdghmbglaghlaaGreatOctKit
import Derived.Test.YtkdghmbglaghlaaGreatShAwake
import Derived.Test.YtkdghmbglaghlaaGreatShUnion
import Derived.Test.YtkdghmbglaghlaaGreatShWithin
import Derived.Test.YtkdghmbglaghlaaGreatShCount
import Derived.ProofKit
import Derived.OpenShut
import Derived.Stop.Joined
import Derived.Deep.AppendLies
namespace Go.Proofs.YtkdghmbglaghlaaGreat.setAlgebra
open Go Go.ChangeShapes Go.WideShapes Go.ChangeAt Go.RowKit Sh
open Ts (SetAt Makes IsOf Reads)
attribute [local go_sem] fold_none

theorem reads_texts {W : World} {a : Option Addr} {len cap b off : Nat} {T : Nat → ByteArray} (h : Oct.TextsAt W a b off len T) : Reads W.heap.size W (.slice a ((List.range len).map T).length cap) ((List.range len).map T) :=
  ⟨a, cap, rfl, fun h0 => ⟨b, off, h.addr (by simpa using h0), World.block_lt_of_cell? W _ (h.cell 0 (by simpa using h0)), fun j hj => by
    have hj' : j < len := by simpa using hj
    rw [h.cell j hj']
    simp [hj']⟩⟩
theorem Makes.of {w : World} {L : List ByteArray} {e : Ending} {w' : World} (h : Makes w L e w') : ∃ b, e = .returned (.pointer (some ⟨b, 0, none⟩)) ∧ SetAt w' (some ⟨b, 0, none⟩) L ∧ Below w.heap.size w w' := by
  obtain ⟨b, h1, _, h2, h3⟩ := h
  exact ⟨b, h1, h2, h3⟩
theorem wrap_near (z : Int) (h1 : -1000000 ≤ z) (h2 : z ≤ 1000000) : IntKind.i64.wrap z = z := wrap_in (by omega) (by omega)
theorem eq_self (z : Int) : (z == z) = true := by simp

set_option maxHeartbeats 16000000 in
set_option maxRecDepth 100000 in
theorem walk (w : World) (s1 s2 : Option Addr) (c1 c2 na nb : Nat) (M N : List ByteArray) (hna : M.length = na) (hnb : N.length = nb) (hv : Reads w.heap.size w (.slice s1 na c1) M) (hu : Reads w.heap.size w (.slice s2 nb c2) N) :
    Calls Tryz.prog 3 #[.slice s1 na c1, .slice s2 nb c2] w fun e w' => e = .returned (.bool true) ∧ Below w.heap.size w w' := by
  have hAw := Lib.hid (Law.awake_calls w)
  by_cases g1 : 300 < na
  · have d1 : (300 : Int) < na := by omega
    clear hv hu hna hnb
    go_enter Tryz.func3, Tryz.ntmps3
    go_wp2_with (go_at_call 5; refine hAw.out.mono ?_; rintro e w1 ⟨rfl, b1⟩)
    go_ret
    exact ⟨rfl, b1⟩
  have d1 : decide ((300 : Int) < na) = false := decide_eq_false (by omega)
  have d2 : (na : Int) ≤ 300 := by omega
  by_cases g2 : 300 < nb
  · have d3 : (300 : Int) < nb := by omega
    clear hv hu hna hnb
    go_enter Tryz.func3, Tryz.ntmps3
    go_wp2_with (go_at_call 5; refine hAw.out.mono ?_; rintro e w1 ⟨rfl, b1⟩)
    go_ret
    exact ⟨rfl, b1⟩
  have d3 : decide ((300 : Int) < nb) = false := decide_eq_false (by omega)
  have d4 : (nb : Int) ≤ 300 := by omega
  have hm : Hid (na ≤ 300 ∧ nb ≤ 300) := Lib.hid (by omega)
  have hv0 := Lib.hid hv
  have hu0 := Lib.hid hu
  replace hna := Lib.hid hna
  replace hnb := Lib.hid hnb
  clear hv hu g1 g2
  go_enter Tryz.func3, Tryz.ntmps3
  go_wp2_with fail
  refine hAw.out.mono ?_
  rintro e w1 ⟨rfl, b1⟩
  have hOf := Ts.Of_calls w1 s1 c1 M (by have := hna.out; have := hm.out; omega) (by rw [hna.out]; obtain ⟨a', c', e, h1⟩ := hv0.out.below b1; exact ⟨a', c', e, fun h0 => by obtain ⟨g, off, ea, hg, hc⟩ := h1 h0; exact ⟨g, off, ea, Nat.lt_of_lt_of_le hg b1.size, hc⟩⟩)
  rw [hna.out] at hOf
  replace hOf := Lib.hid hOf
  replace b1 := Lib.hid b1
  clear hAw hv0
  go_wp2_with fail
  refine hOf.out.mono ?_
  rintro e w2 ⟨A, hA, hm2⟩
  obtain ⟨pA, rfl, sA, b2'⟩ := Makes.of hm2
  have b2 := Lib.hid (b_then b1.out b2')
  have hOf2 := Ts.Of_calls w2 s2 c2 N (by have := hnb.out; have := hm.out; omega) (by rw [hnb.out]; obtain ⟨a', c', e, h1⟩ := hu0.out.below b2.out; exact ⟨a', c', e, fun h0 => by obtain ⟨g, off, ea, hg, hc⟩ := h1 h0; exact ⟨g, off, ea, Nat.lt_of_lt_of_le hg b2.out.size, hc⟩⟩)
  rw [hnb.out] at hOf2
  replace hOf2 := Lib.hid hOf2
  replace sA := Lib.hid sA
  have lA : Hid (A.length ≤ 300) := Lib.hid (by have := hA.2.2; have := hna.out; have := hm.out; omega)
  have rA := Lib.hid hA.1
  clear hOf b1 b2' hm2 hu0 hA
  go_wp2_with fail
  refine hOf2.out.mono ?_
  rintro e w3 ⟨B, hB, hm3⟩
  obtain ⟨pB, rfl, sB, b3'⟩ := Makes.of hm3
  have b3 := Lib.hid (b_then b2.out b3')
  replace sA := Lib.hid (sA.out.next b3')
  replace sB := Lib.hid sB
  have lB : Hid (B.length ≤ 300) := Lib.hid (by have := hB.2.2; have := hnb.out; have := hm.out; omega)
  have rB := Lib.hid hB.1
  have hUn := Lib.hid (Ts.Union_calls w3 _ _ A B sA.out sB.out (by have := lA.out; omega) (by have := lB.out; omega))
  clear hOf2 b2 b3' hm3 hB hna hnb hm
  go_wp2_with fail
  refine hUn.out.mono ?_
  rintro e w4 ⟨U, hU, hm4⟩
  obtain ⟨pU, rfl, sU, b4'⟩ := Makes.of hm4
  have b4 := Lib.hid (b_then b3.out b4')
  replace sA := Lib.hid (sA.out.next b4')
  replace sB := Lib.hid (sB.out.next b4')
  replace sU := Lib.hid sU
  replace hU := Lib.hid hU
  obtain ⟨X, hX⟩ : ∃ X, X = A.filter fun x => has x B := ⟨_, rfl⟩
  obtain ⟨D, hD⟩ : ∃ D, D = A.filter fun x => !has x B := ⟨_, rfl⟩
  have hMe := Ts.Meet_calls w4 _ _ A B sA.out sB.out rA.out rB.out (by have := lA.out; omega)
  rw [← hX] at hMe
  replace hMe := Lib.hid hMe
  clear hUn b3 b4' hm4
  go_wp2_with fail
  refine hMe.out.mono ?_
  rintro e w5 hm5
  obtain ⟨pX, rfl, sX, b5'⟩ := Makes.of hm5
  have b5 := Lib.hid (b_then b4.out b5')
  replace sA := Lib.hid (sA.out.next b5')
  replace sB := Lib.hid (sB.out.next b5')
  replace sU := Lib.hid (sU.out.next b5')
  replace sX := Lib.hid sX
  have hMi := Ts.Minus_calls w5 _ _ A B sA.out sB.out rA.out rB.out (by have := lA.out; omega)
  rw [← hD] at hMi
  replace hMi := Lib.hid hMi
  clear hMe b4 b5' hm5
  go_wp2_with fail
  refine hMi.out.mono ?_
  rintro e w6 hm6
  obtain ⟨pD, rfl, sD, b6'⟩ := Makes.of hm6
  have b6 := Lib.hid (b_then b5.out b6')
  replace sA := Lib.hid (sA.out.next b6')
  replace sB := Lib.hid (sB.out.next b6')
  replace sU := Lib.hid (sU.out.next b6')
  replace sX := Lib.hid (sX.out.next b6')
  replace sD := Lib.hid sD
  have rX : Rises X := by rw [hX]; exact rises_filter _ rA.out
  have rD : Rises D := by rw [hD]; exact rises_filter _ rA.out
  have lX : X.length ≤ A.length := by rw [hX]; exact List.length_filter_le _ _
  have lD : D.length ≤ A.length := by rw [hD]; exact List.length_filter_le _ _
  obtain ⟨V0, hV0⟩ : ∃ V0 : List ByteArray, True := ⟨[], trivial⟩
  have hal := Lib.hid fun (V : List ByteArray) (hV : ∀ x, x ∈ V ↔ x ∈ X ∨ x ∈ D) => algebra (fun a => rfl) rA.out rB.out hU.out.1 (fun x => by rw [hU.out.2.1 x, List.mem_append]) hX hD hV
  have rU := Lib.hid hU.out.1
  have ha0 := Lib.hid (hal.out (X ++ D) (fun x => List.mem_append))
  replace rX := Lib.hid rX
  replace rD := Lib.hid rD
  replace lX := Lib.hid lX
  replace lD := Lib.hid lD
  clear hMi b5 b6' hm6 hX hD V0 hV0 hU
  have qU := Lib.hid (Ts.SetLen_calls w6 _ U sU.out)
  have qA := Lib.hid (Ts.SetLen_calls w6 _ A sA.out)
  have qB := Lib.hid (Ts.SetLen_calls w6 _ B sB.out)
  have qX := Lib.hid (Ts.SetLen_calls w6 _ X sX.out)
  have qD := Lib.hid (Ts.SetLen_calls w6 _ D sD.out)
  have hdb := Ts.Meet_calls w6 _ _ D B sD.out sB.out rD.out rB.out (by have := lD.out; have := lA.out; omega)
  rw [ha0.out.2.2.1] at hdb
  replace hdb := Lib.hid hdb
  obtain ⟨nU, nA, nB, nX, nD, eU, eA, eB, eX, eD⟩ : ∃ nU nA nB nX nD : Nat, U.length = nU ∧ A.length = nA ∧ B.length = nB ∧ X.length = nX ∧ D.length = nD := ⟨_, _, _, _, _, rfl, rfl, rfl, rfl, rfl⟩
  rw [eU] at qU
  rw [eA] at qA lA lX lD
  rw [eB] at qB lB
  rw [eX] at qX lX
  rw [eD] at qD lD
  have z1 : nU + nX = nA + nB := by have := ha0.out.1; rw [eU, eX, eA, eB] at this; exact this
  have z2 : nD + nX = nA := by have := ha0.out.2.1; rw [eD, eX, eA] at this; exact this
  have y1 : IntKind.i64.wrap ((nA : Int) + nB) = (nA : Int) + nB := wrap_near _ (by omega) (by have := lA.out; have := lB.out; omega)
  have y2 : IntKind.i64.wrap ((nA : Int) + nB - nX) = (nU : Int) := by rw [wrap_near _ (by have := lX.out; have := lA.out; omega) (by have := lA.out; have := lB.out; omega)]; omega
  have y3 : IntKind.i64.wrap ((nD : Int) + nX) = (nA : Int) := by rw [wrap_near _ (by omega) (by have := lX.out; have := lD.out; have := lA.out; omega)]; omega
  have x1 := eq_self (nU : Int)
  have x2 := eq_self (nA : Int)
  replace eD := Lib.hid eD
  replace eX := Lib.hid eX
  clear eU eA eB z1 z2
  go_wp2_with fail
  refine qU.out.mono ?_
  rintro e w7 ⟨rfl, hq⟩
  obtain rfl := hq.symm
  clear hq qU
  go_wp2_with fail
  refine qA.out.mono ?_
  rintro e w7 ⟨rfl, hq⟩
  obtain rfl := hq.symm
  clear hq
  go_wp2_with fail
  refine qB.out.mono ?_
  rintro e w7 ⟨rfl, hq⟩
  obtain rfl := hq.symm
  clear hq qB
  go_wp2_with fail
  refine qX.out.mono ?_
  rintro e w7 ⟨rfl, hq⟩
  obtain rfl := hq.symm
  clear hq
  go_wp2_with fail
  refine qD.out.mono ?_
  rintro e w7 ⟨rfl, hq⟩
  obtain rfl := hq.symm
  clear hq qD
  go_wp2_with fail
  refine qX.out.mono ?_
  rintro e w7 ⟨rfl, hq⟩
  obtain rfl := hq.symm
  clear hq qX
  go_wp2_with fail
  refine qA.out.mono ?_
  rintro e w7 ⟨rfl, hq⟩
  obtain rfl := hq.symm
  clear hq qA
  go_wp2_with fail
  refine hdb.out.mono ?_
  rintro e w7 hm7
  obtain ⟨pZ, rfl, sZ, b7'⟩ := Makes.of hm7
  have b7 := Lib.hid (b_then b6.out b7')
  replace sA := Lib.hid (sA.out.next b7')
  replace sB := Lib.hid (sB.out.next b7')
  replace sU := Lib.hid (sU.out.next b7')
  replace sX := Lib.hid (sX.out.next b7')
  replace sD := Lib.hid (sD.out.next b7')
  have qZ := Lib.hid (Ts.SetLen_calls w7 _ [] sZ)
  clear hdb b6 b7' hm7 sZ
  go_wp2_with fail
  refine qZ.out.mono ?_
  rintro e w8 ⟨rfl, hq⟩
  obtain rfl := hq.symm
  clear hq qZ
  have hW := Ts.Within_calls w7 _ _ A U sA.out sU.out rU.out
  rw [ha0.out.2.2.2.1] at hW
  replace hW := Lib.hid hW
  go_wp2_with fail
  refine hW.out.mono ?_
  rintro e w8 ⟨rfl, b8'⟩
  have b8 := Lib.hid (b_then b7.out b8')
  replace sA := Lib.hid (sA.out.next b8')
  replace sB := Lib.hid (sB.out.next b8')
  replace sU := Lib.hid (sU.out.next b8')
  replace sX := Lib.hid (sX.out.next b8')
  replace sD := Lib.hid (sD.out.next b8')
  clear hW b7 b8'
  have hW := Ts.Within_calls w8 _ _ B U sB.out sU.out rU.out
  rw [ha0.out.2.2.2.2.1] at hW
  replace hW := Lib.hid hW
  go_wp2_with fail
  refine hW.out.mono ?_
  rintro e w9 ⟨rfl, b9'⟩
  have b9 := Lib.hid (b_then b8.out b9')
  replace sA := Lib.hid (sA.out.next b9')
  replace sB := Lib.hid (sB.out.next b9')
  replace sU := Lib.hid (sU.out.next b9')
  replace sX := Lib.hid (sX.out.next b9')
  replace sD := Lib.hid (sD.out.next b9')
  clear hW b8 b9'
  have hW := Ts.Within_calls w9 _ _ X A sX.out sA.out rA.out
  rw [ha0.out.2.2.2.2.2.1] at hW
  replace hW := Lib.hid hW
  go_wp2_with fail
  refine hW.out.mono ?_
  rintro e w10 ⟨rfl, b10'⟩
  have b10 := Lib.hid (b_then b9.out b10')
  replace sA := Lib.hid (sA.out.next b10')
  replace sB := Lib.hid (sB.out.next b10')
  replace sU := Lib.hid (sU.out.next b10')
  replace sX := Lib.hid (sX.out.next b10')
  replace sD := Lib.hid (sD.out.next b10')
  clear hW b9 b10'
  have hW := Ts.Within_calls w10 _ _ X B sX.out sB.out rB.out
  rw [ha0.out.2.2.2.2.2.2.1] at hW
  replace hW := Lib.hid hW
  go_wp2_with fail
  refine hW.out.mono ?_
  rintro e w11 ⟨rfl, b11'⟩
  have b11 := Lib.hid (b_then b10.out b11')
  replace sA := Lib.hid (sA.out.next b11')
  replace sB := Lib.hid (sB.out.next b11')
  replace sU := Lib.hid (sU.out.next b11')
  replace sX := Lib.hid (sX.out.next b11')
  replace sD := Lib.hid (sD.out.next b11')
  clear hW b10 b11'
  have hUn := Lib.hid (Ts.Union_calls w11 _ _ X D sX.out sD.out (by have := lX.out; have := lA.out; have := eX.out; omega) (by have := lD.out; have := lA.out; have := eD.out; omega))
  go_wp2_with fail
  refine hUn.out.mono ?_
  rintro e w12 ⟨V, hV, hmV⟩
  obtain ⟨pV, rfl, sV, b12'⟩ := Makes.of hmV
  have b12 := Lib.hid (b_then b11.out b12')
  replace sA := Lib.hid (sA.out.next b12')
  replace sB := Lib.hid (sB.out.next b12')
  replace sD := Lib.hid (sD.out.next b12')
  replace sV := Lib.hid sV
  have rV := Lib.hid hV.1
  have haV := Lib.hid (hal.out V (fun x => by rw [hV.2.1 x, List.mem_append]))
  clear hUn b11 b12' hmV hV hal ha0 sU sX
  have hW := Ts.Within_calls w12 _ _ V A sV.out sA.out rA.out
  rw [haV.out.2.2.2.2.2.2.2.1] at hW
  replace hW := Lib.hid hW
  go_wp2_with fail
  refine hW.out.mono ?_
  rintro e w13 ⟨rfl, b13'⟩
  have b13 := Lib.hid (b_then b12.out b13')
  replace sA := Lib.hid (sA.out.next b13')
  replace sB := Lib.hid (sB.out.next b13')
  replace sD := Lib.hid (sD.out.next b13')
  replace sV := Lib.hid (sV.out.next b13')
  clear hW b12 b13'
  have hW := Ts.Within_calls w13 _ _ A V sA.out sV.out rV.out
  rw [haV.out.2.2.2.2.2.2.2.2.1] at hW
  replace hW := Lib.hid hW
  go_wp2_with fail
  refine hW.out.mono ?_
  rintro e w14 ⟨rfl, b14'⟩
  have b14 := Lib.hid (b_then b13.out b14')
  replace sA := Lib.hid (sA.out.next b14')
  replace sB := Lib.hid (sB.out.next b14')
  replace sD := Lib.hid (sD.out.next b14')
  replace sV := Lib.hid (sV.out.next b14')
  clear hW b13 b14'
  have hW := Ts.Within_calls w14 _ _ A B sA.out sB.out rB.out
  rw [haV.out.2.2.2.2.2.2.2.2.2, eD.out] at hW
  replace hW := Lib.hid hW
  go_wp2_with fail
  refine hW.out.mono ?_
  rintro e w15 ⟨rfl, b15'⟩
  have b15 := Lib.hid (b_then b14.out b15')
  have qD := Ts.SetLen_calls w15 _ D (sD.out.next b15')
  rw [eD.out] at qD
  replace qD := Lib.hid qD
  clear hW b14 b15' sA sB sD sV haV
  go_wp2_with fail
  refine qD.out.mono ?_
  rintro e w16 ⟨rfl, hq⟩
  obtain rfl := hq.symm
  clear hq qD
  go_wp2
  go_ret
  refine ⟨?_, b15.out⟩
  have hz : (decide (nD = 0) == ((nD : Int) == 0)) = true := by rw [beq_iff_eq, Bool.eq_iff_iff]; simp
  exact congrArg (fun x => Ending.returned (Value.bool x)) hz

theorem own : ownKnob Tryz.prog.godebug = none := by kernel_rfl
theorem laidOut : laidOutB Tryz.prog = true := by kernel_rfl
set_option maxRecDepth 100000 in
theorem lifted (os : Os) (started : os.Started) (H : Type) (enc : TypeId × Value → H) :
    ReturnsInHanded {} Tryz.checked os 3 .any (Rows.setAlgebraSpec.pre6 enc Tryz.prog Tryz.f3 Rows.setAlgebraRow.domain false) (Rows.setAlgebraSpec.post enc Tryz.prog Tryz.f3 false true false false) := by
  refine returnsInHanded_of_change_sized (C := Tryz.checked) own started (by kernel_rfl) Tryz.func3
    (ChangeSpec.witness6 (enc := enc) (C := Tryz.checked) false ⟨#[], #[.slice none 0 0, .slice none 0 0], []⟩ 8 (by kernel_rfl) (by kernel_rfl) (by kernel_rfl) (by kernel_rfl)) ?_
  intro W base args ds gs before hval0 hW hcnd hsz0 _
  have hval : ∀ (j : Nat) t v, Tryz.f3.params[j]? = some t → args[j]? = some v → Value.okWide Tryz.prog W .any base t v := hval0
  have hsz : (DataW.weightsEach Tryz.prog (Tryz.f3.params.toList ++ Rows.setAlgebraSpec.plain.varTypes Tryz.prog) (ds ++ gs)).all (· ≤ reachBytes) = true := hsz0
  have hW' := hW
  obtain ⟨p, q, hA0, hV, rfl, hfz, hnd⟩ := hW
  have hA : DataW.TrodAll enc Tryz.prog W 0 (fun _ => true) true Tryz.f3.params.toList args.toList ds p := hA0
  rw [Tryz.params3] at hA hval hsz
  obtain ⟨v0, vs0, d0, ds0, p0, q0, hargs, rfl, rfl, h0, r0⟩ := trodAll_cons hA
  obtain ⟨v1, vs1, d1, ds1, p1, q1, rfl, rfl, rfl, h1, r1⟩ := trodAll_cons r0
  obtain ⟨rfl, rfl, rfl⟩ := trodAll_nil r1
  obtain rfl : args = #[v0, v1] := by cases args; simp_all
  obtain ⟨rfl, rfl⟩ := trodVars_none hV
  have k0 := h0
  have lt0 : ∀ x ∈ p0, x.block < W.heap.size := by obtain ⟨m, hm⟩ := k0; exact DataW.trod_lt m _ _ _ hm
  have ok0 := hval 0 22 v0 rfl rfl
  have k1 := h1
  have lt1 : ∀ x ∈ p1, x.block < W.heap.size := by obtain ⟨m, hm⟩ := k1; exact DataW.trod_lt m _ _ _ hm
  have ok1 := hval 1 22 v1 rfl rfl
  clear hA0 hval0 hsz0
  obtain ⟨a0, n0, c0, x0, o0, T0, rfl, i0, -⟩ := Oct.open_texts Tryz.underlying22 Tryz.underlying9 (by kernel_rfl) (of_decide_eq_true (by kernel_rfl)) ok0 h0 (Oct.arg_weights hsz (j := 0) rfl rfl)
  obtain ⟨a1, n1, c1, x1, o1, T1, rfl, i1, -⟩ := Oct.open_texts Tryz.underlying22 Tryz.underlying9 (by kernel_rfl) (of_decide_eq_true (by kernel_rfl)) ok1 h1 (Oct.arg_weights hsz (j := 1) rfl rfl)
  refine (walk W a0 a1 c0 c1 n0 n1 ((List.range n0).map T0) ((List.range n1).map T1) (by simp) (by simp) (by have := reads_texts (cap := c0) i0; simpa using this) (by have := reads_texts (cap := c1) i1; simpa using this)).mono fun e W' ⟨he, bel⟩ => ?_
  subst he
  exact ⟨_, rfl, _, _, _, [], _, [], hW', trodAll_mk1 (shut_bool Tryz.underlying4 _), (trodAll_cons_mk (Below.trod laidOut (by kernel_rfl) (of_decide_eq_true (by kernel_rfl)) k0 bel lt0) (trodAll_cons_mk (Below.trod laidOut (by kernel_rfl) (of_decide_eq_true (by kernel_rfl)) k1 bel lt1) trodAll_mk0)), rfl, bel.frame _, fun h => by cases h⟩

/-- the statement -/
theorem proved : Rows.SetAlgebraSaid :=
  OpenClaim.holds_of_wide 3 Tryz.f3 rfl rfl rfl rfl rfl rfl rfl ⟨rfl, rfl, rfl, rfl, rfl⟩ rfl rfl rfl rfl rfl (by kernel_rfl) Tryz.func3 (by kernel_rfl)
    (of_decide_eq_true (by kernel_rfl)) (by unfold Func.isWrapper; first | (rw [if_pos (by decide +kernel)]; kernel_rfl) | (rw [if_neg (by decide +kernel)]; exact ⟨rfl, rfl⟩))
    (fun os started H enc _ => lifted os started H enc)
end Go.Proofs.YtkdghmbglaghlaaGreat.setAlgebra
