/-
  Proved: for all texts a, b, c, CrcLinear returns true and turns nothing of what it was given. Conditions: none beyond the form's own (the two tables are what the program's text lays: the card ties them).
-/
import Derived.Test.YtcjfphpieehhlaaDoorRows
import Derived.Test.YtcjfphpieehhlaaDoorCards
import Derived.Test.YtcjfphpieehhlaaDoorTie
import Derived.Test.YtcjfphpieehhlaaDoorOctKit
import Derived.SevenTiedAt
import Derived.Test.YtcjfphpieehhlaaDoorCrcAwake
import Derived.WalkKit
import Derived.WalkSpells
import Derived.WalkLawsBesides
import Derived.ProofKit
import Derived.OpenShut
import Derived.Laws.BytesArg
import Derived.Deep.QuietTactic
import Derived.BigQuiet
import Derived.BigRegion
import Derived.Lib.Hide
import Derived.Lib.ConvBytes
import Derived.Laws.IdiomStrings
import Derived.LaidMore
import Derived.Stop.Joined
import Derived.MakeChecks
import Derived.Deep.MidRow
import Derived.Deep.RegionHeld3
import Derived.IntWalk
import Derived.Test.YtcjfphpieehhlaaDoorByteRow
import Derived.StillTailTactics
namespace Go.Proofs.YtcjfphpieehhlaaDoor.crcLinear
open Go Go.ChangeShapes Go.WideShapes Go.ChangeAt Go.RowKit Crc
open Go.ChangeMaps (open_string)
open Sha (u u_xor)
open Byt (Row txt)
attribute [local irreducible] sum more
attribute [local go_sem] u_xor
/-- the first n bytes of a text -/
theorem ext_getD2 (s : ByteArray) (n j : Nat) (h : j < n) : (s.extract 0 n).data.toList.getD j 0 = s.data.toList.getD j 0 := by
  simp [List.getD_eq_getElem?_getD, List.getElem?_take, h]
theorem min_fact (x y : Int) (n : Nat) (h : (n : Int) = min x y) : (if x < y then x else y) = (n : Int) := by
  rw [h]; simp only [Int.min_def]; split <;> split <;> omega
theorem min_nat (x y n : Nat) (h : n = min x y) : (if x < y then (x : Int) else (y : Int)) = (n : Int) := by
  subst h; rw [Nat.min_def]; split <;> split <;> omega
theorem next (f : Nat → UInt8) (k i : Nat) : (if i = k then f k else if i < k then f i else 0) = (if i < k + 1 then f i else 0) := by
  by_cases e : i = k
  · subst e; simp
  · by_cases e2 : i < k
    · simp [e, e2, show i < k + 1 by omega]
    · simp [e, e2, show ¬ i < k + 1 by omega]
theorem xor3 (x y z : UInt8) : bits .xor .u8 (bits .xor .u8 (x.toNat : Int) (y.toNat : Int)) (z.toNat : Int) = ((x ^^^ y ^^^ z).toNat : Int) := by rw [b_xor, b_xor]
theorem ext_list (s : ByteArray) (n : Nat) : (s.extract 0 n).data.toList = s.data.toList.take n := by simp
theorem ext_length (s : ByteArray) (n : Nat) (h : n ≤ s.size) : (s.extract 0 n).data.toList.length = n := by
  rw [Array.length_toList]; show (s.extract 0 n).size = n; rw [ByteArray.size_extract]; omega
theorem quiet_drawn {P : Program} {f : FuncId} {args : Array Value} {w : World} {n : Nat} {v : Value}
    (h : Calls P f args (w.drewN n) fun e w' => e = .returned v ∧ ∃ m, w' = (w.drewN n).drewN m) :
    Calls P f args (w.drewN n) fun e w'' => e = .returned v ∧ ∃ m, w'' = w.drewN m := h.mono fun _ _ ⟨x, m, y⟩ => ⟨x, _, y.trans (World.drewN_drewN _ _ _)⟩
set_option maxHeartbeats 1000000 in
theorem walk (a b c : ByteArray) (w : World) (hk : Tb w) :
    Calls Tryd.prog 5 #[.string a, .string b, .string c] w fun e w' => e = .returned (.bool true) ∧ Below w.heap.size w w' := by
  replace hk := Lib.hid hk
  obtain ⟨n1, hn1⟩ : ∃ n1 : Nat, n1 = min c.size 65536 := ⟨_, rfl⟩
  obtain ⟨n2, hn2⟩ : ∃ n2 : Nat, n2 = min b.size n1 := ⟨_, rfl⟩
  obtain ⟨n, hn⟩ : ∃ n : Nat, n = min a.size n2 := ⟨_, rfl⟩
  have f1 := min_fact 65536 (c.size : Int) n1 (by omega)
  have f2 := min_nat n1 b.size n2 (by omega)
  have f3 := min_nat n2 a.size n (by omega)
  have l0 : n ≤ 65536 := by omega
  have la : n ≤ a.size := by omega
  have lb : n ≤ b.size := by omega
  have lc : n ≤ c.size := by omega
  clear hn1 hn2 hn
  have hpos := hk.out.pos
  go_enter Tryd.func5, Tryd.ntmps5
  go_wp2_with fail
  refine (awake_calls w hk.out).mono ?_
  rintro e w1 ⟨rfl, m1, rfl⟩
  have hm := Byt.make n (by omega) (w.drewN m1)
  have hr := Lib.hid (Row.new (w.drewN m1) n 5)
  have hB0 := Lib.hid ((below_drewN (Below.refl w.heap.size w) m1).alloc (Nat.le_refl _) (.cells (madeCells #[.int .u8 0] n) 5))
  have hBs : w.heap.size ≤ (w.drewN m1).heap.size := Nat.le_refl _
  generalize w.drewN m1 = w1 at *
  go_wp2_with fail
  clear hm f1 f2 f3
  generalize w1.alloc (.cells (madeCells #[.int .u8 0] n) 5) = w2 at *
  generalize w1.heap.size = B at *
  go_loopw [9] (fun i wr => ∃ k : Nat, k ≤ n ∧ i = .int .i64 k ∧ Row wr B n (fun i => if i < k then a.data.toList.getD i 0 ^^^ b.data.toList.getD i 0 ^^^ c.data.toList.getD i 0 else 0) ∧ Below w.heap.size w wr) (fun i _ => n - (intOf i).toNat)
  case atStart => exact ⟨0, by omega, rfl, hr.out.congr fun i hi => by simp, hB0.out⟩
  case round =>
    clear hr hB0
    obtain ⟨k, hkn, rfl, hR, hB⟩ := hrel
    by_cases hlt : k < n
    · have i1 : (k : Int) < n := by omega
      have i0 : 0 ≤ (k : Int) := by omega
      have ia : (k : Int) < a.size := by omega
      have ib : (k : Int) < b.size := by omega
      have ic : (k : Int) < c.size := by omega
      have c0 := hR.cell k hlt
      have f0 := hR.frozen k hlt
      rw [if_neg (Nat.lt_irrefl k)] at c0
      have hx := xor3 a[k] b[k] c[k]
      have hR2 := hR.set k hlt (a[k] ^^^ b[k] ^^^ c[k])
      rw [get_getD a k (by omega), get_getD b k (by omega), get_getD c k (by omega)] at hR2
      replace hR2 := hR2.congr (fun i hi => next (fun i => a.data.toList.getD i 0 ^^^ b.data.toList.getD i 0 ^^^ c.data.toList.getD i 0) k i)
      rw [← get_getD a k (by omega), ← get_getD b k (by omega), ← get_getD c k (by omega)] at hR2
      replace hR2 := Lib.hid hR2
      generalize a[k] ^^^ b[k] ^^^ c[k] = X at *
      have hB2 := Lib.hid (hB.setCell (p := ⟨B, k, none⟩) hBs (.int .u8 (X.toNat : Int)))
      clear hR hB
      go_wp2_with fail
      go_still_tail 14, (by kernel_rfl)
      change wpList _ _ _ _ _ wr.drew
      clear hx
      go_wp2_with fail
      exact ⟨⟨k + 1, by omega, by go_num, hR2.out.drew, below_drew hB2.out⟩, by simp [intOf]; omega⟩
    · have hd : decide ((k : Int) < n) = false := decide_eq_false (by omega)
      have hd2 : (n : Int) ≤ k := by omega
      have ha : (n : Int) ≤ a.size := by omega
      have hb : (n : Int) ≤ b.size := by omega
      have hc : (n : Int) ≤ c.size := by omega
      replace hR := hR.congr (g' := fun i => a.data.toList.getD i 0 ^^^ b.data.toList.getD i 0 ^^^ c.data.toList.getD i 0) fun i hi => by simp [show i < k by omega]
      have hv := fun m => (hR.drewN m).conv n
      have hK := Lib.hid (hk.out.below hB hpos)
      have ea : (a.extract 0 n).size ≤ 281474976710656 := by rw [ByteArray.size_extract]; omega
      have eb : (b.extract 0 n).size ≤ 281474976710656 := by rw [ByteArray.size_extract]; omega
      have ec : (c.extract 0 n).size ≤ 281474976710656 := by rw [ByteArray.size_extract]; omega
      have ed : (txt n fun i => a.data.toList.getD i 0 ^^^ b.data.toList.getD i 0 ^^^ c.data.toList.getD i 0).size ≤ 281474976710656 := by rw [Byt.txt_size]; omega
      have hlin := linear_at (a.extract 0 n).data.toList (b.extract 0 n).data.toList (c.extract 0 n).data.toList (txt n fun i => a.data.toList.getD i 0 ^^^ b.data.toList.getD i 0 ^^^ c.data.toList.getD i 0).data.toList
        (by rw [ext_length a n la, ext_length b n lb]) (by rw [ext_length b n lb, ext_length c n lc]) (by rw [ext_length c n lc, Byt.txt_length])
        (fun j hj => by rw [Byt.txt_length] at hj; rw [Byt.txt_getD _ _ hj, ext_getD2 a n j hj, ext_getD2 b n j hj, ext_getD2 c n j hj])
      generalize (txt n fun i => a.data.toList.getD i 0 ^^^ b.data.toList.getD i 0 ^^^ c.data.toList.getD i 0) = d at *
      rw [ext_list, ext_list, ext_list] at hlin
      replace hlin := Lib.hid hlin
      replace hB := Lib.hid hB
      clear hR
      go_wp2_with fail
      go_quiet ((go_at_call 8; exact quiet_drawn (Sum_calls _ _ (hK.out.drewN _) (by first | exact ea | exact eb | exact ec | exact ed))))
      go_wp2
      go_ret
      exact ⟨Oct.ret_bool (by rw [hlin.out]; exact beq_self_eq_true _), below_drewN hB.out _⟩

theorem own : ownKnob Tryd.prog.godebug = none := by kernel_rfl
theorem laidOut : laidOutB Tryd.prog = true := by kernel_rfl
set_option maxRecDepth 100000 in
theorem lifted (os : Os) (started : os.Started) (H : Type) (enc : TypeId × Value → H) :
    ReturnsInHanded {} Tryd.checked os 5 .any (fun w args => (Rows.crcLinearSpec.pre enc Tryd.prog Tryd.f5 [] false w args ∧ laidMetH Tryd.prog Rows.crcLinearRow.laid w) ∧ sizedMet enc Tryd.prog Tryd.f5 (OpenSpec.ofChange Rows.crcLinearSpec) false w args) (Rows.crcLinearSpec.post enc Tryd.prog Tryd.f5 false true false false) := by
  refine returnsInHanded_of_change_and (C := Tryd.checked) (X := (fun w _ => laidMetH Tryd.prog Rows.crcLinearRow.laid w)) (fun _ _ _ hh h => h.of_heap hh) own started (by kernel_rfl) Tryd.func5
    (ChangeSpec.witness_shaped (enc := enc) (C := Tryd.checked) (os := os) (X := (fun w _ => laidMetH Tryd.prog Rows.crcLinearRow.laid w)) false (World.doorLaid Tryd.prog 19 os) #[.string ByteArray.empty, .string ByteArray.empty, .string ByteArray.empty] 8 rfl (World.shaped_of_RefB (by kernel_rfl) (by kernel_rfl)) (by kernel_rfl) (by kernel_rfl) (by kernel_rfl) (Crc.door_met os _)) ?_
  intro W base args ds gs before hval0 hW hcnd hsz0 hL _
  have hval : ∀ (j : Nat) t v, Tryd.f5.params[j]? = some t → args[j]? = some v → Value.okWide Tryd.prog W .any base t v := hval0
  have hsz : (DataW.weightsEach Tryd.prog (Tryd.f5.params.toList ++ Rows.crcLinearSpec.plain.varTypes Tryd.prog) (ds ++ gs)).all (· ≤ reachBytes) = true := hsz0
  have hW' := hW
  obtain ⟨p, q, hA0, hV, rfl, hfz, hnd⟩ := hW
  have hA : DataW.TrodAll enc Tryd.prog W 0 (fun _ => true) true Tryd.f5.params.toList args.toList ds p := hA0
  rw [Tryd.params5] at hA hval hsz
  obtain ⟨v0, vs0, d0, ds0, p0, q0, hargs, rfl, rfl, h0, r0⟩ := trodAll_cons hA
  obtain ⟨v1, vs1, d1, ds1, p1, q1, rfl, rfl, rfl, h1, r1⟩ := trodAll_cons r0
  obtain ⟨v2, vs2, d2, ds2, p2, q2, rfl, rfl, rfl, h2, r2⟩ := trodAll_cons r1
  obtain ⟨rfl, rfl, rfl⟩ := trodAll_nil r2
  obtain rfl : args = #[v0, v1, v2] := by cases args; simp_all
  obtain ⟨rfl, rfl⟩ := trodVars_none hV
  have k0 := h0
  have lt0 : ∀ x ∈ p0, x.block < W.heap.size := by obtain ⟨m, hm⟩ := k0; exact DataW.trod_lt m _ _ _ hm
  have ok0 := hval 0 9 v0 rfl rfl
  have k1 := h1
  have lt1 : ∀ x ∈ p1, x.block < W.heap.size := by obtain ⟨m, hm⟩ := k1; exact DataW.trod_lt m _ _ _ hm
  have ok1 := hval 1 9 v1 rfl rfl
  have k2 := h2
  have lt2 : ∀ x ∈ p2, x.block < W.heap.size := by obtain ⟨m, hm⟩ := k2; exact DataW.trod_lt m _ _ _ hm
  have ok2 := hval 2 9 v2 rfl rfl
  clear hA0 hval0 hsz0
  obtain ⟨a0, rfl, rfl, rfl, w0⟩ := open_string Tryd.underlying9 ok0 h0
  obtain ⟨a1, rfl, rfl, rfl, w1⟩ := open_string Tryd.underlying9 ok1 h1
  obtain ⟨a2, rfl, rfl, rfl, w2⟩ := open_string Tryd.underlying9 ok2 h2
  refine (walk a0 a1 a2 W (tb_of_laid hL)).mono fun e W' ⟨he, bel⟩ => ?_
  subst he
  exact ⟨_, rfl, _, _, _, [], _, [], hW', trodAll_mk1 (shut_bool Tryd.underlying4 _), (trodAll_cons_mk (Below.trod laidOut (by kernel_rfl) (of_decide_eq_true (by kernel_rfl)) k0 bel lt0) (trodAll_cons_mk (Below.trod laidOut (by kernel_rfl) (of_decide_eq_true (by kernel_rfl)) k1 bel lt1) (trodAll_cons_mk (Below.trod laidOut (by kernel_rfl) (of_decide_eq_true (by kernel_rfl)) k2 bel lt2) trodAll_mk0))), rfl, bel.frame _, fun h => by cases h⟩

/-- the row -/
theorem row_proved : Rows.CrcLinearSaid :=
  OpenClaim.holds_of_wide 5 Tryd.f5 rfl rfl rfl rfl rfl rfl rfl ⟨rfl, rfl, rfl, rfl, rfl⟩ rfl rfl rfl rfl rfl (by kernel_rfl) Tryd.func5 (by kernel_rfl)
    (of_decide_eq_true (by kernel_rfl)) (by unfold Func.isWrapper; first | (rw [if_pos (by decide +kernel)]; kernel_rfl) | (rw [if_neg (by decide +kernel)]; exact ⟨rfl, rfl⟩))
    (fun os started H enc _ => lifted os started H enc)
/-- the statement: the tied card -/
theorem proved : Rows.CrcLinearCardSaid :=
  Claim7.holds_tied_plain_at .later [] Rows.crcLinearCard.laidKinds true Rows.crcLinearCard.stood.harness Rows.crcLinearCard.stood.looks row_proved (fun _ h => by cases h) (by kernel_rfl) (fun _ h => by cases h) crcLinear_row_tie rfl ⟨rfl, rfl⟩ (by kernel_rfl) rfl
    (fun f fn hf hfn => by
      obtain rfl : f = 5 := Option.some.inj ((show Tryd.prog.funcNamed Rows.crcLinearRow.func = some 5 by kernel_rfl).symm.trans hf) |>.symm
      obtain rfl : fn = Tryd.f5 := (Option.some.inj (Tryd.func5.symm.trans hfn)).symm
      exact ⟨by kernel_rfl, fun j t ht => by
        rw [Tryd.params5] at ht
        have hm : t ∈ [9, 9, 9] := by simpa using Array.mem_of_getElem? ht
        have hall : ([9, 9, 9].all fun u => !Tryd.prog.wantsStandIn u) = true := by kernel_rfl
        exact (show Tryd.prog.wantsStandIn t = false by simpa using List.all_eq_true.1 hall t hm)⟩)
    (by kernel_rfl)
end Go.Proofs.YtcjfphpieehhlaaDoor.crcLinear
