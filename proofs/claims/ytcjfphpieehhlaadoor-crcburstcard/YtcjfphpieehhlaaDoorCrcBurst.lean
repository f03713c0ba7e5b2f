/-
  Proved: for every text, every place and every pattern of 32 bits, CrcBurst returns true and turns nothing of what it was given. Conditions: none beyond the form's own (the two tables are what the program's text lays: the card ties them).
-/
import Derived.Test.YtcjfphpieehhlaaDoorRows
import Derived.Test.YtcjfphpieehhlaaDoorCards
import Derived.Test.YtcjfphpieehhlaaDoorTie
import Derived.Test.YtcjfphpieehhlaaDoorOctKit
import Derived.SevenTiedAt
import Derived.Test.YtcjfphpieehhlaaDoorCrcAwake
import Derived.WalkKit
import Derived.WalkSpells
import Derived.WalkLawsBesides
import Derived.ProofKit
import Derived.OpenShut
import Derived.Laws.BytesArg
import Derived.Deep.QuietTactic
import Derived.BigQuiet
import Derived.BigRegion
import Derived.Lib.Hide
import Derived.Lib.ConvBytes
import Derived.Laws.IdiomStrings
import Derived.LaidMore
import Derived.Stop.Joined
import Derived.MakeChecks
import Derived.Deep.MidRow
import Derived.Deep.RegionHeld3
import Derived.IntWalk
import Derived.Test.YtcjfphpieehhlaaDoorByteRow
import Derived.StillTailTactics
namespace Go.Proofs.YtcjfphpieehhlaaDoor.crcBurst
open Go Go.ChangeShapes Go.WideShapes Go.ChangeAt Go.RowKit Crc
open Go.ChangeMaps (open_string)
open Sha (u u_xor)
open Byt (Row txt)
attribute [local irreducible] sum more
theorem wide (v : UInt32) (r : Nat) (h : r < 8) : IntKind.u64.wrap (IntKind.u64.wrap (u v) * 2 ^ r) = ((v.toNat * 2 ^ r : Nat) : Int) := by
  have hv := v.toNat_lt
  have h1 : (2 : Nat) ^ r ≤ 2 ^ 7 := Nat.pow_le_pow_right (by decide) (by omega)
  have h2 : v.toNat * 2 ^ r < 18446744073709551616 := Nat.lt_of_le_of_lt (Nat.mul_le_mul (Nat.le_of_lt hv) h1) (by decide)
  have e1 : IntKind.u64.wrap (u v) = (v.toNat : Int) := by rw [IntKind.wrap_u64]; simp only [u]; omega
  rw [e1, show (v.toNat : Int) * 2 ^ r = ((v.toNat * 2 ^ r : Nat) : Int) by rw [Int.natCast_mul, Int.natCast_pow]; rfl, IntKind.wrap_u64]
  omega
/-- the bytes behind n turns -/
def turned (f : Nat → UInt8) (q X n : Nat) (j : Nat) : UInt8 := f j ^^^ (if q ≤ j ∧ j < q + n then UInt8.ofNat (X / 2 ^ (8 * (j - q)) % 256) else 0)
theorem turned_zero (f : Nat → UInt8) (q X j : Nat) : turned f q X 0 j = f j := by
  unfold turned; rw [if_neg (by omega)]; simp
theorem turned_next (f : Nat → UInt8) (q X n j : Nat) : (if j = q + n then turned f q X n (q + n) ^^^ UInt8.ofNat (X / 2 ^ (8 * n) % 256) else turned f q X n j) = turned f q X (n + 1) j := by
  unfold turned
  by_cases h : j = q + n
  · subst h
    rw [if_pos rfl, if_neg (by omega), if_pos ⟨by omega, by omega⟩, show q + n - q = n by omega]; simp
  · rw [if_neg h]
    by_cases h2 : q ≤ j ∧ j < q + n
    · rw [if_pos h2, if_pos ⟨h2.1, by omega⟩]
    · rw [if_neg h2, if_neg (by omega)]
theorem turned_is (f : Nat → UInt8) (q X n j : Nat) : turned f q X n j = f j ^^^ (if q ≤ j ∧ j < q + n then UInt8.ofNat (X / 2 ^ (8 * (j - q)) % 256) else 0) := rfl
theorem xor_byte (x : UInt8) (X n : Nat) : bits .xor .u8 (x.toNat : Int) (IntKind.u8.wrap ((X : Int) / 2 ^ (8 * n))) = ((x ^^^ UInt8.ofNat (X / 2 ^ (8 * n) % 256)).toNat : Int) := by
  have e : IntKind.u8.wrap ((X : Int) / 2 ^ (8 * n)) = ((UInt8.ofNat (X / 2 ^ (8 * n) % 256)).toNat : Int) := by
    rw [wrap8, UInt8.toNat_ofNat']
    have : ((X : Int) / 2 ^ (8 * n)) = ((X / 2 ^ (8 * n) : Nat) : Int) := by rw [Int.natCast_ediv, Int.natCast_pow]; rfl
    rw [this]; omega
  rw [e, b_xor]
theorem ends {x y v : UInt32} (h : x = y ↔ v = 0) : ((u x == u y) == (u v == 0)) = true := by
  have e0 : (0 : Int) = u 0 := rfl
  rw [beq_iff_eq, e0, Bool.eq_iff_iff, beq_iff_eq, beq_iff_eq]
  exact ⟨fun g => congrArg u (h.1 (Sha.u_inj g)), fun g => congrArg u (h.2 (Sha.u_inj g))⟩
attribute [local irreducible] turned
set_option maxHeartbeats 1000000 in
theorem walk (s : ByteArray) (at_ : Int) (v : UInt32) (hs : s.size ≤ 140737488351232) (w : World) (hk : Tb w) :
    Calls Tryd.prog 6 #[.string s, .int .i64 at_, .int .u32 (u v)] w fun e w' => e = .returned (.bool true) ∧ Below w.heap.size w w' := by
  replace hk := Lib.hid hk
  have hpos := hk.out.pos
  by_cases hshort : s.size < 5
  · have h1 : (s.size : Int) < 5 := by omega
    go_enter Tryd.func6, Tryd.ntmps6
    go_wp2_with fail
    refine (awake_calls w hk.out).mono ?_
    rintro e w1 ⟨rfl, m1, rfl⟩
    go_wp2
    go_ret
    exact ⟨rfl, below_drewN (Below.refl _ _) _⟩
  by_cases hlong : 65536 < s.size
  · have h1 : decide ((s.size : Int) < 5) = false := decide_eq_false (by omega)
    have h1' : (5 : Int) ≤ s.size := by omega
    have h2 : (65536 : Int) < s.size := by omega
    go_enter Tryd.func6, Tryd.ntmps6
    go_wp2_with fail
    refine (awake_calls w hk.out).mono ?_
    rintro e w1 ⟨rfl, m1, rfl⟩
    go_wp2
    go_ret
    exact ⟨rfl, below_drewN (Below.refl _ _) _⟩
  · have h1 : decide ((s.size : Int) < 5) = false := decide_eq_false (by omega)
    have h1' : (5 : Int) ≤ s.size := by omega
    have h2 : decide ((65536 : Int) < s.size) = false := decide_eq_false (by omega)
    have h2' : (s.size : Int) ≤ 65536 := by omega
    go_enter Tryd.func6, Tryd.ntmps6
    go_wp2_with fail
    refine (awake_calls w hk.out).mono ?_
    rintro e w1 ⟨rfl, m1, rfl⟩
    obtain ⟨k, hk1, hk2⟩ := Oct.rem_small at_ (8 * ((s.size : Int) - 4)) (by omega) (by omega)
    obtain ⟨w3, cap, h3, b3, c3⟩ := Byt.conv_there (w.drewN m1) s
    replace b3 : Below w.heap.size w w3 := (below_drewN (Below.refl _ _) _).trans b3
    have hBs0 : w.heap.size ≤ (w.drewN m1).heap.size := Nat.le_refl _
    have hlen : s.size = s.data.toList.length := by rw [Array.length_toList]; rfl
    replace hlen := Lib.hid hlen
    generalize w.drewN m1 = w1 at *
    have hX := Lib.hid (wide v (k % 8) (Nat.mod_lt _ (by decide)))
    generalize hXd : v.toNat * 2 ^ (k % 8) = X at *
    go_wp2_with fail
    rw [hX.out, hk1]
    obtain ⟨q, hq⟩ : ∃ q, q = k / 8 := ⟨_, rfl⟩
    have hq5 : q + 5 ≤ s.size := by omega
    have hqi : (k : Int) / 8 = (q : Int) := by omega
    have hqt : (k : Int).tdiv 8 = (q : Int) := by rw [Int.tdiv_eq_ediv_of_nonneg (by omega)]; exact hqi
    clear hk1 h3
    have hBs : w.heap.size ≤ w1.heap.size := hBs0
    generalize hBd : w1.heap.size = B at *
    go_loopw [10] (fun i wr => ∃ n : Nat, n ≤ 5 ∧ i = .int .i64 n ∧ Row wr B s.size (turned (fun j => s.data.toList.getD j 0) q X n) ∧ Below w.heap.size w wr) (fun i _ => 5 - (intOf i).toNat)
    case atStart => exact ⟨0, by omega, rfl, c3.congr fun j _ => (turned_zero (fun j => s.data.toList.getD j 0) q X j).symm, b3⟩
    case round =>
      clear c3 b3
      obtain ⟨n, hn, rfl, hR, hB⟩ := hrel
      by_cases hlt : n < 5
      · have i1 : (n : Int) < 5 := by omega
        obtain ⟨p, hp⟩ : ∃ p, p = q + n := ⟨_, rfl⟩
        have hpi : (q : Int) + n = (p : Int) := by omega
        have i2 : (p : Int) < s.size := by omega
        have i3 : 0 ≤ (p : Int) := by omega
        have c0 := hR.cell p (by omega)
        have f0 := hR.frozen p (by omega)
        have hR2 := hR.set p (by omega) (turned (fun j => s.data.toList.getD j 0) q X n p ^^^ UInt8.ofNat (X / 2 ^ (8 * n) % 256))
        have hval := xor_byte (turned (fun j => s.data.toList.getD j 0) q X n p) X n
        replace hR2 := hR2.congr (g' := turned (fun j => s.data.toList.getD j 0) q X (n + 1)) (fun j _ => by rw [hp]; exact turned_next _ q X n j)
        generalize turned (fun j => s.data.toList.getD j 0) q X n p ^^^ UInt8.ofNat (X / 2 ^ (8 * n) % 256) = y at *
        replace hR2 := Lib.hid hR2
        have hB2 := Lib.hid (hB.setCell (p := ⟨B, p, none⟩) hBs (.int .u8 (y.toNat : Int)))
        generalize turned (fun j => s.data.toList.getD j 0) q X n p = x at *
        clear hR hB
        have g1 : IntKind.i64.wrap (q : Int) = (q : Int) := IntWalk.i64_in _ (by omega)
        have g2 : IntKind.i64.wrap (p : Int) = (p : Int) := IntWalk.i64_in _ (by omega)
        have g3 : 0 ≤ 8 * (n : Int) := by omega
        have g4 : IntKind.i64.wrap (8 * (n : Int)) = 8 * (n : Int) := IntWalk.i64_in _ (by omega)
        have g5 : (8 * (n : Int)).toNat = 8 * n := by omega
        clear h1 h1' h2 h2' hshort hlong hk2 hlt
        replace hp := Lib.hid hp
        replace hq := Lib.hid hq
        go_wp2_with fail
        go_still_tail 14, (by kernel_rfl)
        change wpList _ _ _ _ _ wr.drew
        go_wp2_with fail
        exact ⟨⟨n + 1, by omega, by go_num, hR2.out.drew, below_drew hB2.out⟩, by simp [intOf]; omega⟩
      · have hd : decide ((n : Int) < 5) = false := decide_eq_false (by omega)
        have hd2 : (5 : Int) ≤ n := by omega
        obtain rfl : n = 5 := by omega
        have hv := hR.conv cap
        have hK := Lib.hid (hk.out.below hB hpos)
        have hsz : (txt s.size (turned (fun j => s.data.toList.getD j 0) q X 5)).size ≤ 281474976710656 := by rw [Byt.txt_size]; omega
        have hb := burst_at s.data.toList (txt s.size (turned (fun j => s.data.toList.getD j 0) q X 5)).data.toList q (k % 8) v (by rw [← hlen.out]; exact hq5) (Nat.mod_lt _ (by decide))
          (by rw [Byt.txt_length]; exact hlen.out) (fun j hj => by rw [← hlen.out] at hj; rw [Byt.txt_getD _ _ hj, hXd, turned_is])
        generalize txt s.size (turned (fun j => s.data.toList.getD j 0) q X 5) = t at *
        have hs2 : s.size ≤ 281474976710656 := by omega
        have he := Lib.hid (ends hb)
        replace hB := Lib.hid hB
        clear hR hb h1 h1' h2 h2' hshort hlong hk2 hlt
        go_wp2_with fail
        refine (Sum_calls t _ hK.out hsz).mono ?_
        rintro e w5 ⟨rfl, m5, rfl⟩
        go_wp2_with fail
        refine (Sum_calls s _ (hK.out.drewN _) hs2).mono ?_
        rintro e w6 ⟨rfl, m6, rfl⟩
        go_wp2
        go_ret
        exact ⟨Oct.ret_bool he.out, below_drewN hB.out _⟩
theorem u_of {n : Int} (h0 : 0 ≤ n) (h1 : n < 4294967296) : ∃ x : UInt32, n = u x :=
  ⟨UInt32.ofNat n.toNat, by rw [u, UInt32.toNat_ofNat']; omega⟩

theorem own : ownKnob Tryd.prog.godebug = none := by kernel_rfl
theorem laidOut : laidOutB Tryd.prog = true := by kernel_rfl
set_option maxRecDepth 100000 in
theorem lifted (os : Os) (started : os.Started) (H : Type) (enc : TypeId × Value → H) :
    ReturnsInHanded {} Tryd.checked os 6 .any (fun w args => (Rows.crcBurstSpec.pre enc Tryd.prog Tryd.f6 [] false w args ∧ laidMetH Tryd.prog Rows.crcBurstRow.laid w) ∧ sizedMet enc Tryd.prog Tryd.f6 (OpenSpec.ofChange Rows.crcBurstSpec) false w args) (Rows.crcBurstSpec.post enc Tryd.prog Tryd.f6 false true false false) := by
  refine returnsInHanded_of_change_and (C := Tryd.checked) (X := (fun w _ => laidMetH Tryd.prog Rows.crcBurstRow.laid w)) (fun _ _ _ hh h => h.of_heap hh) own started (by kernel_rfl) Tryd.func6
    (ChangeSpec.witness_shaped (enc := enc) (C := Tryd.checked) (os := os) (X := (fun w _ => laidMetH Tryd.prog Rows.crcBurstRow.laid w)) false (World.doorLaid Tryd.prog 19 os) #[.string ByteArray.empty, .int .i64 0, .int .u32 0] 8 rfl (World.shaped_of_RefB (by kernel_rfl) (by kernel_rfl)) (by kernel_rfl) (by kernel_rfl) (by kernel_rfl) (Crc.door_met os _)) ?_
  intro W base args ds gs before hval0 hW hcnd hsz0 hL _
  have hval : ∀ (j : Nat) t v, Tryd.f6.params[j]? = some t → args[j]? = some v → Value.okWide Tryd.prog W .any base t v := hval0
  have hsz : (DataW.weightsEach Tryd.prog (Tryd.f6.params.toList ++ Rows.crcBurstSpec.plain.varTypes Tryd.prog) (ds ++ gs)).all (· ≤ reachBytes) = true := hsz0
  have hW' := hW
  obtain ⟨p, q, hA0, hV, rfl, hfz, hnd⟩ := hW
  have hA : DataW.TrodAll enc Tryd.prog W 0 (fun _ => true) true Tryd.f6.params.toList args.toList ds p := hA0
  rw [Tryd.params6] at hA hval hsz
  obtain ⟨v0, vs0, d0, ds0, p0, q0, hargs, rfl, rfl, h0, r0⟩ := trodAll_cons hA
  obtain ⟨v1, vs1, d1, ds1, p1, q1, rfl, rfl, rfl, h1, r1⟩ := trodAll_cons r0
  obtain ⟨v2, vs2, d2, ds2, p2, q2, rfl, rfl, rfl, h2, r2⟩ := trodAll_cons r1
  obtain ⟨rfl, rfl, rfl⟩ := trodAll_nil r2
  obtain rfl : args = #[v0, v1, v2] := by cases args; simp_all
  obtain ⟨rfl, rfl⟩ := trodVars_none hV
  have k0 := h0
  have lt0 : ∀ x ∈ p0, x.block < W.heap.size := by obtain ⟨m, hm⟩ := k0; exact DataW.trod_lt m _ _ _ hm
  have ok0 := hval 0 9 v0 rfl rfl
  have k1 := h1
  have lt1 : ∀ x ∈ p1, x.block < W.heap.size := by obtain ⟨m, hm⟩ := k1; exact DataW.trod_lt m _ _ _ hm
  have ok1 := hval 1 3 v1 rfl rfl
  have k2 := h2
  have lt2 : ∀ x ∈ p2, x.block < W.heap.size := by obtain ⟨m, hm⟩ := k2; exact DataW.trod_lt m _ _ _ hm
  have ok2 := hval 2 22 v2 rfl rfl
  clear hA0 hval0 hsz0
  obtain ⟨a0, rfl, rfl, rfl, w0⟩ := open_string Tryd.underlying9 ok0 h0
  have z0 := Oct.size_reach (sized_string hsz (j := 0) (t := 9) rfl rfl)
  obtain ⟨a1, rfl, rfl, rfl, w1⟩ := open_int Tryd.underlying3 ok1 h1
  obtain ⟨a2, rfl, rfl, rfl, w2⟩ := open_int Tryd.underlying22 ok2 h2
  have x2 := bounds_u32 w2
  obtain ⟨x, rfl⟩ := u_of (n := a2) (by omega) (by omega)
  refine (walk a0 a1 x z0 W (tb_of_laid hL)).mono fun e W' ⟨he, bel⟩ => ?_
  subst he
  exact ⟨_, rfl, _, _, _, [], _, [], hW', trodAll_mk1 (shut_bool Tryd.underlying4 _), (trodAll_cons_mk (Below.trod laidOut (by kernel_rfl) (of_decide_eq_true (by kernel_rfl)) k0 bel lt0) (trodAll_cons_mk (Below.trod laidOut (by kernel_rfl) (of_decide_eq_true (by kernel_rfl)) k1 bel lt1) (trodAll_cons_mk (Below.trod laidOut (by kernel_rfl) (of_decide_eq_true (by kernel_rfl)) k2 bel lt2) trodAll_mk0))), rfl, bel.frame _, fun h => by cases h⟩

/-- the row -/
theorem row_proved : Rows.CrcBurstSaid :=
  OpenClaim.holds_of_wide 6 Tryd.f6 rfl rfl rfl rfl rfl rfl rfl ⟨rfl, rfl, rfl, rfl, rfl⟩ rfl rfl rfl rfl rfl (by kernel_rfl) Tryd.func6 (by kernel_rfl)
    (of_decide_eq_true (by kernel_rfl)) (by unfold Func.isWrapper; first | (rw [if_pos (by decide +kernel)]; kernel_rfl) | (rw [if_neg (by decide +kernel)]; exact ⟨rfl, rfl⟩))
    (fun os started H enc _ => lifted os started H enc)
/-- the statement: the tied card -/
theorem proved : Rows.CrcBurstCardSaid :=
  Claim7.holds_tied_plain_at .later [] Rows.crcBurstCard.laidKinds true Rows.crcBurstCard.stood.harness Rows.crcBurstCard.stood.looks row_proved (fun _ h => by cases h) (by kernel_rfl) (fun _ h => by cases h) crcBurst_row_tie rfl ⟨rfl, rfl⟩ (by kernel_rfl) rfl
    (fun f fn hf hfn => by
      obtain rfl : f = 6 := Option.some.inj ((show Tryd.prog.funcNamed Rows.crcBurstRow.func = some 6 by kernel_rfl).symm.trans hf) |>.symm
      obtain rfl : fn = Tryd.f6 := (Option.some.inj (Tryd.func6.symm.trans hfn)).symm
      exact ⟨by kernel_rfl, fun j t ht => by
        rw [Tryd.params6] at ht
        have hm : t ∈ [9, 3, 22] := by simpa using Array.mem_of_getElem? ht
        have hall : ([9, 3, 22].all fun u => !Tryd.prog.wantsStandIn u) = true := by kernel_rfl
        exact (show Tryd.prog.wantsStandIn t = false by simpa using List.all_eq_true.1 hall t hm)⟩)
    (by kernel_rfl)
end Go.Proofs.YtcjfphpieehhlaaDoor.crcBurst
