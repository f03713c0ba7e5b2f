/-
  Proved: for every list of ids and prefix, TrieLooks returns true and turns nothing of what it was given. Conditions: none beyond the form's own (the digest's constants are what the program's text lays: the card ties them).
-/
import Derived.Test.YtdmpkgdlelagjaaGreatDoorRows
import Derived.Test.YtdmpkgdlelagjaaGreatDoorCards
import Derived.Test.YtdmpkgdlelagjaaGreatDoorTie
import Derived.Test.YtdmpkgdlelagjaaGreatDoorOctKit
import Derived.SevenTiedAt
import Derived.Test.YtdmpkgdlelagjaaGreatDoorTrAwk
import Derived.Test.YtdmpkgdlelagjaaGreatDoorTrRefC
import Derived.ProofKit
import Derived.OpenShut
import Derived.Stop.Joined
import Derived.LaidMore
import Derived.MakeChecks
namespace Go.Proofs.YtdmpkgdlelagjaaGreatDoor.trieLooks
open Go Go.ChangeShapes Go.WideShapes Go.ChangeAt Go.RowKit Tr
open Go.ChangeMaps (open_string)
open Ident (by_)
open Sh (b_alloc b_drew b_drewN b_next b_then Rises)

set_option maxRecDepth 100000 in
set_option maxHeartbeats 4000000 in
theorem same_walk (a : Option Addr) (n cap : Nat) (p : ByteArray) (c : Cell) (r : Int) (w : World) (hK : Sha.Kc w) (hni : c.ids.length ≤ 1000000) (hnk : c.kds.length ≤ 1000000)
    (hLo : n ≤ 80 → ∀ w', Below w.heap.size w w' → Calls Tryz.prog 10 #[.slice a n cap, .string p] w' (LookIs w' c r))
    (hRl : n ≤ 80 → ∀ w', Below w.heap.size w w' → Calls Tryz.prog 11 #[.slice a n cap, .string p] w' (LookIs w' c r)) :
    Calls Tryz.prog 3 #[.slice a n cap, .string p] w fun e w' => e = .returned (.bool true) ∧ Below w.heap.size w w' := by
  have hAw := Lib.hid (awake_calls w hK)
  replace hLo := Lib.hid hLo
  replace hRl := Lib.hid hRl
  clear hK
  go_enter Tryz.func3, Tryz.ntmps3
  go_wp2_with fail
  refine hAw.out.mono ?_
  rintro e w1 ⟨rfl, b1⟩
  replace b1 := Lib.hid b1
  clear hAw
  by_cases h80 : 80 < n
  · have l0 : (80 : Int) < n := by omega
    go_wp2
    go_ret
    exact ⟨rfl, b1.out⟩
  · have l0 : ¬ (80 : Int) < n := by omega
    have hLo1 := Lib.hid (hLo.out (by omega) w1 b1.out)
    replace hRl := Lib.hid (hRl.out (by omega))
    clear hLo h80
    go_wp2_with fail
    refine hLo1.out.mono ?_
    rintro e w2 ⟨vi, vk, rfl, hi2, hk2, b2⟩
    have bw2 := Lib.hid (b_then b1.out b2)
    clear hLo1 b2
    obtain ⟨p', q, s, I, K⟩ := c
    dsimp only at hni hnk hi2 hk2
    obtain ⟨ai, ci, bi, oi, rfl, hci, hTi⟩ := hi2
    obtain ⟨ak, ck, bk, ok, rfl, hck, hTk⟩ := hk2
    unfold LookIs at hRl
    unfold cellV at hRl ⊢
    dsimp only at hRl ⊢
    have hSa := Lib.hid fun (vi' vk' : Value) w' (hb : Below w2.heap.size w2 w') (h1 : Lst w' vi' I) (h2 : Lst w' vk' K) => RSame_yes ⟨p', q, s, I, K⟩ (.slice ai I.length ci) (.slice ak K.length ck) vi' vk' w' ⟨ai, ci, bi, oi, rfl, hci, hTi.next hb⟩ ⟨ak, ck, bk, ok, rfl, hck, hTk.next hb⟩ h1 h2 hni hnk
    unfold cellV at hSa
    dsimp only at hSa
    obtain ⟨ni, hni'⟩ : ∃ ni, I.length = ni := ⟨_, rfl⟩
    obtain ⟨nk, hnk'⟩ : ∃ nk, K.length = nk := ⟨_, rfl⟩
    rw [hni', hnk'] at hSa ⊢
    have bA := b_alloc w2 (.cells #[.string p', .int .i64 q, .string s, .slice ai ni ci, .slice ak nk ck] 25)
    have hRl1 := Lib.hid (hRl.out _ (b_then bw2.out bA))
    have cA := CellAt.new w2 (.string p') (.int .i64 q) (.string s) (.slice ai ni ci) (.slice ak nk ck) 25
    replace bA := Lib.hid bA
    clear hRl hTi hTk hci hck
    go_wp2_with fail
    refine hRl1.out.mono ?_
    rintro e w3 ⟨vi, vk, rfl, hi3, hk3, b3⟩
    have sz3 : w2.heap.size + 1 ≤ w3.heap.size := by have := b3.size; simpa using this
    obtain ⟨ai', ci', bi', oi', rfl, hci, hTi⟩ := hi3
    obtain ⟨ak', ck', bk', ok', rfl, hck, hTk⟩ := hk3
    rw [hni', hnk']
    have bw3 := Lib.hid (b_then (b_then bw2.out bA.out) b3)
    have b23 := b_then bA.out b3
    have bB := b_alloc w3 (.cells #[.string p', .int .i64 q, .string s, .slice ai' ni ci', .slice ak' nk ck'] 25)
    have bw4 := Lib.hid (b_then bw3.out bB)
    have hSa1 := Lib.hid (hSa.out (.slice ai' I.length ci') (.slice ak' K.length ck') _ (b_then b23 bB) ⟨ai', ci', bi', oi', rfl, hci, hTi.next bB⟩ ⟨ak', ck', bk', ok', rfl, hck, hTk.next bB⟩)
    rw [hni', hnk'] at hSa1
    obtain ⟨cc0, cc1, cc2, cc3, cc4⟩ := (cA.next b3).next bB
    clear hSa hRl1 cA bA b3 b23 bB bw2 bw3 hTi hTk hci hck hni hnk
    go_wp2_with fail
    refine hSa1.out.mono ?_
    rintro e w5 ⟨rfl, b5⟩
    have hE := Lib.hid (b_then bw4.out b5)
    clear b5 hSa1 bw4 cc0 cc1 cc2 cc3 cc4
    go_wp2
    go_ret
    exact ⟨rfl, hE.out⟩

theorem walk (a : Option Addr) (cap b off : Nat) (L : List ByteArray) (p : ByteArray) (w : World) (hT : TxAt w a b off L) (hn : L.length ≤ 140737488351232) (hsz : ∀ x ∈ L, x.size ≤ 140737488351232) (hz : p.size ≤ 140737488351232) (hK : Sha.Kc w) :
    Calls Tryz.prog 3 #[.slice a L.length cap, .string p] w fun e w' => e = .returned (.bool true) ∧ Below w.heap.size w w' := by
  by_cases hs : IsSet L
  · by_cases hp : IsPre p
    · by_cases h80 : L.length ≤ 80
      · refine same_walk a L.length cap p (cellOf L p) 0 w hK ?_ ?_ (fun h w' hb => Look_ok a cap b off L p w' (hT.next hb) (by omega) hs hp (kc_below hK hb)) (fun h w' hb => RLook_ok a cap b off L p w' (hT.next hb) (by omega) hs hp)
        · have : (below L p).length ≤ L.length := List.length_filter_le _ _
          rw [cell_ids']
          split
          · omega
          · exact Nat.zero_le _
        · rw [cell_kds']
          split
          · exact Nat.zero_le _
          · rw [kids_length]; omega
      · exact same_walk a L.length cap p noCell 4 w hK (Nat.zero_le _) (Nat.zero_le _) (fun h => absurd h h80) (fun h => absurd h h80)
    · exact same_walk a L.length cap p noCell 4 w hK (Nat.zero_le _) (Nat.zero_le _) (fun _ w' hb => Look_form a cap b off L p w' (hT.next hb) hn hs hp hz) (fun _ w' hb => RLook_form a cap b off L p w' (hT.next hb) hn hsz hs hp)
  · exact same_walk a L.length cap p noCell 1 w hK (Nat.zero_le _) (Nat.zero_le _) (fun _ w' hb => Look_bad a cap b off L p w' (hT.next hb) hn hs) (fun _ w' hb => RLook_bad a cap b off L p w' (hT.next hb) hn hsz hs)
theorem walk_at (a : Option Addr) (n cap b off : Nat) (T : Nat → ByteArray) (p : ByteArray) (w : World) (hT : Oct.TextsAt w a b off n T) (hn : n ≤ 140737488351232) (hz : p.size ≤ 140737488351232) (hK : Sha.Kc w) :
    Calls Tryz.prog 3 #[.slice a n cap, .string p] w fun e w' => e = .returned (.bool true) ∧ Below w.heap.size w w' := by
  obtain ⟨h1, h2, h3⟩ := tx_of_texts hT
  have := walk a cap b off _ p w h1 (by rw [h2]; exact hn) h3 hz hK
  rw [h2] at this
  exact this

theorem own : ownKnob Tryz.prog.godebug = none := by kernel_rfl
theorem laidOut : laidOutB Tryz.prog = true := by kernel_rfl
set_option maxRecDepth 100000 in
theorem lifted (os : Os) (started : os.Started) (H : Type) (enc : TypeId × Value → H) :
    ReturnsInHanded {} Tryz.checked os 3 .any (fun w args => (Rows.trieLooksSpec.pre enc Tryz.prog Tryz.f3 [] false w args ∧ laidMetH Tryz.prog Rows.trieLooksRow.laid w) ∧ sizedMet enc Tryz.prog Tryz.f3 (OpenSpec.ofChange Rows.trieLooksSpec) false w args) (Rows.trieLooksSpec.post enc Tryz.prog Tryz.f3 false true false false) := by
  refine returnsInHanded_of_change_and (C := Tryz.checked) (X := (fun w _ => laidMetH Tryz.prog Rows.trieLooksRow.laid w)) (fun _ _ _ hh h => h.of_heap hh) own started (by kernel_rfl) Tryz.func3
    (ChangeSpec.witness_shaped (enc := enc) (C := Tryz.checked) (os := os) (X := (fun w _ => laidMetH Tryz.prog Rows.trieLooksRow.laid w)) false (World.doorLaid Tryz.prog 14 os) #[.slice none 0 0, .string ByteArray.empty] 8 rfl (World.shaped_of_RefB (by kernel_rfl) (by kernel_rfl)) (by kernel_rfl) (by kernel_rfl) (by kernel_rfl) (Sha.door_met os _)) ?_
  intro W base args ds gs before hval0 hW hcnd hsz0 hL _
  have hval : ∀ (j : Nat) t v, Tryz.f3.params[j]? = some t → args[j]? = some v → Value.okWide Tryz.prog W .any base t v := hval0
  have hsz : (DataW.weightsEach Tryz.prog (Tryz.f3.params.toList ++ Rows.trieLooksSpec.plain.varTypes Tryz.prog) (ds ++ gs)).all (· ≤ reachBytes) = true := hsz0
  have hW' := hW
  obtain ⟨p, q, hA0, hV, rfl, hfz, hnd⟩ := hW
  have hA : DataW.TrodAll enc Tryz.prog W 0 (fun _ => true) true Tryz.f3.params.toList args.toList ds p := hA0
  rw [Tryz.params3] at hA hval hsz
  obtain ⟨v0, vs0, d0, ds0, p0, q0, hargs, rfl, rfl, h0, r0⟩ := trodAll_cons hA
  obtain ⟨v1, vs1, d1, ds1, p1, q1, rfl, rfl, rfl, h1, r1⟩ := trodAll_cons r0
  obtain ⟨rfl, rfl, rfl⟩ := trodAll_nil r1
  obtain rfl : args = #[v0, v1] := by cases args; simp_all
  obtain ⟨rfl, rfl⟩ := trodVars_none hV
  have k0 := h0
  have lt0 : ∀ x ∈ p0, x.block < W.heap.size := by obtain ⟨m, hm⟩ := k0; exact DataW.trod_lt m _ _ _ hm
  have ok0 := hval 0 22 v0 rfl rfl
  have k1 := h1
  have lt1 : ∀ x ∈ p1, x.block < W.heap.size := by obtain ⟨m, hm⟩ := k1; exact DataW.trod_lt m _ _ _ hm
  have ok1 := hval 1 9 v1 rfl rfl
  clear hA0 hval0 hsz0
  obtain ⟨a0, len, cap, b, off, T, rfl, hT, hl⟩ := Oct.open_texts Tryz.underlying22 Tryz.underlying9 (by kernel_rfl) (of_decide_eq_true (by kernel_rfl)) ok0 h0 (Oct.arg_weights hsz (j := 0) (t := 22) rfl rfl)
  obtain ⟨a1, rfl, rfl, rfl, w1⟩ := open_string Tryz.underlying9 ok1 h1
  have z1 := Oct.size_reach (sized_string hsz (j := 1) (t := 9) rfl rfl)
  refine (walk_at a0 len cap b off T a1 W hT hl z1 (Sha.kc_of_laid hL)).mono fun e W' ⟨he, bel⟩ => ?_
  subst he
  exact ⟨_, rfl, _, _, _, [], _, [], hW', trodAll_mk1 (shut_bool Tryz.underlying4 _), (trodAll_cons_mk (Below.trod laidOut (by kernel_rfl) (of_decide_eq_true (by kernel_rfl)) k0 bel lt0) (trodAll_cons_mk (Below.trod laidOut (by kernel_rfl) (of_decide_eq_true (by kernel_rfl)) k1 bel lt1) trodAll_mk0)), rfl, bel.frame _, fun h => by cases h⟩

/-- the row -/
theorem row_proved : Rows.TrieLooksSaid :=
  OpenClaim.holds_of_wide 3 Tryz.f3 rfl rfl rfl rfl rfl rfl rfl ⟨rfl, rfl, rfl, rfl, rfl⟩ rfl rfl rfl rfl rfl (by kernel_rfl) Tryz.func3 (by kernel_rfl)
    (of_decide_eq_true (by kernel_rfl)) (by unfold Func.isWrapper; first | (rw [if_pos (by decide +kernel)]; kernel_rfl) | (rw [if_neg (by decide +kernel)]; exact ⟨rfl, rfl⟩))
    (fun os started H enc _ => lifted os started H enc)
/-- the statement: the tied card -/
theorem proved : Rows.TrieLooksCardSaid :=
  Claim7.holds_tied_plain_at .later [] Rows.trieLooksCard.laidKinds true Rows.trieLooksCard.stood.harness Rows.trieLooksCard.stood.looks row_proved (fun _ h => by cases h) (by kernel_rfl) (fun _ h => by cases h) trieLooks_row_tie rfl ⟨rfl, rfl⟩ (by kernel_rfl) rfl
    (fun f fn hf hfn => by
      obtain rfl : f = 3 := Option.some.inj ((show Tryz.prog.funcNamed Rows.trieLooksRow.func = some 3 by kernel_rfl).symm.trans hf) |>.symm
      obtain rfl : fn = Tryz.f3 := (Option.some.inj (Tryz.func3.symm.trans hfn)).symm
      exact ⟨by kernel_rfl, fun j t ht => by
        rw [Tryz.params3] at ht
        have hm : t ∈ [22, 9] := by simpa using Array.mem_of_getElem? ht
        have hall : ([22, 9].all fun u => !Tryz.prog.wantsStandIn u) = true := by kernel_rfl
        exact (show Tryz.prog.wantsStandIn t = false by simpa using List.all_eq_true.1 hall t hm)⟩)
    (by kernel_rfl)
end Go.Proofs.YtdmpkgdlelagjaaGreatDoor.trieLooks
