/-
  Proved: for every list of texts and every cell, TrieDraws returns true and turns nothing of what it was given. Conditions: none beyond the form's own (the digest's constants are what the program's text lays: the card ties them).
-/
import Derived.Test.YtdmpkgdlelagjaaGreatDoorRows
import Derived.Test.YtdmpkgdlelagjaaGreatDoorCards
import Derived.Test.YtdmpkgdlelagjaaGreatDoorTie
import Derived.Test.YtdmpkgdlelagjaaGreatDoorOctKit
import Derived.SevenTiedAt
import Derived.Test.YtdmpkgdlelagjaaGreatDoorTrOpen
import Derived.Test.YtdmpkgdlelagjaaGreatDoorTrRefE
import Derived.ProofKit
import Derived.OpenShut
import Derived.Stop.Joined
import Derived.LaidMore
import Derived.MakeChecks
import Derived.Deep.RegionHeld3
namespace Go.Proofs.YtdmpkgdlelagjaaGreatDoor.trieDraws
open Go Go.ChangeShapes Go.WideShapes Go.ChangeAt Go.RowKit Tr
open Ident (by_)
open Sh (b_alloc b_drew b_drewN b_next b_then Rises)

/-- a right cell or not: there is one answer -/
theorem check_is (c : Cell) : ∃ n, IsCheck c n := by
  by_cases hp : IsPre c.pre
  · by_cases h1 : TellsIds c
    · exact ⟨_, .of_few hp h1 rfl⟩
    · by_cases h2 : TellsKids c
      · exact ⟨_, .of_many hp h2 rfl⟩
      · exact ⟨4, .of_form fun h => h.2.elim h1 h2⟩
  · exact ⟨4, .of_form fun h => hp h.1⟩
/-- what Draw answers, of every list and every cell -/
theorem draw_is (L : List ByteArray) (c : Cell) : ∃ M A n, (IsSet L → ∀ w e w', ((∃ n, IsCheck c n ∧ n ≠ 0 ∧ DrawIs w [] [] n e w') ∨ (IsCheck c 0 ∧ DrawIs w (lacks L c) (asks L c) 0 e w')) → DrawIs w M A n e w') ∧ (¬ IsSet L → M = [] ∧ A = [] ∧ n = (1 : Int)) ∧ M.length ≤ c.ids.length ∧ A.length ≤ c.kds.length := by
  by_cases hs : IsSet L
  · obtain ⟨k, hk⟩ := check_is c
    by_cases h0 : k = 0
    · subst h0
      refine ⟨lacks L c, asks L c, 0, fun _ w e w' h => ?_, fun h => absurd hs h, List.length_filter_le _ _, ?_⟩
      · rcases h with ⟨n, h1, h2, _⟩ | ⟨_, h⟩
        · exact absurd (h1.unique hk) h2
        · exact h
      · unfold asks
        rw [List.length_map]
        refine Nat.le_trans (List.length_filter_le _ _) ?_
        rw [List.length_range]; exact Nat.le_refl _
    · refine ⟨[], [], k, fun _ w e w' h => ?_, fun h => absurd hs h, Nat.zero_le _, Nat.zero_le _⟩
      rcases h with ⟨n, h1, h2, h⟩ | ⟨h, _⟩
      · rw [h1.unique hk] at h; exact h
      · exact absurd (hk.unique h) h0
  · exact ⟨[], [], 1, fun h => absurd h hs, fun _ => ⟨rfl, rfl, rfl⟩, Nat.zero_le _, Nat.zero_le _⟩
set_option maxRecDepth 100000 in
set_option maxHeartbeats 8000000 in
theorem walk (a : Option Addr) (cap b off : Nat) (L : List ByteArray) (c : Cell) (vi vk : Value) (w : World) (hT : TxAt w a b off L) (hn : L.length ≤ 140737488351232) (hsz : ∀ x ∈ L, x.size ≤ 140737488351232)
    (hi : Lst w vi c.ids) (hk : Lst w vk c.kds) (hni : c.ids.length ≤ 140737488351232) (hnk : c.kds.length ≤ 140737488351232) (hz : c.pre.size ≤ 140737488351232) (hzi : ∀ x ∈ c.ids, x.size ≤ 140737488351232) (hzk : ∀ x ∈ c.kds, x.size ≤ 140737488351232) (hK : Sha.Kc w) :
    Calls Tryz.prog 4 #[.slice a L.length cap, cellV c vi vk] w fun e w' => e = .returned (.bool true) ∧ Below w.heap.size w w' := by
  obtain ⟨k, hck⟩ := check_is c
  have hCh := Lib.hid fun w' (hb : Below w.heap.size w w') (h : c.ids.length ≤ 80) => Check_ok c vi vk w' (hi.next hb) (hk.next hb) (kc_below hK hb) (by omega) hnk hz k hck
  have hRc := Lib.hid fun w' (hb : Below w.heap.size w w') (h : c.ids.length ≤ 80) (h2 : c.kds.length ≤ 80) => (RCheck_calls c vi vk w' (hi.next hb) (hk.next hb) h h2 hz hzi hzk).mono fun e w'' ⟨⟨m, h1, h2⟩, h3⟩ => (show e = Ending.returned (Value.int .i64 k) ∧ Below w'.heap.size w' w'' from ⟨by rw [h1, h2.unique hck], h3⟩)
  obtain ⟨M, A, n, hd1, hd2, hM, hA⟩ := draw_is L c
  have hDr := Lib.hid fun w' (hb : Below w.heap.size w w') (h0 : L.length ≤ 80) (h : c.ids.length ≤ 80) => (show Calls Tryz.prog 15 #[.slice a L.length cap, cellV c vi vk] w' (DrawIs w' M A n) by
    by_cases hs : IsSet L
    · exact (Draw_calls a cap b off L c vi vk w' (hT.next hb) (by omega) (hi.next hb) (hk.next hb) hs (kc_below hK hb) (by omega) hnk hz).mono fun e w'' h => hd1 hs _ _ _ h
    · obtain ⟨rfl, rfl, rfl⟩ := hd2 hs
      exact Draw_bad a cap b off L c vi vk w' (hT.next hb) hn (hi.next hb) (hk.next hb) hs)
  have hRd := Lib.hid fun w' (hb : Below w.heap.size w w') (h0 : L.length ≤ 80) (h : c.ids.length ≤ 80) (h2 : c.kds.length ≤ 80) => (show Calls Tryz.prog 16 #[.slice a L.length cap, cellV c vi vk] w' (DrawIs w' M A n) by
    by_cases hs : IsSet L
    · exact (RDraw_calls a cap b off L c vi vk w' (hT.next hb) h0 (hi.next hb) (hk.next hb) hs h h2 hz hzi hzk).mono fun e w'' h => hd1 hs _ _ _ h
    · obtain ⟨rfl, rfl, rfl⟩ := hd2 hs
      exact RDraw_bad a cap b off L c vi vk w' (hT.next hb) hn hsz (hi.next hb) (hk.next hb) hs)
  obtain ⟨ai, ci, bi, oi, rfl, -, -⟩ := hi
  obtain ⟨ak, ck, bk, ok, rfl, -, -⟩ := hk
  clear hT hn hsz hni hnk hz hzi hzk hck hd1 hd2
  unfold cellV at *
  have bA := b_alloc w (.cells #[.string c.pre, .int .i64 c.count, .string c.sum, .slice ai c.ids.length ci, .slice ak c.kds.length ck] 25)
  have cA := CellAt.new w (.string c.pre) (.int .i64 c.count) (.string c.sum) (.slice ai c.ids.length ci) (.slice ak c.kds.length ck) 25
  have hAw := Lib.hid (awake_calls _ (kc_below hK bA))
  obtain ⟨p, hp⟩ : ∃ p, c.pre = p := ⟨_, rfl⟩
  obtain ⟨cn, hcn⟩ : ∃ cn, c.count = cn := ⟨_, rfl⟩
  obtain ⟨s, hs⟩ : ∃ s, c.sum = s := ⟨_, rfl⟩
  obtain ⟨ni, hni⟩ : ∃ ni, c.ids.length = ni := ⟨_, rfl⟩
  obtain ⟨nk, hnk⟩ : ∃ nk, c.kds.length = nk := ⟨_, rfl⟩
  obtain ⟨m, hm⟩ : ∃ m, L.length = m := ⟨_, rfl⟩
  rw [hp, hcn, hs, hni, hnk] at hCh hRc bA cA hAw
  rw [hp, hcn, hs, hni, hnk, hm] at hDr hRd ⊢
  rw [hni] at hM
  rw [hnk] at hA
  clear hp hcn hs hni hnk hm hK
  replace bA := Lib.hid bA
  replace cA := Lib.hid cA
  go_enter Tryz.func4, Tryz.ntmps4
  go_wp2_with fail
  refine hAw.out.mono ?_
  rintro e w1 ⟨rfl, b1⟩
  have bw1 := Lib.hid (b_then bA.out b1)
  have cA1 := cA.out.next b1
  clear hAw cA bA b1
  have hcell := Lib.hid fun w' (hb : Below w1.heap.size w1 w') => cA1.next hb
  obtain ⟨z0, z1, z2, z3, z4⟩ := cA1
  by_cases h80 : 80 < m
  · have l0 : decide ((80 : Int) < m) = true := decide_eq_true (by omega)
    go_wp2
    go_ret
    exact ⟨rfl, bw1.out⟩
  have l0 : decide ((80 : Int) < m) = false := decide_eq_false (by omega)
  by_cases h81 : 80 < ni
  · have l1 : decide ((80 : Int) < ni) = true := decide_eq_true (by omega)
    go_wp2
    go_ret
    exact ⟨rfl, bw1.out⟩
  have l1 : decide ((80 : Int) < ni) = false := decide_eq_false (by omega)
  by_cases h82 : 80 < nk
  · have l2 : decide ((80 : Int) < nk) = true := decide_eq_true (by omega)
    go_wp2
    go_ret
    exact ⟨rfl, bw1.out⟩
  have l2 : decide ((80 : Int) < nk) = false := decide_eq_false (by omega)
  have hCh1 := Lib.hid fun w' (hb : Below w1.heap.size w1 w') => hCh.out w' (b_then bw1.out hb) (by omega)
  have hRc1 := Lib.hid fun w' (hb : Below w1.heap.size w1 w') => hRc.out w' (b_then bw1.out hb) (by omega) (by omega)
  have hDr1 := Lib.hid fun w' (hb : Below w1.heap.size w1 w') => hDr.out w' (b_then bw1.out hb) (by omega) (by omega)
  have hRd1 := Lib.hid fun w' (hb : Below w1.heap.size w1 w') => hRd.out w' (b_then bw1.out hb) (by omega) (by omega) (by omega)
  have hM2 : M.length ≤ 1000000 := by omega
  have hA2 : A.length ≤ 1000000 := by omega
  clear hCh hRc hDr hRd h80 h81 h82 hM hA
  go_upto_region 5 with (fail)
  clear z0 z1 z2 z3 z4 l0 l1 l2
  have hS : Hid (∀ w', Below w1.heap.size w1 w' → w'.cell? ⟨w.heap.size, 0, none⟩ = some (.string p) ∧ w'.cell? ⟨w.heap.size, 1, none⟩ = some (.int .i64 cn) ∧ w'.cell? ⟨w.heap.size, 2, none⟩ = some (.string s) ∧ w'.cell? ⟨w.heap.size, 3, none⟩ = some (.slice ai ni ci) ∧ w'.cell? ⟨w.heap.size, 4, none⟩ = some (.slice ak nk ck)) := hcell
  refine wp_region_held_drew (S := (fun w' => w'.cell? ⟨w.heap.size, 0, none⟩ = some (.string p) ∧ w'.cell? ⟨w.heap.size, 1, none⟩ = some (.int .i64 cn) ∧ w'.cell? ⟨w.heap.size, 2, none⟩ = some (.string s) ∧ w'.cell? ⟨w.heap.size, 3, none⟩ = some (.slice ai ni ci) ∧ w'.cell? ⟨w.heap.size, 4, none⟩ = some (.slice ak nk ck))) (by kernel_rfl) (hS.out _ (b_drew w1)) (fun hHeld => ?_)
  refine wpAnyH_take (i := 0) (oi := { dst := some 28, op := _, type := _, pos := _, after := _, guard := none }) (v := ?vr1_0) rfl (by kernel_rfl) (by kernel_rfl) (by kernel_rfl) (fun _ _ _ h => h) (Or.inl ⟨by rfl, ?hyr1_0⟩) (by assumption) ?restr1_0
  case hyr1_0 => (intro w hSw; (try dsimp only at hSw); go_simp <;> with_reducible rfl)
  (try simp only [Act.put, List.setIfInBounds_toArray, List.set_cons_zero, List.set_cons_succ])
  refine wpAnyH_take (i := 2) (oi := { dst := some 30, op := _, type := _, pos := _, after := _, guard := none }) (v := ?vr1_1) rfl (by kernel_rfl) (by kernel_rfl) (by kernel_rfl) (fun _ _ _ h => h) (Or.inl ⟨by rfl, ?hyr1_1⟩) (by assumption) ?restr1_1
  case hyr1_1 => (intro w hSw; (try dsimp only at hSw); go_simp <;> with_reducible rfl)
  (try simp only [Act.put, List.setIfInBounds_toArray, List.set_cons_zero, List.set_cons_succ])
  refine wpAnyH_ready (rs := [1]) (by kernel_rfl) (by simp) ?_
  refine AllReadyH.cons (o := { dst := some 29, op := _, type := _, pos := _, after := _, guard := none }) rfl (fun K hK => ?_) AllReadyH.nil
  go_simp
  (refine (hCh1.out _ (b_drew w1)).mono ?_; rintro e w7 ⟨rfl, bb⟩; have bc := b_then (b_drew w1) bb)
  (try go_wp2_with fail)
  refine hK.out _ _ ((hS.out _ bc)) (fun hHeld => ?_)
  clear hK K
  (try simp only [Act.put, List.setIfInBounds_toArray, List.set_cons_zero, List.set_cons_succ])
  refine wpAnyH_ready (rs := [3]) (by kernel_rfl) (by simp) ?_
  refine AllReadyH.cons (o := { dst := some 31, op := _, type := _, pos := _, after := _, guard := none }) rfl (fun K hK => ?_) AllReadyH.nil
  go_simp
  (refine (hRc1.out _ bc).mono ?_; rintro e w8 ⟨rfl, b8⟩; have bd := b_then bc b8)
  (try go_wp2_with fail)
  refine hK.out _ _ ((hS.out _ bd)) (fun hHeld => ?_)
  clear hK K
  (try simp only [Act.put, List.setIfInBounds_toArray, List.set_cons_zero, List.set_cons_succ])
  refine wpAnyH_take (i := 4) (oi := { dst := some 32, op := _, type := _, pos := _, after := _, guard := none }) (v := ?vr1_2) rfl (by kernel_rfl) (by kernel_rfl) (by kernel_rfl) (fun _ _ _ h => h) (Or.inl ⟨by rfl, ?hyr1_2⟩) (by assumption) ?restr1_2
  case hyr1_2 => (intro w hSw; (try dsimp only at hSw); go_simp <;> with_reducible rfl)
  (try simp only [Act.put, List.setIfInBounds_toArray, List.set_cons_zero, List.set_cons_succ])
  refine wpAnyH_done (by kernel_rfl) ?_ _
  have e0 : (k == k) = true := by simp
  have e1 : (k != k) = false := by simp
  obtain ⟨z0, z1, z2, z3, z4⟩ := hcell.out _ bd
  have hDr2 := Lib.hid (hDr1.out _ bd)
  clear hCh1 hRc1 hDr1 hS bc b8 bb hHeld
  go_wp2_with fail
  refine hDr2.out.mono ?_
  rintro e w9 ⟨v1, v2, rfl, hM1, hA1, b9⟩
  have be := b_then bd b9
  clear z0 z1 z2 z3 z4 b9 hDr2
  obtain ⟨z0, z1, z2, z3, z4⟩ := hcell.out _ be
  have hRd2 := Lib.hid (hRd1.out _ be)
  replace hM1 := Lib.hid hM1
  replace hA1 := Lib.hid hA1
  clear hRd1
  go_wp2_with fail
  refine hRd2.out.mono ?_
  rintro e w10 ⟨v3, v4, rfl, hM3, hA3, b10⟩
  have bE := Lib.hid (b_then bw1.out (b_then be b10))
  obtain ⟨a1, c1, bb1, o1, rfl, -, hT1⟩ := hM1.out.next b10
  obtain ⟨a2, c2, bb2, o2, rfl, -, hT2⟩ := hA1.out.next b10
  obtain ⟨a3, c3, bb3, o3, rfl, -, hT3⟩ := hM3
  obtain ⟨a4, c4, bb4, o4, rfl, -, hT4⟩ := hA3
  have hX1 := Lib.hid (tells_yes (RTexts_calls a1 c1 bb1 o1 M a3 c3 bb3 o3 M w10 hT1 hT3 hM2 hM2) rfl)
  have hX2 := Lib.hid fun w' (hb : Below w10.heap.size w10 w') => tells_yes (RTexts_calls a2 c2 bb2 o2 A a4 c4 bb4 o4 A w' (hT2.next hb) (hT4.next hb) hA2 hA2) rfl
  generalize M.length = lm at *
  generalize A.length = la at *
  have e2 : (n == n) = true := by simp
  clear z0 z1 z2 z3 z4 b10 hRd2 hT1 hT2 hT3 hT4 hM1 hA1 be bd
  go_wp2_with fail
  refine hX1.out.mono ?_
  rintro e w11 ⟨rfl, b11⟩
  have hX3 := Lib.hid (hX2.out _ b11)
  have bF := Lib.hid (b_then bE.out b11)
  clear hX1 hX2 b11 bE
  go_wp2_with fail
  refine hX3.out.mono ?_
  rintro e w12 ⟨rfl, b12⟩
  have bG := Lib.hid (b_then bF.out b12)
  clear hX3 b12 bF
  go_wp2
  go_ret
  exact ⟨rfl, bG.out⟩
theorem walk_at (a : Option Addr) (n cap b off : Nat) (T : Nat → ByteArray) (c : Cell) (vi vk : Value) (w : World) (hT : Oct.TextsAt w a b off n T) (hn : n ≤ 140737488351232)
    (hi : Lst w vi c.ids) (hk : Lst w vk c.kds) (hni : c.ids.length ≤ 140737488351232) (hnk : c.kds.length ≤ 140737488351232) (hz : c.pre.size ≤ 140737488351232) (hzi : ∀ x ∈ c.ids, x.size ≤ 140737488351232) (hzk : ∀ x ∈ c.kds, x.size ≤ 140737488351232) (hK : Sha.Kc w) :
    Calls Tryz.prog 4 #[.slice a n cap, cellV c vi vk] w fun e w' => e = .returned (.bool true) ∧ Below w.heap.size w w' := by
  obtain ⟨h1, h2, h3⟩ := tx_of_texts hT
  have := walk a cap b off _ c vi vk w h1 (by rw [h2]; exact hn) h3 hi hk hni hnk hz hzi hzk hK
  rw [h2] at this
  exact this

theorem own : ownKnob Tryz.prog.godebug = none := by kernel_rfl
theorem laidOut : laidOutB Tryz.prog = true := by kernel_rfl
set_option maxRecDepth 100000 in
theorem lifted (os : Os) (started : os.Started) (H : Type) (enc : TypeId × Value → H) :
    ReturnsInHanded {} Tryz.checked os 4 .any (fun w args => (Rows.trieDrawsSpec.pre enc Tryz.prog Tryz.f4 [] false w args ∧ laidMetH Tryz.prog Rows.trieDrawsRow.laid w) ∧ sizedMet enc Tryz.prog Tryz.f4 (OpenSpec.ofChange Rows.trieDrawsSpec) false w args) (Rows.trieDrawsSpec.post enc Tryz.prog Tryz.f4 false true false false) := by
  refine returnsInHanded_of_change_and (C := Tryz.checked) (X := (fun w _ => laidMetH Tryz.prog Rows.trieDrawsRow.laid w)) (fun _ _ _ hh h => h.of_heap hh) own started (by kernel_rfl) Tryz.func4
    (ChangeSpec.witness_shaped (enc := enc) (C := Tryz.checked) (os := os) (X := (fun w _ => laidMetH Tryz.prog Rows.trieDrawsRow.laid w)) false (World.doorLaid Tryz.prog 14 os) #[.slice none 0 0, .agg #[.string ByteArray.empty, .int .i64 0, .string ByteArray.empty, .slice none 0 0, .slice none 0 0]] 8 rfl (World.shaped_of_RefB (by kernel_rfl) (by kernel_rfl)) (by kernel_rfl) (by kernel_rfl) (by kernel_rfl) (Sha.door_met os _)) ?_
  intro W base args ds gs before hval0 hW hcnd hsz0 hL _
  have hval : ∀ (j : Nat) t v, Tryz.f4.params[j]? = some t → args[j]? = some v → Value.okWide Tryz.prog W .any base t v := hval0
  have hsz : (DataW.weightsEach Tryz.prog (Tryz.f4.params.toList ++ Rows.trieDrawsSpec.plain.varTypes Tryz.prog) (ds ++ gs)).all (· ≤ reachBytes) = true := hsz0
  have hW' := hW
  obtain ⟨p, q, hA0, hV, rfl, hfz, hnd⟩ := hW
  have hA : DataW.TrodAll enc Tryz.prog W 0 (fun _ => true) true Tryz.f4.params.toList args.toList ds p := hA0
  rw [Tryz.params4] at hA hval hsz
  obtain ⟨v0, vs0, d0, ds0, p0, q0, hargs, rfl, rfl, h0, r0⟩ := trodAll_cons hA
  obtain ⟨v1, vs1, d1, ds1, p1, q1, rfl, rfl, rfl, h1, r1⟩ := trodAll_cons r0
  obtain ⟨rfl, rfl, rfl⟩ := trodAll_nil r1
  obtain rfl : args = #[v0, v1] := by cases args; simp_all
  obtain ⟨rfl, rfl⟩ := trodVars_none hV
  have k0 := h0
  have lt0 : ∀ x ∈ p0, x.block < W.heap.size := by obtain ⟨m, hm⟩ := k0; exact DataW.trod_lt m _ _ _ hm
  have ok0 := hval 0 22 v0 rfl rfl
  have k1 := h1
  have lt1 : ∀ x ∈ p1, x.block < W.heap.size := by obtain ⟨m, hm⟩ := k1; exact DataW.trod_lt m _ _ _ hm
  have ok1 := hval 1 25 v1 rfl rfl
  clear hA0 hval0 hsz0
  obtain ⟨a0, len, cap, b, off, T, rfl, hT, hl⟩ := Oct.open_texts Tryz.underlying22 Tryz.underlying9 (by kernel_rfl) (of_decide_eq_true (by kernel_rfl)) ok0 h0 (Oct.arg_weights hsz (j := 0) (t := 22) rfl rfl)
  obtain ⟨c, vi, vk, rfl, hi, hk, m1, m2, m3, m4, m5⟩ := open_cell ok1 h1 (Oct.arg_weights hsz (j := 1) (t := 25) rfl rfl)
  refine (walk_at a0 len cap b off T c vi vk W hT hl hi hk m1 m2 m3 m4 m5 (Sha.kc_of_laid hL)).mono fun e W' ⟨he, bel⟩ => ?_
  subst he
  exact ⟨_, rfl, _, _, _, [], _, [], hW', trodAll_mk1 (shut_bool Tryz.underlying4 _), (trodAll_cons_mk (Below.trod laidOut (by kernel_rfl) (of_decide_eq_true (by kernel_rfl)) k0 bel lt0) (trodAll_cons_mk (Below.trod laidOut (by kernel_rfl) (of_decide_eq_true (by kernel_rfl)) k1 bel lt1) trodAll_mk0)), rfl, bel.frame _, fun h => by cases h⟩

/-- the row -/
theorem row_proved : Rows.TrieDrawsSaid :=
  OpenClaim.holds_of_wide 4 Tryz.f4 rfl rfl rfl rfl rfl rfl rfl ⟨rfl, rfl, rfl, rfl, rfl⟩ rfl rfl rfl rfl rfl (by kernel_rfl) Tryz.func4 (by kernel_rfl)
    (of_decide_eq_true (by kernel_rfl)) (by unfold Func.isWrapper; first | (rw [if_pos (by decide +kernel)]; kernel_rfl) | (rw [if_neg (by decide +kernel)]; exact ⟨rfl, rfl⟩))
    (fun os started H enc _ => lifted os started H enc)
/-- the statement: the tied card -/
theorem proved : Rows.TrieDrawsCardSaid :=
  Claim7.holds_tied_plain_at .later [] Rows.trieDrawsCard.laidKinds true Rows.trieDrawsCard.stood.harness Rows.trieDrawsCard.stood.looks row_proved (fun _ h => by cases h) (by kernel_rfl) (fun _ h => by cases h) trieDraws_row_tie rfl ⟨rfl, rfl⟩ (by kernel_rfl) rfl
    (fun f fn hf hfn => by
      obtain rfl : f = 4 := Option.some.inj ((show Tryz.prog.funcNamed Rows.trieDrawsRow.func = some 4 by kernel_rfl).symm.trans hf) |>.symm
      obtain rfl : fn = Tryz.f4 := (Option.some.inj (Tryz.func4.symm.trans hfn)).symm
      exact ⟨by kernel_rfl, fun j t ht => by
        rw [Tryz.params4] at ht
        have hm : t ∈ [22, 25] := by simpa using Array.mem_of_getElem? ht
        have hall : ([22, 25].all fun u => !Tryz.prog.wantsStandIn u) = true := by kernel_rfl
        exact (show Tryz.prog.wantsStandIn t = false by simpa using List.all_eq_true.1 hall t hm)⟩)
    (by kernel_rfl)
end Go.Proofs.YtdmpkgdlelagjaaGreatDoor.trieDraws
