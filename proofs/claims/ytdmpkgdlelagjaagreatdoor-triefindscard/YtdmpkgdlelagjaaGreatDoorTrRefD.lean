/-
  The document's own Check of a cell. Conditions: lists of at most 80 texts, of sizes that the form's numbers bear.
-/
import Derived.Test.YtdmpkgdlelagjaaGreatDoorRows
import Derived.Test.YtdmpkgdlelagjaaGreatDoorTrRefC
import Derived.Test.YtdmpkgdlelagjaaGreatDoorTrAwk
import Derived.Deep.RegionHeld3
import Derived.BigQuiet
import Derived.Deep.QuietTactic
namespace Go.Proofs.YtdmpkgdlelagjaaGreatDoor.Tr
open Go Go.RowKit
open Ident (by_ val dg digit has digits)
open Sh (b_alloc b_drew b_drewN b_next b_then Rises)

theorem check_four {c : Cell} (h : IsPre c.pre → TellsIds c → False) (g : IsPre c.pre → TellsKids c → False) : CheckIs c (.returned (.int .i64 4)) :=
  ⟨4, rfl, .of_form fun ⟨a, b⟩ => b.elim (h a) (g a)⟩
set_option maxRecDepth 100000 in
set_option maxHeartbeats 8000000 in
theorem RCheck_calls (c : Cell) (vi vk : Value) (w : World) (hi : Lst w vi c.ids) (hk : Lst w vk c.kds) (hni : c.ids.length ≤ 80) (hnk : c.kds.length ≤ 80) (hz : c.pre.size ≤ 140737488351232) (hzi : ∀ x ∈ c.ids, x.size ≤ 140737488351232) (hzk : ∀ x ∈ c.kds, x.size ≤ 140737488351232) :
    Calls Tryz.prog 14 #[cellV c vi vk] w fun e w' => CheckIs c e ∧ Below w.heap.size w w' := by
  have hD := Lib.hid fun w' => Ident.RDigits_calls c.pre w'
  obtain ⟨ai, ci, bi, oi, rfl, hci, hTi⟩ := hi
  obtain ⟨ak, ck, bk, ok, rfl, hck, hTk⟩ := hk
  have hSet := Lib.hid fun w' (hb : Below w.heap.size w w') => RSet_calls ai ci bi oi c.ids w' (hTi.next hb) (by omega) hzi
  have hBe := Lib.hid fun w' (hb : Below w.heap.size w w') => RBelow_calls ai ci bi oi c.ids c.pre w' (hTi.next hb) (by omega)
  have hJi := Lib.hid fun w' (hb : Below w.heap.size w w') (h : TellsIds c) => Rjoined_calls ai ci bi oi c.ids w' (hTi.next hb) (by omega) (by rw [jn_len h.2.2.2.1.1]; omega)
  have hJk := Lib.hid fun w' (hb : Below w.heap.size w w') (h : TellsKids c) => Rjoined_calls ak ck bk ok c.kds w' (hTk.next hb) (by omega) (by rw [jn_len h.2.2.2.2.2]; omega)
  have hFe := Lib.hid fun w' (h : TellsIds c) => ref_few c.ids w' (by rw [jn_len h.2.2.2.1.1]; omega)
  have hMa := Lib.hid fun w' (h : TellsKids c) => ref_many c.kds w' (by rw [jn_len h.2.2.2.2.2]; omega)
  have hji := Lib.hid fun (h : TellsIds c) => (show (jt c.ids).size ≤ 1000000 by rw [jt_size, jn_len h.2.2.2.1.1]; omega)
  have hjk := Lib.hid fun (h : TellsKids c) => (show (jt c.kds).size ≤ 1000000 by rw [jt_size, jn_len h.2.2.2.2.2]; omega)
  replace hTk := Lib.hid hTk
  clear hTi hci hck
  have ba := b_alloc w (.cells #[.string c.pre, .int .i64 c.count, .string c.sum, .slice ai c.ids.length ci, .slice ak c.kds.length ck] 25)
  have cA := CellAt.new w (.string c.pre) (.int .i64 c.count) (.string c.sum) (.slice ai c.ids.length ci) (.slice ak c.kds.length ck) 25
  unfold cellV at *
  obtain ⟨p, hp⟩ : ∃ p, Hid (c.pre = p) := ⟨_, Lib.hid rfl⟩
  obtain ⟨n, hn⟩ : ∃ n, Hid (c.count = n) := ⟨_, Lib.hid rfl⟩
  obtain ⟨s, hs⟩ : ∃ s, Hid (c.sum = s) := ⟨_, Lib.hid rfl⟩
  obtain ⟨mi, hmi⟩ : ∃ mi, Hid (c.ids.length = mi) := ⟨_, Lib.hid rfl⟩
  obtain ⟨mk, hmk⟩ : ∃ mk, Hid (c.kds.length = mk) := ⟨_, Lib.hid rfl⟩
  rw [hp.out] at hD hz
  simp only [hp.out, hn.out, hs.out, hmi.out, hmk.out] at hSet hBe hJi hJk ba cA hni hnk ⊢
  replace ba := Lib.hid ba
  have hcell := Lib.hid fun w' (hb : Below (w.alloc (.cells #[.string p, .int .i64 n, .string s, .slice ai mi ci, .slice ak mk ck] 25)).heap.size (w.alloc (.cells #[.string p, .int .i64 n, .string s, .slice ai mi ci, .slice ak mk ck] 25)) w') => cA.next hb
  have cA' := Lib.hid cA
  obtain ⟨z0, z1, z2, z3, z4⟩ := cA
  by_cases h1 : IsPre p
  case neg =>
    have hDf := Lib.hid fun w' => tells_false (hD.out w') h1
    have hE : Hid (CheckIs c (.returned (.int .i64 4))) := Lib.hid (check_four (fun a _ => h1 (hp.out ▸ a)) (fun a _ => h1 (hp.out ▸ a)))
    clear hD h1 hSet hBe hJi hJk hFe hMa hji hjk
    go_enter Tryz.func14, Tryz.ntmps14
    go_wp2_with fail
    refine (hDf.out _).mono ?_
    rintro e w' ⟨rfl, hw'⟩
    obtain rfl := hw'.symm
    clear hw' hDf
    go_wp2
    go_ret
    exact ⟨hE.out, ba.out⟩
  have hDt := Lib.hid fun w' => tells_true (hD.out w') h1
  clear hD
  by_cases hn0 : n < 0
  · have e0 : decide (n < 0) = true := decide_eq_true hn0
    have hE : Hid (CheckIs c (.returned (.int .i64 4))) := Lib.hid (check_four (fun _ h => by have := h.2.1; rw [hn.out] at this; omega) (fun _ h => by have := h.1; rw [hn.out] at this; omega))
    clear h1 hSet hBe hJi hJk hFe hMa hji hjk
    go_enter Tryz.func14, Tryz.ntmps14
    go_wp2_with fail
    refine (hDt.out _).mono ?_
    rintro e w' ⟨rfl, hw'⟩
    obtain rfl := hw'.symm
    clear hw' hDt
    go_wp2
    go_ret
    exact ⟨hE.out, ba.out⟩
  have e0 : decide (n < 0) = false := decide_eq_false hn0
  by_cases hnb : 1073741824 < n
  · have e1 : decide (1073741824 < n) = true := decide_eq_true hnb
    have hE : Hid (CheckIs c (.returned (.int .i64 4))) := Lib.hid (check_four (fun _ h => by have := h.1; rw [hn.out] at this; omega) (fun _ h => by have := h.2.1; rw [hn.out] at this; omega))
    clear h1 hSet hBe hJi hJk hFe hMa hji hjk
    go_enter Tryz.func14, Tryz.ntmps14
    go_wp2_with fail
    refine (hDt.out _).mono ?_
    rintro e w' ⟨rfl, hw'⟩
    obtain rfl := hw'.symm
    clear hw' hDt
    go_wp2
    go_ret
    exact ⟨hE.out, ba.out⟩
  have e1 : decide (1073741824 < n) = false := decide_eq_false hnb
  obtain ⟨m, rfl⟩ : ∃ m : Nat, n = (m : Int) := ⟨n.toNat, by omega⟩
  go_enter Tryz.func14, Tryz.ntmps14
  go_wp2_with fail
  refine (hDt.out _).mono ?_
  rintro e w' ⟨rfl, hw'⟩
  obtain rfl := hw'.symm
  clear hw' hDt hn0
  generalize (w.alloc (.cells #[.string p, .int .i64 (m : Int), .string s, .slice ai mi ci, .slice ak mk ck] 25)) = W at *
  by_cases h8 : m ≤ 8
  · have e8 : decide ((m : Int) ≤ 8) = true := decide_eq_true (by omega)
    by_cases ha : mi = m
    case neg =>
      have hE : Hid (CheckIs c (.returned (.int .i64 4))) := Lib.hid (check_four (fun _ h => by have := h.2.1; rw [hn.out, hmi.out] at this; omega) (fun _ h => by have := h.1; rw [hn.out] at this; omega))
      have t1 : ((mi : Int) != m) = true := by simp; omega
      go_upto_region 4 with (fail)
      clear hSet hBe hJi hJk hFe hMa hji hjk
      go_quiet (fail)
      go_wp2
      go_ret
      exact ⟨hE.out, b_then ba.out (b_drewN _ _)⟩
    subst ha
    have t1 : ((mi : Int) != mi) = false := by simp
    by_cases hb : 0 < mk
    · have hE : Hid (CheckIs c (.returned (.int .i64 4))) := Lib.hid (check_four (fun _ h => by have := h.2.2.1; rw [hmk.out] at this; omega) (fun _ h => by have := h.1; rw [hn.out] at this; omega))
      have t2 : decide ((0 : Int) < mk) = true := decide_eq_true (by omega)
      have t2' : decide (0 < mk) = true := decide_eq_true (by omega)
      go_upto_region 4 with (fail)
      clear hSet hBe hJi hJk hFe hMa hji hjk
      go_quiet (fail)
      go_wp2
      go_ret
      exact ⟨hE.out, b_then ba.out (b_drewN _ _)⟩
    have hk0 : mk = 0 := by omega
    subst hk0
    by_cases hset : IsSet c.ids
    case neg =>
      have hE : Hid (CheckIs c (.returned (.int .i64 4))) := Lib.hid (check_four (fun _ h => hset h.2.2.2.1) (fun _ h => by have := h.1; rw [hn.out] at this; omega))
      have hSt1 := Lib.hid (tells_no (hSet.out _ (b_then ba.out (b_drew W))) hset)
      clear hSet hBe hJi hJk hFe hMa hji hjk
      go_upto_region 4 with (fail)
      refine wp_region_held_drew (S := (fun w' => w'.cell? ⟨w.heap.size, 1, none⟩ = some (.int .i64 (mi : Int)) ∧ w'.cell? ⟨w.heap.size, 3, none⟩ = some (.slice ai mi ci) ∧ w'.cell? ⟨w.heap.size, 4, none⟩ = some (.slice ak 0 ck))) (by kernel_rfl) (by obtain ⟨g0, g1, g2, g3, g4⟩ := hcell.out _ (b_drew W); exact ⟨g1, g3, g4⟩) (fun hHeld => ?_)
      refine wpAnyH_take (i := 0) (oi := { dst := some 21, op := _, type := _, pos := _, after := _, guard := none }) (v := ?vr1_0) rfl (by kernel_rfl) (by kernel_rfl) (by kernel_rfl) (fun _ _ _ h => h) (Or.inl ⟨by rfl, ?hyr1_0⟩) (by assumption) ?restr1_0
      case hyr1_0 => (intro w hSw; (try dsimp only at hSw); go_simp <;> with_reducible rfl)
      (try simp only [Act.put, List.setIfInBounds_toArray, List.set_cons_zero, List.set_cons_succ])
      refine wpAnyH_take (i := 1) (oi := { dst := some 22, op := _, type := _, pos := _, after := _, guard := none }) (v := ?vr1_1) rfl (by kernel_rfl) (by kernel_rfl) (by kernel_rfl) (fun _ _ _ h => h) (Or.inl ⟨by rfl, ?hyr1_1⟩) (by assumption) ?restr1_1
      case hyr1_1 => (intro w hSw; (try dsimp only at hSw); go_simp <;> with_reducible rfl)
      (try simp only [Act.put, List.setIfInBounds_toArray, List.set_cons_zero, List.set_cons_succ])
      refine wpAnyH_take (i := 2) (oi := { dst := some 23, op := _, type := _, pos := _, after := _, guard := none }) (v := ?vr1_2) rfl (by kernel_rfl) (by kernel_rfl) (by kernel_rfl) (fun _ _ _ h => h) (Or.inl ⟨by rfl, ?hyr1_2⟩) (by assumption) ?restr1_2
      case hyr1_2 => (intro w hSw; (try dsimp only at hSw); go_simp <;> with_reducible rfl)
      (try simp only [Act.put, List.setIfInBounds_toArray, List.set_cons_zero, List.set_cons_succ])
      refine wpAnyH_take (i := 3) (oi := { dst := some 24, op := _, type := _, pos := _, after := _, guard := none }) (v := ?vr1_3) rfl (by kernel_rfl) (by kernel_rfl) (by kernel_rfl) (fun _ _ _ h => h) (Or.inl ⟨by rfl, ?hyr1_3⟩) (by assumption) ?restr1_3
      case hyr1_3 => (intro w hSw; (try dsimp only at hSw); go_simp <;> with_reducible rfl)
      (try simp only [Act.put, List.setIfInBounds_toArray, List.set_cons_zero, List.set_cons_succ])
      refine wpAnyH_take (i := 4) (oi := { dst := some 25, op := _, type := _, pos := _, after := _, guard := none }) (v := ?vr1_4) rfl (by kernel_rfl) (by kernel_rfl) (by kernel_rfl) (fun _ _ _ h => h) (Or.inl ⟨by rfl, ?hyr1_4⟩) (by assumption) ?restr1_4
      case hyr1_4 => (intro w hSw; (try dsimp only at hSw); go_simp <;> with_reducible rfl)
      (try simp only [Act.put, List.setIfInBounds_toArray, List.set_cons_zero, List.set_cons_succ])
      refine wpAnyH_take (i := 5) (oi := { dst := some 26, op := _, type := _, pos := _, after := _, guard := none }) (v := ?vr1_5) rfl (by kernel_rfl) (by kernel_rfl) (by kernel_rfl) (fun _ _ _ h => h) (Or.inl ⟨by rfl, ?hyr1_5⟩) (by assumption) ?restr1_5
      case hyr1_5 => (intro w hSw; (try dsimp only at hSw); go_simp <;> with_reducible rfl)
      (try simp only [Act.put, List.setIfInBounds_toArray, List.set_cons_zero, List.set_cons_succ])
      refine wpAnyH_take (i := 6) (oi := { dst := some 27, op := _, type := _, pos := _, after := _, guard := none }) (v := ?vr1_6) rfl (by kernel_rfl) (by kernel_rfl) (by kernel_rfl) (fun _ _ _ h => h) (Or.inl ⟨by rfl, ?hyr1_6⟩) (by assumption) ?restr1_6
      case hyr1_6 => (intro w hSw; (try dsimp only at hSw); go_simp <;> with_reducible rfl)
      (try simp only [Act.put, List.setIfInBounds_toArray, List.set_cons_zero, List.set_cons_succ])
      refine wpAnyH_take (i := 7) (oi := { dst := some 28, op := _, type := _, pos := _, after := _, guard := some (6, false) }) (v := ?vr1_7) rfl (by kernel_rfl) (by kernel_rfl) (by kernel_rfl) (fun _ _ _ h => h) (Or.inl ⟨by rfl, ?hyr1_7⟩) (by assumption) ?restr1_7
      case hyr1_7 => (intro w hSw; (try dsimp only at hSw); go_simp <;> with_reducible rfl)
      (try simp only [Act.put, List.setIfInBounds_toArray, List.set_cons_zero, List.set_cons_succ])
      refine wpAnyH_take (i := 8) (oi := { dst := some 29, op := _, type := _, pos := _, after := _, guard := some (6, false) }) (v := ?vr1_8) rfl (by kernel_rfl) (by kernel_rfl) (by kernel_rfl) (fun _ _ _ h => h) (Or.inl ⟨by rfl, ?hyr1_8⟩) (by assumption) ?restr1_8
      case hyr1_8 => (intro w hSw; (try dsimp only at hSw); go_simp <;> with_reducible rfl)
      (try simp only [Act.put, List.setIfInBounds_toArray, List.set_cons_zero, List.set_cons_succ])
      refine wpAnyH_take (i := 9) (oi := { dst := some 30, op := _, type := _, pos := _, after := _, guard := some (6, false) }) (v := ?vr1_9) rfl (by kernel_rfl) (by kernel_rfl) (by kernel_rfl) (fun _ _ _ h => h) (Or.inl ⟨by rfl, ?hyr1_9⟩) (by assumption) ?restr1_9
      case hyr1_9 => (intro w hSw; (try dsimp only at hSw); go_simp <;> with_reducible rfl)
      (try simp only [Act.put, List.setIfInBounds_toArray, List.set_cons_zero, List.set_cons_succ])
      refine wpAnyH_take (i := 10) (oi := { dst := some 31, op := _, type := _, pos := _, after := _, guard := some (6, false) }) (v := ?vr1_10) rfl (by kernel_rfl) (by kernel_rfl) (by kernel_rfl) (fun _ _ _ h => h) (Or.inl ⟨by rfl, ?hyr1_10⟩) (by assumption) ?restr1_10
      case hyr1_10 => (intro w hSw; (try dsimp only at hSw); go_simp <;> with_reducible rfl)
      (try simp only [Act.put, List.setIfInBounds_toArray, List.set_cons_zero, List.set_cons_succ])
      refine wpAnyH_take (i := 11) (oi := { dst := some 32, op := _, type := _, pos := _, after := _, guard := none }) (v := ?vr1_11) rfl (by kernel_rfl) (by kernel_rfl) (by kernel_rfl) (fun _ _ _ h => h) (Or.inl ⟨by rfl, ?hyr1_11⟩) (by assumption) ?restr1_11
      case hyr1_11 => (intro w hSw; (try dsimp only at hSw); go_simp <;> with_reducible rfl)
      (try simp only [Act.put, List.setIfInBounds_toArray, List.set_cons_zero, List.set_cons_succ])
      refine wpAnyH_take (i := 12) (oi := { dst := some 33, op := _, type := _, pos := _, after := _, guard := none }) (v := ?vr1_12) rfl (by kernel_rfl) (by kernel_rfl) (by kernel_rfl) (fun _ _ _ h => h) (Or.inl ⟨by rfl, ?hyr1_12⟩) (by assumption) ?restr1_12
      case hyr1_12 => (intro w hSw; (try dsimp only at hSw); go_simp <;> with_reducible rfl)
      (try simp only [Act.put, List.setIfInBounds_toArray, List.set_cons_zero, List.set_cons_succ])
      refine wpAnyH_take (i := 13) (oi := { dst := some 34, op := _, type := _, pos := _, after := _, guard := some (12, false) }) (v := ?vr1_13) rfl (by kernel_rfl) (by kernel_rfl) (by kernel_rfl) (fun _ _ _ h => h) (Or.inl ⟨by rfl, ?hyr1_13⟩) (by assumption) ?restr1_13
      case hyr1_13 => (intro w hSw; (try dsimp only at hSw); go_simp <;> with_reducible rfl)
      (try simp only [Act.put, List.setIfInBounds_toArray, List.set_cons_zero, List.set_cons_succ])
      refine wpAnyH_take (i := 14) (oi := { dst := some 35, op := _, type := _, pos := _, after := _, guard := some (12, false) }) (v := ?vr1_14) rfl (by kernel_rfl) (by kernel_rfl) (by kernel_rfl) (fun _ _ _ h => h) (Or.inl ⟨by rfl, ?hyr1_14⟩) (by assumption) ?restr1_14
      case hyr1_14 => (intro w hSw; (try dsimp only at hSw); go_simp <;> with_reducible rfl)
      (try simp only [Act.put, List.setIfInBounds_toArray, List.set_cons_zero, List.set_cons_succ])
      refine wpAnyH_ready (rs := [15]) (by kernel_rfl) (by simp) ?_
      refine AllReadyH.cons (o := { dst := some 36, op := _, type := _, pos := _, after := _, guard := some (12, false) }) rfl (fun K hK => ?_) AllReadyH.nil
      go_simp
      (refine hSt1.out.mono ?_; rintro e w7 ⟨rfl, bb⟩; have bc := b_then (b_drew W) bb)
      (try go_wp2_with fail)
      refine hK.out _ _ ((by obtain ⟨g0, g1, g2, g3, g4⟩ := hcell.out _ bc; exact ⟨g1, g3, g4⟩)) (fun hHeld => ?_)
      clear hK K
      (try simp only [Act.put, List.setIfInBounds_toArray, List.set_cons_zero, List.set_cons_succ])
      refine wpAnyH_take (i := 16) (oi := { dst := some 37, op := _, type := _, pos := _, after := _, guard := some (12, false) }) (v := ?vr1_15) rfl (by kernel_rfl) (by kernel_rfl) (by kernel_rfl) (fun _ _ _ h => h) (Or.inl ⟨by rfl, ?hyr1_15⟩) (by assumption) ?restr1_15
      case hyr1_15 => (intro w hSw; (try dsimp only at hSw); go_simp <;> with_reducible rfl)
      (try simp only [Act.put, List.setIfInBounds_toArray, List.set_cons_zero, List.set_cons_succ])
      refine wpAnyH_take (i := 17) (oi := { dst := some 38, op := _, type := _, pos := _, after := _, guard := none }) (v := ?vr1_16) rfl (by kernel_rfl) (by kernel_rfl) (by kernel_rfl) (fun _ _ _ h => h) (Or.inl ⟨by rfl, ?hyr1_16⟩) (by assumption) ?restr1_16
      case hyr1_16 => (intro w hSw; (try dsimp only at hSw); go_simp <;> with_reducible rfl)
      (try simp only [Act.put, List.setIfInBounds_toArray, List.set_cons_zero, List.set_cons_succ])
      refine wpAnyH_take (i := 18) (oi := { dst := some 39, op := _, type := _, pos := _, after := _, guard := none }) (v := ?vr1_17) rfl (by kernel_rfl) (by kernel_rfl) (by kernel_rfl) (fun _ _ _ h => h) (Or.inl ⟨by rfl, ?hyr1_17⟩) (by assumption) ?restr1_17
      case hyr1_17 => (intro w hSw; (try dsimp only at hSw); go_simp <;> with_reducible rfl)
      (try simp only [Act.put, List.setIfInBounds_toArray, List.set_cons_zero, List.set_cons_succ])
      refine wpAnyH_take (i := 19) (oi := { dst := some 40, op := _, type := _, pos := _, after := _, guard := some (18, false) }) (v := undef) rfl (by kernel_rfl) (by kernel_rfl) (by kernel_rfl) (fun _ _ _ h => h) (Or.inr ⟨by rfl, rfl⟩) (by assumption) ?_
      (try simp only [Act.put, List.setIfInBounds_toArray, List.set_cons_zero, List.set_cons_succ])
      refine wpAnyH_take (i := 20) (oi := { dst := some 41, op := _, type := _, pos := _, after := _, guard := some (18, false) }) (v := undef) rfl (by kernel_rfl) (by kernel_rfl) (by kernel_rfl) (fun _ _ _ h => h) (Or.inr ⟨by rfl, rfl⟩) (by assumption) ?_
      (try simp only [Act.put, List.setIfInBounds_toArray, List.set_cons_zero, List.set_cons_succ])
      refine wpAnyH_take (i := 21) (oi := { dst := some 42, op := _, type := _, pos := _, after := _, guard := some (18, false) }) (v := undef) rfl (by kernel_rfl) (by kernel_rfl) (by kernel_rfl) (fun _ _ _ h => h) (Or.inr ⟨by rfl, rfl⟩) (by assumption) ?_
      (try simp only [Act.put, List.setIfInBounds_toArray, List.set_cons_zero, List.set_cons_succ])
      refine wpAnyH_take (i := 22) (oi := { dst := some 43, op := _, type := _, pos := _, after := _, guard := some (18, false) }) (v := undef) rfl (by kernel_rfl) (by kernel_rfl) (by kernel_rfl) (fun _ _ _ h => h) (Or.inr ⟨by rfl, rfl⟩) (by assumption) ?_
      (try simp only [Act.put, List.setIfInBounds_toArray, List.set_cons_zero, List.set_cons_succ])
      refine wpAnyH_take (i := 23) (oi := { dst := some 44, op := _, type := _, pos := _, after := _, guard := some (18, false) }) (v := undef) rfl (by kernel_rfl) (by kernel_rfl) (by kernel_rfl) (fun _ _ _ h => h) (Or.inr ⟨by rfl, rfl⟩) (by assumption) ?_
      (try simp only [Act.put, List.setIfInBounds_toArray, List.set_cons_zero, List.set_cons_succ])
      refine wpAnyH_take (i := 24) (oi := { dst := some 45, op := _, type := _, pos := _, after := _, guard := some (18, false) }) (v := undef) rfl (by kernel_rfl) (by kernel_rfl) (by kernel_rfl) (fun _ _ _ h => h) (Or.inr ⟨by rfl, rfl⟩) (by assumption) ?_
      (try simp only [Act.put, List.setIfInBounds_toArray, List.set_cons_zero, List.set_cons_succ])
      refine wpAnyH_take (i := 25) (oi := { dst := some 46, op := _, type := _, pos := _, after := _, guard := some (18, false) }) (v := undef) rfl (by kernel_rfl) (by kernel_rfl) (by kernel_rfl) (fun _ _ _ h => h) (Or.inr ⟨by rfl, rfl⟩) (by assumption) ?_
      (try simp only [Act.put, List.setIfInBounds_toArray, List.set_cons_zero, List.set_cons_succ])
      refine wpAnyH_take (i := 26) (oi := { dst := some 47, op := _, type := _, pos := _, after := _, guard := some (18, false) }) (v := undef) rfl (by kernel_rfl) (by kernel_rfl) (by kernel_rfl) (fun _ _ _ h => h) (Or.inr ⟨by rfl, rfl⟩) (by assumption) ?_
      (try simp only [Act.put, List.setIfInBounds_toArray, List.set_cons_zero, List.set_cons_succ])
      refine wpAnyH_take (i := 27) (oi := { dst := some 48, op := _, type := _, pos := _, after := _, guard := some (18, false) }) (v := undef) rfl (by kernel_rfl) (by kernel_rfl) (by kernel_rfl) (fun _ _ _ h => h) (Or.inr ⟨by rfl, rfl⟩) (by assumption) ?_
      (try simp only [Act.put, List.setIfInBounds_toArray, List.set_cons_zero, List.set_cons_succ])
      refine wpAnyH_take (i := 28) (oi := { dst := some 49, op := _, type := _, pos := _, after := _, guard := some (18, false) }) (v := undef) rfl (by kernel_rfl) (by kernel_rfl) (by kernel_rfl) (fun _ _ _ h => h) (Or.inr ⟨by rfl, rfl⟩) (by assumption) ?_
      (try simp only [Act.put, List.setIfInBounds_toArray, List.set_cons_zero, List.set_cons_succ])
      refine wpAnyH_take (i := 29) (oi := { dst := some 50, op := _, type := _, pos := _, after := _, guard := none }) (v := ?vr1_28) rfl (by kernel_rfl) (by kernel_rfl) (by kernel_rfl) (fun _ _ _ h => h) (Or.inl ⟨by rfl, ?hyr1_28⟩) (by assumption) ?restr1_28
      case hyr1_28 => (intro w hSw; (try dsimp only at hSw); go_simp <;> with_reducible rfl)
      (try simp only [Act.put, List.setIfInBounds_toArray, List.set_cons_zero, List.set_cons_succ])
      refine wpAnyH_done (by kernel_rfl) ?_ _
      go_wp2
      go_ret
      exact ⟨hE.out, b_then ba.out bc⟩
    have hSt1 := Lib.hid (tells_yes (hSet.out _ (b_then ba.out (b_drew W))) hset)
    have hBe1 := Lib.hid fun w' (hb : Below W.heap.size W w') => hBe.out w' (b_then ba.out hb)
    obtain ⟨q, hq⟩ : ∃ q, Hid ((below c.ids p).length = q) := ⟨_, Lib.hid rfl⟩
    by_cases hbl : q = mi
    case neg =>
      have hE : Hid (CheckIs c (.returned (.int .i64 4))) := Lib.hid (check_four (fun _ h => by have := h.2.2.2.2; rw [hp.out, hq.out, hmi.out] at this; omega) (fun _ h => by have := h.1; rw [hn.out] at this; omega))
      have t5 : ((q : Int) != mi) = true := by simp; omega
      clear hSet hBe hJi hJk hFe hMa hji hjk
      go_upto_region 4 with (fail)
      refine wp_region_held_drew (S := (fun w' => w'.cell? ⟨w.heap.size, 0, none⟩ = some (.string p) ∧ w'.cell? ⟨w.heap.size, 1, none⟩ = some (.int .i64 (mi : Int)) ∧ w'.cell? ⟨w.heap.size, 3, none⟩ = some (.slice ai mi ci) ∧ w'.cell? ⟨w.heap.size, 4, none⟩ = some (.slice ak 0 ck))) (by kernel_rfl) (by obtain ⟨g0, g1, g2, g3, g4⟩ := hcell.out _ (b_drew W); exact ⟨g0, g1, g3, g4⟩) (fun hHeld => ?_)
      refine wpAnyH_take (i := 0) (oi := { dst := some 21, op := _, type := _, pos := _, after := _, guard := none }) (v := ?vr2_0) rfl (by kernel_rfl) (by kernel_rfl) (by kernel_rfl) (fun _ _ _ h => h) (Or.inl ⟨by rfl, ?hyr2_0⟩) (by assumption) ?restr2_0
      case hyr2_0 => (intro w hSw; (try dsimp only at hSw); go_simp <;> with_reducible rfl)
      (try simp only [Act.put, List.setIfInBounds_toArray, List.set_cons_zero, List.set_cons_succ])
      refine wpAnyH_take (i := 1) (oi := { dst := some 22, op := _, type := _, pos := _, after := _, guard := none }) (v := ?vr2_1) rfl (by kernel_rfl) (by kernel_rfl) (by kernel_rfl) (fun _ _ _ h => h) (Or.inl ⟨by rfl, ?hyr2_1⟩) (by assumption) ?restr2_1
      case hyr2_1 => (intro w hSw; (try dsimp only at hSw); go_simp <;> with_reducible rfl)
      (try simp only [Act.put, List.setIfInBounds_toArray, List.set_cons_zero, List.set_cons_succ])
      refine wpAnyH_take (i := 2) (oi := { dst := some 23, op := _, type := _, pos := _, after := _, guard := none }) (v := ?vr2_2) rfl (by kernel_rfl) (by kernel_rfl) (by kernel_rfl) (fun _ _ _ h => h) (Or.inl ⟨by rfl, ?hyr2_2⟩) (by assumption) ?restr2_2
      case hyr2_2 => (intro w hSw; (try dsimp only at hSw); go_simp <;> with_reducible rfl)
      (try simp only [Act.put, List.setIfInBounds_toArray, List.set_cons_zero, List.set_cons_succ])
      refine wpAnyH_take (i := 3) (oi := { dst := some 24, op := _, type := _, pos := _, after := _, guard := none }) (v := ?vr2_3) rfl (by kernel_rfl) (by kernel_rfl) (by kernel_rfl) (fun _ _ _ h => h) (Or.inl ⟨by rfl, ?hyr2_3⟩) (by assumption) ?restr2_3
      case hyr2_3 => (intro w hSw; (try dsimp only at hSw); go_simp <;> with_reducible rfl)
      (try simp only [Act.put, List.setIfInBounds_toArray, List.set_cons_zero, List.set_cons_succ])
      refine wpAnyH_take (i := 4) (oi := { dst := some 25, op := _, type := _, pos := _, after := _, guard := none }) (v := ?vr2_4) rfl (by kernel_rfl) (by kernel_rfl) (by kernel_rfl) (fun _ _ _ h => h) (Or.inl ⟨by rfl, ?hyr2_4⟩) (by assumption) ?restr2_4
      case hyr2_4 => (intro w hSw; (try dsimp only at hSw); go_simp <;> with_reducible rfl)
      (try simp only [Act.put, List.setIfInBounds_toArray, List.set_cons_zero, List.set_cons_succ])
      refine wpAnyH_take (i := 5) (oi := { dst := some 26, op := _, type := _, pos := _, after := _, guard := none }) (v := ?vr2_5) rfl (by kernel_rfl) (by kernel_rfl) (by kernel_rfl) (fun _ _ _ h => h) (Or.inl ⟨by rfl, ?hyr2_5⟩) (by assumption) ?restr2_5
      case hyr2_5 => (intro w hSw; (try dsimp only at hSw); go_simp <;> with_reducible rfl)
      (try simp only [Act.put, List.setIfInBounds_toArray, List.set_cons_zero, List.set_cons_succ])
      refine wpAnyH_take (i := 6) (oi := { dst := some 27, op := _, type := _, pos := _, after := _, guard := none }) (v := ?vr2_6) rfl (by kernel_rfl) (by kernel_rfl) (by kernel_rfl) (fun _ _ _ h => h) (Or.inl ⟨by rfl, ?hyr2_6⟩) (by assumption) ?restr2_6
      case hyr2_6 => (intro w hSw; (try dsimp only at hSw); go_simp <;> with_reducible rfl)
      (try simp only [Act.put, List.setIfInBounds_toArray, List.set_cons_zero, List.set_cons_succ])
      refine wpAnyH_take (i := 7) (oi := { dst := some 28, op := _, type := _, pos := _, after := _, guard := some (6, false) }) (v := ?vr2_7) rfl (by kernel_rfl) (by kernel_rfl) (by kernel_rfl) (fun _ _ _ h => h) (Or.inl ⟨by rfl, ?hyr2_7⟩) (by assumption) ?restr2_7
      case hyr2_7 => (intro w hSw; (try dsimp only at hSw); go_simp <;> with_reducible rfl)
      (try simp only [Act.put, List.setIfInBounds_toArray, List.set_cons_zero, List.set_cons_succ])
      refine wpAnyH_take (i := 8) (oi := { dst := some 29, op := _, type := _, pos := _, after := _, guard := some (6, false) }) (v := ?vr2_8) rfl (by kernel_rfl) (by kernel_rfl) (by kernel_rfl) (fun _ _ _ h => h) (Or.inl ⟨by rfl, ?hyr2_8⟩) (by assumption) ?restr2_8
      case hyr2_8 => (intro w hSw; (try dsimp only at hSw); go_simp <;> with_reducible rfl)
      (try simp only [Act.put, List.setIfInBounds_toArray, List.set_cons_zero, List.set_cons_succ])
      refine wpAnyH_take (i := 9) (oi := { dst := some 30, op := _, type := _, pos := _, after := _, guard := some (6, false) }) (v := ?vr2_9) rfl (by kernel_rfl) (by kernel_rfl) (by kernel_rfl) (fun _ _ _ h => h) (Or.inl ⟨by rfl, ?hyr2_9⟩) (by assumption) ?restr2_9
      case hyr2_9 => (intro w hSw; (try dsimp only at hSw); go_simp <;> with_reducible rfl)
      (try simp only [Act.put, List.setIfInBounds_toArray, List.set_cons_zero, List.set_cons_succ])
      refine wpAnyH_take (i := 10) (oi := { dst := some 31, op := _, type := _, pos := _, after := _, guard := some (6, false) }) (v := ?vr2_10) rfl (by kernel_rfl) (by kernel_rfl) (by kernel_rfl) (fun _ _ _ h => h) (Or.inl ⟨by rfl, ?hyr2_10⟩) (by assumption) ?restr2_10
      case hyr2_10 => (intro w hSw; (try dsimp only at hSw); go_simp <;> with_reducible rfl)
      (try simp only [Act.put, List.setIfInBounds_toArray, List.set_cons_zero, List.set_cons_succ])
      refine wpAnyH_take (i := 11) (oi := { dst := some 32, op := _, type := _, pos := _, after := _, guard := none }) (v := ?vr2_11) rfl (by kernel_rfl) (by kernel_rfl) (by kernel_rfl) (fun _ _ _ h => h) (Or.inl ⟨by rfl, ?hyr2_11⟩) (by assumption) ?restr2_11
      case hyr2_11 => (intro w hSw; (try dsimp only at hSw); go_simp <;> with_reducible rfl)
      (try simp only [Act.put, List.setIfInBounds_toArray, List.set_cons_zero, List.set_cons_succ])
      refine wpAnyH_take (i := 12) (oi := { dst := some 33, op := _, type := _, pos := _, after := _, guard := none }) (v := ?vr2_12) rfl (by kernel_rfl) (by kernel_rfl) (by kernel_rfl) (fun _ _ _ h => h) (Or.inl ⟨by rfl, ?hyr2_12⟩) (by assumption) ?restr2_12
      case hyr2_12 => (intro w hSw; (try dsimp only at hSw); go_simp <;> with_reducible rfl)
      (try simp only [Act.put, List.setIfInBounds_toArray, List.set_cons_zero, List.set_cons_succ])
      refine wpAnyH_take (i := 13) (oi := { dst := some 34, op := _, type := _, pos := _, after := _, guard := some (12, false) }) (v := ?vr2_13) rfl (by kernel_rfl) (by kernel_rfl) (by kernel_rfl) (fun _ _ _ h => h) (Or.inl ⟨by rfl, ?hyr2_13⟩) (by assumption) ?restr2_13
      case hyr2_13 => (intro w hSw; (try dsimp only at hSw); go_simp <;> with_reducible rfl)
      (try simp only [Act.put, List.setIfInBounds_toArray, List.set_cons_zero, List.set_cons_succ])
      refine wpAnyH_take (i := 14) (oi := { dst := some 35, op := _, type := _, pos := _, after := _, guard := some (12, false) }) (v := ?vr2_14) rfl (by kernel_rfl) (by kernel_rfl) (by kernel_rfl) (fun _ _ _ h => h) (Or.inl ⟨by rfl, ?hyr2_14⟩) (by assumption) ?restr2_14
      case hyr2_14 => (intro w hSw; (try dsimp only at hSw); go_simp <;> with_reducible rfl)
      (try simp only [Act.put, List.setIfInBounds_toArray, List.set_cons_zero, List.set_cons_succ])
      refine wpAnyH_ready (rs := [15]) (by kernel_rfl) (by simp) ?_
      refine AllReadyH.cons (o := { dst := some 36, op := _, type := _, pos := _, after := _, guard := some (12, false) }) rfl (fun K hK => ?_) AllReadyH.nil
      go_simp
      (refine hSt1.out.mono ?_; rintro e w7 ⟨rfl, bb⟩; have bc := b_then (b_drew W) bb)
      (try go_wp2_with fail)
      refine hK.out _ _ ((by obtain ⟨g0, g1, g2, g3, g4⟩ := hcell.out _ bc; exact ⟨g0, g1, g3, g4⟩)) (fun hHeld => ?_)
      clear hK K
      (try simp only [Act.put, List.setIfInBounds_toArray, List.set_cons_zero, List.set_cons_succ])
      refine wpAnyH_take (i := 16) (oi := { dst := some 37, op := _, type := _, pos := _, after := _, guard := some (12, false) }) (v := ?vr2_15) rfl (by kernel_rfl) (by kernel_rfl) (by kernel_rfl) (fun _ _ _ h => h) (Or.inl ⟨by rfl, ?hyr2_15⟩) (by assumption) ?restr2_15
      case hyr2_15 => (intro w hSw; (try dsimp only at hSw); go_simp <;> with_reducible rfl)
      (try simp only [Act.put, List.setIfInBounds_toArray, List.set_cons_zero, List.set_cons_succ])
      refine wpAnyH_take (i := 17) (oi := { dst := some 38, op := _, type := _, pos := _, after := _, guard := none }) (v := ?vr2_16) rfl (by kernel_rfl) (by kernel_rfl) (by kernel_rfl) (fun _ _ _ h => h) (Or.inl ⟨by rfl, ?hyr2_16⟩) (by assumption) ?restr2_16
      case hyr2_16 => (intro w hSw; (try dsimp only at hSw); go_simp <;> with_reducible rfl)
      (try simp only [Act.put, List.setIfInBounds_toArray, List.set_cons_zero, List.set_cons_succ])
      refine wpAnyH_take (i := 18) (oi := { dst := some 39, op := _, type := _, pos := _, after := _, guard := none }) (v := ?vr2_17) rfl (by kernel_rfl) (by kernel_rfl) (by kernel_rfl) (fun _ _ _ h => h) (Or.inl ⟨by rfl, ?hyr2_17⟩) (by assumption) ?restr2_17
      case hyr2_17 => (intro w hSw; (try dsimp only at hSw); go_simp <;> with_reducible rfl)
      (try simp only [Act.put, List.setIfInBounds_toArray, List.set_cons_zero, List.set_cons_succ])
      refine wpAnyH_take (i := 19) (oi := { dst := some 40, op := _, type := _, pos := _, after := _, guard := some (18, false) }) (v := ?vr2_18) rfl (by kernel_rfl) (by kernel_rfl) (by kernel_rfl) (fun _ _ _ h => h) (Or.inl ⟨by rfl, ?hyr2_18⟩) (by assumption) ?restr2_18
      case hyr2_18 => (intro w hSw; (try dsimp only at hSw); go_simp <;> with_reducible rfl)
      (try simp only [Act.put, List.setIfInBounds_toArray, List.set_cons_zero, List.set_cons_succ])
      refine wpAnyH_take (i := 20) (oi := { dst := some 41, op := _, type := _, pos := _, after := _, guard := some (18, false) }) (v := ?vr2_19) rfl (by kernel_rfl) (by kernel_rfl) (by kernel_rfl) (fun _ _ _ h => h) (Or.inl ⟨by rfl, ?hyr2_19⟩) (by assumption) ?restr2_19
      case hyr2_19 => (intro w hSw; (try dsimp only at hSw); go_simp <;> with_reducible rfl)
      (try simp only [Act.put, List.setIfInBounds_toArray, List.set_cons_zero, List.set_cons_succ])
      refine wpAnyH_take (i := 21) (oi := { dst := some 42, op := _, type := _, pos := _, after := _, guard := some (18, false) }) (v := ?vr2_20) rfl (by kernel_rfl) (by kernel_rfl) (by kernel_rfl) (fun _ _ _ h => h) (Or.inl ⟨by rfl, ?hyr2_20⟩) (by assumption) ?restr2_20
      case hyr2_20 => (intro w hSw; (try dsimp only at hSw); go_simp <;> with_reducible rfl)
      (try simp only [Act.put, List.setIfInBounds_toArray, List.set_cons_zero, List.set_cons_succ])
      refine wpAnyH_take (i := 22) (oi := { dst := some 43, op := _, type := _, pos := _, after := _, guard := some (18, false) }) (v := ?vr2_21) rfl (by kernel_rfl) (by kernel_rfl) (by kernel_rfl) (fun _ _ _ h => h) (Or.inl ⟨by rfl, ?hyr2_21⟩) (by assumption) ?restr2_21
      case hyr2_21 => (intro w hSw; (try dsimp only at hSw); go_simp <;> with_reducible rfl)
      (try simp only [Act.put, List.setIfInBounds_toArray, List.set_cons_zero, List.set_cons_succ])
      refine wpAnyH_take (i := 25) (oi := { dst := some 46, op := _, type := _, pos := _, after := _, guard := some (18, false) }) (v := ?vr2_22) rfl (by kernel_rfl) (by kernel_rfl) (by kernel_rfl) (fun _ _ _ h => h) (Or.inl ⟨by rfl, ?hyr2_22⟩) (by assumption) ?restr2_22
      case hyr2_22 => (intro w hSw; (try dsimp only at hSw); go_simp <;> with_reducible rfl)
      (try simp only [Act.put, List.setIfInBounds_toArray, List.set_cons_zero, List.set_cons_succ])
      refine wpAnyH_take (i := 26) (oi := { dst := some 47, op := _, type := _, pos := _, after := _, guard := some (18, false) }) (v := ?vr2_23) rfl (by kernel_rfl) (by kernel_rfl) (by kernel_rfl) (fun _ _ _ h => h) (Or.inl ⟨by rfl, ?hyr2_23⟩) (by assumption) ?restr2_23
      case hyr2_23 => (intro w hSw; (try dsimp only at hSw); go_simp <;> with_reducible rfl)
      (try simp only [Act.put, List.setIfInBounds_toArray, List.set_cons_zero, List.set_cons_succ])
      refine wpAnyH_take (i := 27) (oi := { dst := some 48, op := _, type := _, pos := _, after := _, guard := some (18, false) }) (v := ?vr2_24) rfl (by kernel_rfl) (by kernel_rfl) (by kernel_rfl) (fun _ _ _ h => h) (Or.inl ⟨by rfl, ?hyr2_24⟩) (by assumption) ?restr2_24
      case hyr2_24 => (intro w hSw; (try dsimp only at hSw); go_simp <;> with_reducible rfl)
      (try simp only [Act.put, List.setIfInBounds_toArray, List.set_cons_zero, List.set_cons_succ])
      refine wpAnyH_ready (rs := [23]) (by kernel_rfl) (by simp) ?_
      refine AllReadyH.cons (o := { dst := some 44, op := _, type := _, pos := _, after := _, guard := some (18, false) }) rfl (fun K hK => ?_) AllReadyH.nil
      go_simp
      (refine (hBe1.out _ bc).mono ?_; rintro e w8 ⟨v, rfl, hO, b8⟩; obtain ⟨a8, c8, rfl⟩ := hO.box; rw [hq.out]; have bc2 := b_then bc b8)
      (try go_wp2_with fail)
      refine hK.out _ _ ((by obtain ⟨g0, g1, g2, g3, g4⟩ := hcell.out _ bc2; exact ⟨g0, g1, g3, g4⟩)) (fun hHeld => ?_)
      clear hK K
      (try simp only [Act.put, List.setIfInBounds_toArray, List.set_cons_zero, List.set_cons_succ])
      refine wpAnyH_take (i := 24) (oi := { dst := some 45, op := _, type := _, pos := _, after := _, guard := some (18, false) }) (v := ?vr2_25) rfl (by kernel_rfl) (by kernel_rfl) (by kernel_rfl) (fun _ _ _ h => h) (Or.inl ⟨by rfl, ?hyr2_25⟩) (by assumption) ?restr2_25
      case hyr2_25 => (intro w hSw; (try dsimp only at hSw); go_simp <;> with_reducible rfl)
      (try simp only [Act.put, List.setIfInBounds_toArray, List.set_cons_zero, List.set_cons_succ])
      refine wpAnyH_take (i := 28) (oi := { dst := some 49, op := _, type := _, pos := _, after := _, guard := some (18, false) }) (v := ?vr2_26) rfl (by kernel_rfl) (by kernel_rfl) (by kernel_rfl) (fun _ _ _ h => h) (Or.inl ⟨by rfl, ?hyr2_26⟩) (by assumption) ?restr2_26
      case hyr2_26 => (intro w hSw; (try dsimp only at hSw); go_simp <;> with_reducible rfl)
      (try simp only [Act.put, List.setIfInBounds_toArray, List.set_cons_zero, List.set_cons_succ])
      refine wpAnyH_take (i := 29) (oi := { dst := some 50, op := _, type := _, pos := _, after := _, guard := none }) (v := ?vr2_27) rfl (by kernel_rfl) (by kernel_rfl) (by kernel_rfl) (fun _ _ _ h => h) (Or.inl ⟨by rfl, ?hyr2_27⟩) (by assumption) ?restr2_27
      case hyr2_27 => (intro w hSw; (try dsimp only at hSw); go_simp <;> with_reducible rfl)
      (try simp only [Act.put, List.setIfInBounds_toArray, List.set_cons_zero, List.set_cons_succ])
      refine wpAnyH_done (by kernel_rfl) ?_ _
      go_wp2
      go_ret
      exact ⟨hE.out, b_then ba.out bc2⟩
    subst hbl
    have t5 : ((q : Int) != q) = false := t1
    have hTe : TellsIds c := ⟨by rw [hn.out]; omega, by rw [hn.out, hmi.out], hmk.out, hset, by rw [hp.out, hq.out, hmi.out]⟩
    have hJ1 := Lib.hid fun w' (hb : Below W.heap.size W w') => hJi.out w' (b_then ba.out hb) hTe
    have hF1 := Lib.hid fun w' => hFe.out w' hTe
    have hj1 : (jt c.ids).size ≤ 1000000 := hji.out hTe
    obtain ⟨T, hT⟩ : ∃ T, Hid (jt c.ids = T) := ⟨_, Lib.hid rfl⟩
    rw [hT.out] at hJ1 hF1 hj1
    have hj2 : ¬ 9223372036854775807 < (1 : Int) + T.size := by omega
    have hj3 : ¬ 9223372036854775807 < 1 + T.size := by omega
    obtain ⟨X, hX⟩ : ∃ X, Hid (few c.ids = X) := ⟨_, Lib.hid rfl⟩
    rw [hX.out] at hF1
    obtain ⟨y, hz6⟩ : ∃ y, (s.toList == X.toList) = y := ⟨_, rfl⟩
    have hz7 : (s.toList != X.toList) = !y := by rw [← hz6]; rfl
    have hEz : Hid (CheckIs c (.returned (.int .i64 (if y then 0 else 20)))) := Lib.hid ⟨_, rfl, .of_few (by rw [hp.out]; exact h1) hTe (by
      rw [hs.out, hX.out]
      by_cases h3 : s = X
      · subst h3
        have : y = true := by rw [← hz6]; simp
        simp [this]
      · have : y = false := by rw [← hz6, str_ne h3]
        simp [this, h3])⟩
    clear hSet hBe hJi hJk hFe hMa hji hjk hTe
    go_upto_region 4 with (fail)
    refine wp_region_held_drew (S := (fun w' => w'.cell? ⟨w.heap.size, 0, none⟩ = some (.string p) ∧ w'.cell? ⟨w.heap.size, 1, none⟩ = some (.int .i64 (q : Int)) ∧ w'.cell? ⟨w.heap.size, 3, none⟩ = some (.slice ai q ci) ∧ w'.cell? ⟨w.heap.size, 4, none⟩ = some (.slice ak 0 ck))) (by kernel_rfl) (by obtain ⟨g0, g1, g2, g3, g4⟩ := hcell.out _ (b_drew W); exact ⟨g0, g1, g3, g4⟩) (fun hHeld => ?_)
    refine wpAnyH_take (i := 0) (oi := { dst := some 21, op := _, type := _, pos := _, after := _, guard := none }) (v := ?vr3_0) rfl (by kernel_rfl) (by kernel_rfl) (by kernel_rfl) (fun _ _ _ h => h) (Or.inl ⟨by rfl, ?hyr3_0⟩) (by assumption) ?restr3_0
    case hyr3_0 => (intro w hSw; (try dsimp only at hSw); go_simp <;> with_reducible rfl)
    (try simp only [Act.put, List.setIfInBounds_toArray, List.set_cons_zero, List.set_cons_succ])
    refine wpAnyH_take (i := 1) (oi := { dst := some 22, op := _, type := _, pos := _, after := _, guard := none }) (v := ?vr3_1) rfl (by kernel_rfl) (by kernel_rfl) (by kernel_rfl) (fun _ _ _ h => h) (Or.inl ⟨by rfl, ?hyr3_1⟩) (by assumption) ?restr3_1
    case hyr3_1 => (intro w hSw; (try dsimp only at hSw); go_simp <;> with_reducible rfl)
    (try simp only [Act.put, List.setIfInBounds_toArray, List.set_cons_zero, List.set_cons_succ])
    refine wpAnyH_take (i := 2) (oi := { dst := some 23, op := _, type := _, pos := _, after := _, guard := none }) (v := ?vr3_2) rfl (by kernel_rfl) (by kernel_rfl) (by kernel_rfl) (fun _ _ _ h => h) (Or.inl ⟨by rfl, ?hyr3_2⟩) (by assumption) ?restr3_2
    case hyr3_2 => (intro w hSw; (try dsimp only at hSw); go_simp <;> with_reducible rfl)
    (try simp only [Act.put, List.setIfInBounds_toArray, List.set_cons_zero, List.set_cons_succ])
    refine wpAnyH_take (i := 3) (oi := { dst := some 24, op := _, type := _, pos := _, after := _, guard := none }) (v := ?vr3_3) rfl (by kernel_rfl) (by kernel_rfl) (by kernel_rfl) (fun _ _ _ h => h) (Or.inl ⟨by rfl, ?hyr3_3⟩) (by assumption) ?restr3_3
    case hyr3_3 => (intro w hSw; (try dsimp only at hSw); go_simp <;> with_reducible rfl)
    (try simp only [Act.put, List.setIfInBounds_toArray, List.set_cons_zero, List.set_cons_succ])
    refine wpAnyH_take (i := 4) (oi := { dst := some 25, op := _, type := _, pos := _, after := _, guard := none }) (v := ?vr3_4) rfl (by kernel_rfl) (by kernel_rfl) (by kernel_rfl) (fun _ _ _ h => h) (Or.inl ⟨by rfl, ?hyr3_4⟩) (by assumption) ?restr3_4
    case hyr3_4 => (intro w hSw; (try dsimp only at hSw); go_simp <;> with_reducible rfl)
    (try simp only [Act.put, List.setIfInBounds_toArray, List.set_cons_zero, List.set_cons_succ])
    refine wpAnyH_take (i := 5) (oi := { dst := some 26, op := _, type := _, pos := _, after := _, guard := none }) (v := ?vr3_5) rfl (by kernel_rfl) (by kernel_rfl) (by kernel_rfl) (fun _ _ _ h => h) (Or.inl ⟨by rfl, ?hyr3_5⟩) (by assumption) ?restr3_5
    case hyr3_5 => (intro w hSw; (try dsimp only at hSw); go_simp <;> with_reducible rfl)
    (try simp only [Act.put, List.setIfInBounds_toArray, List.set_cons_zero, List.set_cons_succ])
    refine wpAnyH_take (i := 6) (oi := { dst := some 27, op := _, type := _, pos := _, after := _, guard := none }) (v := ?vr3_6) rfl (by kernel_rfl) (by kernel_rfl) (by kernel_rfl) (fun _ _ _ h => h) (Or.inl ⟨by rfl, ?hyr3_6⟩) (by assumption) ?restr3_6
    case hyr3_6 => (intro w hSw; (try dsimp only at hSw); go_simp <;> with_reducible rfl)
    (try simp only [Act.put, List.setIfInBounds_toArray, List.set_cons_zero, List.set_cons_succ])
    refine wpAnyH_take (i := 7) (oi := { dst := some 28, op := _, type := _, pos := _, after := _, guard := some (6, false) }) (v := ?vr3_7) rfl (by kernel_rfl) (by kernel_rfl) (by kernel_rfl) (fun _ _ _ h => h) (Or.inl ⟨by rfl, ?hyr3_7⟩) (by assumption) ?restr3_7
    case hyr3_7 => (intro w hSw; (try dsimp only at hSw); go_simp <;> with_reducible rfl)
    (try simp only [Act.put, List.setIfInBounds_toArray, List.set_cons_zero, List.set_cons_succ])
    refine wpAnyH_take (i := 8) (oi := { dst := some 29, op := _, type := _, pos := _, after := _, guard := some (6, false) }) (v := ?vr3_8) rfl (by kernel_rfl) (by kernel_rfl) (by kernel_rfl) (fun _ _ _ h => h) (Or.inl ⟨by rfl, ?hyr3_8⟩) (by assumption) ?restr3_8
    case hyr3_8 => (intro w hSw; (try dsimp only at hSw); go_simp <;> with_reducible rfl)
    (try simp only [Act.put, List.setIfInBounds_toArray, List.set_cons_zero, List.set_cons_succ])
    refine wpAnyH_take (i := 9) (oi := { dst := some 30, op := _, type := _, pos := _, after := _, guard := some (6, false) }) (v := ?vr3_9) rfl (by kernel_rfl) (by kernel_rfl) (by kernel_rfl) (fun _ _ _ h => h) (Or.inl ⟨by rfl, ?hyr3_9⟩) (by assumption) ?restr3_9
    case hyr3_9 => (intro w hSw; (try dsimp only at hSw); go_simp <;> with_reducible rfl)
    (try simp only [Act.put, List.setIfInBounds_toArray, List.set_cons_zero, List.set_cons_succ])
    refine wpAnyH_take (i := 10) (oi := { dst := some 31, op := _, type := _, pos := _, after := _, guard := some (6, false) }) (v := ?vr3_10) rfl (by kernel_rfl) (by kernel_rfl) (by kernel_rfl) (fun _ _ _ h => h) (Or.inl ⟨by rfl, ?hyr3_10⟩) (by assumption) ?restr3_10
    case hyr3_10 => (intro w hSw; (try dsimp only at hSw); go_simp <;> with_reducible rfl)
    (try simp only [Act.put, List.setIfInBounds_toArray, List.set_cons_zero, List.set_cons_succ])
    refine wpAnyH_take (i := 11) (oi := { dst := some 32, op := _, type := _, pos := _, after := _, guard := none }) (v := ?vr3_11) rfl (by kernel_rfl) (by kernel_rfl) (by kernel_rfl) (fun _ _ _ h => h) (Or.inl ⟨by rfl, ?hyr3_11⟩) (by assumption) ?restr3_11
    case hyr3_11 => (intro w hSw; (try dsimp only at hSw); go_simp <;> with_reducible rfl)
    (try simp only [Act.put, List.setIfInBounds_toArray, List.set_cons_zero, List.set_cons_succ])
    refine wpAnyH_take (i := 12) (oi := { dst := some 33, op := _, type := _, pos := _, after := _, guard := none }) (v := ?vr3_12) rfl (by kernel_rfl) (by kernel_rfl) (by kernel_rfl) (fun _ _ _ h => h) (Or.inl ⟨by rfl, ?hyr3_12⟩) (by assumption) ?restr3_12
    case hyr3_12 => (intro w hSw; (try dsimp only at hSw); go_simp <;> with_reducible rfl)
    (try simp only [Act.put, List.setIfInBounds_toArray, List.set_cons_zero, List.set_cons_succ])
    refine wpAnyH_take (i := 13) (oi := { dst := some 34, op := _, type := _, pos := _, after := _, guard := some (12, false) }) (v := ?vr3_13) rfl (by kernel_rfl) (by kernel_rfl) (by kernel_rfl) (fun _ _ _ h => h) (Or.inl ⟨by rfl, ?hyr3_13⟩) (by assumption) ?restr3_13
    case hyr3_13 => (intro w hSw; (try dsimp only at hSw); go_simp <;> with_reducible rfl)
    (try simp only [Act.put, List.setIfInBounds_toArray, List.set_cons_zero, List.set_cons_succ])
    refine wpAnyH_take (i := 14) (oi := { dst := some 35, op := _, type := _, pos := _, after := _, guard := some (12, false) }) (v := ?vr3_14) rfl (by kernel_rfl) (by kernel_rfl) (by kernel_rfl) (fun _ _ _ h => h) (Or.inl ⟨by rfl, ?hyr3_14⟩) (by assumption) ?restr3_14
    case hyr3_14 => (intro w hSw; (try dsimp only at hSw); go_simp <;> with_reducible rfl)
    (try simp only [Act.put, List.setIfInBounds_toArray, List.set_cons_zero, List.set_cons_succ])
    refine wpAnyH_ready (rs := [15]) (by kernel_rfl) (by simp) ?_
    refine AllReadyH.cons (o := { dst := some 36, op := _, type := _, pos := _, after := _, guard := some (12, false) }) rfl (fun K hK => ?_) AllReadyH.nil
    go_simp
    (refine hSt1.out.mono ?_; rintro e w7 ⟨rfl, bb⟩; have bc := b_then (b_drew W) bb)
    (try go_wp2_with fail)
    refine hK.out _ _ ((by obtain ⟨g0, g1, g2, g3, g4⟩ := hcell.out _ bc; exact ⟨g0, g1, g3, g4⟩)) (fun hHeld => ?_)
    clear hK K
    (try simp only [Act.put, List.setIfInBounds_toArray, List.set_cons_zero, List.set_cons_succ])
    refine wpAnyH_take (i := 16) (oi := { dst := some 37, op := _, type := _, pos := _, after := _, guard := some (12, false) }) (v := ?vr3_15) rfl (by kernel_rfl) (by kernel_rfl) (by kernel_rfl) (fun _ _ _ h => h) (Or.inl ⟨by rfl, ?hyr3_15⟩) (by assumption) ?restr3_15
    case hyr3_15 => (intro w hSw; (try dsimp only at hSw); go_simp <;> with_reducible rfl)
    (try simp only [Act.put, List.setIfInBounds_toArray, List.set_cons_zero, List.set_cons_succ])
    refine wpAnyH_take (i := 17) (oi := { dst := some 38, op := _, type := _, pos := _, after := _, guard := none }) (v := ?vr3_16) rfl (by kernel_rfl) (by kernel_rfl) (by kernel_rfl) (fun _ _ _ h => h) (Or.inl ⟨by rfl, ?hyr3_16⟩) (by assumption) ?restr3_16
    case hyr3_16 => (intro w hSw; (try dsimp only at hSw); go_simp <;> with_reducible rfl)
    (try simp only [Act.put, List.setIfInBounds_toArray, List.set_cons_zero, List.set_cons_succ])
    refine wpAnyH_take (i := 18) (oi := { dst := some 39, op := _, type := _, pos := _, after := _, guard := none }) (v := ?vr3_17) rfl (by kernel_rfl) (by kernel_rfl) (by kernel_rfl) (fun _ _ _ h => h) (Or.inl ⟨by rfl, ?hyr3_17⟩) (by assumption) ?restr3_17
    case hyr3_17 => (intro w hSw; (try dsimp only at hSw); go_simp <;> with_reducible rfl)
    (try simp only [Act.put, List.setIfInBounds_toArray, List.set_cons_zero, List.set_cons_succ])
    refine wpAnyH_take (i := 19) (oi := { dst := some 40, op := _, type := _, pos := _, after := _, guard := some (18, false) }) (v := ?vr3_18) rfl (by kernel_rfl) (by kernel_rfl) (by kernel_rfl) (fun _ _ _ h => h) (Or.inl ⟨by rfl, ?hyr3_18⟩) (by assumption) ?restr3_18
    case hyr3_18 => (intro w hSw; (try dsimp only at hSw); go_simp <;> with_reducible rfl)
    (try simp only [Act.put, List.setIfInBounds_toArray, List.set_cons_zero, List.set_cons_succ])
    refine wpAnyH_take (i := 20) (oi := { dst := some 41, op := _, type := _, pos := _, after := _, guard := some (18, false) }) (v := ?vr3_19) rfl (by kernel_rfl) (by kernel_rfl) (by kernel_rfl) (fun _ _ _ h => h) (Or.inl ⟨by rfl, ?hyr3_19⟩) (by assumption) ?restr3_19
    case hyr3_19 => (intro w hSw; (try dsimp only at hSw); go_simp <;> with_reducible rfl)
    (try simp only [Act.put, List.setIfInBounds_toArray, List.set_cons_zero, List.set_cons_succ])
    refine wpAnyH_take (i := 21) (oi := { dst := some 42, op := _, type := _, pos := _, after := _, guard := some (18, false) }) (v := ?vr3_20) rfl (by kernel_rfl) (by kernel_rfl) (by kernel_rfl) (fun _ _ _ h => h) (Or.inl ⟨by rfl, ?hyr3_20⟩) (by assumption) ?restr3_20
    case hyr3_20 => (intro w hSw; (try dsimp only at hSw); go_simp <;> with_reducible rfl)
    (try simp only [Act.put, List.setIfInBounds_toArray, List.set_cons_zero, List.set_cons_succ])
    refine wpAnyH_take (i := 22) (oi := { dst := some 43, op := _, type := _, pos := _, after := _, guard := some (18, false) }) (v := ?vr3_21) rfl (by kernel_rfl) (by kernel_rfl) (by kernel_rfl) (fun _ _ _ h => h) (Or.inl ⟨by rfl, ?hyr3_21⟩) (by assumption) ?restr3_21
    case hyr3_21 => (intro w hSw; (try dsimp only at hSw); go_simp <;> with_reducible rfl)
    (try simp only [Act.put, List.setIfInBounds_toArray, List.set_cons_zero, List.set_cons_succ])
    refine wpAnyH_take (i := 25) (oi := { dst := some 46, op := _, type := _, pos := _, after := _, guard := some (18, false) }) (v := ?vr3_22) rfl (by kernel_rfl) (by kernel_rfl) (by kernel_rfl) (fun _ _ _ h => h) (Or.inl ⟨by rfl, ?hyr3_22⟩) (by assumption) ?restr3_22
    case hyr3_22 => (intro w hSw; (try dsimp only at hSw); go_simp <;> with_reducible rfl)
    (try simp only [Act.put, List.setIfInBounds_toArray, List.set_cons_zero, List.set_cons_succ])
    refine wpAnyH_take (i := 26) (oi := { dst := some 47, op := _, type := _, pos := _, after := _, guard := some (18, false) }) (v := ?vr3_23) rfl (by kernel_rfl) (by kernel_rfl) (by kernel_rfl) (fun _ _ _ h => h) (Or.inl ⟨by rfl, ?hyr3_23⟩) (by assumption) ?restr3_23
    case hyr3_23 => (intro w hSw; (try dsimp only at hSw); go_simp <;> with_reducible rfl)
    (try simp only [Act.put, List.setIfInBounds_toArray, List.set_cons_zero, List.set_cons_succ])
    refine wpAnyH_take (i := 27) (oi := { dst := some 48, op := _, type := _, pos := _, after := _, guard := some (18, false) }) (v := ?vr3_24) rfl (by kernel_rfl) (by kernel_rfl) (by kernel_rfl) (fun _ _ _ h => h) (Or.inl ⟨by rfl, ?hyr3_24⟩) (by assumption) ?restr3_24
    case hyr3_24 => (intro w hSw; (try dsimp only at hSw); go_simp <;> with_reducible rfl)
    (try simp only [Act.put, List.setIfInBounds_toArray, List.set_cons_zero, List.set_cons_succ])
    refine wpAnyH_ready (rs := [23]) (by kernel_rfl) (by simp) ?_
    refine AllReadyH.cons (o := { dst := some 44, op := _, type := _, pos := _, after := _, guard := some (18, false) }) rfl (fun K hK => ?_) AllReadyH.nil
    go_simp
    (refine (hBe1.out _ bc).mono ?_; rintro e w8 ⟨v, rfl, hO, b8⟩; obtain ⟨a8, c8, rfl⟩ := hO.box; rw [hq.out]; have bc2 := b_then bc b8)
    (try go_wp2_with fail)
    refine hK.out _ _ ((by obtain ⟨g0, g1, g2, g3, g4⟩ := hcell.out _ bc2; exact ⟨g0, g1, g3, g4⟩)) (fun hHeld => ?_)
    clear hK K
    (try simp only [Act.put, List.setIfInBounds_toArray, List.set_cons_zero, List.set_cons_succ])
    refine wpAnyH_take (i := 24) (oi := { dst := some 45, op := _, type := _, pos := _, after := _, guard := some (18, false) }) (v := ?vr3_25) rfl (by kernel_rfl) (by kernel_rfl) (by kernel_rfl) (fun _ _ _ h => h) (Or.inl ⟨by rfl, ?hyr3_25⟩) (by assumption) ?restr3_25
    case hyr3_25 => (intro w hSw; (try dsimp only at hSw); go_simp <;> with_reducible rfl)
    (try simp only [Act.put, List.setIfInBounds_toArray, List.set_cons_zero, List.set_cons_succ])
    refine wpAnyH_take (i := 28) (oi := { dst := some 49, op := _, type := _, pos := _, after := _, guard := some (18, false) }) (v := ?vr3_26) rfl (by kernel_rfl) (by kernel_rfl) (by kernel_rfl) (fun _ _ _ h => h) (Or.inl ⟨by rfl, ?hyr3_26⟩) (by assumption) ?restr3_26
    case hyr3_26 => (intro w hSw; (try dsimp only at hSw); go_simp <;> with_reducible rfl)
    (try simp only [Act.put, List.setIfInBounds_toArray, List.set_cons_zero, List.set_cons_succ])
    refine wpAnyH_take (i := 29) (oi := { dst := some 50, op := _, type := _, pos := _, after := _, guard := none }) (v := ?vr3_27) rfl (by kernel_rfl) (by kernel_rfl) (by kernel_rfl) (fun _ _ _ h => h) (Or.inl ⟨by rfl, ?hyr3_27⟩) (by assumption) ?restr3_27
    case hyr3_27 => (intro w hSw; (try dsimp only at hSw); go_simp <;> with_reducible rfl)
    (try simp only [Act.put, List.setIfInBounds_toArray, List.set_cons_zero, List.set_cons_succ])
    refine wpAnyH_done (by kernel_rfl) ?_ _
    replace hcell := Lib.hid fun w' (hb : Below w8.heap.size w8 w') => hcell.out w' (b_then bc2 hb)
    replace hJ1 := Lib.hid fun w' (hb : Below w8.heap.size w8 w') => hJ1.out w' (b_then bc2 hb)
    have bw8 := Lib.hid (b_then ba.out bc2)
    clear hSt1 hBe1 bc2 b8 bc bb hHeld
    go_upto_region 6 with (fail)
    refine wp_region_held_drew (S := (fun w' => w'.cell? ⟨w.heap.size, 2, none⟩ = some (.string s) ∧ w'.cell? ⟨w.heap.size, 3, none⟩ = some (.slice ai q ci))) (by kernel_rfl) (by obtain ⟨g0, g1, g2, g3, g4⟩ := hcell.out _ (b_drew w8); exact ⟨g2, g3⟩) (fun hHeld => ?_)
    refine wpAnyH_take (i := 0) (oi := { dst := some 51, op := _, type := _, pos := _, after := _, guard := none }) (v := ?vr4_0) rfl (by kernel_rfl) (by kernel_rfl) (by kernel_rfl) (fun _ _ _ h => h) (Or.inl ⟨by rfl, ?hyr4_0⟩) (by assumption) ?restr4_0
    case hyr4_0 => (intro w hSw; (try dsimp only at hSw); go_simp <;> with_reducible rfl)
    (try simp only [Act.put, List.setIfInBounds_toArray, List.set_cons_zero, List.set_cons_succ])
    refine wpAnyH_take (i := 1) (oi := { dst := some 52, op := _, type := _, pos := _, after := _, guard := none }) (v := ?vr4_1) rfl (by kernel_rfl) (by kernel_rfl) (by kernel_rfl) (fun _ _ _ h => h) (Or.inl ⟨by rfl, ?hyr4_1⟩) (by assumption) ?restr4_1
    case hyr4_1 => (intro w hSw; (try dsimp only at hSw); go_simp <;> with_reducible rfl)
    (try simp only [Act.put, List.setIfInBounds_toArray, List.set_cons_zero, List.set_cons_succ])
    refine wpAnyH_take (i := 2) (oi := { dst := some 53, op := _, type := _, pos := _, after := _, guard := none }) (v := ?vr4_2) rfl (by kernel_rfl) (by kernel_rfl) (by kernel_rfl) (fun _ _ _ h => h) (Or.inl ⟨by rfl, ?hyr4_2⟩) (by assumption) ?restr4_2
    case hyr4_2 => (intro w hSw; (try dsimp only at hSw); go_simp <;> with_reducible rfl)
    (try simp only [Act.put, List.setIfInBounds_toArray, List.set_cons_zero, List.set_cons_succ])
    refine wpAnyH_take (i := 3) (oi := { dst := some 54, op := _, type := _, pos := _, after := _, guard := none }) (v := ?vr4_3) rfl (by kernel_rfl) (by kernel_rfl) (by kernel_rfl) (fun _ _ _ h => h) (Or.inl ⟨by rfl, ?hyr4_3⟩) (by assumption) ?restr4_3
    case hyr4_3 => (intro w hSw; (try dsimp only at hSw); go_simp <;> with_reducible rfl)
    (try simp only [Act.put, List.setIfInBounds_toArray, List.set_cons_zero, List.set_cons_succ])
    refine wpAnyH_ready (rs := [4]) (by kernel_rfl) (by simp) ?_
    refine AllReadyH.cons (o := { dst := some 55, op := _, type := _, pos := _, after := _, guard := none }) rfl (fun K hK => ?_) AllReadyH.nil
    go_simp
    (refine (hJ1.out _ (b_drew w8)).mono ?_; rintro e w9 ⟨rfl, rfl⟩)
    (try go_wp2_with fail)
    refine hK.out _ _ ((by obtain ⟨g0, g1, g2, g3, g4⟩ := hcell.out _ (b_drew w8); exact ⟨g2, g3⟩)) (fun hHeld => ?_)
    clear hK K
    (try simp only [Act.put, List.setIfInBounds_toArray, List.set_cons_zero, List.set_cons_succ])
    refine wpAnyH_take (i := 5) (oi := { dst := some 56, op := _, type := _, pos := _, after := _, guard := none }) (v := ?vr4_4) rfl (by kernel_rfl) (by kernel_rfl) (by kernel_rfl) (fun _ _ _ h => h) (Or.inl ⟨by rfl, ?hyr4_4⟩) (by assumption) ?restr4_4
    case hyr4_4 => (intro w hSw; (try dsimp only at hSw); go_simp <;> with_reducible rfl)
    (try simp only [Act.put, List.setIfInBounds_toArray, List.set_cons_zero, List.set_cons_succ])
    refine wpAnyH_ready (rs := [6]) (by kernel_rfl) (by simp) ?_
    refine AllReadyH.cons (o := { dst := some 57, op := _, type := _, pos := _, after := _, guard := none }) rfl (fun K hK => ?_) AllReadyH.nil
    go_simp
    (refine (hF1.out _).mono ?_; rintro e w9 ⟨rfl, b9⟩; have bd := b_then (b_drew w8) b9)
    (try go_wp2_with fail)
    refine hK.out _ _ ((by obtain ⟨g0, g1, g2, g3, g4⟩ := hcell.out _ bd; exact ⟨g2, g3⟩)) (fun hHeld => ?_)
    clear hK K
    (try simp only [Act.put, List.setIfInBounds_toArray, List.set_cons_zero, List.set_cons_succ])
    refine wpAnyH_take (i := 7) (oi := { dst := some 58, op := _, type := _, pos := _, after := _, guard := none }) (v := ?vr4_5) rfl (by kernel_rfl) (by kernel_rfl) (by kernel_rfl) (fun _ _ _ h => h) (Or.inl ⟨by rfl, ?hyr4_5⟩) (by assumption) ?restr4_5
    case hyr4_5 => (intro w hSw; (try dsimp only at hSw); go_simp <;> with_reducible rfl)
    (try simp only [Act.put, List.setIfInBounds_toArray, List.set_cons_zero, List.set_cons_succ])
    refine wpAnyH_done (by kernel_rfl) ?_ _
    have bE := b_then bw8.out bd
    clear hcell hJ1 hF1 bd
    cases y with
    | true =>
      have hE := Lib.hid (show CheckIs c (.returned (.int .i64 0)) from hEz.out)
      clear hEz
      go_wp2
      go_ret
      exact ⟨hE.out, bE⟩
    | false =>
      have hE := Lib.hid (show CheckIs c (.returned (.int .i64 20)) from hEz.out)
      clear hEz
      go_wp2
      go_ret
      exact ⟨hE.out, bE⟩
  · have e8 : decide ((m : Int) ≤ 8) = false := decide_eq_false (by omega)
    have hnot : ¬ TellsIds c := fun h => by have := h.1; rw [hn.out] at this; omega
    by_cases ha : 0 < mi
    · have t1 : decide ((0 : Int) < mi) = true := decide_eq_true (by omega)
      have t1' : decide (0 < mi) = true := decide_eq_true ha
      have hE : Hid (CheckIs c (.returned (.int .i64 4))) := Lib.hid (check_four (fun _ h => hnot h) (fun _ h => by have := h.2.2.1; rw [hmi.out] at this; omega))
      clear hSet hBe hJi hJk hFe hMa hji hjk
      go_wp2
      go_ret
      exact ⟨hE.out, ba.out⟩
    obtain rfl : mi = 0 := by omega
    by_cases hb : mk = 16
    case neg =>
      have t2 : ((mk : Int) != 16) = true := by simp; omega
      have hE : Hid (CheckIs c (.returned (.int .i64 4))) := Lib.hid (check_four (fun _ h => hnot h) (fun _ h => by have := h.2.2.2.1; rw [hmk.out] at this; omega))
      clear hSet hBe hJi hJk hFe hMa hji hjk
      go_wp2
      go_ret
      exact ⟨hE.out, ba.out⟩
    subst hb
    by_cases hc : 64 ≤ p.size
    · have t3 : decide ((64 : Int) ≤ p.size) = true := decide_eq_true (by omega)
      have t3' : decide (64 ≤ p.size) = true := decide_eq_true hc
      have hE : Hid (CheckIs c (.returned (.int .i64 4))) := Lib.hid (check_four (fun _ h => hnot h) (fun _ h => by have := h.2.2.2.2.1; rw [hp.out] at this; omega))
      clear hSet hBe hJi hJk hFe hMa hji hjk
      go_wp2
      go_ret
      exact ⟨hE.out, ba.out⟩
    have t3 : decide ((64 : Int) ≤ p.size) = false := decide_eq_false (by omega)
    have t3' : decide (64 ≤ p.size) = false := decide_eq_false hc
    clear hSet hBe hJi hFe hji
    go_wp2_with fail
    go_loopw [3] (fun i wr => ∃ k : Nat, k ≤ 16 ∧ i = .int .i64 (k : Int) ∧ Hid (∀ j x, j < k → c.kds[j]? = some x → x.size = 32) ∧ W = wr) (fun i _ => 16 - (intOf i).toNat)
    case atStart => exact ⟨0, by omega, rfl, Lib.hid fun j x hj _ => absurd hj (Nat.not_lt_zero _), rfl⟩
    case round =>
      obtain ⟨k, hk, rfl, hall, rfl⟩ := hrel
      by_cases hlt : k < 16
      · have i1 : (k : Int) < 16 := by omega
        have i0 : 0 ≤ (k : Int) := by omega
        have hkl : k < c.kds.length := by rw [hmk.out]; exact hlt
        have hka := hTk.out.addr (by omega)
        subst hka
        have c0 := (hTk.out.next (b_then ba.out (Below.refl _ W))).cell k _ (List.getElem?_eq_getElem hkl)
        have hsz := hzk _ (List.getElem_mem hkl)
        obtain ⟨x, hx⟩ : ∃ x, Hid (c.kds[k] = x) := ⟨_, Lib.hid rfl⟩
        rw [hx.out] at c0 hsz
        by_cases h32 : x.size = 32
        · have t4 : ((x.size : Int) != 32) = false := by simp; omega
          have hnx : Hid (∀ j x, j < k + 1 → c.kds[j]? = some x → x.size = 32) := Lib.hid fun j y hj hy => by
            by_cases e : j = k
            · subst e
              rw [List.getElem?_eq_getElem hkl, Option.some.injEq] at hy
              rw [← hy, hx.out]; exact h32
            · exact hall.out j y (by omega) hy
          replace h32 := Lib.hid h32
          clear hall
          go_wp2
          exact ⟨⟨k + 1, by omega, by go_num, hnx, trivial⟩, by simp [intOf]; omega⟩
        · have t4 : ((x.size : Int) != 32) = true := by simp; omega
          have hE : Hid (CheckIs c (.returned (.int .i64 4))) := Lib.hid (check_four (fun _ h => hnot h) (fun _ h => by have := h.2.2.2.2.2 _ (List.getElem_mem hkl); rw [hx.out] at this; omega))
          clear hall hJk hMa hjk
          go_wp2
          go_ret
          exact ⟨hE.out, ba.out⟩
      · have hTe : TellsKids c := ⟨by rw [hn.out]; omega, by rw [hn.out]; omega, hmi.out, hmk.out, by rw [hp.out]; omega, fun x hx => by
          obtain ⟨j, hj, e⟩ := List.mem_iff_getElem.1 hx
          exact hall.out j x (by rw [hmk.out] at hj; omega) (by rw [List.getElem?_eq_getElem hj, e])⟩
        have dj : decide ((k : Int) < 16) = false := decide_eq_false (by omega)
        have hJ1 := Lib.hid fun w' (hb : Below W.heap.size W w') => hJk.out w' (b_then ba.out hb) hTe
        have hF1 := Lib.hid fun w' => hMa.out w' hTe
        have hj1 : (jt c.kds).size ≤ 1000000 := hjk.out hTe
        obtain ⟨T, hT⟩ : ∃ T, Hid (jt c.kds = T) := ⟨_, Lib.hid rfl⟩
        rw [hT.out] at hJ1 hF1 hj1
        have hj2 : ¬ 9223372036854775807 < (1 : Int) + T.size := by omega
        have hj3 : ¬ 9223372036854775807 < 1 + T.size := by omega
        obtain ⟨X, hX⟩ : ∃ X, Hid (many c.kds = X) := ⟨_, Lib.hid rfl⟩
        rw [hX.out] at hF1
        obtain ⟨y, hz6⟩ : ∃ y, (s.toList == X.toList) = y := ⟨_, rfl⟩
        have hz7 : (s.toList != X.toList) = !y := by rw [← hz6]; rfl
        have hEz : Hid (CheckIs c (.returned (.int .i64 (if y then 0 else 20)))) := Lib.hid ⟨_, rfl, .of_many (by rw [hp.out]; exact h1) hTe (by
          rw [hs.out, hX.out]
          by_cases h3 : s = X
          · subst h3
            have : y = true := by rw [← hz6]; simp
            simp [this]
          · have : y = false := by rw [← hz6, str_ne h3]
            simp [this, h3])⟩
        clear hall hJk hMa hjk hTe
        go_upto_region 16 with (fail)
        refine wp_region_held_drew (S := (fun w' => w'.cell? ⟨w.heap.size, 2, none⟩ = some (.string s) ∧ w'.cell? ⟨w.heap.size, 4, none⟩ = some (.slice ak 16 ck))) (by kernel_rfl) (by obtain ⟨g0, g1, g2, g3, g4⟩ := hcell.out _ (b_drew W); exact ⟨g2, g4⟩) (fun hHeld => ?_)
        refine wpAnyH_take (i := 0) (oi := { dst := some 86, op := _, type := _, pos := _, after := _, guard := none }) (v := ?vr5_0) rfl (by kernel_rfl) (by kernel_rfl) (by kernel_rfl) (fun _ _ _ h => h) (Or.inl ⟨by rfl, ?hyr5_0⟩) (by assumption) ?restr5_0
        case hyr5_0 => (intro w hSw; (try dsimp only at hSw); go_simp <;> with_reducible rfl)
        (try simp only [Act.put, List.setIfInBounds_toArray, List.set_cons_zero, List.set_cons_succ])
        refine wpAnyH_take (i := 1) (oi := { dst := some 87, op := _, type := _, pos := _, after := _, guard := none }) (v := ?vr5_1) rfl (by kernel_rfl) (by kernel_rfl) (by kernel_rfl) (fun _ _ _ h => h) (Or.inl ⟨by rfl, ?hyr5_1⟩) (by assumption) ?restr5_1
        case hyr5_1 => (intro w hSw; (try dsimp only at hSw); go_simp <;> with_reducible rfl)
        (try simp only [Act.put, List.setIfInBounds_toArray, List.set_cons_zero, List.set_cons_succ])
        refine wpAnyH_take (i := 2) (oi := { dst := some 88, op := _, type := _, pos := _, after := _, guard := none }) (v := ?vr5_2) rfl (by kernel_rfl) (by kernel_rfl) (by kernel_rfl) (fun _ _ _ h => h) (Or.inl ⟨by rfl, ?hyr5_2⟩) (by assumption) ?restr5_2
        case hyr5_2 => (intro w hSw; (try dsimp only at hSw); go_simp <;> with_reducible rfl)
        (try simp only [Act.put, List.setIfInBounds_toArray, List.set_cons_zero, List.set_cons_succ])
        refine wpAnyH_take (i := 3) (oi := { dst := some 89, op := _, type := _, pos := _, after := _, guard := none }) (v := ?vr5_3) rfl (by kernel_rfl) (by kernel_rfl) (by kernel_rfl) (fun _ _ _ h => h) (Or.inl ⟨by rfl, ?hyr5_3⟩) (by assumption) ?restr5_3
        case hyr5_3 => (intro w hSw; (try dsimp only at hSw); go_simp <;> with_reducible rfl)
        (try simp only [Act.put, List.setIfInBounds_toArray, List.set_cons_zero, List.set_cons_succ])
        refine wpAnyH_ready (rs := [4]) (by kernel_rfl) (by simp) ?_
        refine AllReadyH.cons (o := { dst := some 90, op := _, type := _, pos := _, after := _, guard := none }) rfl (fun K hK => ?_) AllReadyH.nil
        go_simp
        (refine (hJ1.out _ (b_drew W)).mono ?_; rintro e w9 ⟨rfl, rfl⟩)
        (try go_wp2_with fail)
        refine hK.out _ _ ((by obtain ⟨g0, g1, g2, g3, g4⟩ := hcell.out _ (b_drew W); exact ⟨g2, g4⟩)) (fun hHeld => ?_)
        clear hK K
        (try simp only [Act.put, List.setIfInBounds_toArray, List.set_cons_zero, List.set_cons_succ])
        refine wpAnyH_take (i := 5) (oi := { dst := some 91, op := _, type := _, pos := _, after := _, guard := none }) (v := ?vr5_4) rfl (by kernel_rfl) (by kernel_rfl) (by kernel_rfl) (fun _ _ _ h => h) (Or.inl ⟨by rfl, ?hyr5_4⟩) (by assumption) ?restr5_4
        case hyr5_4 => (intro w hSw; (try dsimp only at hSw); go_simp <;> with_reducible rfl)
        (try simp only [Act.put, List.setIfInBounds_toArray, List.set_cons_zero, List.set_cons_succ])
        refine wpAnyH_ready (rs := [6]) (by kernel_rfl) (by simp) ?_
        refine AllReadyH.cons (o := { dst := some 92, op := _, type := _, pos := _, after := _, guard := none }) rfl (fun K hK => ?_) AllReadyH.nil
        go_simp
        (refine (hF1.out _).mono ?_; rintro e w9 ⟨rfl, b9⟩; have bd := b_then (b_drew W) b9)
        (try go_wp2_with fail)
        refine hK.out _ _ ((by obtain ⟨g0, g1, g2, g3, g4⟩ := hcell.out _ bd; exact ⟨g2, g4⟩)) (fun hHeld => ?_)
        clear hK K
        (try simp only [Act.put, List.setIfInBounds_toArray, List.set_cons_zero, List.set_cons_succ])
        refine wpAnyH_take (i := 7) (oi := { dst := some 93, op := _, type := _, pos := _, after := _, guard := none }) (v := ?vr5_5) rfl (by kernel_rfl) (by kernel_rfl) (by kernel_rfl) (fun _ _ _ h => h) (Or.inl ⟨by rfl, ?hyr5_5⟩) (by assumption) ?restr5_5
        case hyr5_5 => (intro w hSw; (try dsimp only at hSw); go_simp <;> with_reducible rfl)
        (try simp only [Act.put, List.setIfInBounds_toArray, List.set_cons_zero, List.set_cons_succ])
        refine wpAnyH_done (by kernel_rfl) ?_ _
        have bE := b_then ba.out bd
        clear hcell hJ1 hF1 bd
        cases y with
        | true =>
          have hE := Lib.hid (show CheckIs c (.returned (.int .i64 0)) from hEz.out)
          clear hEz
          go_wp2
          go_ret
          exact ⟨hE.out, bE⟩
        | false =>
          have hE := Lib.hid (show CheckIs c (.returned (.int .i64 20)) from hEz.out)
          clear hEz
          go_wp2
          go_ret
          exact ⟨hE.out, bE⟩
end Go.Proofs.YtdmpkgdlelagjaaGreatDoor.Tr
