/-
  The reference's Read answers what the plain function does; old memory stays. Conditions: bytes of a size that the form's numbers bear.
-/
import Derived.Test.YtliojhhiadfmiaaDoorRows
import Derived.Test.YtliojhhiadfmiaaDoorPkOwn
import Derived.Test.YtliojhhiadfmiaaDoorPkItems
import Derived.Test.YtliojhhiadfmiaaDoorPkRefA
import Derived.Test.YtliojhhiadfmiaaDoorPkRefF
import Derived.Test.YtliojhhiadfmiaaDoorPkRefG
import Derived.Test.YtliojhhiadfmiaaDoorOctKit
import Derived.WalkKit
import Derived.WalkSpells
import Derived.WalkLawsBesides
import Derived.ProofKit
import Derived.OpenShut
import Derived.Laws.BytesArg
import Derived.Laws.Externs
import Derived.Deep.QuietTactic
import Derived.BigQuiet
import Derived.BigRegion
import Derived.Lib.Hide
import Derived.IntWalk
import Derived.Deep.LoopGhost
import Derived.Handy
import Derived.Deep.RegionHeld3
namespace Go.Proofs.YtliojhhiadfmiaaDoor.Pk
open Go Go.RowKit
open Oct (empty num4 num4_size)

theorem wrap_small (c : Int) (h0 : 0 ≤ c) (h1 : c < 4294967296) : IntKind.i64.wrap c = c := by simp [IntKind.wrap, IntKind.bits, IntKind.signed]; omega
theorem ite_len {p : Prop} [Decidable p] (L : List Itm) (h : L.length ≤ 1024) : (if p then (L, (0 : Int)) else ([], 20)).1.length ≤ 1024 := by
  by_cases hp : p
  · rw [if_pos hp]; exact h
  · rw [if_neg hp]; exact Nat.zero_le _
theorem num_most {s : ByteArray} (h : Form s) : num s ≤ 1024 := (num_le h.begins).2
theorem itms_most {s : ByteArray} {n : Nat} (h : n ≤ 1024) : (itms s n).length ≤ 1024 := by rw [itms_length]; exact h
attribute [local irreducible] num itms Sound rd in
theorem rd_len (s : ByteArray) : (rd s).1.length ≤ 1024 := by
  by_cases h1 : s.size < 1112
  · rw [rd_short h1]; exact Nat.zero_le _
  by_cases h2 : Sealed s
  · by_cases h3 : Form s
    · rw [rd_items h1 h2 h3]; exact ite_len _ (itms_most (num_most h3))
    · rw [rd_form h1 h2 h3]; exact Nat.zero_le _
  · rw [rd_sum h1 h2]; exact Nat.zero_le _
theorem datAt_size (s : ByteArray) (k : Nat) : (datAt s k).size ≤ s.size := by unfold datAt; rw [ByteArray.size_extract]; omega
attribute [local irreducible] rdAt upTo
set_option maxRecDepth 100000 in
set_option maxHeartbeats 8000000 in
theorem RRead_calls (s : ByteArray) (w : World) (hs : s.size ≤ 4000000) :
    Calls Tryd.prog 15 #[.string s] w fun e w' => Gives (rd s) e w' ∧ Below w.heap.size w w' := by
  have d0 : decide (4194304 < (s.size : Int)) = false := decide_eq_false (by omega)
  have d1 : (s.size : Int) ≤ 4194304 := by omega
  by_cases h1 : s.size < 1112
  · rw [rd_short h1]
    have d2 : (s.size : Int) < 1112 := by omega
    go_enter Tryd.func15, Tryd.ntmps15
    go_wp2
    go_ret2
    exact ⟨Gives.none _ _, Below.refl _ _⟩
  · have d2 : decide ((s.size : Int) < 1112) = false := decide_eq_false (by omega)
    have d3 : (1112 : Int) ≤ s.size := by omega
    obtain ⟨E, hE⟩ : ∃ E, s.size - 32 = E := ⟨_, rfl⟩
    have e1 : IntKind.i64.wrap ((s.size : Int) - 32) = (E : Nat) := by simp [IntKind.wrap, IntKind.bits, IntKind.signed]; omega
    have e2 : (E : Int) ≤ s.size := by omega
    have hEs : E ≤ s.size := by omega
    have hz1 := piece_size s 0 E hEs
    have hsl : Sealed s ↔ dig (s.extract 0 E) = s.extract E s.size := by unfold Sealed; rw [hE]
    have hS := Lib.hid fun w => RSum_b (s.extract 0 E) w (by omega)
    have bc : Below w.heap.size w w.drew := b_drew w
    by_cases h2 : Sealed s
    · have q1 := str_eq (hsl.1 h2)
      have q2 : ((dig (s.extract 0 E)).toList != (s.extract E s.size).toList) = false := by rw [bne, q1]; rfl
      have hI := Lib.hid fun w => RItems_calls s w (by omega) (by omega)
      have hrf := Lib.hid (rd_form h1 h2)
      have hri := Lib.hid (rd_items h1 h2)
      have hNm := Lib.hid fun (i : Int) (p : Nat) (hi : i = p) (w : World) (hp : p + 4 ≤ s.size) => num_calls s i p hi w hp (by omega)
      replace h1 := Lib.hid h1
      replace h2 := Lib.hid h2
      replace hE := Lib.hid hE
      replace hsl := Lib.hid hsl
      replace hz1 := Lib.hid hz1
      generalize dig (s.extract 0 E) = dg at *
      go_enter Tryd.func15, Tryd.ntmps15
      go_upto_region 5 with (fail)
      go_region_held3 (fun _ => True) (exact trivial)
        (first
          | (go_at_call 27; refine (hS.out _).mono ?_; rintro e w4 ⟨rfl, bb⟩; replace bc := below_next bc bb; clear bb))
      all_goals
        have hB := Lib.hid bc
        clear bc hS
        go_wp2_with fail
        refine (hI.out _).mono ?_
        rintro e w5 ⟨⟨v, r, rfl, hr, hv⟩, bb⟩
        replace hB := Lib.hid (below_next hB.out bb)
        clear bb hI
        cases r with
        | false =>
          have hfin := Lib.hid (hrf.out (fun g => by have := hr.2 g; cases this))
          clear hr hrf hri hv
          go_wp2
          go_ret2
          exact ⟨by rw [hfin.out]; exact Gives.none _ _, hB.out⟩
        | true =>
          have hfm := hr.1 rfl
          have hfin := Lib.hid (hri.out hfm)
          obtain ⟨a, cap, b, off, rfl, hit⟩ := hv rfl
          have hnn := num_le hfm.begins
          have hrm : Hid (∀ j, j < num s → 1036 + 44 * j + 44 ≤ s.size) := Lib.hid fun j hj => by
            have := hfm.begins.room
            unfold start at this
            omega
          have hi32 : Hid (∀ k, k < num s → (idAt s k).size = 32) := Lib.hid fun k hk => idAt_size hfm.begins hk
          obtain ⟨R, hR⟩ : ∃ R, R = (if ∀ k, k < num s → Sound s k then (itms s (num s), (0 : Int)) else ([], 20)) := ⟨_, rfl⟩
          rw [← hR] at hfin
          have hbad : Hid (∀ k, k < num s → ¬ Sound s k → R = ([], 20)) := Lib.hid fun k hk h => by rw [hR, if_neg (fun g => h (g k hk))]
          have hgood : Hid ((∀ k, k < num s → Sound s k) → R = (itms s (num s), 0)) := Lib.hid fun h => by rw [hR, if_pos h]
          have hlN : (itms s (num s)).length = num s := itms_length _ _
          have hget : Hid (∀ k, k < num s → (itms s (num s))[k]? = some ⟨idAt s k, datAt s k⟩) := Lib.hid fun k hk => itms_get s (num s) k hk
          clear hR hr hrf hri hv
          replace hfm := Lib.hid hfm
          replace hit := Lib.hid hit
          generalize num s = n at *
          generalize itms s n = N at *
          rw [hlN]
          replace hlN := Lib.hid hlN
          go_wp2
          go_loopw [6] (fun i wr => ∃ k : Nat, k ≤ n ∧ i = .int .i64 k ∧ Hid (∀ j, j < k → Sound s j) ∧ Hid (Below w5.heap.size w5 wr)) (fun i _ => n - (intOf i).toNat)
          case atStart => exact ⟨0, by omega, rfl, Lib.hid fun j hj => by omega, Lib.hid (Below.refl _ _)⟩
          case round =>
            obtain ⟨k, hk, rfl, hF, hBr⟩ := hrel
            have hBw := Lib.hid (below_next hB.out hBr.out)
            by_cases hlt : k < n
            · have i1 : (k : Int) < n := by omega
              have i0 : (0 : Int) ≤ k := by omega
              have hIr := Lib.hid (hit.out.next hBr.out)
              obtain rfl := hIr.out.addr (by have := hlN.out; omega)
              have hgk := Lib.hid (hget.out k hlt)
              have hbk := Lib.hid (hbad.out k hlt)
              have hF2 : Hid (Sound s k → ∀ j, j < k + 1 → Sound s j) := Lib.hid fun h j hj => by
                by_cases e : j = k
                · rw [e]; exact h
                · exact hF.out j (by omega)
              have hsd : Hid (Sound s k ↔ chk (datAt s k) = ckAt s k ∧ dig (datAt s k) = idAt s k) := Lib.hid Iff.rfl
              have hdz := datAt_size s k
              have hrk := hrm.out k hlt
              have hCk : Hid (∀ (i : Int) (w : World), i = (1036 + 44 * k + 40 : Nat) → Calls Tryd.prog 34 #[.string s, .int .i64 i] w fun e w' => e = .returned (.int .i64 (ckAt s k)) ∧ Below w.heap.size w w') := Lib.hid fun i w h => hNm.out i _ h w (by omega)
              obtain ⟨m4, hm4⟩ : ∃ m4, 44 * k = m4 := ⟨_, rfl⟩
              obtain ⟨K, hK⟩ : ∃ K, 1036 + m4 = K := ⟨_, rfl⟩
              obtain ⟨K4, hK4⟩ : ∃ K4, K + 40 = K4 := ⟨_, rfl⟩
              have g1 : (44 : Int) * (k : Nat) = (m4 : Nat) := by omega
              have g2 : (1036 : Int) + (m4 : Nat) = (K : Nat) := by omega
              have g3 : (K : Int) + 40 = (K4 : Nat) := by omega
              have g4 := wrap_i64 m4 (by omega)
              have g5 := wrap_i64 K (by omega)
              have g6 := wrap_i64 K4 (by omega)
              have hK4e : Hid ((K4 : Int) = (1036 + 44 * k + 40 : Nat)) := Lib.hid (by omega)
              have hcr := chk_range (datAt s k)
              have hwc := wrap_small (chk (datAt s k)) hcr.1 hcr.2
              clear hcr
              replace hm4 := Lib.hid hm4
              replace hK := Lib.hid hK
              replace hK4 := Lib.hid hK4
              generalize datAt s k = T at *
              generalize idAt s k = X at *
              generalize ckAt s k = C at *
              have hSc := Lib.hid fun w => RChk_b T w (by omega)
              have hSd := Lib.hid fun w => RSum_b T w (by omega)
              have x1 : (k : Int) < N.length := by have := hlN.out; omega
              have bc : Below wr.heap.size wr wr.drew := b_drew wr
              have hkeep : Hid (∀ w', Below wr.heap.size wr w' → (w'.cell? ⟨b, off + k * 2, none⟩ = some (.string X) ∧ w'.cell? ⟨b, off + k * 2 + 1, none⟩ = some (.string T))) := Lib.hid fun w' h => ⟨(hIr.out.next h).id k _ hgk.out, (hIr.out.next h).dat k _ hgk.out⟩
              have hk0 := hkeep.out _ bc
              by_cases hc : chk T = C
              · have qc : (chk T != C) = false := by simpa using hc
                by_cases hd : dig T = X
                · have qd := str_eq hd
                  have qe : ((dig T).toList != X.toList) = false := by rw [bne, qd]; rfl
                  have hfi := Lib.hid (hF2.out (hsd.out.2 ⟨hc, hd⟩))
                  replace hc := Lib.hid hc
                  replace hd := Lib.hid hd
                  generalize chk T = ch at *
                  go_upto_region 13 with (fail)
                  go_region_held3 (fun w' => w'.cell? ⟨b, off + k * 2, none⟩ = some (.string X) ∧ w'.cell? ⟨b, off + k * 2 + 1, none⟩ = some (.string T))
                    (exact hkeep.out _ bc)
                    (first
                      | (go_at_call 33; refine (hSc.out _).mono ?_; rintro e w7 ⟨rfl, bb⟩; replace bc := below_next bc bb; clear bb)
                      | (go_at_call 34; refine (hCk.out _ _ hK4e.out).mono ?_; rintro e w7 ⟨rfl, bb⟩; replace bc := below_next bc bb; clear bb)
                      | (go_at_call 27; refine (hSd.out _).mono ?_; rintro e w7 ⟨rfl, bb⟩; replace bc := below_next bc bb; clear bb))
                  all_goals
                    have hBz := Lib.hid (below_next hBr.out bc)
                    clear hkeep hk0 bc
                    go_wp2
                    exact ⟨⟨k + 1, by omega, by go_num, hfi, hBz⟩, by simp [intOf]; omega⟩
                · have qd := str_ne hd
                  have qe : ((dig T).toList != X.toList) = true := by rw [bne, qd]; rfl
                  have hfi := Lib.hid (hbk.out (fun g => hd (hsd.out.1 g).2))
                  replace hc := Lib.hid hc
                  replace hd := Lib.hid hd
                  generalize chk T = ch at *
                  go_upto_region 13 with (fail)
                  go_region_held3 (fun w' => w'.cell? ⟨b, off + k * 2, none⟩ = some (.string X) ∧ w'.cell? ⟨b, off + k * 2 + 1, none⟩ = some (.string T))
                    (exact hkeep.out _ bc)
                    (first
                      | (go_at_call 33; refine (hSc.out _).mono ?_; rintro e w7 ⟨rfl, bb⟩; replace bc := below_next bc bb; clear bb)
                      | (go_at_call 34; refine (hCk.out _ _ hK4e.out).mono ?_; rintro e w7 ⟨rfl, bb⟩; replace bc := below_next bc bb; clear bb)
                      | (go_at_call 27; refine (hSd.out _).mono ?_; rintro e w7 ⟨rfl, bb⟩; replace bc := below_next bc bb; clear bb))
                  all_goals
                    go_wp2
                    go_ret2
                    exact ⟨by rw [hfin.out, hfi.out]; exact Gives.none _ _, below_next hBw.out bc⟩
              · have qc : (chk T != C) = true := by simpa using hc
                have hfi := Lib.hid (hbk.out (fun g => hc (hsd.out.1 g).1))
                replace hc := Lib.hid hc
                generalize chk T = ch at *
                go_upto_region 13 with (fail)
                refine wp_region_held_drew (S := (fun w' => w'.cell? ⟨b, off + k * 2, none⟩ = some (.string X) ∧ w'.cell? ⟨b, off + k * 2 + 1, none⟩ = some (.string T))) (by kernel_rfl) (hk0) (fun hHeld => ?_)
                refine wpAnyH_take (i := 0) (oi := { dst := some 38, op := _, type := _, pos := _, after := _, guard := none }) (v := ?vb1) rfl (by kernel_rfl) (by kernel_rfl) (by kernel_rfl) (fun _ _ _ h => h) (Or.inl ⟨by rfl, ?hyb1⟩) (by assumption) ?restb1
                case hyb1 => (intro w hSw; (try dsimp only at hSw); go_simp <;> with_reducible rfl)
                (try simp only [Act.put, List.setIfInBounds_toArray, List.set_cons_zero, List.set_cons_succ])
                refine wpAnyH_take (i := 1) (oi := { dst := some 39, op := _, type := _, pos := _, after := _, guard := none }) (v := ?vb2) rfl (by kernel_rfl) (by kernel_rfl) (by kernel_rfl) (fun _ _ _ h => h) (Or.inl ⟨by rfl, ?hyb2⟩) (by assumption) ?restb2
                case hyb2 => (intro w hSw; (try dsimp only at hSw); go_simp <;> with_reducible rfl)
                (try simp only [Act.put, List.setIfInBounds_toArray, List.set_cons_zero, List.set_cons_succ])
                refine wpAnyH_take (i := 2) (oi := { dst := some 40, op := _, type := _, pos := _, after := _, guard := none }) (v := ?vb3) rfl (by kernel_rfl) (by kernel_rfl) (by kernel_rfl) (fun _ _ _ h => h) (Or.inl ⟨by rfl, ?hyb3⟩) (by assumption) ?restb3
                case hyb3 => (intro w hSw; (try dsimp only at hSw); go_simp <;> with_reducible rfl)
                (try simp only [Act.put, List.setIfInBounds_toArray, List.set_cons_zero, List.set_cons_succ])
                refine wpAnyH_take (i := 3) (oi := { dst := some 41, op := _, type := _, pos := _, after := _, guard := none }) (v := ?vb4) rfl (by kernel_rfl) (by kernel_rfl) (by kernel_rfl) (fun _ _ _ h => h) (Or.inl ⟨by rfl, ?hyb4⟩) (by assumption) ?restb4
                case hyb4 => (intro w hSw; (try dsimp only at hSw); go_simp <;> with_reducible rfl)
                (try simp only [Act.put, List.setIfInBounds_toArray, List.set_cons_zero, List.set_cons_succ])
                refine wpAnyH_take (i := 4) (oi := { dst := some 42, op := _, type := _, pos := _, after := _, guard := none }) (v := ?vb5) rfl (by kernel_rfl) (by kernel_rfl) (by kernel_rfl) (fun _ _ _ h => h) (Or.inl ⟨by rfl, ?hyb5⟩) (by assumption) ?restb5
                case hyb5 => (intro w hSw; (try dsimp only at hSw); go_simp <;> with_reducible rfl)
                (try simp only [Act.put, List.setIfInBounds_toArray, List.set_cons_zero, List.set_cons_succ])
                refine wpAnyH_take (i := 7) (oi := { dst := some 45, op := _, type := _, pos := _, after := _, guard := none }) (v := ?vb6) rfl (by kernel_rfl) (by kernel_rfl) (by kernel_rfl) (fun _ _ _ h => h) (Or.inl ⟨by rfl, ?hyb6⟩) (by assumption) ?restb6
                case hyb6 => (intro w hSw; (try dsimp only at hSw); go_simp <;> with_reducible rfl)
                (try simp only [Act.put, List.setIfInBounds_toArray, List.set_cons_zero, List.set_cons_succ])
                refine wpAnyH_take (i := 8) (oi := { dst := some 46, op := _, type := _, pos := _, after := _, guard := none }) (v := ?vb7) rfl (by kernel_rfl) (by kernel_rfl) (by kernel_rfl) (fun _ _ _ h => h) (Or.inl ⟨by rfl, ?hyb7⟩) (by assumption) ?restb7
                case hyb7 => (intro w hSw; (try dsimp only at hSw); go_simp <;> with_reducible rfl)
                (try simp only [Act.put, List.setIfInBounds_toArray, List.set_cons_zero, List.set_cons_succ])
                refine wpAnyH_take (i := 9) (oi := { dst := some 47, op := _, type := _, pos := _, after := _, guard := none }) (v := ?vb8) rfl (by kernel_rfl) (by kernel_rfl) (by kernel_rfl) (fun _ _ _ h => h) (Or.inl ⟨by rfl, ?hyb8⟩) (by assumption) ?restb8
                case hyb8 => (intro w hSw; (try dsimp only at hSw); go_simp <;> with_reducible rfl)
                (try simp only [Act.put, List.setIfInBounds_toArray, List.set_cons_zero, List.set_cons_succ])
                refine wpAnyH_take (i := 10) (oi := { dst := some 48, op := _, type := _, pos := _, after := _, guard := none }) (v := ?vb9) rfl (by kernel_rfl) (by kernel_rfl) (by kernel_rfl) (fun _ _ _ h => h) (Or.inl ⟨by rfl, ?hyb9⟩) (by assumption) ?restb9
                case hyb9 => (intro w hSw; (try dsimp only at hSw); go_simp <;> with_reducible rfl)
                (try simp only [Act.put, List.setIfInBounds_toArray, List.set_cons_zero, List.set_cons_succ])
                refine wpAnyH_take (i := 11) (oi := { dst := some 49, op := _, type := _, pos := _, after := _, guard := none }) (v := ?vb10) rfl (by kernel_rfl) (by kernel_rfl) (by kernel_rfl) (fun _ _ _ h => h) (Or.inl ⟨by rfl, ?hyb10⟩) (by assumption) ?restb10
                case hyb10 => (intro w hSw; (try dsimp only at hSw); go_simp <;> with_reducible rfl)
                (try simp only [Act.put, List.setIfInBounds_toArray, List.set_cons_zero, List.set_cons_succ])
                refine wpAnyH_ready (rs := [5]) (by kernel_rfl) (by simp) ?_
                refine AllReadyH.cons (o := { dst := some 43, op := _, type := _, pos := _, after := _, guard := none }) rfl (fun K hK => ?_) AllReadyH.nil
                go_simp
                (refine (hSc.out _).mono ?_; rintro e w7 ⟨rfl, bb⟩; replace bc := below_next bc bb; clear bb)
                (try go_wp2_with fail)
                refine hK.out _ _ ((hkeep.out _ bc)) (fun hHeld => ?_)
                clear hK K
                (try simp only [Act.put, List.setIfInBounds_toArray, List.set_cons_zero, List.set_cons_succ])
                refine wpAnyH_take (i := 6) (oi := { dst := some 44, op := _, type := _, pos := _, after := _, guard := none }) (v := ?vb11) rfl (by kernel_rfl) (by kernel_rfl) (by kernel_rfl) (fun _ _ _ h => h) (Or.inl ⟨by rfl, ?hyb11⟩) (by assumption) ?restb11
                case hyb11 => (intro w hSw; (try dsimp only at hSw); go_simp <;> with_reducible rfl)
                (try simp only [Act.put, List.setIfInBounds_toArray, List.set_cons_zero, List.set_cons_succ])
                refine wpAnyH_ready (rs := [12]) (by kernel_rfl) (by simp) ?_
                refine AllReadyH.cons (o := { dst := some 50, op := _, type := _, pos := _, after := _, guard := none }) rfl (fun K hK => ?_) AllReadyH.nil
                go_simp
                (refine (hCk.out _ _ hK4e.out).mono ?_; rintro e w7 ⟨rfl, bb⟩; replace bc := below_next bc bb; clear bb)
                (try go_wp2_with fail)
                refine hK.out _ _ ((hkeep.out _ bc)) (fun hHeld => ?_)
                clear hK K
                (try simp only [Act.put, List.setIfInBounds_toArray, List.set_cons_zero, List.set_cons_succ])
                refine wpAnyH_take (i := 13) (oi := { dst := some 51, op := _, type := _, pos := _, after := _, guard := none }) (v := ?vb12) rfl (by kernel_rfl) (by kernel_rfl) (by kernel_rfl) (fun _ _ _ h => h) (Or.inl ⟨by rfl, ?hyb12⟩) (by assumption) ?restb12
                case hyb12 => (intro w hSw; (try dsimp only at hSw); go_simp <;> with_reducible rfl)
                (try simp only [Act.put, List.setIfInBounds_toArray, List.set_cons_zero, List.set_cons_succ])
                refine wpAnyH_take (i := 14) (oi := { dst := some 52, op := _, type := _, pos := _, after := _, guard := none }) (v := ?vb13) rfl (by kernel_rfl) (by kernel_rfl) (by kernel_rfl) (fun _ _ _ h => h) (Or.inl ⟨by rfl, ?hyb13⟩) (by assumption) ?restb13
                case hyb13 => (intro w hSw; (try dsimp only at hSw); go_simp <;> with_reducible rfl)
                (try simp only [Act.put, List.setIfInBounds_toArray, List.set_cons_zero, List.set_cons_succ])
                refine wpAnyH_take (i := 15) (oi := { dst := some 53, op := _, type := _, pos := _, after := _, guard := some (14, false) }) (v := undef) rfl (by kernel_rfl) (by kernel_rfl) (by kernel_rfl) (fun _ _ _ h => h) (Or.inr ⟨by rfl, rfl⟩) (by assumption) ?_
                (try simp only [Act.put, List.setIfInBounds_toArray, List.set_cons_zero, List.set_cons_succ])
                refine wpAnyH_take (i := 16) (oi := { dst := some 54, op := _, type := _, pos := _, after := _, guard := some (14, false) }) (v := undef) rfl (by kernel_rfl) (by kernel_rfl) (by kernel_rfl) (fun _ _ _ h => h) (Or.inr ⟨by rfl, rfl⟩) (by assumption) ?_
                (try simp only [Act.put, List.setIfInBounds_toArray, List.set_cons_zero, List.set_cons_succ])
                refine wpAnyH_take (i := 17) (oi := { dst := some 55, op := _, type := _, pos := _, after := _, guard := some (14, false) }) (v := undef) rfl (by kernel_rfl) (by kernel_rfl) (by kernel_rfl) (fun _ _ _ h => h) (Or.inr ⟨by rfl, rfl⟩) (by assumption) ?_
                (try simp only [Act.put, List.setIfInBounds_toArray, List.set_cons_zero, List.set_cons_succ])
                refine wpAnyH_take (i := 18) (oi := { dst := some 56, op := _, type := _, pos := _, after := _, guard := some (14, false) }) (v := undef) rfl (by kernel_rfl) (by kernel_rfl) (by kernel_rfl) (fun _ _ _ h => h) (Or.inr ⟨by rfl, rfl⟩) (by assumption) ?_
                (try simp only [Act.put, List.setIfInBounds_toArray, List.set_cons_zero, List.set_cons_succ])
                refine wpAnyH_take (i := 19) (oi := { dst := some 57, op := _, type := _, pos := _, after := _, guard := some (14, false) }) (v := undef) rfl (by kernel_rfl) (by kernel_rfl) (by kernel_rfl) (fun _ _ _ h => h) (Or.inr ⟨by rfl, rfl⟩) (by assumption) ?_
                (try simp only [Act.put, List.setIfInBounds_toArray, List.set_cons_zero, List.set_cons_succ])
                refine wpAnyH_take (i := 20) (oi := { dst := some 58, op := _, type := _, pos := _, after := _, guard := some (14, false) }) (v := undef) rfl (by kernel_rfl) (by kernel_rfl) (by kernel_rfl) (fun _ _ _ h => h) (Or.inr ⟨by rfl, rfl⟩) (by assumption) ?_
                (try simp only [Act.put, List.setIfInBounds_toArray, List.set_cons_zero, List.set_cons_succ])
                refine wpAnyH_take (i := 21) (oi := { dst := some 59, op := _, type := _, pos := _, after := _, guard := some (14, false) }) (v := undef) rfl (by kernel_rfl) (by kernel_rfl) (by kernel_rfl) (fun _ _ _ h => h) (Or.inr ⟨by rfl, rfl⟩) (by assumption) ?_
                (try simp only [Act.put, List.setIfInBounds_toArray, List.set_cons_zero, List.set_cons_succ])
                refine wpAnyH_take (i := 22) (oi := { dst := some 60, op := _, type := _, pos := _, after := _, guard := some (14, false) }) (v := undef) rfl (by kernel_rfl) (by kernel_rfl) (by kernel_rfl) (fun _ _ _ h => h) (Or.inr ⟨by rfl, rfl⟩) (by assumption) ?_
                (try simp only [Act.put, List.setIfInBounds_toArray, List.set_cons_zero, List.set_cons_succ])
                refine wpAnyH_take (i := 23) (oi := { dst := some 61, op := _, type := _, pos := _, after := _, guard := some (14, false) }) (v := undef) rfl (by kernel_rfl) (by kernel_rfl) (by kernel_rfl) (fun _ _ _ h => h) (Or.inr ⟨by rfl, rfl⟩) (by assumption) ?_
                (try simp only [Act.put, List.setIfInBounds_toArray, List.set_cons_zero, List.set_cons_succ])
                refine wpAnyH_take (i := 24) (oi := { dst := some 62, op := _, type := _, pos := _, after := _, guard := some (14, false) }) (v := undef) rfl (by kernel_rfl) (by kernel_rfl) (by kernel_rfl) (fun _ _ _ h => h) (Or.inr ⟨by rfl, rfl⟩) (by assumption) ?_
                (try simp only [Act.put, List.setIfInBounds_toArray, List.set_cons_zero, List.set_cons_succ])
                refine wpAnyH_take (i := 25) (oi := { dst := some 63, op := _, type := _, pos := _, after := _, guard := some (14, false) }) (v := undef) rfl (by kernel_rfl) (by kernel_rfl) (by kernel_rfl) (fun _ _ _ h => h) (Or.inr ⟨by rfl, rfl⟩) (by assumption) ?_
                (try simp only [Act.put, List.setIfInBounds_toArray, List.set_cons_zero, List.set_cons_succ])
                refine wpAnyH_take (i := 26) (oi := { dst := some 64, op := _, type := _, pos := _, after := _, guard := some (14, false) }) (v := undef) rfl (by kernel_rfl) (by kernel_rfl) (by kernel_rfl) (fun _ _ _ h => h) (Or.inr ⟨by rfl, rfl⟩) (by assumption) ?_
                (try simp only [Act.put, List.setIfInBounds_toArray, List.set_cons_zero, List.set_cons_succ])
                refine wpAnyH_take (i := 27) (oi := { dst := some 65, op := _, type := _, pos := _, after := _, guard := none }) (v := ?vb26) rfl (by kernel_rfl) (by kernel_rfl) (by kernel_rfl) (fun _ _ _ h => h) (Or.inl ⟨by rfl, ?hyb26⟩) (by assumption) ?restb26
                case hyb26 => (intro w hSw; (try dsimp only at hSw); go_simp <;> with_reducible rfl)
                (try simp only [Act.put, List.setIfInBounds_toArray, List.set_cons_zero, List.set_cons_succ])
                refine wpAnyH_done (by kernel_rfl) ?_ _
                (go_wp2; go_ret2; exact ⟨by rw [hfin.out, hfi.out]; exact Gives.none _ _, below_next hBw.out bc⟩)
            · have d5 : decide ((k : Int) < n) = false := decide_eq_false (by omega)
              have d6 : (n : Int) ≤ k := by omega
              obtain rfl : k = n := by omega
              have hfi := Lib.hid (hgood.out hF.out)
              have hIr := Lib.hid (hit.out.next hBr.out)
              have hG : Hid (Gives (N, 0) (.returned (.tuple #[.slice a k cap, .int .i64 0])) wr) := Lib.hid ⟨a, cap, b, off, by rw [hlN.out], hIr.out⟩
              go_wp2
              go_ret2
              exact ⟨by rw [hfin.out, hfi.out]; exact hG.out, hBw.out⟩
    · have q1 := str_ne (fun g => h2 (hsl.2 g))
      have q2 : ((dig (s.extract 0 E)).toList != (s.extract E s.size).toList) = true := by rw [bne, q1]; rfl
      have hfin := Lib.hid (rd_sum h1 h2)
      replace h1 := Lib.hid h1
      replace h2 := Lib.hid h2
      replace hE := Lib.hid hE
      replace hsl := Lib.hid hsl
      replace hz1 := Lib.hid hz1
      generalize dig (s.extract 0 E) = dg at *
      go_enter Tryd.func15, Tryd.ntmps15
      go_upto_region 5 with (fail)
      go_region_held3 (fun _ => True) (exact trivial)
        (first
          | (go_at_call 27; refine (hS.out _).mono ?_; rintro e w4 ⟨rfl, bb⟩; replace bc := below_next bc bb; clear bb))
      all_goals
        go_wp2
        go_ret2
        exact ⟨by rw [hfin.out]; exact Gives.none _ _, bc⟩
end Go.Proofs.YtliojhhiadfmiaaDoor.Pk
