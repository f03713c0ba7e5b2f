/-
  Proved: for all numbers, texts and whatever stands behind them, OctetBack returns true and turns nothing of what it was given. Conditions: none beyond the form's own.
-/
import Derived.Test.YtnpdjdcbbmjdaaaRows
import Derived.Test.YtnpdjdcbbmjdaaaOctAwake
import Derived.Test.YtnpdjdcbbmjdaaaOctKit
import Derived.Deep.RegionHeld3
import Derived.LoopTactic
namespace Go.Proofs.Ytnpdjdcbbmjdaaa.octetBack
open Go.ChangeShapes Go.WideShapes Go.ChangeAt Go.RowKit
open Go.ChangeMaps (open_string)
open Oct

/-! ### what is written round by round -/
def segN (n : Nat) (N : Nat → Int) (k : Nat) : ByteArray := if k < n then num4 (N k) else empty
def segT (m : Nat) (T : Nat → ByteArray) (k : Nat) : ByteArray := if k < m then num4 (((T k).size : Int) % 4294967296) ++ T k else empty
/-- what was written ahead of round k -/
def pre (n m : Nat) (N : Nat → Int) (T : Nat → ByteArray) : Nat → ByteArray
  | 0 => empty
  | k + 1 => pre n m N T k ++ segN n N k ++ segT m T k
/-- what is written from round k on, in d rounds -/
def suf (n m : Nat) (N : Nat → Int) (T : Nat → ByteArray) : Nat → Nat → ByteArray
  | _, 0 => empty
  | k, d + 1 => segN n N k ++ (segT m T k ++ suf n m N T (k + 1) d)
theorem empty_append (s : ByteArray) : empty ++ s = s := ext_toList (by rw [append_toList]; rfl)
theorem append_empty (s : ByteArray) : s ++ empty = s := ext_toList (by rw [append_toList]; simp)
theorem pre_suf (n m : Nat) (N : Nat → Int) (T : Nat → ByteArray) (d k : Nat) : pre n m N T (k + d) = pre n m N T k ++ suf n m N T k d := by
  induction d generalizing k with
  | zero => simp [suf, append_empty]
  | succ d ih =>
    have e : k + (d + 1) = (k + 1) + d := by omega
    rw [e, ih (k + 1)]
    simp only [pre, suf, ByteArray.append_assoc]
theorem pre_all (n m : Nat) (N : Nat → Int) (T : Nat → ByteArray) (d : Nat) : pre n m N T d = suf n m N T 0 d := by
  have := pre_suf n m N T d 0
  rw [Nat.zero_add] at this
  rw [this]; exact empty_append _
theorem pre_mono (n m : Nat) (N : Nat → Int) (T : Nat → ByteArray) (k K : Nat) (h : k ≤ K) : (pre n m N T k).size ≤ (pre n m N T K).size := by
  obtain ⟨d, rfl⟩ := Nat.exists_eq_add_of_le h
  rw [pre_suf, ByteArray.size_append]; omega
theorem seg_size (n m : Nat) (N : Nat → Int) (T : Nat → ByteArray) (k K : Nat) (h : k < K) (hm : k < m) : (T k).size ≤ (pre n m N T K).size := by
  have := pre_mono n m N T (k + 1) K h
  simp only [pre, ByteArray.size_append, segT, hm, if_true] at this
  omega

/-- the reader ahead of round k, and between the number and the text -/
def st (n m K : Nat) (N : Nat → Int) (T : Nat → ByteArray) (behind : ByteArray) (k : Nat) : St := ⟨suf n m N T k (K - k) ++ behind, false⟩
def mid (n m K : Nat) (N : Nat → Int) (T : Nat → ByteArray) (behind : ByteArray) (k : Nat) : St := ⟨segT m T k ++ (suf n m N T (k + 1) (K - (k + 1)) ++ behind), false⟩
theorem st_eq (n m K : Nat) (N : Nat → Int) (T : Nat → ByteArray) (behind : ByteArray) (k : Nat) (h : k < K) : st n m K N T behind k = ⟨segN n N k ++ (mid n m K N T behind k).rest, false⟩ := by
  have e : K - k = (K - (k + 1)) + 1 := by omega
  simp only [st, mid, e, suf, ByteArray.append_assoc]
theorem st_num (n m K : Nat) (N : Nat → Int) (T : Nat → ByteArray) (behind : ByteArray) (k : Nat) (h : k < K) (hn : k < n) (h0 : 0 ≤ N k) (h1 : N k < 4294967296) :
    num (st n m K N T behind k) = (N k, mid n m K N T behind k) := by
  rw [st_eq n m K N T behind k h]
  simp only [segN, hn, if_true]
  exact num_written _ h0 h1 _
theorem st_mid (n m K : Nat) (N : Nat → Int) (T : Nat → ByteArray) (behind : ByteArray) (k : Nat) (h : k < K) (hn : ¬ k < n) : st n m K N T behind k = mid n m K N T behind k := by
  rw [st_eq n m K N T behind k h]
  simp only [segN, hn, if_false, empty_append]
  rfl
theorem mid_text (n m K : Nat) (N : Nat → Int) (T : Nat → ByteArray) (behind : ByteArray) (k : Nat) (hm : k < m) (hz : (T k).size ≤ 1048576) :
    text (mid n m K N T behind k) 1048576 = (T k, st n m K N T behind (k + 1)) := by
  have e : ((T k).size : Int) % 4294967296 = (T k).size := by omega
  simp only [mid, segT, hm, if_true, e]
  exact text_written _ _ _ (by omega) (by omega)
theorem mid_st (n m K : Nat) (N : Nat → Int) (T : Nat → ByteArray) (behind : ByteArray) (k : Nat) (hm : ¬ k < m) : mid n m K N T behind k = st n m K N T behind (k + 1) := by
  simp only [mid, st, segT, hm, if_false, empty_append]
theorem st_first (n m K : Nat) (N : Nat → Int) (T : Nat → ByteArray) (behind : ByteArray) : (⟨pre n m N T K ++ behind, false⟩ : St) = st n m K N T behind 0 := by
  rw [pre_all]; rfl
theorem st_last (n m K : Nat) (N : Nat → Int) (T : Nat → ByteArray) (behind : ByteArray) : st n m K N T behind K = ⟨behind, false⟩ := by
  simp only [st, Nat.sub_self, suf, empty_append]

set_option maxRecDepth 100000 in
set_option maxHeartbeats 4000000 in
theorem walk (aN aT : Option Addr) (lN cN lT cT bN oN bT oT n m K : Nat) (N : Nat → Int) (T : Nat → ByteArray) (behind : ByteArray) (w : World)
    (hN : IntsAt .u32 w aN bN oN lN N) (hR : ∀ i, 0 ≤ N i ∧ N i < 4294967296) (hT : TextsAt w aT bT oT lT T) (hl : lN ≤ 140737488351232) (hl' : lT ≤ 140737488351232) (hb : behind.size ≤ 140737488351232)
    (hn : (if (50 : Int) < lN then 50 else (lN : Int)) = n) (hm : (if (50 : Int) < lT then 50 else (lT : Int)) = m) (hK : (if n < m then (m : Int) else (n : Int)) = K)
    (hn1 : n ≤ lN) (hn2 : n ≤ 50) (hm1 : m ≤ lT) (hm2 : m ≤ 50) (hK1 : n ≤ K) (hK2 : m ≤ K) (hK3 : K ≤ n ∨ K ≤ m) :
    Calls Try.prog 5 #[.slice aN lN cN, .slice aT lT cT, .string behind] w fun e w' => e = .returned (.bool true) ∧ Below w.heap.size w w' := by
  go_enter Try.func5, Try.ntmps5
  go_wp2_with fail
  refine (awake_calls _).mono ?_
  rintro e w1 ⟨rfl, b1⟩
  go_wp2_with fail
  go_loopw [7, 10] (fun s i w' => ∃ k : Nat, k ≤ K ∧ i = .int .i64 k ∧ s = .string (pre n m N T k) ∧ (pre n m N T k).size ≤ 1048576 ∧ Below w.heap.size w w') (fun _ i _ => K - (intOf i).toNat)
  case atStart => exact ⟨0, Nat.zero_le _, rfl, rfl, (by show (0 : Nat) ≤ 1048576; omega), b1⟩
  case round =>
    obtain ⟨k, hk, rfl, rfl, hz, bw⟩ := hrel
    by_cases hkK : k < K
    · by_cases hkn : k < n
      · obtain rfl := hN.addr (by omega)
        have cN : wr.cell? ⟨bN, oN + k, none⟩ = some (.int .u32 (N k)) := (bw.cell (lt_of_cell (hN.cell k (by omega)))).trans (hN.cell k (by omega))
        have rN := hR k
        by_cases hkm : k < m
        · obtain rfl := hT.addr (by omega)
          have zT := hT.size k
          have hp : Hid (pre n m N T (k + 1) = pre n m N T k ++ num4 (N k) ++ (num4 (((T k).size : Int) % 4294967296) ++ T k)) := by show _ = _; simp only [pre, segN, segT, hkn, hkm, if_true]
          go_wp2_with fail
          refine (Num_calls (N k) rN.1 rN.2 wr).mono ?_
          rintro e w2 ⟨rfl, c2, rfl⟩
          have bw2 := below_alloc (o := .cells c2 5) bw
          generalize wr.alloc (.cells c2 5) = w2 at *
          clear cN bw
          have cT : w2.cell? ⟨bT, oT + k, none⟩ = some (.string (T k)) := (bw2.cell (lt_of_cell (hT.cell k (by omega)))).trans (hT.cell k (by omega))
          go_wp2_with fail
          refine (Text_calls (T k) zT _).mono ?_
          rintro e w3 ⟨rfl, c3, rfl⟩
          have bw3 := below_alloc (o := .cells c3 5) bw2
          generalize w2.alloc (.cells c3 5) = w3 at *
          clear cT bw2
          go_wp2
          · go_ret
            exact ⟨rfl, bw3⟩
          · have hle : ((pre n m N T k).size : Int) + 4 + (4 + ((T k).size : Int)) ≤ 1048576 := by assumption
            go_roundw
            case rel => exact ⟨k + 1, hkK, by go_num, by rw [hp.out], by rw [hp.out]; simp only [ByteArray.size_append, num4_size]; omega, bw3⟩
            case measure => simp [intOf]; omega
        · have hp : Hid (pre n m N T (k + 1) = pre n m N T k ++ num4 (N k)) := by show _ = _; simp only [pre, segN, segT, hkn, hkm, if_true, if_false, append_empty]
          go_wp2_with fail
          refine (Num_calls (N k) rN.1 rN.2 wr).mono ?_
          rintro e w2 ⟨rfl, c2, rfl⟩
          have bw2 := below_alloc (o := .cells c2 5) bw
          generalize wr.alloc (.cells c2 5) = w2 at *
          clear cN bw
          by_cases hle : ((pre n m N T k).size : Int) + 4 ≤ 1048576
          · have d : decide ((1048576 : Int) < ((pre n m N T k).size : Int) + 4) = false := by simp; omega
            have hleh := Lib.hid hle
            clear hle
            go_wp2
            go_roundw
            case rel => exact ⟨k + 1, hkK, by go_num, by rw [hp.out], by rw [hp.out]; simp only [ByteArray.size_append, num4_size]; have := hleh.out; omega, bw2⟩
            case measure => simp [intOf]; omega
          · have d : decide ((1048576 : Int) < ((pre n m N T k).size : Int) + 4) = true := by simp; omega
            clear hle
            go_wp2
            go_ret
            exact ⟨rfl, bw2⟩
      · have hkm : k < m := by omega
        obtain rfl := hT.addr (by omega)
        have zT := hT.size k
        have hp : Hid (pre n m N T (k + 1) = pre n m N T k ++ (num4 (((T k).size : Int) % 4294967296) ++ T k)) := by show _ = _; simp only [pre, segN, segT, hkn, hkm, if_true, if_false, append_empty]
        have cT : wr.cell? ⟨bT, oT + k, none⟩ = some (.string (T k)) := (bw.cell (lt_of_cell (hT.cell k (by omega)))).trans (hT.cell k (by omega))
        go_wp2_with fail
        refine (Text_calls (T k) zT _).mono ?_
        rintro e w3 ⟨rfl, c3, rfl⟩
        have bw3 := below_alloc (o := .cells c3 5) bw
        generalize wr.alloc (.cells c3 5) = w3 at *
        clear cT bw
        go_wp2
        · go_ret
          exact ⟨rfl, bw3⟩
        · have hle : ((pre n m N T k).size : Int) + (4 + ((T k).size : Int)) ≤ 1048576 := by assumption
          go_roundw
          case rel => exact ⟨k + 1, hkK, by go_num, by rw [hp.out], by rw [hp.out]; simp only [ByteArray.size_append, num4_size]; omega, bw3⟩
          case measure => simp [intOf]; omega
    · obtain rfl : k = K := by omega
      have hfirst := Lib.hid (st_first n m k N T behind)
      have hsz := Lib.hid hz
      clear b1 hkK
      go_wp2_with fail
      refine (New_calls _ wr).mono ?_
      rintro e w4 ⟨rfl, rfl⟩
      have r4 := Rd.new (pre n m N T k ++ behind) wr
      rw [hfirst.out] at r4
      have b4 := below_alloc (o := .cells #[.string (pre n m N T k ++ behind), .bool false] 49) bw
      have zb := bw.size
      generalize wr.alloc (.cells #[.string (pre n m N T k ++ behind), .bool false] 49) = w4 at *
      generalize wr.heap.size = b at *
      clear bw hfirst hz
      generalize hKK : k = K at *
      clear hKK
      go_wp2_with fail
      go_loopw [12] (fun i w' => ∃ j : Nat, j ≤ K ∧ i = .int .i64 j ∧ Rd w' b (st n m K N T behind j) ∧ Below w.heap.size w w') (fun i _ => K - (intOf i).toNat)
      case atStart => exact ⟨0, Nat.zero_le _, rfl, r4, b4⟩
      case round =>
        obtain ⟨j, hj, rfl, r5, b5⟩ := hrel
        clear r4 b4
        by_cases hjK : j < K
        · by_cases hjn : j < n
          · obtain rfl := hN.addr (by omega)
            have ltN : bN < w.heap.size := lt_of_cell (hN.cell j (by omega))
            have cN : wr.cell? ⟨bN, oN + j, none⟩ = some (.int .u32 (N j)) := (b5.cell ltN).trans (hN.cell j (by omega))
            have nN : bN ≠ b := by omega
            have iN : j < lN := by omega
            have rN := hR j
            have hA := Lib.hid (st_num n m K N T behind j hjK hjn rN.1 rN.2)
            by_cases hjm : j < m
            · obtain rfl := hT.addr (by omega)
              have ltT : bT < w.heap.size := lt_of_cell (hT.cell j (by omega))
              have cT : wr.cell? ⟨bT, oT + j, none⟩ = some (.string (T j)) := (b5.cell ltT).trans (hT.cell j (by omega))
              have nT : bT ≠ b := by omega
              have iT : j < lT := by omega
              have hC := Lib.hid (mid_text n m K N T behind j hjm (Nat.le_trans (seg_size n m N T j K hjK hjm) hsz.out))
              go_wp2_with fail
              refine wp_region_held_drew (S := (fun w' => w'.cell? ⟨bN, oN + j, none⟩ = some (.int .u32 (N j)) ∧ w'.cell? ⟨bT, oT + j, none⟩ = some (.string (T j)))) (by kernel_rfl) (⟨cN, cT⟩) (fun hHeld => ?_)
              refine wpAnyH_take (i := 0) (oi := { dst := some 62, op := _, type := _, pos := _, after := _, guard := none }) (v := ?vr1_0) rfl (by kernel_rfl) (by kernel_rfl) (by kernel_rfl) (fun _ _ _ h => h) (Or.inl ⟨by rfl, ?hyr1_0⟩) (by assumption) ?restr1_0
              case hyr1_0 => (intro w hSw; (try dsimp only at hSw); go_simp <;> with_reducible rfl)
              (try simp only [Act.put, List.setIfInBounds_toArray, List.set_cons_zero, List.set_cons_succ])
              refine wpAnyH_take (i := 1) (oi := { dst := some 63, op := _, type := _, pos := _, after := _, guard := none }) (v := ?vr1_1) rfl (by kernel_rfl) (by kernel_rfl) (by kernel_rfl) (fun _ _ _ h => h) (Or.inl ⟨by rfl, ?hyr1_1⟩) (by assumption) ?restr1_1
              case hyr1_1 => (intro w hSw; (try dsimp only at hSw); go_simp <;> with_reducible rfl)
              (try simp only [Act.put, List.setIfInBounds_toArray, List.set_cons_zero, List.set_cons_succ])
              refine wpAnyH_take (i := 2) (oi := { dst := some 64, op := _, type := _, pos := _, after := _, guard := none }) (v := ?vr1_2) rfl (by kernel_rfl) (by kernel_rfl) (by kernel_rfl) (fun _ _ _ h => h) (Or.inl ⟨by rfl, ?hyr1_2⟩) (by assumption) ?restr1_2
              case hyr1_2 => (intro w hSw; (try dsimp only at hSw); go_simp <;> with_reducible rfl)
              (try simp only [Act.put, List.setIfInBounds_toArray, List.set_cons_zero, List.set_cons_succ])
              refine wpAnyH_take (i := 3) (oi := { dst := some 65, op := _, type := _, pos := _, after := _, guard := none }) (v := ?vr1_3) rfl (by kernel_rfl) (by kernel_rfl) (by kernel_rfl) (fun _ _ _ h => h) (Or.inl ⟨by rfl, ?hyr1_3⟩) (by assumption) ?restr1_3
              case hyr1_3 => (intro w hSw; (try dsimp only at hSw); go_simp <;> with_reducible rfl)
              (try simp only [Act.put, List.setIfInBounds_toArray, List.set_cons_zero, List.set_cons_succ])
              refine wpAnyH_take (i := 4) (oi := { dst := some 66, op := _, type := _, pos := _, after := _, guard := some (3, true) }) (v := ?vr1_4) rfl (by kernel_rfl) (by kernel_rfl) (by kernel_rfl) (fun _ _ _ h => h) (Or.inl ⟨by rfl, ?hyr1_4⟩) (by assumption) ?restr1_4
              case hyr1_4 => (intro w hSw; (try dsimp only at hSw); go_simp <;> with_reducible rfl)
              (try simp only [Act.put, List.setIfInBounds_toArray, List.set_cons_zero, List.set_cons_succ])
              refine wpAnyH_take (i := 6) (oi := { dst := some 68, op := _, type := _, pos := _, after := _, guard := some (3, true) }) (v := ?vr1_5) rfl (by kernel_rfl) (by kernel_rfl) (by kernel_rfl) (fun _ _ _ h => h) (Or.inl ⟨by rfl, ?hyr1_5⟩) (by assumption) ?restr1_5
              case hyr1_5 => (intro w hSw; (try dsimp only at hSw); go_simp <;> with_reducible rfl)
              (try simp only [Act.put, List.setIfInBounds_toArray, List.set_cons_zero, List.set_cons_succ])
              refine wpAnyH_take (i := 7) (oi := { dst := some 69, op := _, type := _, pos := _, after := _, guard := some (3, true) }) (v := ?vr1_6) rfl (by kernel_rfl) (by kernel_rfl) (by kernel_rfl) (fun _ _ _ h => h) (Or.inl ⟨by rfl, ?hyr1_6⟩) (by assumption) ?restr1_6
              case hyr1_6 => (intro w hSw; (try dsimp only at hSw); go_simp <;> with_reducible rfl)
              (try simp only [Act.put, List.setIfInBounds_toArray, List.set_cons_zero, List.set_cons_succ])
              refine wpAnyH_take (i := 8) (oi := { dst := some 70, op := _, type := _, pos := _, after := _, guard := some (3, true) }) (v := ?vr1_7) rfl (by kernel_rfl) (by kernel_rfl) (by kernel_rfl) (fun _ _ _ h => h) (Or.inl ⟨by rfl, ?hyr1_7⟩) (by assumption) ?restr1_7
              case hyr1_7 => (intro w hSw; (try dsimp only at hSw); go_simp <;> with_reducible rfl)
              (try simp only [Act.put, List.setIfInBounds_toArray, List.set_cons_zero, List.set_cons_succ])
              refine wpAnyH_take (i := 9) (oi := { dst := some 71, op := _, type := _, pos := _, after := _, guard := some (3, true) }) (v := ?vr1_8) rfl (by kernel_rfl) (by kernel_rfl) (by kernel_rfl) (fun _ _ _ h => h) (Or.inl ⟨by rfl, ?hyr1_8⟩) (by assumption) ?restr1_8
              case hyr1_8 => (intro w hSw; (try dsimp only at hSw); go_simp <;> with_reducible rfl)
              (try simp only [Act.put, List.setIfInBounds_toArray, List.set_cons_zero, List.set_cons_succ])
              refine wpAnyH_ready (rs := [5]) (by kernel_rfl) (by simp) ?_
              refine AllReadyH.cons (o := { dst := some 67, op := _, type := _, pos := _, after := _, guard := some (3, true) }) rfl (fun K hK => ?_) AllReadyH.nil
              go_simp
              (refine (RNum_calls b _ _ r5.drew).mono ?_; rw [hA.out]; rintro e w6 ⟨rfl, r6, o6⟩)
              (try go_wp2_with fail)
              refine hK.out _ _ (⟨(o6.cell nN).trans cN, (o6.cell nT).trans cT⟩) (fun hHeld => ?_)
              clear hK K
              (try simp only [Act.put, List.setIfInBounds_toArray, List.set_cons_zero, List.set_cons_succ])
              refine wpAnyH_take (i := 10) (oi := { dst := some 72, op := _, type := _, pos := _, after := _, guard := some (3, true) }) (v := ?vr1_9) rfl (by kernel_rfl) (by kernel_rfl) (by kernel_rfl) (fun _ _ _ h => h) (Or.inl ⟨by rfl, ?hyr1_9⟩) (by assumption) ?restr1_9
              case hyr1_9 => (intro w hSw; (try dsimp only at hSw); go_simp <;> with_reducible rfl)
              (try simp only [Act.put, List.setIfInBounds_toArray, List.set_cons_zero, List.set_cons_succ])
              refine wpAnyH_take (i := 11) (oi := { dst := some 73, op := _, type := _, pos := _, after := _, guard := none }) (v := ?vr1_10) rfl (by kernel_rfl) (by kernel_rfl) (by kernel_rfl) (fun _ _ _ h => h) (Or.inl ⟨by rfl, ?hyr1_10⟩) (by assumption) ?restr1_10
              case hyr1_10 => (intro w hSw; (try dsimp only at hSw); go_simp <;> with_reducible rfl)
              (try simp only [Act.put, List.setIfInBounds_toArray, List.set_cons_zero, List.set_cons_succ])
              refine wpAnyH_take (i := 12) (oi := { dst := some 74, op := _, type := _, pos := _, after := _, guard := none }) (v := ?vr1_11) rfl (by kernel_rfl) (by kernel_rfl) (by kernel_rfl) (fun _ _ _ h => h) (Or.inl ⟨by rfl, ?hyr1_11⟩) (by assumption) ?restr1_11
              case hyr1_11 => (intro w hSw; (try dsimp only at hSw); go_simp <;> with_reducible rfl)
              (try simp only [Act.put, List.setIfInBounds_toArray, List.set_cons_zero, List.set_cons_succ])
              refine wpAnyH_take (i := 13) (oi := { dst := some 75, op := _, type := _, pos := _, after := _, guard := some (12, false) }) (v := ?vr1_12) rfl (by kernel_rfl) (by kernel_rfl) (by kernel_rfl) (fun _ _ _ h => h) (Or.inl ⟨by rfl, ?hyr1_12⟩) (by assumption) ?restr1_12
              case hyr1_12 => (intro w hSw; (try dsimp only at hSw); go_simp <;> with_reducible rfl)
              (try simp only [Act.put, List.setIfInBounds_toArray, List.set_cons_zero, List.set_cons_succ])
              refine wpAnyH_take (i := 14) (oi := { dst := some 76, op := _, type := _, pos := _, after := _, guard := some (12, false) }) (v := ?vr1_13) rfl (by kernel_rfl) (by kernel_rfl) (by kernel_rfl) (fun _ _ _ h => h) (Or.inl ⟨by rfl, ?hyr1_13⟩) (by assumption) ?restr1_13
              case hyr1_13 => (intro w hSw; (try dsimp only at hSw); go_simp <;> with_reducible rfl)
              (try simp only [Act.put, List.setIfInBounds_toArray, List.set_cons_zero, List.set_cons_succ])
              refine wpAnyH_take (i := 15) (oi := { dst := some 77, op := _, type := _, pos := _, after := _, guard := some (12, false) }) (v := ?vr1_14) rfl (by kernel_rfl) (by kernel_rfl) (by kernel_rfl) (fun _ _ _ h => h) (Or.inl ⟨by rfl, ?hyr1_14⟩) (by assumption) ?restr1_14
              case hyr1_14 => (intro w hSw; (try dsimp only at hSw); go_simp <;> with_reducible rfl)
              (try simp only [Act.put, List.setIfInBounds_toArray, List.set_cons_zero, List.set_cons_succ])
              refine wpAnyH_take (i := 16) (oi := { dst := some 78, op := _, type := _, pos := _, after := _, guard := some (12, false) }) (v := ?vr1_15) rfl (by kernel_rfl) (by kernel_rfl) (by kernel_rfl) (fun _ _ _ h => h) (Or.inl ⟨by rfl, ?hyr1_15⟩) (by assumption) ?restr1_15
              case hyr1_15 => (intro w hSw; (try dsimp only at hSw); go_simp <;> with_reducible rfl)
              (try simp only [Act.put, List.setIfInBounds_toArray, List.set_cons_zero, List.set_cons_succ])
              refine wpAnyH_take (i := 17) (oi := { dst := some 79, op := _, type := _, pos := _, after := _, guard := some (16, true) }) (v := ?vr1_16) rfl (by kernel_rfl) (by kernel_rfl) (by kernel_rfl) (fun _ _ _ h => h) (Or.inl ⟨by rfl, ?hyr1_16⟩) (by assumption) ?restr1_16
              case hyr1_16 => (intro w hSw; (try dsimp only at hSw); go_simp <;> with_reducible rfl)
              (try simp only [Act.put, List.setIfInBounds_toArray, List.set_cons_zero, List.set_cons_succ])
              refine wpAnyH_take (i := 19) (oi := { dst := some 81, op := _, type := _, pos := _, after := _, guard := some (16, true) }) (v := ?vr1_17) rfl (by kernel_rfl) (by kernel_rfl) (by kernel_rfl) (fun _ _ _ h => h) (Or.inl ⟨by rfl, ?hyr1_17⟩) (by assumption) ?restr1_17
              case hyr1_17 => (intro w hSw; (try dsimp only at hSw); go_simp <;> with_reducible rfl)
              (try simp only [Act.put, List.setIfInBounds_toArray, List.set_cons_zero, List.set_cons_succ])
              refine wpAnyH_take (i := 20) (oi := { dst := some 82, op := _, type := _, pos := _, after := _, guard := some (16, true) }) (v := ?vr1_18) rfl (by kernel_rfl) (by kernel_rfl) (by kernel_rfl) (fun _ _ _ h => h) (Or.inl ⟨by rfl, ?hyr1_18⟩) (by assumption) ?restr1_18
              case hyr1_18 => (intro w hSw; (try dsimp only at hSw); go_simp <;> with_reducible rfl)
              (try simp only [Act.put, List.setIfInBounds_toArray, List.set_cons_zero, List.set_cons_succ])
              refine wpAnyH_take (i := 21) (oi := { dst := some 83, op := _, type := _, pos := _, after := _, guard := some (16, true) }) (v := ?vr1_19) rfl (by kernel_rfl) (by kernel_rfl) (by kernel_rfl) (fun _ _ _ h => h) (Or.inl ⟨by rfl, ?hyr1_19⟩) (by assumption) ?restr1_19
              case hyr1_19 => (intro w hSw; (try dsimp only at hSw); go_simp <;> with_reducible rfl)
              (try simp only [Act.put, List.setIfInBounds_toArray, List.set_cons_zero, List.set_cons_succ])
              refine wpAnyH_take (i := 22) (oi := { dst := some 84, op := _, type := _, pos := _, after := _, guard := some (16, true) }) (v := ?vr1_20) rfl (by kernel_rfl) (by kernel_rfl) (by kernel_rfl) (fun _ _ _ h => h) (Or.inl ⟨by rfl, ?hyr1_20⟩) (by assumption) ?restr1_20
              case hyr1_20 => (intro w hSw; (try dsimp only at hSw); go_simp <;> with_reducible rfl)
              (try simp only [Act.put, List.setIfInBounds_toArray, List.set_cons_zero, List.set_cons_succ])
              refine wpAnyH_ready (rs := [18]) (by kernel_rfl) (by simp) ?_
              refine AllReadyH.cons (o := { dst := some 80, op := _, type := _, pos := _, after := _, guard := some (16, true) }) rfl (fun K hK => ?_) AllReadyH.nil
              go_simp
              (refine (RText_calls b _ _ _ r6).mono ?_; rw [hC.out]; rintro e w7 ⟨rfl, r7, o7⟩)
              (try go_wp2_with fail)
              refine hK.out _ _ (⟨(o7.cell nN).trans ((o6.cell nN).trans cN), (o7.cell nT).trans ((o6.cell nT).trans cT)⟩) (fun hHeld => ?_)
              clear hK K
              (try simp only [Act.put, List.setIfInBounds_toArray, List.set_cons_zero, List.set_cons_succ])
              refine wpAnyH_take (i := 23) (oi := { dst := some 85, op := _, type := _, pos := _, after := _, guard := some (16, true) }) (v := ?vr1_21) rfl (by kernel_rfl) (by kernel_rfl) (by kernel_rfl) (fun _ _ _ h => h) (Or.inl ⟨by rfl, ?hyr1_21⟩) (by assumption) ?restr1_21
              case hyr1_21 => (intro w hSw; (try dsimp only at hSw); go_simp <;> with_reducible rfl)
              (try simp only [Act.put, List.setIfInBounds_toArray, List.set_cons_zero, List.set_cons_succ])
              refine wpAnyH_take (i := 24) (oi := { dst := some 86, op := _, type := _, pos := _, after := _, guard := some (12, false) }) (v := ?vr1_22) rfl (by kernel_rfl) (by kernel_rfl) (by kernel_rfl) (fun _ _ _ h => h) (Or.inl ⟨by rfl, ?hyr1_22⟩) (by assumption) ?restr1_22
              case hyr1_22 => (intro w hSw; (try dsimp only at hSw); go_simp <;> with_reducible rfl)
              (try simp only [Act.put, List.setIfInBounds_toArray, List.set_cons_zero, List.set_cons_succ])
              refine wpAnyH_take (i := 25) (oi := { dst := some 87, op := _, type := _, pos := _, after := _, guard := none }) (v := ?vr1_23) rfl (by kernel_rfl) (by kernel_rfl) (by kernel_rfl) (fun _ _ _ h => h) (Or.inl ⟨by rfl, ?hyr1_23⟩) (by assumption) ?restr1_23
              case hyr1_23 => (intro w hSw; (try dsimp only at hSw); go_simp <;> with_reducible rfl)
              (try simp only [Act.put, List.setIfInBounds_toArray, List.set_cons_zero, List.set_cons_succ])
              refine wpAnyH_take (i := 26) (oi := { dst := some 88, op := _, type := _, pos := _, after := _, guard := none }) (v := ?vr1_24) rfl (by kernel_rfl) (by kernel_rfl) (by kernel_rfl) (fun _ _ _ h => h) (Or.inl ⟨by rfl, ?hyr1_24⟩) (by assumption) ?restr1_24
              case hyr1_24 => (intro w hSw; (try dsimp only at hSw); go_simp <;> with_reducible rfl)
              (try simp only [Act.put, List.setIfInBounds_toArray, List.set_cons_zero, List.set_cons_succ])
              refine wpAnyH_take (i := 27) (oi := { dst := some 89, op := _, type := _, pos := _, after := _, guard := some (26, false) }) (v := ?vr1_25) rfl (by kernel_rfl) (by kernel_rfl) (by kernel_rfl) (fun _ _ _ h => h) (Or.inl ⟨by rfl, ?hyr1_25⟩) (by assumption) ?restr1_25
              case hyr1_25 => (intro w hSw; (try dsimp only at hSw); go_simp <;> with_reducible rfl)
              (try simp only [Act.put, List.setIfInBounds_toArray, List.set_cons_zero, List.set_cons_succ])
              refine wpAnyH_ready (rs := [28]) (by kernel_rfl) (by simp) ?_
              refine AllReadyH.cons (o := { dst := some 90, op := _, type := _, pos := _, after := _, guard := some (26, false) }) rfl (fun K hK => ?_) AllReadyH.nil
              go_simp
              (refine (Bad_calls b _ _ r7).mono ?_; rintro e w8 ⟨rfl, rfl⟩)
              (try go_wp2_with fail)
              refine hK.out _ _ (⟨(o7.cell nN).trans ((o6.cell nN).trans cN), (o7.cell nT).trans ((o6.cell nT).trans cT)⟩) (fun hHeld => ?_)
              clear hK K
              (try simp only [Act.put, List.setIfInBounds_toArray, List.set_cons_zero, List.set_cons_succ])
              refine wpAnyH_take (i := 29) (oi := { dst := some 91, op := _, type := _, pos := _, after := _, guard := none }) (v := ?vr1_26) rfl (by kernel_rfl) (by kernel_rfl) (by kernel_rfl) (fun _ _ _ h => h) (Or.inl ⟨by rfl, ?hyr1_26⟩) (by assumption) ?restr1_26
              case hyr1_26 => (intro w hSw; (try dsimp only at hSw); go_simp <;> with_reducible rfl)
              (try simp only [Act.put, List.setIfInBounds_toArray, List.set_cons_zero, List.set_cons_succ])
              refine wpAnyH_done (by kernel_rfl) ?_ _
              go_wp2
              go_roundw
              case rel => exact ⟨j + 1, hjK, by go_num, r7, (b5.drew.trans (o6.below zb)).trans (o7.below zb)⟩
              case measure => simp [intOf]; omega
            · have hD := Lib.hid (mid_st n m K N T behind j hjm)
              have dm : decide (j < m) = false := by simpa using hjm
              go_wp2_with fail
              refine wp_region_held_drew (S := (fun w' => w'.cell? ⟨bN, oN + j, none⟩ = some (.int .u32 (N j)))) (by kernel_rfl) (cN) (fun hHeld => ?_)
              refine wpAnyH_take (i := 0) (oi := { dst := some 62, op := _, type := _, pos := _, after := _, guard := none }) (v := ?vr2_0) rfl (by kernel_rfl) (by kernel_rfl) (by kernel_rfl) (fun _ _ _ h => h) (Or.inl ⟨by rfl, ?hyr2_0⟩) (by assumption) ?restr2_0
              case hyr2_0 => (intro w hSw; (try dsimp only at hSw); go_simp <;> with_reducible rfl)
              (try simp only [Act.put, List.setIfInBounds_toArray, List.set_cons_zero, List.set_cons_succ])
              refine wpAnyH_take (i := 1) (oi := { dst := some 63, op := _, type := _, pos := _, after := _, guard := none }) (v := ?vr2_1) rfl (by kernel_rfl) (by kernel_rfl) (by kernel_rfl) (fun _ _ _ h => h) (Or.inl ⟨by rfl, ?hyr2_1⟩) (by assumption) ?restr2_1
              case hyr2_1 => (intro w hSw; (try dsimp only at hSw); go_simp <;> with_reducible rfl)
              (try simp only [Act.put, List.setIfInBounds_toArray, List.set_cons_zero, List.set_cons_succ])
              refine wpAnyH_take (i := 2) (oi := { dst := some 64, op := _, type := _, pos := _, after := _, guard := none }) (v := ?vr2_2) rfl (by kernel_rfl) (by kernel_rfl) (by kernel_rfl) (fun _ _ _ h => h) (Or.inl ⟨by rfl, ?hyr2_2⟩) (by assumption) ?restr2_2
              case hyr2_2 => (intro w hSw; (try dsimp only at hSw); go_simp <;> with_reducible rfl)
              (try simp only [Act.put, List.setIfInBounds_toArray, List.set_cons_zero, List.set_cons_succ])
              refine wpAnyH_take (i := 3) (oi := { dst := some 65, op := _, type := _, pos := _, after := _, guard := none }) (v := ?vr2_3) rfl (by kernel_rfl) (by kernel_rfl) (by kernel_rfl) (fun _ _ _ h => h) (Or.inl ⟨by rfl, ?hyr2_3⟩) (by assumption) ?restr2_3
              case hyr2_3 => (intro w hSw; (try dsimp only at hSw); go_simp <;> with_reducible rfl)
              (try simp only [Act.put, List.setIfInBounds_toArray, List.set_cons_zero, List.set_cons_succ])
              refine wpAnyH_take (i := 4) (oi := { dst := some 66, op := _, type := _, pos := _, after := _, guard := some (3, true) }) (v := ?vr2_4) rfl (by kernel_rfl) (by kernel_rfl) (by kernel_rfl) (fun _ _ _ h => h) (Or.inl ⟨by rfl, ?hyr2_4⟩) (by assumption) ?restr2_4
              case hyr2_4 => (intro w hSw; (try dsimp only at hSw); go_simp <;> with_reducible rfl)
              (try simp only [Act.put, List.setIfInBounds_toArray, List.set_cons_zero, List.set_cons_succ])
              refine wpAnyH_take (i := 6) (oi := { dst := some 68, op := _, type := _, pos := _, after := _, guard := some (3, true) }) (v := ?vr2_5) rfl (by kernel_rfl) (by kernel_rfl) (by kernel_rfl) (fun _ _ _ h => h) (Or.inl ⟨by rfl, ?hyr2_5⟩) (by assumption) ?restr2_5
              case hyr2_5 => (intro w hSw; (try dsimp only at hSw); go_simp <;> with_reducible rfl)
              (try simp only [Act.put, List.setIfInBounds_toArray, List.set_cons_zero, List.set_cons_succ])
              refine wpAnyH_take (i := 7) (oi := { dst := some 69, op := _, type := _, pos := _, after := _, guard := some (3, true) }) (v := ?vr2_6) rfl (by kernel_rfl) (by kernel_rfl) (by kernel_rfl) (fun _ _ _ h => h) (Or.inl ⟨by rfl, ?hyr2_6⟩) (by assumption) ?restr2_6
              case hyr2_6 => (intro w hSw; (try dsimp only at hSw); go_simp <;> with_reducible rfl)
              (try simp only [Act.put, List.setIfInBounds_toArray, List.set_cons_zero, List.set_cons_succ])
              refine wpAnyH_take (i := 8) (oi := { dst := some 70, op := _, type := _, pos := _, after := _, guard := some (3, true) }) (v := ?vr2_7) rfl (by kernel_rfl) (by kernel_rfl) (by kernel_rfl) (fun _ _ _ h => h) (Or.inl ⟨by rfl, ?hyr2_7⟩) (by assumption) ?restr2_7
              case hyr2_7 => (intro w hSw; (try dsimp only at hSw); go_simp <;> with_reducible rfl)
              (try simp only [Act.put, List.setIfInBounds_toArray, List.set_cons_zero, List.set_cons_succ])
              refine wpAnyH_take (i := 9) (oi := { dst := some 71, op := _, type := _, pos := _, after := _, guard := some (3, true) }) (v := ?vr2_8) rfl (by kernel_rfl) (by kernel_rfl) (by kernel_rfl) (fun _ _ _ h => h) (Or.inl ⟨by rfl, ?hyr2_8⟩) (by assumption) ?restr2_8
              case hyr2_8 => (intro w hSw; (try dsimp only at hSw); go_simp <;> with_reducible rfl)
              (try simp only [Act.put, List.setIfInBounds_toArray, List.set_cons_zero, List.set_cons_succ])
              refine wpAnyH_ready (rs := [5]) (by kernel_rfl) (by simp) ?_
              refine AllReadyH.cons (o := { dst := some 67, op := _, type := _, pos := _, after := _, guard := some (3, true) }) rfl (fun K hK => ?_) AllReadyH.nil
              go_simp
              (refine (RNum_calls b _ _ r5.drew).mono ?_; rw [hA.out, hD.out]; rintro e w6 ⟨rfl, r6, o6⟩)
              (try go_wp2_with fail)
              refine hK.out _ _ ((o6.cell nN).trans cN) (fun hHeld => ?_)
              clear hK K
              (try simp only [Act.put, List.setIfInBounds_toArray, List.set_cons_zero, List.set_cons_succ])
              refine wpAnyH_take (i := 10) (oi := { dst := some 72, op := _, type := _, pos := _, after := _, guard := some (3, true) }) (v := ?vr2_9) rfl (by kernel_rfl) (by kernel_rfl) (by kernel_rfl) (fun _ _ _ h => h) (Or.inl ⟨by rfl, ?hyr2_9⟩) (by assumption) ?restr2_9
              case hyr2_9 => (intro w hSw; (try dsimp only at hSw); go_simp <;> with_reducible rfl)
              (try simp only [Act.put, List.setIfInBounds_toArray, List.set_cons_zero, List.set_cons_succ])
              refine wpAnyH_take (i := 11) (oi := { dst := some 73, op := _, type := _, pos := _, after := _, guard := none }) (v := ?vr2_10) rfl (by kernel_rfl) (by kernel_rfl) (by kernel_rfl) (fun _ _ _ h => h) (Or.inl ⟨by rfl, ?hyr2_10⟩) (by assumption) ?restr2_10
              case hyr2_10 => (intro w hSw; (try dsimp only at hSw); go_simp <;> with_reducible rfl)
              (try simp only [Act.put, List.setIfInBounds_toArray, List.set_cons_zero, List.set_cons_succ])
              refine wpAnyH_take (i := 12) (oi := { dst := some 74, op := _, type := _, pos := _, after := _, guard := none }) (v := ?vr2_11) rfl (by kernel_rfl) (by kernel_rfl) (by kernel_rfl) (fun _ _ _ h => h) (Or.inl ⟨by rfl, ?hyr2_11⟩) (by assumption) ?restr2_11
              case hyr2_11 => (intro w hSw; (try dsimp only at hSw); go_simp <;> with_reducible rfl)
              (try simp only [Act.put, List.setIfInBounds_toArray, List.set_cons_zero, List.set_cons_succ])
              refine wpAnyH_take (i := 13) (oi := { dst := some 75, op := _, type := _, pos := _, after := _, guard := some (12, false) }) (v := ?vr2_12) rfl (by kernel_rfl) (by kernel_rfl) (by kernel_rfl) (fun _ _ _ h => h) (Or.inl ⟨by rfl, ?hyr2_12⟩) (by assumption) ?restr2_12
              case hyr2_12 => (intro w hSw; (try dsimp only at hSw); go_simp <;> with_reducible rfl)
              (try simp only [Act.put, List.setIfInBounds_toArray, List.set_cons_zero, List.set_cons_succ])
              refine wpAnyH_take (i := 14) (oi := { dst := some 76, op := _, type := _, pos := _, after := _, guard := some (12, false) }) (v := ?vr2_13) rfl (by kernel_rfl) (by kernel_rfl) (by kernel_rfl) (fun _ _ _ h => h) (Or.inl ⟨by rfl, ?hyr2_13⟩) (by assumption) ?restr2_13
              case hyr2_13 => (intro w hSw; (try dsimp only at hSw); go_simp <;> with_reducible rfl)
              (try simp only [Act.put, List.setIfInBounds_toArray, List.set_cons_zero, List.set_cons_succ])
              refine wpAnyH_take (i := 15) (oi := { dst := some 77, op := _, type := _, pos := _, after := _, guard := some (12, false) }) (v := ?vr2_14) rfl (by kernel_rfl) (by kernel_rfl) (by kernel_rfl) (fun _ _ _ h => h) (Or.inl ⟨by rfl, ?hyr2_14⟩) (by assumption) ?restr2_14
              case hyr2_14 => (intro w hSw; (try dsimp only at hSw); go_simp <;> with_reducible rfl)
              (try simp only [Act.put, List.setIfInBounds_toArray, List.set_cons_zero, List.set_cons_succ])
              refine wpAnyH_take (i := 16) (oi := { dst := some 78, op := _, type := _, pos := _, after := _, guard := some (12, false) }) (v := ?vr2_15) rfl (by kernel_rfl) (by kernel_rfl) (by kernel_rfl) (fun _ _ _ h => h) (Or.inl ⟨by rfl, ?hyr2_15⟩) (by assumption) ?restr2_15
              case hyr2_15 => (intro w hSw; (try dsimp only at hSw); go_simp <;> with_reducible rfl)
              (try simp only [Act.put, List.setIfInBounds_toArray, List.set_cons_zero, List.set_cons_succ])
              refine wpAnyH_take (i := 17) (oi := { dst := some 79, op := _, type := _, pos := _, after := _, guard := some (16, true) }) (v := undef) rfl (by kernel_rfl) (by kernel_rfl) (by kernel_rfl) (fun _ _ _ h => h) (Or.inr ⟨by rfl, rfl⟩) (by assumption) ?_
              (try simp only [Act.put, List.setIfInBounds_toArray, List.set_cons_zero, List.set_cons_succ])
              refine wpAnyH_take (i := 18) (oi := { dst := some 80, op := _, type := _, pos := _, after := _, guard := some (16, true) }) (v := undef) rfl (by kernel_rfl) (by kernel_rfl) (by kernel_rfl) (fun _ _ _ h => h) (Or.inr ⟨by rfl, rfl⟩) (by assumption) ?_
              (try simp only [Act.put, List.setIfInBounds_toArray, List.set_cons_zero, List.set_cons_succ])
              refine wpAnyH_take (i := 19) (oi := { dst := some 81, op := _, type := _, pos := _, after := _, guard := some (16, true) }) (v := undef) rfl (by kernel_rfl) (by kernel_rfl) (by kernel_rfl) (fun _ _ _ h => h) (Or.inr ⟨by rfl, rfl⟩) (by assumption) ?_
              (try simp only [Act.put, List.setIfInBounds_toArray, List.set_cons_zero, List.set_cons_succ])
              refine wpAnyH_take (i := 20) (oi := { dst := some 82, op := _, type := _, pos := _, after := _, guard := some (16, true) }) (v := undef) rfl (by kernel_rfl) (by kernel_rfl) (by kernel_rfl) (fun _ _ _ h => h) (Or.inr ⟨by rfl, rfl⟩) (by assumption) ?_
              (try simp only [Act.put, List.setIfInBounds_toArray, List.set_cons_zero, List.set_cons_succ])
              refine wpAnyH_take (i := 21) (oi := { dst := some 83, op := _, type := _, pos := _, after := _, guard := some (16, true) }) (v := undef) rfl (by kernel_rfl) (by kernel_rfl) (by kernel_rfl) (fun _ _ _ h => h) (Or.inr ⟨by rfl, rfl⟩) (by assumption) ?_
              (try simp only [Act.put, List.setIfInBounds_toArray, List.set_cons_zero, List.set_cons_succ])
              refine wpAnyH_take (i := 22) (oi := { dst := some 84, op := _, type := _, pos := _, after := _, guard := some (16, true) }) (v := undef) rfl (by kernel_rfl) (by kernel_rfl) (by kernel_rfl) (fun _ _ _ h => h) (Or.inr ⟨by rfl, rfl⟩) (by assumption) ?_
              (try simp only [Act.put, List.setIfInBounds_toArray, List.set_cons_zero, List.set_cons_succ])
              refine wpAnyH_take (i := 23) (oi := { dst := some 85, op := _, type := _, pos := _, after := _, guard := some (16, true) }) (v := undef) rfl (by kernel_rfl) (by kernel_rfl) (by kernel_rfl) (fun _ _ _ h => h) (Or.inr ⟨by rfl, rfl⟩) (by assumption) ?_
              (try simp only [Act.put, List.setIfInBounds_toArray, List.set_cons_zero, List.set_cons_succ])
              refine wpAnyH_take (i := 24) (oi := { dst := some 86, op := _, type := _, pos := _, after := _, guard := some (12, false) }) (v := ?vr2_23) rfl (by kernel_rfl) (by kernel_rfl) (by kernel_rfl) (fun _ _ _ h => h) (Or.inl ⟨by rfl, ?hyr2_23⟩) (by assumption) ?restr2_23
              case hyr2_23 => (intro w hSw; (try dsimp only at hSw); go_simp <;> with_reducible rfl)
              (try simp only [Act.put, List.setIfInBounds_toArray, List.set_cons_zero, List.set_cons_succ])
              refine wpAnyH_take (i := 25) (oi := { dst := some 87, op := _, type := _, pos := _, after := _, guard := none }) (v := ?vr2_24) rfl (by kernel_rfl) (by kernel_rfl) (by kernel_rfl) (fun _ _ _ h => h) (Or.inl ⟨by rfl, ?hyr2_24⟩) (by assumption) ?restr2_24
              case hyr2_24 => (intro w hSw; (try dsimp only at hSw); go_simp <;> with_reducible rfl)
              (try simp only [Act.put, List.setIfInBounds_toArray, List.set_cons_zero, List.set_cons_succ])
              refine wpAnyH_take (i := 26) (oi := { dst := some 88, op := _, type := _, pos := _, after := _, guard := none }) (v := ?vr2_25) rfl (by kernel_rfl) (by kernel_rfl) (by kernel_rfl) (fun _ _ _ h => h) (Or.inl ⟨by rfl, ?hyr2_25⟩) (by assumption) ?restr2_25
              case hyr2_25 => (intro w hSw; (try dsimp only at hSw); go_simp <;> with_reducible rfl)
              (try simp only [Act.put, List.setIfInBounds_toArray, List.set_cons_zero, List.set_cons_succ])
              refine wpAnyH_take (i := 27) (oi := { dst := some 89, op := _, type := _, pos := _, after := _, guard := some (26, false) }) (v := ?vr2_26) rfl (by kernel_rfl) (by kernel_rfl) (by kernel_rfl) (fun _ _ _ h => h) (Or.inl ⟨by rfl, ?hyr2_26⟩) (by assumption) ?restr2_26
              case hyr2_26 => (intro w hSw; (try dsimp only at hSw); go_simp <;> with_reducible rfl)
              (try simp only [Act.put, List.setIfInBounds_toArray, List.set_cons_zero, List.set_cons_succ])
              refine wpAnyH_ready (rs := [28]) (by kernel_rfl) (by simp) ?_
              refine AllReadyH.cons (o := { dst := some 90, op := _, type := _, pos := _, after := _, guard := some (26, false) }) rfl (fun K hK => ?_) AllReadyH.nil
              go_simp
              (refine (Bad_calls b _ _ r6).mono ?_; rintro e w8 ⟨rfl, rfl⟩)
              (try go_wp2_with fail)
              refine hK.out _ _ ((o6.cell nN).trans cN) (fun hHeld => ?_)
              clear hK K
              (try simp only [Act.put, List.setIfInBounds_toArray, List.set_cons_zero, List.set_cons_succ])
              refine wpAnyH_take (i := 29) (oi := { dst := some 91, op := _, type := _, pos := _, after := _, guard := none }) (v := ?vr2_27) rfl (by kernel_rfl) (by kernel_rfl) (by kernel_rfl) (fun _ _ _ h => h) (Or.inl ⟨by rfl, ?hyr2_27⟩) (by assumption) ?restr2_27
              case hyr2_27 => (intro w hSw; (try dsimp only at hSw); go_simp <;> with_reducible rfl)
              (try simp only [Act.put, List.setIfInBounds_toArray, List.set_cons_zero, List.set_cons_succ])
              refine wpAnyH_done (by kernel_rfl) ?_ _
              go_wp2
              go_roundw
              case rel => exact ⟨j + 1, hjK, by go_num, r6, b5.drew.trans (o6.below zb)⟩
              case measure => simp [intOf]; omega
          · have hjm : j < m := by omega
            obtain rfl := hT.addr (by omega)
            have ltT : bT < w.heap.size := lt_of_cell (hT.cell j (by omega))
            have cT : wr.cell? ⟨bT, oT + j, none⟩ = some (.string (T j)) := (b5.cell ltT).trans (hT.cell j (by omega))
            have nT : bT ≠ b := by omega
            have iT : j < lT := by omega
            have hC := Lib.hid (mid_text n m K N T behind j hjm (Nat.le_trans (seg_size n m N T j K hjK hjm) hsz.out))
            rw [st_mid n m K N T behind j hjK hjn] at r5
            have dn : decide (j < n) = false := by simpa using hjn
            go_wp2_with fail
            refine wp_region_held_drew (S := (fun w' => w'.cell? ⟨bT, oT + j, none⟩ = some (.string (T j)))) (by kernel_rfl) (cT) (fun hHeld => ?_)
            refine wpAnyH_take (i := 0) (oi := { dst := some 62, op := _, type := _, pos := _, after := _, guard := none }) (v := ?vr3_0) rfl (by kernel_rfl) (by kernel_rfl) (by kernel_rfl) (fun _ _ _ h => h) (Or.inl ⟨by rfl, ?hyr3_0⟩) (by assumption) ?restr3_0
            case hyr3_0 => (intro w hSw; (try dsimp only at hSw); go_simp <;> with_reducible rfl)
            (try simp only [Act.put, List.setIfInBounds_toArray, List.set_cons_zero, List.set_cons_succ])
            refine wpAnyH_take (i := 1) (oi := { dst := some 63, op := _, type := _, pos := _, after := _, guard := none }) (v := ?vr3_1) rfl (by kernel_rfl) (by kernel_rfl) (by kernel_rfl) (fun _ _ _ h => h) (Or.inl ⟨by rfl, ?hyr3_1⟩) (by assumption) ?restr3_1
            case hyr3_1 => (intro w hSw; (try dsimp only at hSw); go_simp <;> with_reducible rfl)
            (try simp only [Act.put, List.setIfInBounds_toArray, List.set_cons_zero, List.set_cons_succ])
            refine wpAnyH_take (i := 2) (oi := { dst := some 64, op := _, type := _, pos := _, after := _, guard := none }) (v := ?vr3_2) rfl (by kernel_rfl) (by kernel_rfl) (by kernel_rfl) (fun _ _ _ h => h) (Or.inl ⟨by rfl, ?hyr3_2⟩) (by assumption) ?restr3_2
            case hyr3_2 => (intro w hSw; (try dsimp only at hSw); go_simp <;> with_reducible rfl)
            (try simp only [Act.put, List.setIfInBounds_toArray, List.set_cons_zero, List.set_cons_succ])
            refine wpAnyH_take (i := 3) (oi := { dst := some 65, op := _, type := _, pos := _, after := _, guard := none }) (v := ?vr3_3) rfl (by kernel_rfl) (by kernel_rfl) (by kernel_rfl) (fun _ _ _ h => h) (Or.inl ⟨by rfl, ?hyr3_3⟩) (by assumption) ?restr3_3
            case hyr3_3 => (intro w hSw; (try dsimp only at hSw); go_simp <;> with_reducible rfl)
            (try simp only [Act.put, List.setIfInBounds_toArray, List.set_cons_zero, List.set_cons_succ])
            refine wpAnyH_take (i := 4) (oi := { dst := some 66, op := _, type := _, pos := _, after := _, guard := some (3, true) }) (v := undef) rfl (by kernel_rfl) (by kernel_rfl) (by kernel_rfl) (fun _ _ _ h => h) (Or.inr ⟨by rfl, rfl⟩) (by assumption) ?_
            (try simp only [Act.put, List.setIfInBounds_toArray, List.set_cons_zero, List.set_cons_succ])
            refine wpAnyH_take (i := 5) (oi := { dst := some 67, op := _, type := _, pos := _, after := _, guard := some (3, true) }) (v := undef) rfl (by kernel_rfl) (by kernel_rfl) (by kernel_rfl) (fun _ _ _ h => h) (Or.inr ⟨by rfl, rfl⟩) (by assumption) ?_
            (try simp only [Act.put, List.setIfInBounds_toArray, List.set_cons_zero, List.set_cons_succ])
            refine wpAnyH_take (i := 6) (oi := { dst := some 68, op := _, type := _, pos := _, after := _, guard := some (3, true) }) (v := undef) rfl (by kernel_rfl) (by kernel_rfl) (by kernel_rfl) (fun _ _ _ h => h) (Or.inr ⟨by rfl, rfl⟩) (by assumption) ?_
            (try simp only [Act.put, List.setIfInBounds_toArray, List.set_cons_zero, List.set_cons_succ])
            refine wpAnyH_take (i := 7) (oi := { dst := some 69, op := _, type := _, pos := _, after := _, guard := some (3, true) }) (v := undef) rfl (by kernel_rfl) (by kernel_rfl) (by kernel_rfl) (fun _ _ _ h => h) (Or.inr ⟨by rfl, rfl⟩) (by assumption) ?_
            (try simp only [Act.put, List.setIfInBounds_toArray, List.set_cons_zero, List.set_cons_succ])
            refine wpAnyH_take (i := 8) (oi := { dst := some 70, op := _, type := _, pos := _, after := _, guard := some (3, true) }) (v := undef) rfl (by kernel_rfl) (by kernel_rfl) (by kernel_rfl) (fun _ _ _ h => h) (Or.inr ⟨by rfl, rfl⟩) (by assumption) ?_
            (try simp only [Act.put, List.setIfInBounds_toArray, List.set_cons_zero, List.set_cons_succ])
            refine wpAnyH_take (i := 9) (oi := { dst := some 71, op := _, type := _, pos := _, after := _, guard := some (3, true) }) (v := undef) rfl (by kernel_rfl) (by kernel_rfl) (by kernel_rfl) (fun _ _ _ h => h) (Or.inr ⟨by rfl, rfl⟩) (by assumption) ?_
            (try simp only [Act.put, List.setIfInBounds_toArray, List.set_cons_zero, List.set_cons_succ])
            refine wpAnyH_take (i := 10) (oi := { dst := some 72, op := _, type := _, pos := _, after := _, guard := some (3, true) }) (v := undef) rfl (by kernel_rfl) (by kernel_rfl) (by kernel_rfl) (fun _ _ _ h => h) (Or.inr ⟨by rfl, rfl⟩) (by assumption) ?_
            (try simp only [Act.put, List.setIfInBounds_toArray, List.set_cons_zero, List.set_cons_succ])
            refine wpAnyH_take (i := 11) (oi := { dst := some 73, op := _, type := _, pos := _, after := _, guard := none }) (v := ?vr3_11) rfl (by kernel_rfl) (by kernel_rfl) (by kernel_rfl) (fun _ _ _ h => h) (Or.inl ⟨by rfl, ?hyr3_11⟩) (by assumption) ?restr3_11
            case hyr3_11 => (intro w hSw; (try dsimp only at hSw); go_simp <;> with_reducible rfl)
            (try simp only [Act.put, List.setIfInBounds_toArray, List.set_cons_zero, List.set_cons_succ])
            refine wpAnyH_take (i := 12) (oi := { dst := some 74, op := _, type := _, pos := _, after := _, guard := none }) (v := ?vr3_12) rfl (by kernel_rfl) (by kernel_rfl) (by kernel_rfl) (fun _ _ _ h => h) (Or.inl ⟨by rfl, ?hyr3_12⟩) (by assumption) ?restr3_12
            case hyr3_12 => (intro w hSw; (try dsimp only at hSw); go_simp <;> with_reducible rfl)
            (try simp only [Act.put, List.setIfInBounds_toArray, List.set_cons_zero, List.set_cons_succ])
            refine wpAnyH_take (i := 13) (oi := { dst := some 75, op := _, type := _, pos := _, after := _, guard := some (12, false) }) (v := ?vr3_13) rfl (by kernel_rfl) (by kernel_rfl) (by kernel_rfl) (fun _ _ _ h => h) (Or.inl ⟨by rfl, ?hyr3_13⟩) (by assumption) ?restr3_13
            case hyr3_13 => (intro w hSw; (try dsimp only at hSw); go_simp <;> with_reducible rfl)
            (try simp only [Act.put, List.setIfInBounds_toArray, List.set_cons_zero, List.set_cons_succ])
            refine wpAnyH_take (i := 14) (oi := { dst := some 76, op := _, type := _, pos := _, after := _, guard := some (12, false) }) (v := ?vr3_14) rfl (by kernel_rfl) (by kernel_rfl) (by kernel_rfl) (fun _ _ _ h => h) (Or.inl ⟨by rfl, ?hyr3_14⟩) (by assumption) ?restr3_14
            case hyr3_14 => (intro w hSw; (try dsimp only at hSw); go_simp <;> with_reducible rfl)
            (try simp only [Act.put, List.setIfInBounds_toArray, List.set_cons_zero, List.set_cons_succ])
            refine wpAnyH_take (i := 15) (oi := { dst := some 77, op := _, type := _, pos := _, after := _, guard := some (12, false) }) (v := ?vr3_15) rfl (by kernel_rfl) (by kernel_rfl) (by kernel_rfl) (fun _ _ _ h => h) (Or.inl ⟨by rfl, ?hyr3_15⟩) (by assumption) ?restr3_15
            case hyr3_15 => (intro w hSw; (try dsimp only at hSw); go_simp <;> with_reducible rfl)
            (try simp only [Act.put, List.setIfInBounds_toArray, List.set_cons_zero, List.set_cons_succ])
            refine wpAnyH_take (i := 16) (oi := { dst := some 78, op := _, type := _, pos := _, after := _, guard := some (12, false) }) (v := ?vr3_16) rfl (by kernel_rfl) (by kernel_rfl) (by kernel_rfl) (fun _ _ _ h => h) (Or.inl ⟨by rfl, ?hyr3_16⟩) (by assumption) ?restr3_16
            case hyr3_16 => (intro w hSw; (try dsimp only at hSw); go_simp <;> with_reducible rfl)
            (try simp only [Act.put, List.setIfInBounds_toArray, List.set_cons_zero, List.set_cons_succ])
            refine wpAnyH_take (i := 17) (oi := { dst := some 79, op := _, type := _, pos := _, after := _, guard := some (16, true) }) (v := ?vr3_17) rfl (by kernel_rfl) (by kernel_rfl) (by kernel_rfl) (fun _ _ _ h => h) (Or.inl ⟨by rfl, ?hyr3_17⟩) (by assumption) ?restr3_17
            case hyr3_17 => (intro w hSw; (try dsimp only at hSw); go_simp <;> with_reducible rfl)
            (try simp only [Act.put, List.setIfInBounds_toArray, List.set_cons_zero, List.set_cons_succ])
            refine wpAnyH_take (i := 19) (oi := { dst := some 81, op := _, type := _, pos := _, after := _, guard := some (16, true) }) (v := ?vr3_18) rfl (by kernel_rfl) (by kernel_rfl) (by kernel_rfl) (fun _ _ _ h => h) (Or.inl ⟨by rfl, ?hyr3_18⟩) (by assumption) ?restr3_18
            case hyr3_18 => (intro w hSw; (try dsimp only at hSw); go_simp <;> with_reducible rfl)
            (try simp only [Act.put, List.setIfInBounds_toArray, List.set_cons_zero, List.set_cons_succ])
            refine wpAnyH_take (i := 20) (oi := { dst := some 82, op := _, type := _, pos := _, after := _, guard := some (16, true) }) (v := ?vr3_19) rfl (by kernel_rfl) (by kernel_rfl) (by kernel_rfl) (fun _ _ _ h => h) (Or.inl ⟨by rfl, ?hyr3_19⟩) (by assumption) ?restr3_19
            case hyr3_19 => (intro w hSw; (try dsimp only at hSw); go_simp <;> with_reducible rfl)
            (try simp only [Act.put, List.setIfInBounds_toArray, List.set_cons_zero, List.set_cons_succ])
            refine wpAnyH_take (i := 21) (oi := { dst := some 83, op := _, type := _, pos := _, after := _, guard := some (16, true) }) (v := ?vr3_20) rfl (by kernel_rfl) (by kernel_rfl) (by kernel_rfl) (fun _ _ _ h => h) (Or.inl ⟨by rfl, ?hyr3_20⟩) (by assumption) ?restr3_20
            case hyr3_20 => (intro w hSw; (try dsimp only at hSw); go_simp <;> with_reducible rfl)
            (try simp only [Act.put, List.setIfInBounds_toArray, List.set_cons_zero, List.set_cons_succ])
            refine wpAnyH_take (i := 22) (oi := { dst := some 84, op := _, type := _, pos := _, after := _, guard := some (16, true) }) (v := ?vr3_21) rfl (by kernel_rfl) (by kernel_rfl) (by kernel_rfl) (fun _ _ _ h => h) (Or.inl ⟨by rfl, ?hyr3_21⟩) (by assumption) ?restr3_21
            case hyr3_21 => (intro w hSw; (try dsimp only at hSw); go_simp <;> with_reducible rfl)
            (try simp only [Act.put, List.setIfInBounds_toArray, List.set_cons_zero, List.set_cons_succ])
            refine wpAnyH_ready (rs := [18]) (by kernel_rfl) (by simp) ?_
            refine AllReadyH.cons (o := { dst := some 80, op := _, type := _, pos := _, after := _, guard := some (16, true) }) rfl (fun K hK => ?_) AllReadyH.nil
            go_simp
            (refine (RText_calls b _ _ _ r5.drew).mono ?_; rw [hC.out]; rintro e w7 ⟨rfl, r7, o7⟩)
            (try go_wp2_with fail)
            refine hK.out _ _ ((o7.cell nT).trans cT) (fun hHeld => ?_)
            clear hK K
            (try simp only [Act.put, List.setIfInBounds_toArray, List.set_cons_zero, List.set_cons_succ])
            refine wpAnyH_take (i := 23) (oi := { dst := some 85, op := _, type := _, pos := _, after := _, guard := some (16, true) }) (v := ?vr3_22) rfl (by kernel_rfl) (by kernel_rfl) (by kernel_rfl) (fun _ _ _ h => h) (Or.inl ⟨by rfl, ?hyr3_22⟩) (by assumption) ?restr3_22
            case hyr3_22 => (intro w hSw; (try dsimp only at hSw); go_simp <;> with_reducible rfl)
            (try simp only [Act.put, List.setIfInBounds_toArray, List.set_cons_zero, List.set_cons_succ])
            refine wpAnyH_take (i := 24) (oi := { dst := some 86, op := _, type := _, pos := _, after := _, guard := some (12, false) }) (v := ?vr3_23) rfl (by kernel_rfl) (by kernel_rfl) (by kernel_rfl) (fun _ _ _ h => h) (Or.inl ⟨by rfl, ?hyr3_23⟩) (by assumption) ?restr3_23
            case hyr3_23 => (intro w hSw; (try dsimp only at hSw); go_simp <;> with_reducible rfl)
            (try simp only [Act.put, List.setIfInBounds_toArray, List.set_cons_zero, List.set_cons_succ])
            refine wpAnyH_take (i := 25) (oi := { dst := some 87, op := _, type := _, pos := _, after := _, guard := none }) (v := ?vr3_24) rfl (by kernel_rfl) (by kernel_rfl) (by kernel_rfl) (fun _ _ _ h => h) (Or.inl ⟨by rfl, ?hyr3_24⟩) (by assumption) ?restr3_24
            case hyr3_24 => (intro w hSw; (try dsimp only at hSw); go_simp <;> with_reducible rfl)
            (try simp only [Act.put, List.setIfInBounds_toArray, List.set_cons_zero, List.set_cons_succ])
            refine wpAnyH_take (i := 26) (oi := { dst := some 88, op := _, type := _, pos := _, after := _, guard := none }) (v := ?vr3_25) rfl (by kernel_rfl) (by kernel_rfl) (by kernel_rfl) (fun _ _ _ h => h) (Or.inl ⟨by rfl, ?hyr3_25⟩) (by assumption) ?restr3_25
            case hyr3_25 => (intro w hSw; (try dsimp only at hSw); go_simp <;> with_reducible rfl)
            (try simp only [Act.put, List.setIfInBounds_toArray, List.set_cons_zero, List.set_cons_succ])
            refine wpAnyH_take (i := 27) (oi := { dst := some 89, op := _, type := _, pos := _, after := _, guard := some (26, false) }) (v := ?vr3_26) rfl (by kernel_rfl) (by kernel_rfl) (by kernel_rfl) (fun _ _ _ h => h) (Or.inl ⟨by rfl, ?hyr3_26⟩) (by assumption) ?restr3_26
            case hyr3_26 => (intro w hSw; (try dsimp only at hSw); go_simp <;> with_reducible rfl)
            (try simp only [Act.put, List.setIfInBounds_toArray, List.set_cons_zero, List.set_cons_succ])
            refine wpAnyH_ready (rs := [28]) (by kernel_rfl) (by simp) ?_
            refine AllReadyH.cons (o := { dst := some 90, op := _, type := _, pos := _, after := _, guard := some (26, false) }) rfl (fun K hK => ?_) AllReadyH.nil
            go_simp
            (refine (Bad_calls b _ _ r7).mono ?_; rintro e w8 ⟨rfl, rfl⟩)
            (try go_wp2_with fail)
            refine hK.out _ _ ((o7.cell nT).trans cT) (fun hHeld => ?_)
            clear hK K
            (try simp only [Act.put, List.setIfInBounds_toArray, List.set_cons_zero, List.set_cons_succ])
            refine wpAnyH_take (i := 29) (oi := { dst := some 91, op := _, type := _, pos := _, after := _, guard := none }) (v := ?vr3_27) rfl (by kernel_rfl) (by kernel_rfl) (by kernel_rfl) (fun _ _ _ h => h) (Or.inl ⟨by rfl, ?hyr3_27⟩) (by assumption) ?restr3_27
            case hyr3_27 => (intro w hSw; (try dsimp only at hSw); go_simp <;> with_reducible rfl)
            (try simp only [Act.put, List.setIfInBounds_toArray, List.set_cons_zero, List.set_cons_succ])
            refine wpAnyH_done (by kernel_rfl) ?_ _
            go_wp2
            go_roundw
            case rel => exact ⟨j + 1, hjK, by go_num, r7, b5.drew.trans (o7.below zb)⟩
            case measure => simp [intOf]; omega
        · obtain rfl : j = K := by omega
          rw [st_last] at r5
          clear hN hT
          go_wp2_with fail
          refine (Left_calls b _ _ r5).mono ?_
          rintro e w' ⟨rfl, rfl⟩
          go_wp2_with fail
          refine (Whole_calls b _ _ r5).mono ?_
          rintro e w' ⟨rfl, rfl⟩
          go_wp2
          go_ret
          exact ⟨ret_bool (size_isEmpty behind), b5⟩

theorem own : ownKnob Try.prog.godebug = none := by kernel_rfl
theorem laidOut : laidOutB Try.prog = true := by kernel_rfl
set_option maxRecDepth 100000 in
theorem lifted (os : Os) (started : os.Started) (H : Type) (enc : TypeId × Value → H) :
    ReturnsInHanded {} Try.checked os 5 .any (Rows.octetBackSpec.pre6 enc Try.prog Try.f5 Rows.octetBackRow.domain false) (Rows.octetBackSpec.post enc Try.prog Try.f5 false true false false) := by
  refine returnsInHanded_of_change_sized (C := Try.checked) own started (by kernel_rfl) Try.func5
    (ChangeSpec.witness6 (enc := enc) (C := Try.checked) false ⟨#[], #[.slice none 0 0, .slice none 0 0, .string ByteArray.empty], []⟩ 8 (by kernel_rfl) (by kernel_rfl) (by kernel_rfl) (by kernel_rfl)) ?_
  intro W base args ds gs before hval0 hW hcnd hsz0 _
  have hval : ∀ (j : Nat) t v, Try.f5.params[j]? = some t → args[j]? = some v → Value.okWide Try.prog W .any base t v := hval0
  have hsz : (DataW.weightsEach Try.prog (Try.f5.params.toList ++ Rows.octetBackSpec.plain.varTypes Try.prog) (ds ++ gs)).all (· ≤ reachBytes) = true := hsz0
  have hW' := hW
  obtain ⟨p, q, hA0, hV, rfl, hfz, hnd⟩ := hW
  have hA : DataW.TrodAll enc Try.prog W 0 (fun _ => true) true Try.f5.params.toList args.toList ds p := hA0
  rw [Try.params5] at hA hval hsz
  obtain ⟨v0, vs0, d0, ds0, p0, q0, hargs, rfl, rfl, h0, r0⟩ := trodAll_cons hA
  obtain ⟨v1, vs1, d1, ds1, p1, q1, rfl, rfl, rfl, h1, r1⟩ := trodAll_cons r0
  obtain ⟨v2, vs2, d2, ds2, p2, q2, rfl, rfl, rfl, h2, r2⟩ := trodAll_cons r1
  obtain ⟨rfl, rfl, rfl⟩ := trodAll_nil r2
  obtain rfl : args = #[v0, v1, v2] := by cases args; simp_all
  obtain ⟨rfl, rfl⟩ := trodVars_none hV
  have k0 := h0
  have lt0 : ∀ x ∈ p0, x.block < W.heap.size := by obtain ⟨m, hm⟩ := k0; exact DataW.trod_lt m _ _ _ hm
  have ok0 := hval 0 40 v0 rfl rfl
  have k1 := h1
  have lt1 : ∀ x ∈ p1, x.block < W.heap.size := by obtain ⟨m, hm⟩ := k1; exact DataW.trod_lt m _ _ _ hm
  have ok1 := hval 1 41 v1 rfl rfl
  have k2 := h2
  have lt2 : ∀ x ∈ p2, x.block < W.heap.size := by obtain ⟨m, hm⟩ := k2; exact DataW.trod_lt m _ _ _ hm
  have ok2 := hval 2 9 v2 rfl rfl
  clear hA0 hval0 hsz0
  obtain ⟨aN, lN, cN, bN, oN, N, rfl, hN, zN⟩ := open_nums Try.underlying40 Try.underlying22 (by kernel_rfl) (of_decide_eq_true (by kernel_rfl)) ok0 h0 (arg_weights hsz (j := 0) rfl rfl)
  obtain ⟨aT, lT, cT, bT, oT, T, rfl, hT, zT⟩ := open_texts Try.underlying41 Try.underlying9 (by kernel_rfl) (of_decide_eq_true (by kernel_rfl)) ok1 h1 (arg_weights hsz (j := 1) rfl rfl)
  obtain ⟨a2, rfl, rfl, rfl, w2⟩ := open_string Try.underlying9 ok2 h2
  have z2 := size_reach (sized_string hsz (j := 2) (t := 9) rfl rfl)
  have hR : ∀ i, 0 ≤ N i ∧ N i < 4294967296 := fun i => by have := bounds_u32 (hN.wf i); omega
  refine (walk aN aT lN cN lT cT bN oN bT oT (min lN 50) (min lT 50) (max (min lN 50) (min lT 50)) N T a2 W hN hR hT zN zT z2 (by split <;> omega) (by split <;> omega) (by split <;> omega) (by omega) (by omega) (by omega) (by omega) (by omega) (by omega) (by omega)).mono fun e W' ⟨he, bel⟩ => ?_
  subst he
  exact ⟨_, rfl, _, _, _, [], _, [], hW', trodAll_mk1 (shut_bool Try.underlying4 _), (trodAll_cons_mk (Below.trod laidOut (by kernel_rfl) (of_decide_eq_true (by kernel_rfl)) k0 bel lt0) (trodAll_cons_mk (Below.trod laidOut (by kernel_rfl) (of_decide_eq_true (by kernel_rfl)) k1 bel lt1) (trodAll_cons_mk (Below.trod laidOut (by kernel_rfl) (of_decide_eq_true (by kernel_rfl)) k2 bel lt2) trodAll_mk0))), rfl, bel.frame _, fun h => by cases h⟩

/-- the statement -/
theorem proved : Rows.OctetBackSaid :=
  OpenClaim.holds_of_wide 5 Try.f5 rfl rfl rfl rfl rfl rfl rfl ⟨rfl, rfl, rfl, rfl, rfl⟩ rfl rfl rfl rfl rfl (by kernel_rfl) Try.func5 (by kernel_rfl)
    (of_decide_eq_true (by kernel_rfl)) (by unfold Func.isWrapper; first | (rw [if_pos (by decide +kernel)]; kernel_rfl) | (rw [if_neg (by decide +kernel)]; exact ⟨rfl, rfl⟩))
    (fun os started H enc _ => lifted os started H enc)
end Go.Proofs.Ytnpdjdcbbmjdaaa.octetBack
