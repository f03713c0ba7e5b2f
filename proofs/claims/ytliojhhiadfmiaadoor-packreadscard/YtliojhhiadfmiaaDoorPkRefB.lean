/-
  The reference's fan, Bytes and Make, and Same: old memory stays. Conditions: lists and texts of a length that the form's numbers bear.
-/
import Derived.Test.YtliojhhiadfmiaaDoorRows
import Derived.Test.YtliojhhiadfmiaaDoorPkOwn
import Derived.Test.YtliojhhiadfmiaaDoorPkFan
import Derived.Test.YtliojhhiadfmiaaDoorPkSort
import Derived.Test.YtliojhhiadfmiaaDoorPkMake
import Derived.Test.YtliojhhiadfmiaaDoorPkWrite
import Derived.Test.YtliojhhiadfmiaaDoorPkRefA
import Derived.Test.YtliojhhiadfmiaaDoorOctKit
import Derived.WalkKit
import Derived.WalkSpells
import Derived.WalkLawsBesides
import Derived.ProofKit
import Derived.OpenShut
import Derived.Laws.BytesArg
import Derived.Laws.Externs
import Derived.Deep.QuietTactic
import Derived.BigQuiet
import Derived.BigRegion
import Derived.Lib.Hide
import Derived.IntWalk
import Derived.Deep.LoopGhost
import Derived.Handy
import Derived.Deep.RegionHeld3
namespace Go.Proofs.YtliojhhiadfmiaaDoor.Pk
open Go Go.RowKit
open Oct (empty num4 num4_size)

theorem fan_next {L : List Itm} {n k : Nat} (h : k < L.length) : fanN (ids (L.take (k + 1))) n = fanN (ids (L.take k)) n + if Oct.byteAt L[k].id 0 ≤ (n : Int) then 1 else 0 := by
  rw [take_next h]
  unfold ids fanN
  rw [List.map_append, List.countP_append]
  simp only [List.map_cons, List.map_nil, List.countP_cons, List.countP_nil, low, decide_eq_true_eq, Nat.zero_add]
theorem fan_le_len (L : List Itm) (k n : Nat) : fanN (ids (L.take k)) n ≤ L.length := by
  have := fanN_le (ids (L.take k)) n
  rw [ids, List.length_map, List.length_take] at this
  rw [ids]
  omega
set_option maxRecDepth 100000 in
set_option maxHeartbeats 1000000 in
theorem RFan_calls (a : Option Addr) (cap b off n : Nat) (L : List Itm) (w : World) (hI : ItAt w a b off L) (hl : L.length ≤ 1024) (h32 : ∀ x ∈ L, x.id.size = 32) (hn : n ≤ 255) :
    Calls Tryd.prog 58 #[.slice a L.length cap, .int .i64 n] w fun e w' => e = .returned (.int .i64 (fanN (ids L) n : Nat)) ∧ w = w' := by
  replace hI := Lib.hid hI
  replace h32 := Lib.hid h32
  go_enter Tryd.func58, Tryd.ntmps58
  go_wp2
  go_loopw [5, 6] (fun v i wr => ∃ k m : Nat, k ≤ L.length ∧ i = .int .i64 k ∧ v = .int .i64 m ∧ Hid (m = fanN (ids (L.take k)) n) ∧ wr = w) (fun _ i _ => L.length - (intOf i).toNat)
  case atStart => exact ⟨0, 0, by omega, rfl, rfl, Lib.hid rfl, rfl⟩
  case round =>
    obtain ⟨k, m, hk, rfl, rfl, hm, rfl⟩ := hrel
    have hmb : m ≤ 1024 := by have := fan_le_len L k n; have := hm.out; omega
    by_cases hlt : k < L.length
    · have i1 : (k : Int) < L.length := by omega
      have i0 : 0 ≤ (k : Int) := by omega
      obtain rfl := hI.out.addr (by omega)
      have c0 := hI.out.id k _ (List.getElem?_eq_getElem hlt)
      have hs := h32.out _ (List.getElem_mem hlt)
      have hf := fan_next (n := n) hlt
      rw [← hm.out] at hf
      generalize L[k].id = s at *
      have h0s : 0 < s.size := by omega
      have hby := byte_at s h0s
      rw [← hby] at hf
      clear hby
      obtain ⟨c, hc⟩ : ∃ c, s[0]'h0s = c := ⟨_, rfl⟩
      rw [hc] at hf
      have hwb := wrap_byte c
      by_cases hq : (c.toNat : Int) ≤ n
      · rw [if_pos hq] at hf
        replace hf := Lib.hid hf.symm
        go_wp2
        exact ⟨⟨k + 1, m + 1, by omega, by go_num, by go_num, hf, trivial⟩, by simp [intOf]; omega⟩
      · rw [if_neg hq, Nat.add_zero] at hf
        replace hf := Lib.hid hf.symm
        have q1 : decide ((c.toNat : Int) ≤ n) = false := decide_eq_false hq
        have q2 : (n : Int) < c.toNat := by omega
        go_wp2
        exact ⟨⟨k + 1, m, by omega, by go_num, rfl, hf, trivial⟩, by simp [intOf]; omega⟩
    · have d0 : decide ((k : Int) < L.length) = false := decide_eq_false (by omega)
      have d1 : (L.length : Int) ≤ k := by omega
      obtain rfl : k = L.length := by omega
      rw [List.take_length] at hm
      go_wp2
      go_ret
      exact ⟨by rw [← hm.out]; rfl, rfl⟩
attribute [local irreducible] fanN fanB idxB dataB entB
set_option maxRecDepth 100000 in
set_option maxHeartbeats 4000000 in
theorem RBytes_calls (a : Option Addr) (cap b off : Nat) (L : List Itm) (w : World) (hI : ItAt w a b off L) (hg : Good L) :
    Calls Tryd.prog 28 #[.slice a L.length cap] w fun e w' => e = .returned (.string (body L)) ∧ Below w.heap.size w w' := by
  have hlen := hg.len
  have hsum := hg.sum
  have hpos := hg.pos
  have h32 := Lib.hid hg.id32
  have hsz := Lib.hid hg.sz
  have hfsz := Lib.hid fun k => fanB_size (ids L) k
  have hm := mod_u32 L.length (by omega)
  have hN := Lib.hid fun w => RNum_b (L.length : Int) (by omega) (by omega) w
  have hidx := Lib.hid fun k => idxB_size (L.take k) 0 fun x hx => hg.id32 x (List.mem_of_mem_take hx)
  have hFan := Lib.hid fun n w h hn => RFan_calls a cap b off n L w h hlen hg.id32 hn
  have hfl := Lib.hid fun n => fanN_le (ids L) n
  have hidl : Hid ((ids L).length = L.length) := Lib.hid (List.length_map _)
  replace hI := Lib.hid hI
  clear hg
  have ht8 : title.size = 8 := rfl
  have hT : Hid (title = ⟨#[114, 101, 108, 105, 99, 48, 48, 49]⟩) := Lib.hid rfl
  have hs0 : ¬ 9223372036854775807 < (⟨#[114, 101, 108, 105, 99, 48, 48, 49]⟩ : ByteArray).size + (num4 (L.length : Int)).size := by rw [num4_size]; decide
  go_enter Tryd.func28, Tryd.ntmps28
  go_wp2_with fail
  refine (hN.out _).mono ?_
  rintro e w1 ⟨rfl, bb⟩
  have hB := Lib.hid bb
  clear bb hN
  obtain ⟨H0, hH0⟩ : ∃ H0, (⟨#[114, 101, 108, 105, 99, 48, 48, 49]⟩ : ByteArray) ++ num4 (L.length : Int) = H0 := ⟨_, rfl⟩
  have hH0s : H0.size = 12 := by rw [← hH0, ByteArray.size_append, num4_size]; rfl
  go_wp2
  go_loopw [3, 4] (fun v i wr => ∃ k : Nat, k ≤ 256 ∧ i = .int .i64 k ∧ v = .string (H0 ++ fanB (ids L) k) ∧ Hid (Below w.heap.size w wr)) (fun _ i _ => 256 - (intOf i).toNat)
  case atStart => exact ⟨0, by omega, rfl, by rw [show fanB (ids L) 0 = empty by unfold fanB; rfl, append_empty], hB⟩
  case round =>
    clear hB
    obtain ⟨k, hk, rfl, rfl, hB⟩ := hrel
    have hzk : (H0 ++ fanB (ids L) k).size ≤ 2000 := by rw [ByteArray.size_append, hfsz.out]; omega
    by_cases hlt : k < 256
    · have i1 : (k : Int) < 256 := by omega
      have hIr := Lib.hid (hI.out.next hB.out)
      have hnb : fanN (ids L) k ≤ 1024 := by have := hfl.out k; have := hidl.out; omega
      have hm2 := mod_u32 (fanN (ids L) k) (by omega)
      have hN2 := Lib.hid fun w => RNum_b (fanN (ids L) k : Nat) (by omega) (by omega) w
      have hF2 := Lib.hid (hFan.out k wr hIr.out (by omega))
      have hnx : Hid (fanB (ids L) (k + 1) = fanB (ids L) k ++ num4 (fanN (ids L) k : Nat)) := Lib.hid (by conv => lhs; unfold fanB)
      have hs1 : ¬ 9223372036854775807 < (H0 ++ fanB (ids L) k).size + (num4 ((fanN (ids L) k : Nat) : Int)).size := by rw [num4_size]; omega
      generalize fanN (ids L) k = m at *
      generalize hA : H0 ++ fanB (ids L) k = A at *
      replace hA := Lib.hid hA
      go_wp2_with fail
      refine hF2.out.mono ?_
      rintro e w2 ⟨rfl, rfl⟩
      go_wp2_with fail
      refine (hN2.out _).mono ?_
      rintro e w3 ⟨rfl, bb⟩
      replace hB := Lib.hid (below_next hB.out bb)
      clear bb
      go_wp2
      exact ⟨⟨k + 1, by omega, by go_num, by rw [hnx.out, ← ByteArray.append_assoc, hA.out], hB⟩, by simp [intOf]; omega⟩
    · have d0 : decide ((k : Int) < 256) = false := decide_eq_false (by omega)
      have d1 : (256 : Int) ≤ k := by omega
      have hk6 : k = 256 := by omega
      have hbd : Hid (H0 ++ fanB (ids L) k ++ idxB 0 L ++ dataB L = body L) := Lib.hid (by rw [← hH0, hk6]; rfl)
      obtain ⟨H, hH⟩ : ∃ H, H0 ++ fanB (ids L) k = H := ⟨_, rfl⟩
      replace hk6 := Lib.hid hk6
      rw [hH] at hzk hbd ⊢
      replace hH := Lib.hid hH
      clear hFan hfl hidl hfsz
      generalize k = kf at *
      go_wp2
      go_loopw [3, 5, 6, 7] (fun v z d i wr => ∃ k : Nat, k ≤ L.length ∧ i = .int .i64 k ∧ v = .string (H ++ idxB 0 (L.take k)) ∧ z = .int .i64 (sumD (L.take k) : Nat) ∧ d = .string (dataB (L.take k)) ∧ Hid (Below w.heap.size w wr)) (fun _ _ _ i _ => L.length - (intOf i).toNat)
      case atStart => exact ⟨0, by omega, rfl, by rw [show idxB 0 (L.take 0) = empty by unfold idxB; rfl, append_empty], rfl, by rw [show dataB (L.take 0) = empty by unfold dataB; rfl], hB⟩
      case round =>
        clear hB
        obtain ⟨k, hk, rfl, rfl, rfl, rfl, hB⟩ := hrel
        have hsk := hidx.out k
        rw [List.length_take, Nat.min_eq_left hk] at hsk
        have hdk := dataB_size (L.take k)
        have hdk2 := sumD_take_le L k
        have hacc : (H ++ idxB 0 (L.take k)).size ≤ 50000 := by rw [ByteArray.size_append]; omega
        have hDle : (dataB (L.take k)).size ≤ 4000000 := by omega
        have hUle : sumD (L.take k) ≤ 4000000 := by omega
        clear hsk hdk hdk2
        by_cases hlt : k < L.length
        · have i1 : (k : Int) < L.length := by omega
          have i0 : 0 ≤ (k : Int) := by omega
          have hIr := Lib.hid (hI.out.next hB.out)
          obtain rfl := hIr.out.addr (by omega)
          have hx32 : L[k].id.size ≤ 32 := Nat.le_of_eq (h32.out _ (List.getElem_mem hlt))
          have hxsz := hsz.out _ (List.getElem_mem hlt)
          have hi2 := Lib.hid (idxB_next hlt)
          have hd2 := Lib.hid (dataB_next hlt)
          have hu2 := Lib.hid (sumD_next hlt)
          have hep := Lib.hid (entB_parts L[k] (sumD (L.take k)) (H ++ idxB 0 (L.take k)))
          have hcr := Lib.hid (chk_range L[k].data)
          have hgl : L[k]? = some L[k] := List.getElem?_eq_getElem hlt
          replace hgl := Lib.hid hgl
          generalize L[k] = x at *
          obtain ⟨xi, xd⟩ := x
          dsimp only at hx32 hxsz hep hd2 hcr hu2
          have hwU := wrap_u32 (sumD (L.take k)) (by omega)
          have hwS := wrap_u32 xd.size (by omega)
          have hNum : Hid (∀ (n : Int) (w : World), (n = (sumD (L.take k) : Nat) ∨ n = (xd.size : Nat) ∨ n = chk xd) → Calls Tryd.prog 57 #[.int .u32 n] w fun e w' => e = .returned (.string (num4 n)) ∧ Below w.heap.size w w') := Lib.hid fun n w h => by
            refine RNum_b n ?_ ?_ w
            · rcases h with rfl | rfl | rfl
              · omega
              · omega
              · exact hcr.out.1
            · rcases h with rfl | rfl | rfl
              · omega
              · omega
              · exact hcr.out.2
          have hCk := Lib.hid fun w => RChk_b xd w (by omega)
          generalize hA : H ++ idxB 0 (L.take k) = A at *
          replace hA := Lib.hid hA
          generalize hDD : dataB (L.take k) = D at *
          replace hDD := Lib.hid hDD
          generalize hUU : sumD (L.take k) = U at *
          replace hUU := Lib.hid hUU
          generalize chk xd = C at *
          have s1 : ¬ 9223372036854775807 < A.size + xi.size := by omega
          have s2 : ¬ 9223372036854775807 < A.size + xi.size + 4 := by omega
          have s3 : ¬ 9223372036854775807 < A.size + xi.size + 4 + 4 := by omega
          have s4 : ¬ 9223372036854775807 < A.size + xi.size + 4 + 4 + 4 := by omega
          have s5 : ¬ 9223372036854775807 < D.size + xd.size := by omega
          have bc : Below wr.heap.size wr wr.drew := b_drew wr
          have hkeep : Hid (∀ w', Below wr.heap.size wr w' → (w'.cell? ⟨b, off + k * 2, none⟩ = some (.string xi) ∧ w'.cell? ⟨b, off + k * 2 + 1, none⟩ = some (.string xd))) :=
            Lib.hid fun w' h => ⟨(hIr.out.next h).id k _ hgl.out, (hIr.out.next h).dat k _ hgl.out⟩
          have hk0 := hkeep.out _ bc
          have c0 := (hkeep.out _ (Below.refl _ _)).1
          have c1 := (hkeep.out _ (Below.refl _ _)).2
          go_upto_region 11 with (fail)
          clear c0 c1
          go_region_held3 (fun w' => w'.cell? ⟨b, off + k * 2, none⟩ = some (.string xi) ∧ w'.cell? ⟨b, off + k * 2 + 1, none⟩ = some (.string xd))
            (exact hkeep.out _ bc)
            (first
              | (go_at_call 57; refine (hNum.out _ _ (by first | exact Or.inl rfl | exact Or.inr (Or.inl rfl) | exact Or.inr (Or.inr rfl))).mono ?_; rintro e w4 ⟨rfl, bb⟩; replace bc := below_next bc bb; clear bb)
              | (go_at_call 33; refine (hCk.out _).mono ?_; rintro e w4 ⟨rfl, bb⟩; replace bc := below_next bc bb; clear bb))
          all_goals
            rename_i hHe
            obtain ⟨c0, c1⟩ := hHe
            replace hB := Lib.hid (below_next hB.out bc)
            clear hkeep hk0 bc
            go_wp2
            exact ⟨⟨k + 1, by omega, by go_num, by rw [hi2.out, ← ByteArray.append_assoc, hA.out, hep.out], by rw [hu2.out]; simp, by rw [hd2.out], hB⟩, by simp [intOf]; omega⟩
        · have d3 : decide ((k : Int) < L.length) = false := decide_eq_false (by omega)
          have d4 : (L.length : Int) ≤ k := by omega
          obtain rfl : k = L.length := by omega
          rw [List.take_length] at hacc hDle ⊢
          have hs2 : ¬ 9223372036854775807 < (H ++ idxB 0 L).size + (dataB L).size := by omega
          go_wp2
          go_ret
          exact ⟨by rw [← hbd.out]; rfl, hB.out⟩
end Go.Proofs.YtliojhhiadfmiaaDoor.Pk
