/-
  pack's fanOf writes the fan of rising ids; old memory stays. Conditions: ids of 32 bytes that rise.
-/
import Derived.Test.YtliojhhiadfmiaaDoorRows
import Derived.Test.YtliojhhiadfmiaaDoorPkOwn
import Derived.Test.YtliojhhiadfmiaaDoorPkBuf
import Derived.Test.YtliojhhiadfmiaaDoorOctCalls
import Derived.Test.YtliojhhiadfmiaaDoorOctKit
import Derived.WalkKit
import Derived.WalkSpells
import Derived.WalkLawsBesides
import Derived.ProofKit
import Derived.OpenShut
import Derived.Laws.BytesArg
import Derived.Laws.Externs
import Derived.Deep.QuietTactic
import Derived.BigQuiet
import Derived.BigRegion
import Derived.Lib.Hide
import Derived.IntWalk
import Derived.Deep.LoopGhost
namespace Go.Proofs.YtliojhhiadfmiaaDoor.Pk
open Go Go.RowKit
open Oct (empty num4)

theorem Num_b (n : Int) (h0 : 0 ≤ n) (h1 : n < 4294967296) (w : World) :
    Calls Tryd.prog 49 #[.int .u32 n] w fun e w' => e = .returned (.string (num4 n)) ∧ Below w.heap.size w w' := by
  refine (Oct.Num_calls n h0 h1 w).mono ?_
  rintro e w' ⟨rfl, c, rfl⟩
  exact ⟨rfl, b_alloc w _⟩
theorem mod_u32 (n : Nat) (h : n < 4294967296) : (n : Int) % 4294967296 = n := by omega
theorem wrap_u32 (n : Nat) (h : n < 4294967296) : IntKind.u32.wrap (n : Int) = n := by simp [IntKind.wrap, IntKind.bits, IntKind.signed]; omega
theorem byte_at (s : ByteArray) (h : 0 < s.size) : ((s[0]'h).toNat : Int) = Oct.byteAt s 0 := by
  unfold Oct.byteAt
  rw [show s.data.toList.getD 0 0 = s[0] from ?_]
  rw [List.getD_eq_getElem?_getD, List.getElem?_eq_getElem (by rw [Oct.size_toList]; exact h)]
  rfl
theorem wrap_byte (c : UInt8) : wrap64 (c.toNat : Int) = c.toNat := by
  have := c.toNat_lt
  unfold wrap64
  omega
def fanP (I : List ByteArray) : Nat → Nat
  | 0 => 0
  | f + 1 => fanN I f
theorem fanP_le (I : List ByteArray) (f : Nat) : fanP I f ≤ fanN I f := by
  cases f with
  | zero => exact Nat.zero_le _
  | succ f => exact fanN_mono I (Nat.le_succ f)
attribute [local irreducible] fanN fanB
set_option maxRecDepth 100000 in
set_option maxHeartbeats 2000000 in
theorem fanOf_calls (a : Option Addr) (cap b off : Nat) (I : List ByteArray) (w : World) (hT : TxAt w a b off I) (hu : UpI I) (h32 : ∀ i ∈ I, i.size = 32) (hl : I.length ≤ 1024) :
    Calls Tryd.prog 50 #[.slice a I.length cap] w fun e w' => e = .returned (.string (fanB I 256)) ∧ Below w.heap.size w w' := by
  have hd := Lib.hid (Bv.new w)
  have hB := Lib.hid (b_alloc w (.cells #[.pointer none, .slice none 0 0] 78))
  replace hT := Lib.hid hT
  have hF := Lib.hid (fan_at I hu h32)
  replace hu := Lib.hid hu
  replace h32 := Lib.hid h32
  have hz := Lib.hid fun k => fanB_size I k
  go_enter Tryd.func50, Tryd.ntmps50
  go_wp2
  generalize w.alloc (.cells #[.pointer none, .slice none 0 0] 78) = w1 at *
  go_loopw [4, 5, 6] (fun k _ i wr => ∃ (f : Nat) (p v : Value), f ≤ 256 ∧ i = .int .i64 f ∧ k = .int .i64 (fanP I f : Nat) ∧ Hid (Bv w.heap.size w.heap.size p v (fanB I f) wr) ∧ Hid (Below w.heap.size w wr)) (fun _ _ i _ => 256 - (intOf i).toNat)
  case atStart => exact ⟨0, _, _, by omega, rfl, rfl, Lib.hid (by unfold fanB; exact hd.out), hB⟩
  case round =>
    clear hd hB
    obtain ⟨f, p, v, hf, rfl, rfl, hd, hB⟩ := hrel
    by_cases hlt : f < 256
    · have i1 : (f : Int) < 256 := by omega
      have hP := fanP_le I f
      have hN := fanN_le I f
      have hm := mod_u32 (fanN I f) (by omega)
      have hNum := Lib.hid fun w => Num_b (fanN I f : Nat) (by omega) (by omega) w
      have hF' := Lib.hid (hF.out f)
      generalize hn : fanN I f = n at *
      replace hn := Lib.hid hn
      generalize fanP I f = m0 at *
      go_wp2
      go_loopw [4] (fun k w' => ∃ m : Nat, k = .int .i64 m ∧ m ≤ n ∧ w' = wr) (fun k _ => n - (intOf k).toNat)
      case atStart => exact ⟨m0, rfl, hP, rfl⟩
      case round =>
        obtain ⟨m, rfl, hmn, rfl⟩ := hrel
        clear hP
        by_cases hmI : m < I.length
        · have j1 : (m : Int) < I.length := by omega
          have j0 : 0 ≤ (m : Int) := by omega
          have hTr := Lib.hid (hT.out.next hB.out)
          obtain rfl := hTr.out.addr (by omega)
          have c0 := hTr.out.cell m _ (List.getElem?_eq_getElem hmI)
          have hs := h32.out _ (List.getElem_mem hmI)
          have hq := hF'.out m hmI
          generalize I[m] = s at *
          have h0s : 0 < s.size := by omega
          have hby := byte_at s h0s
          rw [← hby] at hq
          clear hby
          obtain ⟨c, hc⟩ : ∃ c, s[0]'h0s = c := ⟨_, rfl⟩
          rw [hc] at hq
          have hwb := wrap_byte c
          by_cases hmf : m < n
          · have q1 : (c.toNat : Int) ≤ f := hq.2 hmf
            clear hq
            go_wp2
            exact ⟨⟨m + 1, by go_num, by omega, trivial⟩, by simp [intOf]; omega⟩
          · have q0 : ¬ (c.toNat : Int) ≤ f := fun g => hmf (hq.1 g)
            have q1 : decide ((c.toNat : Int) ≤ f) = false := decide_eq_false q0
            have q2 : (f : Int) < c.toNat := by omega
            obtain rfl : m = n := by omega
            clear hq hmf
            go_wp2_with fail
            refine (hNum.out _).mono ?_
            rintro e w2 ⟨rfl, b2⟩
            replace hd := Lib.hid (hd.out.next b2)
            replace hB := Lib.hid (below_next hB.out b2)
            clear b2 c0 hTr
            go_wp2_with fail
            refine (Write_v _ _ _ _ _ (num4 (m : Nat)) w2 hd.out (by rw [hz.out, Oct.num4_size]; omega)).mono ?_
            rintro e w3 ⟨rfl, p', v', hd3, hw3⟩
            replace hB := Lib.hid (hB.out.trans (hw3.below hd.out))
            replace hd3 : Hid (Bv w.heap.size w.heap.size p' v' (fanB I (f + 1)) w3) := Lib.hid (by
              rw [show fanB I (f + 1) = fanB I f ++ num4 (fanN I f) by conv => lhs; unfold fanB, hn.out]; exact hd3)
            have hk : fanP I (f + 1) = m := hn.out
            clear hw3 hd
            go_wp2
            exact ⟨⟨f + 1, p', v', by omega, by go_num, by rw [hk], hd3, hB⟩, by simp [intOf]; omega⟩
        · have d0 : decide ((m : Int) < I.length) = false := decide_eq_false (by omega)
          have d1 : (I.length : Int) ≤ m := by omega
          obtain rfl : m = n := by omega
          go_wp2_with fail
          refine (hNum.out _).mono ?_
          rintro e w2 ⟨rfl, b2⟩
          replace hd := Lib.hid (hd.out.next b2)
          replace hB := Lib.hid (below_next hB.out b2)
          clear b2
          go_wp2_with fail
          refine (Write_v _ _ _ _ _ (num4 (m : Nat)) w2 hd.out (by rw [hz.out, Oct.num4_size]; omega)).mono ?_
          rintro e w3 ⟨rfl, p', v', hd3, hw3⟩
          replace hB := Lib.hid (hB.out.trans (hw3.below hd.out))
          replace hd3 : Hid (Bv w.heap.size w.heap.size p' v' (fanB I (f + 1)) w3) := Lib.hid (by
            rw [show fanB I (f + 1) = fanB I f ++ num4 (fanN I f) by conv => lhs; unfold fanB, hn.out]; exact hd3)
          have hk : fanP I (f + 1) = m := hn.out
          clear hw3 hd
          go_wp2
          exact ⟨⟨f + 1, p', v', by omega, by go_num, by rw [hk], hd3, hB⟩, by simp [intOf]; omega⟩
    · have d0 : decide ((f : Int) < 256) = false := decide_eq_false (by omega)
      have d1 : (256 : Int) ≤ f := by omega
      obtain rfl : f = 256 := by omega
      have hv := hd.out.own.lt
      go_wp2_with fail
      refine (hd.out.text).mono ?_
      rintro e w2 ⟨rfl, _, hst⟩
      replace hB := Lib.hid (hB.out.trans (hst.below fun k hk => (hv k hk).1))
      clear hst hv
      go_wp2
      go_ret
      exact ⟨rfl, hB.out⟩
end Go.Proofs.YtliojhhiadfmiaaDoor.Pk
