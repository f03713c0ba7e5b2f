/-
  The reference's Same, items and Read answer what the plain functions do; old memory stays. Conditions: bytes of a size that the form's numbers bear.
-/
import Derived.Test.YtliojhhiadfmiaaDoorRows
import Derived.Test.YtliojhhiadfmiaaDoorPkOwn
import Derived.Test.YtliojhhiadfmiaaDoorPkForm
import Derived.Test.YtliojhhiadfmiaaDoorPkItems
import Derived.Test.YtliojhhiadfmiaaDoorPkRefA
import Derived.Test.YtliojhhiadfmiaaDoorPkRefB
import Derived.Test.YtliojhhiadfmiaaDoorPkRefF
import Derived.Test.YtliojhhiadfmiaaDoorOctKit
import Derived.WalkKit
import Derived.WalkSpells
import Derived.WalkLawsBesides
import Derived.ProofKit
import Derived.OpenShut
import Derived.Laws.BytesArg
import Derived.Laws.Externs
import Derived.Deep.QuietTactic
import Derived.BigQuiet
import Derived.BigRegion
import Derived.Lib.Hide
import Derived.IntWalk
import Derived.Deep.LoopGhost
import Derived.Handy
import Derived.Deep.RegionHeld3
import Derived.Deep.RegionLaw
import Derived.StillTailTactics
namespace Go.Proofs.YtliojhhiadfmiaaDoor.Pk
open Go Go.RowKit
open Oct (empty num4 num4_size)

set_option maxRecDepth 100000 in
set_option maxHeartbeats 1000000 in
theorem Same_calls (a a' : Option Addr) (cap cap' b b' off off' : Nat) (L : List Itm) (w : World) (hI : ItAt w a b off L) (hJ : ItAt w a' b' off' L) (hl : L.length ≤ 100000) :
    Calls Tryd.prog 16 #[.slice a L.length cap, .slice a' L.length cap'] w fun e w' => e = .returned (.bool true) ∧ Below w.heap.size w w' := by
  replace hI := Lib.hid hI
  replace hJ := Lib.hid hJ
  go_enter Tryd.func16, Tryd.ntmps16
  go_wp2
  go_loopw [5] (fun i wr => ∃ k : Nat, k ≤ L.length ∧ i = .int .i64 k ∧ Hid (Below w.heap.size w wr)) (fun i _ => L.length - (intOf i).toNat)
  case atStart => exact ⟨0, by omega, rfl, Lib.hid (Below.refl _ _)⟩
  case round =>
    obtain ⟨k, hk, rfl, hB⟩ := hrel
    by_cases hlt : k < L.length
    · have i1 : (k : Int) < L.length := by omega
      have i0 : 0 ≤ (k : Int) := by omega
      have hIr := Lib.hid (hI.out.next hB.out)
      have hJr := Lib.hid (hJ.out.next hB.out)
      obtain rfl := hIr.out.addr (by omega)
      obtain rfl := hJr.out.addr (by omega)
      have c0 := hIr.out.id k _ (List.getElem?_eq_getElem hlt)
      have c1 := hIr.out.dat k _ (List.getElem?_eq_getElem hlt)
      have d0 := hJr.out.id k _ (List.getElem?_eq_getElem hlt)
      have d1 := hJr.out.dat k _ (List.getElem?_eq_getElem hlt)
      generalize L[k] = x at *
      obtain ⟨xi, xd⟩ := x
      dsimp only at c0 c1 d0 d1
      have hBe := Lib.hid fun n => below_next hB.out (b_drewN wr n)
      clear hIr hJr
      go_wp2_with fail
      go_quiet (fail)
      go_wp2
      exact ⟨⟨k + 1, by omega, by go_num, Lib.hid (hBe.out _)⟩, by simp [intOf]; omega⟩
    · have d0 : decide ((k : Int) < L.length) = false := decide_eq_false (by omega)
      have d1 : (L.length : Int) ≤ k := by omega
      go_wp2
      go_ret
      exact ⟨rfl, hB.out⟩

/-- append(items, x) in a drawn region -/
theorem step_append_it {ops : Array Oper} {o : Oper} {a : Act} {w : World} {K : Act → World → Prop} {Q : Exit → Act → World → Prop} {E : Prop} (hgd : o.guard = none) (s x : Operand)
    (ho : o.op = .call { callee := .builtin .append, args := #[s, x], argTypes := #[28, 28] })
    (B : Nat) (v : Value) (L : List Itm) (i d : ByteArray) (b : Nat) (hs : a.eval s = v) (hx : a.eval x = .slice (some ⟨b, 0, none⟩) 1 1)
    (hown : OwnI B w v L) (hnew : ∀ j u, (cellsI ⟨i, d⟩)[j]? = some u → w.cell? ⟨b, j, none⟩ = some u) (hB : B ≤ w.heap.size) (hlen : L.length ≤ 1000000)
    (hK : ∀ v' w', OwnI B w' v' (L ++ [⟨i, d⟩]) → (∀ u, Below B u w → Below B u w') → K (a.put o.dst v') w') : if Region.wanted o (yielded ops a.tmps) = true then Oper.wp Tryd.prog o a w K Q else E := by
  obtain ⟨i0, hi, hz0, hz1, hz2⟩ := info_parts infoItm
  have hw : Region.wanted o (yielded ops a.tmps) = true := by simp [Region.wanted, hgd]
  rw [if_pos hw]
  refine wp_append_own w s x 28 ho B 37 i0 (.agg #[.string ⟨#[]⟩, .string ⟨#[]⟩]) 2 32 Tryd.underlying28 hi hz0 hz1 hz2 rfl (by decide) v L.length (rowI L) hs hown ⟨b, 0, none⟩ 1 1 (cellsI ⟨i, d⟩) hx rfl (fun j u hj => ?_)
    (fun u hu => by simp [cellsI] at hu; rcases hu with rfl | rfl <;> rfl) (by unfold maxLen; omega) (by omega) hB ?_
  · rw [Addr.add_mid, Nat.zero_add]; exact hnew j u hj
  · intro v' w' hown' hgrow hnil
    refine hK v' w' (by unfold OwnI; rw [← rowI_snoc, List.length_append]; exact hown') fun u hu => ?_
    exact hu.grown hgrow hB (fun k hk => (World.ownsRow.lt hown k hk).1)
/-- what the reference's items answers -/
def RTells (s : ByteArray) (e : Ending) (w' : World) : Prop := ∃ (v : Value) (r : Bool), e = .returned (.tuple #[v, .bool r]) ∧ (r = true ↔ Form s) ∧ (r = true → ∃ (a : Option Addr) (cap b off : Nat), v = .slice a (itms s (num s)).length cap ∧ ItAt w' a b off (itms s (num s)))
theorem RTells.no {s : ByteArray} (h : ¬ Form s) (v : Value) (w : World) : RTells s (.returned (.tuple #[v, .bool false])) w := ⟨v, false, rfl, ⟨(fun g => by cases g), fun g => absurd g h⟩, fun g => by cases g⟩
theorem RTells.of {s : ByteArray} {B : Nat} {v : Value} {w : World} {r : Bool} (h : r = true ↔ Form s) (ho : OwnI B w v (itms s (num s))) : RTells s (.returned (.tuple #[v, .bool r])) w := by
  obtain ⟨a, cap, b, off, rfl, hI, _⟩ := ho.at_
  exact ⟨_, r, rfl, h, fun _ => ⟨a, cap, b, off, rfl, hI⟩⟩
set_option maxRecDepth 100000 in
set_option maxHeartbeats 4000000 in
theorem RItems_form (s : ByteArray) (w : World) (hs : s.size ≤ 1000000000) (hs2 : 1112 ≤ s.size) (hg : ¬ Begins s) :
    Calls Tryd.prog 32 #[.string s] w fun e w' => RTells s e w' ∧ Below w.heap.size w w' := by
  have hno : Hid (¬ Form s) := Lib.hid fun g => hg g.begins
  have hN := Lib.hid fun w => num_calls s 8 8 rfl w (by omega) hs
  rw [show rdAt s 8 = (num s : Nat) from cnt_num] at hN
  have d2 : (8 : Int) ≤ s.size := by omega
  obtain ⟨E, hE⟩ : ∃ E, s.size - 32 = E := ⟨_, rfl⟩
  have e1 : IntKind.i64.wrap ((s.size : Int) - 32) = (E : Nat) := by simp [IntKind.wrap, IntKind.bits, IntKind.signed]; omega
  have hbi := begins_iff hs2
  rw [hE] at hbi
  have hnr : num s < 4294967296 := by
    have := rdAt_range s 8
    have h2 : rdAt s 8 = (num s : Nat) := cnt_num
    rw [h2] at this
    omega
  have hcase : s.extract 0 8 ≠ title ∨ (s.extract 0 8 = title ∧ num s < 1) ∨ (s.extract 0 8 = title ∧ 1 ≤ num s ∧ 1024 < num s) ∨ (s.extract 0 8 = title ∧ 1 ≤ num s ∧ num s ≤ 1024 ∧ E < 1036 + 44 * num s) := by
    by_cases h1 : s.extract 0 8 = title
    · by_cases h2 : num s < 1
      · exact Or.inr (Or.inl ⟨h1, h2⟩)
      · by_cases h3 : 1024 < num s
        · exact Or.inr (Or.inr (Or.inl ⟨h1, by omega, h3⟩))
        · refine Or.inr (Or.inr (Or.inr ⟨h1, by omega, by omega, ?_⟩))
          apply Nat.lt_of_not_le
          intro h4
          exact hg (hbi.2 ⟨h1, by omega, by omega, h4⟩)
    · exact Or.inl h1
  replace hbi := Lib.hid hbi
  replace hg := Lib.hid hg
  replace hE := Lib.hid hE
  have htl := title_list
  generalize num s = n at *
  obtain ⟨T8, hT8⟩ : ∃ T8, s.extract 0 8 = T8 := ⟨_, rfl⟩
  rw [hT8] at hcase
  rcases hcase with h1 | ⟨h1, h2⟩ | ⟨h1, h2, h3⟩ | ⟨h1, h2, h3, h4⟩
  · have t1 := str_ne h1
    rw [htl] at t1
    have t2 : (T8.toList != [114, 101, 108, 105, 99, 48, 48, 49]) = true := by rw [bne, t1]; rfl
    have t3 : ¬ T8.toList = [114, 101, 108, 105, 99, 48, 48, 49] := by simpa using t1
    replace h1 := Lib.hid h1
    go_enter Tryd.func32, Tryd.ntmps32
    go_wp2_with fail
    refine (hN.out _).mono ?_
    rintro e w1 ⟨rfl, bb⟩
    replace bb := Lib.hid bb
    go_wp2
    go_ret2
    exact ⟨RTells.no hno.out _ _, bb.out⟩
  all_goals
    rw [h1] at hT8
    replace h1 := Lib.hid h1
  · have j0 : (n : Int) < 1 := by omega
    go_enter Tryd.func32, Tryd.ntmps32
    go_wp2_with fail
    refine (hN.out _).mono ?_
    rintro e w1 ⟨rfl, bb⟩
    replace bb := Lib.hid bb
    go_wp2
    go_ret2
    exact ⟨RTells.no hno.out _ _, bb.out⟩
  · have j0 : decide ((n : Int) < 1) = false := decide_eq_false (by omega)
    have j1 : (1 : Int) ≤ n := by omega
    have j2 : (1024 : Int) < n := by omega
    go_enter Tryd.func32, Tryd.ntmps32
    go_wp2_with fail
    refine (hN.out _).mono ?_
    rintro e w1 ⟨rfl, bb⟩
    replace bb := Lib.hid bb
    go_wp2
    go_ret2
    exact ⟨RTells.no hno.out _ _, bb.out⟩
  · have j0 : decide ((n : Int) < 1) = false := decide_eq_false (by omega)
    have j1 : (1 : Int) ≤ n := by omega
    have j2 : decide ((1024 : Int) < n) = false := decide_eq_false (by omega)
    have j3 : (n : Int) ≤ 1024 := by omega
    have j4 : (E : Int) < 1036 + 44 * n := by omega
    go_enter Tryd.func32, Tryd.ntmps32
    go_wp2_with fail
    refine (hN.out _).mono ?_
    rintro e w1 ⟨rfl, bb⟩
    replace bb := Lib.hid bb
    go_wp2
    go_ret2
    exact ⟨RTells.no hno.out _ _, bb.out⟩
theorem form_room {s : ByteArray} (h : Form s) {k : Nat} (hk : k < num s) : start s + upTo s k + (szAt s k).toNat + 32 ≤ s.size := by
  have h1 := h.whole
  have h2 := upTo_le s (Nat.succ_le_of_lt hk)
  have h3 : upTo s (k + 1) = upTo s k + (szAt s k).toNat := by rw [upTo]
  rw [Nat.succ_eq_add_one, h3] at h2
  omega
theorem wrap_add (a b c : Nat) (h : a + b = c) (hc : c ≤ 1000000000000) : IntKind.i64.wrap ((a : Int) + b) = (c : Nat) := by simp [IntKind.wrap, IntKind.bits, IntKind.signed]; omega
attribute [local irreducible] rdAt upTo
set_option maxRecDepth 100000 in
set_option maxHeartbeats 8000000 in
theorem RItems_begun (s : ByteArray) (w : World) (hs : s.size ≤ 1000000000) (hs2 : 1112 ≤ s.size) (hg : Begins s) :
    Calls Tryd.prog 32 #[.string s] w fun e w' => RTells s e w' ∧ Below w.heap.size w w' := by
  have hN := Lib.hid fun w => num_calls s 8 8 rfl w (by omega) hs
  rw [show rdAt s 8 = (num s : Nat) from cnt_num] at hN
  have hNm := Lib.hid fun (i : Int) (p : Nat) (hi : i = p) (w : World) (hp : p + 4 ≤ s.size) => num_calls s i p hi w hp hs
  have d2 : (8 : Int) ≤ s.size := by omega
  obtain ⟨E, hE⟩ : ∃ E, s.size - 32 = E := ⟨_, rfl⟩
  have e1 : IntKind.i64.wrap ((s.size : Int) - 32) = (E : Nat) := by simp [IntKind.wrap, IntKind.bits, IntKind.signed]; omega
  obtain ⟨b1, b2, b3, b4⟩ := (begins_iff hs2).1 hg
  have htl := title_list
  have hst : Hid (start s = 1036 + 44 * num s) := Lib.hid rfl
  obtain ⟨T8, hT8⟩ : ∃ T8, s.extract 0 8 = T8 := ⟨_, rfl⟩
  rw [hT8] at b1
  rw [b1] at hT8
  replace b1 := Lib.hid b1
  obtain ⟨St, hSt⟩ : ∃ St, St = start s := ⟨_, rfl⟩
  have eSt : (1036 : Int) + 44 * (num s : Nat) = (St : Nat) := by rw [hSt, hst.out]; omega
  have j4 : (St : Int) ≤ E := by omega
  have j5 : decide ((E : Int) < St) = false := decide_eq_false (by omega)
  have j6 : decide (E < St) = false := decide_eq_false (by omega)
  have j0 : decide ((num s : Int) < 1) = false := decide_eq_false (by omega)
  have j1 : (1 : Int) ≤ num s := by omega
  have j2 : decide ((1024 : Int) < num s) = false := decide_eq_false (by omega)
  have j3 : (num s : Int) ≤ 1024 := by omega
  have hStb : St ≤ 50000 := by omega
  have hStE : St ≤ E := by omega
  have hroom : Hid (∀ k, k < num s → Form s → St + upTo s k + (szAt s k).toNat ≤ E) := Lib.hid fun k hk h => by
    have := form_room h hk
    omega
  have hno : Hid (∀ k, k < num s → ¬ Fits s k → ¬ Form s) := Lib.hid fun k hk h g => h (g.fits k hk)
  have hend : Hid ((∀ k, k < num s → Fits s k) → Fans s → (St + upTo s (num s) = E ↔ Form s)) := Lib.hid fun h1 h2 => ⟨fun h => ⟨hg, h1, by omega, h2⟩, fun h => by have := h.whole; omega⟩
  have hfano : Hid (¬ Fans s → ¬ Form s) := Lib.hid fun h g => h g.fans
  have hfans : Hid (Fans s ↔ ∀ i, i < 256 → fanAt s i = fanN (idsAt s (num s)) i) := Lib.hid Iff.rfl
  have hid32 : Hid (∀ x ∈ itms s (num s), x.id.size = 32) := Lib.hid fun x hx => by
    obtain ⟨k, hk, rfl⟩ := List.mem_map.1 hx
    exact idAt_size hg (List.mem_range.1 hk)
  have hnth : Hid (∀ j, j < num s → 1036 + 44 * j + 44 ≤ s.size) := Lib.hid fun j hj => by omega
  have hRT : Hid (∀ (B : Nat) (v : Value) (w : World) (r : Bool), (r = true ↔ Form s) → OwnI B w v (itms s (num s)) → RTells s (.returned (.tuple #[v, .bool r])) w) := Lib.hid fun B v w r h ho => RTells.of h ho
  replace hg := Lib.hid hg
  replace hSt := Lib.hid hSt
  replace hE := Lib.hid hE
  clear b2 b3 b4 hst
  have hn1024 : num s ≤ 1024 := by omega
  generalize num s = n at *
  go_enter Tryd.func32, Tryd.ntmps32
  go_wp2_with fail
  refine (hN.out _).mono ?_
  rintro e w1 ⟨rfl, bb⟩
  have hB1 := Lib.hid bb
  have hO := Lib.hid (OwnI.new w1 w1.heap.size (Nat.le_refl _))
  have hB2 := Lib.hid (b_alloc w1 (.cells #[] 37))
  clear bb hN
  go_wp2
  have hs5 := Lib.hid hB2.out.size
  generalize w1.alloc (.cells #[] 37) = w2 at *
  go_loopw [7, 8, 9, 10, 11] (fun v z i _ _ wr => ∃ k : Nat, k ≤ n ∧ i = .int .i64 k ∧ z = .int .i64 (upTo s k : Nat) ∧ Hid (OwnI w1.heap.size wr v (itms s k)) ∧ Hid (∀ j, j < k → Fits s j) ∧ St + upTo s k ≤ E ∧ Hid (Below w1.heap.size w2 wr)) (fun _ _ i _ _ _ => n - (intOf i).toNat)
  case atStart => exact ⟨0, by omega, rfl, by rw [show upTo s 0 = 0 by rw [upTo]]; rfl, hO, Lib.hid fun j hj => by omega, by rw [show upTo s 0 = 0 by rw [upTo]]; omega, Lib.hid (Below.refl _ _)⟩
  case round =>
    clear hO
    obtain ⟨k, hk, rfl, rfl, hO, hF, hUE, hBr⟩ := hrel
    have hEb : Hid (E ≤ 1000000000) := Lib.hid (by have := hE.out; omega)
    have hszr : Hid (w1.heap.size ≤ wr.heap.size) := Lib.hid (Nat.le_trans hs5.out hBr.out.size)
    have hBw := Lib.hid (hB1.out.trans ((hB2.out.trans hBr.out).mono hB1.out.size))
    have hUb : upTo s k ≤ 1000000000 := by have := hEb.out; omega
    by_cases hlt : k < n
    · have i1 : (k : Int) < n := by omega
      have hrm := hnth.out k hlt
      obtain ⟨K, hK⟩ : ∃ K, K = 1036 + 44 * k := ⟨_, rfl⟩
      obtain ⟨K2, hK2⟩ : ∃ K2, K + 32 = K2 := ⟨_, rfl⟩
      have eK : (1036 : Int) + 44 * (k : Nat) = (K : Nat) := by omega
      have eK2 : (K : Int) + 32 = (K2 : Nat) := by omega
      have eK3 : IntKind.i64.wrap ((K : Int) + 32) = (K2 : Nat) := wrap_add K 32 K2 hK2 (by omega)
      have u1 : (K2 : Int) ≤ s.size := by omega
      have u2 : (K : Int) ≤ K2 := by omega
      have hX : s.extract K K2 = idAt s k := by rw [← hK2, hK]; rfl
      have hA : Hid (∀ (i : Int) (w : World), i = (K + 32 : Nat) → Calls Tryd.prog 34 #[.string s, .int .i64 i] w fun e w' => e = .returned (.int .i64 (atAt s k)) ∧ Below w.heap.size w w') := Lib.hid fun i w h => by
        have := hNm.out i (K + 32) h w (by omega)
        rw [hK] at this
        exact this
      have hS : Hid (∀ (i : Int) (w : World), i = (K + 36 : Nat) → Calls Tryd.prog 34 #[.string s, .int .i64 i] w fun e w' => e = .returned (.int .i64 (szAt s k)) ∧ Below w.heap.size w w') := Lib.hid fun i w h => by
        have := hNm.out i (K + 36) h w (by omega)
        rw [hK] at this
        exact this
      have hfk : Hid (Fits s k ↔ szAt s k ≤ 131072 ∧ atAt s k = (upTo s k : Nat) ∧ (0 < k → lt (idAt s (k - 1)) (idAt s k) = true)) := Lib.hid Iff.rfl
      have hbk := Lib.hid (hno.out k hlt)
      have hrk := Lib.hid (hroom.out k hlt)
      have hns : Hid (itms s (k + 1) = itms s k ++ [⟨idAt s k, datAt s k⟩]) := Lib.hid (itms_succ s k)
      have hdt : Hid (datAt s k = s.extract (start s + upTo s k) (start s + upTo s k + (szAt s k).toNat)) := Lib.hid rfl
      have hnu : Hid (upTo s (k + 1) = upTo s k + (szAt s k).toNat) := Lib.hid (by rw [upTo])
      have hlenM : (itms s k).length = k := itms_length s k
      have hitp : Hid (∀ p, p < k → (itms s (k + 1))[p]? = some ⟨idAt s p, datAt s p⟩) := Lib.hid fun p hp => itms_get s (k + 1) p (by omega)
      have hitk : Hid ((itms s (k + 1))[k]? = some ⟨idAt s k, datAt s k⟩) := Lib.hid (itms_get s (k + 1) k (by omega))
      have hitl : (itms s (k + 1)).length = k + 1 := itms_length s (k + 1)
      have hF2 : Hid (Fits s k → ∀ j, j < k + 1 → Fits s j) := Lib.hid fun h j hj => by
        by_cases e : j = k
        · rw [e]; exact h
        · exact hF.out j (by omega)
      rw [← hSt.out] at hdt
      have ra : 0 ≤ atAt s k ∧ atAt s k < 4294967296 := rdAt_range _ _
      have rz : 0 ≤ szAt s k ∧ szAt s k < 4294967296 := rdAt_range _ _
      obtain ⟨a, ha⟩ := Int.eq_ofNat_of_zero_le ra.1
      obtain ⟨z, hz⟩ := Int.eq_ofNat_of_zero_le rz.1
      rw [ha] at ra hA hfk
      rw [hz] at rz hS hfk hrk hdt hnu
      rw [Int.toNat_natCast] at hrk hdt hnu
      have hab : a < 4294967296 := by omega
      have hzb : z < 4294967296 := by omega
      have hKb : K ≤ 60000 := by omega
      have hKb2 : K2 ≤ 60000 := by omega
      replace hK := Lib.hid hK
      replace hK2 := Lib.hid hK2
      replace ha := Lib.hid ha
      replace hz := Lib.hid hz
      generalize idAt s k = X at *
      generalize datAt s k = T at *
      generalize upTo s k = U at *
      go_wp2_with fail
      refine (hS.out _ _ (by omega)).mono ?_
      rintro e w4 ⟨rfl, bb⟩
      replace hO := Lib.hid (hO.out.next bb)
      replace hBr := Lib.hid (hBr.out.trans (bb.mono hszr.out))
      replace hBw := Lib.hid (below_next hBw.out bb)
      replace hszr := Lib.hid (Nat.le_trans hszr.out bb.size)
      clear bb
      go_wp2_with fail
      refine (hA.out _ _ (by have := hK2.out; omega)).mono ?_
      rintro e w5 ⟨rfl, bb⟩
      replace hO := Lib.hid (hO.out.next bb)
      replace hBr := Lib.hid (hBr.out.trans (bb.mono hszr.out))
      replace hBw := Lib.hid (below_next hBw.out bb)
      replace hszr := Lib.hid (Nat.le_trans hszr.out bb.size)
      clear bb hA hS
      by_cases c1 : a = U
      · have v1 : ((a : Int) != (U : Int)) = false := by rw [c1]; simp
        by_cases c2 : 131072 < z
        · have v2 : (131072 : Int) < z := by omega
          have hfin := Lib.hid (hbk.out (fun g => by have := (hfk.out.1 g).1; omega))
          replace c1 := Lib.hid c1
          go_wp2
          go_ret2
          exact ⟨RTells.no hfin.out _ _, hBw.out⟩
        · have v2 : decide ((131072 : Int) < z) = false := decide_eq_false (by omega)
          have v2' : decide (131072 < z) = false := decide_eq_false c2
          have v3 : (z : Int) ≤ 131072 := by omega
          by_cases c3 : E < St + U + z
          · have v4 : (E : Int) < St + U + z := by omega
            have hfin : Hid (¬ Form s) := Lib.hid fun g => by have := hrk.out g; omega
            replace c1 := Lib.hid c1
            replace c3 := Lib.hid c3
            go_wp2
            go_ret2
            exact ⟨RTells.no hfin.out _ _, hBw.out⟩
          · have v4 : decide ((E : Int) < St + U + z) = false := decide_eq_false (by omega)
            have v5 : (St : Int) + U + z ≤ E := by omega
            have hEE := hEb.out
            obtain ⟨P1, hP1⟩ : ∃ P1, St + U = P1 := ⟨_, rfl⟩
            obtain ⟨P2, hP2⟩ : ∃ P2, P1 + z = P2 := ⟨_, rfl⟩
            obtain ⟨U2, hU2⟩ : ∃ U2, U + z = U2 := ⟨_, rfl⟩
            have eP1 : (St : Int) + U = (P1 : Nat) := by omega
            have eP2 : (P1 : Int) + z = (P2 : Nat) := by omega
            have eP3 : IntKind.i64.wrap ((St : Int) + U) = (P1 : Nat) := wrap_add St U P1 hP1 (by omega)
            have eP4 : IntKind.i64.wrap ((P1 : Int) + z) = (P2 : Nat) := wrap_add P1 z P2 hP2 (by omega)
            have eU2 : (U : Int) + z = (U2 : Nat) := by omega
            have y1 : (P2 : Int) ≤ s.size := by have := hE.out; omega
            have y2 : (P1 : Int) ≤ P2 := by omega
            have y3 : (P2 : Int) ≤ E := by omega
            have y4 : decide ((E : Int) < P2) = false := decide_eq_false (by omega)
            have hTh : s.extract P1 P2 = T := by rw [hdt.out, ← hP2, ← hP1]
            rw [hU2] at hnu
            have hUE2 : Hid (St + U2 ≤ E) := Lib.hid (by omega)
            have hlM2 : (itms s k).length ≤ 1000000 := by omega
            have hPb : P1 ≤ 1000000000 := by omega
            have hPb2 : P2 ≤ 1000000000 := by omega
            have hUb2 : U2 ≤ 1000000000 := by omega
            have hwK2 := wrap_i64 K2 (by omega)
            have hwP1 := wrap_i64 P1 (by omega)
            have hwP2 := wrap_i64 P2 (by omega)
            replace c1 := Lib.hid c1
            replace hP1 := Lib.hid hP1
            replace hP2 := Lib.hid hP2
            replace hU2 := Lib.hid hU2
            replace hlenM := Lib.hid hlenM
            clear c3 v4 v5 hEE hdt
            generalize itms s k = M at *
            have hbA := (show Below w5.heap.size w5 (w5.alloc (.cells #[.string X, .string T] 37)).drew from below_next (b_alloc w5 _) (b_drew _))
            have hO1 := Lib.hid (hO.out.next hbA)
            have hB1A := Lib.hid (hBr.out.trans (hbA.mono hszr.out))
            have hsA := Lib.hid (Nat.le_trans hszr.out hbA.size)
            have hnew : Hid (∀ j u, (cellsI ⟨X, T⟩)[j]? = some u → (w5.alloc (.cells #[.string X, .string T] 37)).drew.cell? ⟨w5.heap.size, j, none⟩ = some u) := Lib.hid fun j u hj => (Blk.new w5 #[.string X, .string T] 37).cell j (by
              match j, hj with
              | 0, hj => exact hj
              | 1, hj => exact hj
              | j + 2, hj => simp [cellsI] at hj)
            clear hbA
            go_upto_region 15 with (fail)
            go_region_law (refine step_append_it (by rfl) _ _ (by rfl) w1.heap.size _ M X T w5.heap.size (by rfl) (by rfl) hO1.out hnew.out hsA.out hlM2 ?_; intro v' w8 hO8 hB8)
            all_goals
              have hB9 := Lib.hid (hB8 _ hB1A.out)
              rw [← hns.out] at hO8
              obtain ⟨a', c', b', o', hv, hIt, _, _⟩ := hO8.at_
              subst hv
              replace hO8 := Lib.hid hO8
              replace hIt := Lib.hid hIt
              have hBw8 : Hid (Below w.heap.size w w8) := Lib.hid (hB1.out.trans ((hB2.out.trans hB9.out).mono hB1.out.size))
              have hsz8 : Hid (w1.heap.size ≤ w8.heap.size) := Lib.hid (Nat.le_trans hs5.out hB9.out.size)
              obtain ⟨N, hN⟩ : ∃ N, itms s (k + 1) = N := ⟨_, rfl⟩
              rw [hN] at hO8 hIt hitl hitp hitk ⊢
              have x1 : (k : Int) < N.length := by omega
              have x0 : (0 : Int) ≤ k := by omega
              obtain rfl := hIt.out.addr (by omega)
              replace hitl := Lib.hid hitl
              clear hO1 hB1A hsA hnew hB8 hO hBr hBw hszr
              by_cases hk0 : k = 0
              · have g1 : decide ((0 : Int) < k) = false := decide_eq_false (by omega)
                have g2 : ¬ (0 : Int) < k := by omega
                have g3 : ¬ 0 < k := by omega
                have g4 : decide (0 < k) = false := decide_eq_false g3
                have hfin := Lib.hid (hF2.out (hfk.out.2 ⟨v3, by have := c1.out; omega, fun h => absurd h g3⟩))
                replace hk0 := Lib.hid hk0
                go_wp2_with fail
                go_quiet (fail)
                have bb := b_drewN w8 nq
                replace hO8 := Lib.hid (hO8.out.next bb)
                replace hB9 := Lib.hid (hB9.out.trans (bb.mono hsz8.out))
                clear bb
                generalize w8.drewN nq = w9 at *
                go_wp2
                exact ⟨⟨k + 1, by omega, by go_num, by rw [hnu.out], by rw [hN]; exact hO8, hfin, by rw [hnu.out]; exact hUE2.out, hB9⟩, by simp [intOf]; omega⟩
              · obtain ⟨p, hp⟩ : ∃ p, p + 1 = k := ⟨k - 1, by omega⟩
                have g1 : (0 : Int) < k := by omega
                have g3 : 0 < k := by omega
                have p1 : IntKind.i64.wrap ((k : Int) - 1) = (p : Nat) := by simp [IntKind.wrap, IntKind.bits, IntKind.signed]; omega
                have p2 : (p : Int) < N.length := by omega
                have p3 : (0 : Int) ≤ p := by omega
                have hk1 : k - 1 = p := by omega
                rw [hk1] at hfk
                have d0 := hIt.out.id p _ (hitp.out p (by omega))
                have d1 := hIt.out.id k _ hitk.out
                dsimp only at d0 d1
                have hls := lt_str (idAt s p) X
                generalize idAt s p = Y at *
                replace hp := Lib.hid hp
                replace hk1 := Lib.hid hk1
                replace hk0 := Lib.hid hk0
                cases hlx : lt Y X with
                | true =>
                  rw [hlx] at hls
                  have hfin := Lib.hid (hF2.out (hfk.out.2 ⟨v3, by have := c1.out; omega, fun _ => hlx⟩))
                  have l2 : Op.bytesLess X.toList Y.toList = false := by rw [lt_str]; exact lt_asymm hlx
                  have l3 : (Y.toList == X.toList) = false := str_ne fun e => by rw [e, lt_irrefl] at hlx; cases hlx
                  clear hlx
                  go_wp2_with fail
                  go_quiet (fail)
                  have bb := b_drewN w8 nq
                  replace hO8 := Lib.hid (hO8.out.next bb)
                  replace hB9 := Lib.hid (hB9.out.trans (bb.mono hsz8.out))
                  clear bb d0 d1
                  generalize w8.drewN nq = w9 at *
                  go_wp2
                  exact ⟨⟨k + 1, by omega, by go_num, by rw [hnu.out], by rw [hN]; exact hO8, hfin, by rw [hnu.out]; exact hUE2.out, hB9⟩, by simp [intOf]; omega⟩
                | false =>
                  rw [hlx] at hls
                  have hfin := Lib.hid (hbk.out (fun g => by have := (hfk.out.1 g).2.2 g3; rw [hlx] at this; cases this))
                  have hBe := Lib.hid fun n => below_next hBw8.out (b_drewN w8 n)
                  clear hlx
                  go_wp2_with fail
                  go_quiet (fail)
                  go_wp2
                  go_ret2
                  exact ⟨RTells.no hfin.out _ _, hBe.out _⟩
      · have v1 : ((a : Int) != (U : Int)) = true := by rw [bne_iff_ne]; omega
        have hfin := Lib.hid (hbk.out (fun g => by have := (hfk.out.1 g).2.1; omega))
        replace c1 := Lib.hid c1
        go_wp2
        go_ret2
        exact ⟨RTells.no hfin.out _ _, hBw.out⟩
    · have d3 : decide ((k : Int) < n) = false := decide_eq_false (by omega)
      have d4 : (n : Int) ≤ k := by omega
      obtain rfl : k = n := by omega
      have hen := Lib.hid (hend.out hF.out)
      obtain ⟨a', c', b', o', hv, hIt, _, _⟩ := hO.out.at_
      subst hv
      replace hIt := Lib.hid hIt
      have hfl := Lib.hid fun i => fanN_le (idsAt s k) i
      have hdl : Hid ((idsAt s k).length = k) := Lib.hid (idsAt_length s k)
      have hFan : Hid (∀ (i : Nat) (w' : World), Below wr.heap.size wr w' → i ≤ 255 → Calls Tryd.prog 58 #[.slice a' (itms s k).length c', .int .i64 i] w' fun e w'' => e = .returned (.int .i64 (fanN (idsAt s k) i : Nat)) ∧ w' = w'') := Lib.hid fun i w' h hi => by
        have := RFan_calls a' c' b' o' i (itms s k) w' (hIt.out.next h) (by rw [itms_length]; exact hn1024) hid32.out hi
        rw [ids_itms] at this
        exact this
      have hF12 : Hid (∀ (i : Nat) (x : Int) (w' : World), x = (12 + 4 * i : Nat) → i < 256 → Calls Tryd.prog 34 #[.string s, .int .i64 x] w' fun e w'' => e = .returned (.int .i64 (fanAt s i)) ∧ Below w'.heap.size w' w'') := Lib.hid fun i x w' h hi => hNm.out x (12 + 4 * i) h w' (by omega)
      have hfr : Hid (∀ i, 0 ≤ fanAt s i) := Lib.hid fun i => (rdAt_range _ _).1
      obtain ⟨P1, hP1⟩ : ∃ P1, St + upTo s k = P1 := ⟨_, rfl⟩
      have eP1 : (St : Int) + (upTo s k : Nat) = (P1 : Nat) := by omega
      rw [hP1] at hen
      have hEE := hEb.out
      have hPb : P1 ≤ 1000000000 := by omega
      clear hNm hroom hno hend hnth hid32 hP1
      generalize upTo s k = U at *
      generalize hit : itms s k = N at *
      replace hit := Lib.hid hit
      go_wp2
      go_loopw [12] (fun i wz => ∃ j : Nat, j ≤ 256 ∧ i = .int .i64 j ∧ Hid (∀ i', i' < j → fanAt s i' = fanN (idsAt s k) i') ∧ Hid (Below wr.heap.size wr wz)) (fun i _ => 256 - (intOf i).toNat)
      case atStart => exact ⟨0, by omega, rfl, Lib.hid fun i hi => by omega, Lib.hid (Below.refl _ _)⟩
      case round =>
        obtain ⟨j, hj, rfl, hfa, hBz⟩ := hrel
        have hBwz := Lib.hid (below_next hBw.out hBz.out)
        by_cases hlt2 : j < 256
        · have i2 : (j : Int) < 256 := by omega
          have hG1 := Lib.hid fun x w' h => hF12.out j x w' h hlt2
          have hG2 := Lib.hid fun w' h => hFan.out j w' h (by omega)
          obtain ⟨f, hf⟩ := Int.eq_ofNat_of_zero_le (hfr.out j)
          rw [hf] at hG1
          have hfb : fanN (idsAt s k) j ≤ 1024 := by have := hfl.out j; have := hdl.out; omega
          have hfab : Hid (fanAt s j = fanN (idsAt s k) j → ∀ i', i' < j + 1 → fanAt s i' = fanN (idsAt s k) i') := Lib.hid fun h i' hi' => by
            by_cases e : i' = j
            · rw [e]; exact h
            · exact hfa.out i' (by omega)
          have hbad : Hid (fanAt s j ≠ fanN (idsAt s k) j → ¬ Form s) := Lib.hid fun h => hfano.out fun g => h (hfans.out.1 g j hlt2)
          rw [hf] at hfab hbad
          replace hf := Lib.hid hf
          generalize fanN (idsAt s k) j = m at *
          go_wp2_with fail
          refine (hG1.out _ _ (by omega)).mono ?_
          rintro e w6 ⟨rfl, bb⟩
          replace hBz := Lib.hid (below_next hBz.out bb)
          replace hBwz := Lib.hid (below_next hBwz.out bb)
          clear bb
          go_wp2_with fail
          refine (hG2.out _ hBz.out).mono ?_
          rintro e w7 ⟨rfl, rfl⟩
          by_cases hm : (f : Int) = m
          · have q1 : ((f : Int) != (m : Int)) = false := by rw [hm]; simp
            have hfin := Lib.hid (hfab.out hm)
            replace hm := Lib.hid hm
            go_wp2
            exact ⟨⟨j + 1, by omega, by go_num, hfin, hBz⟩, by simp [intOf]; omega⟩
          · have q1 : ((f : Int) != (m : Int)) = true := by rw [bne_iff_ne]; exact hm
            have hfin := Lib.hid (hbad.out hm)
            replace hm := Lib.hid hm
            go_wp2
            go_ret2
            exact ⟨RTells.no hfin.out _ _, hBwz.out⟩
        · have i2 : decide ((j : Int) < 256) = false := decide_eq_false (by omega)
          have i3 : (256 : Int) ≤ j := by omega
          have hj6 : j = 256 := by omega
          have hfm := Lib.hid (hen.out (hfans.out.2 (by rw [hj6] at hfa; exact hfa.out)))
          have hOz2 := Lib.hid (hO.out.next hBz.out)
          replace hj6 := Lib.hid hj6
          by_cases hpe : P1 = E
          · have q1 : ((P1 : Int) == (E : Int)) = true := by rw [hpe]; simp
            have hfin : Hid (Form s) := Lib.hid (hfm.out.1 hpe)
            replace hpe := Lib.hid hpe
            go_wp2
            go_ret2
            exact ⟨hRT.out _ _ _ _ ⟨fun _ => hfin.out, fun _ => rfl⟩ hOz2.out, hBwz.out⟩
          · have q1 : ((P1 : Int) == (E : Int)) = false := by rw [beq_eq_false_iff_ne]; omega
            have hfin : Hid (¬ Form s) := Lib.hid fun g => hpe (hfm.out.2 g)
            replace hpe := Lib.hid hpe
            go_wp2
            go_ret2
            exact ⟨RTells.no hfin.out _ _, hBwz.out⟩
theorem RItems_calls (s : ByteArray) (w : World) (hs : s.size ≤ 1000000000) (hs2 : 1112 ≤ s.size) :
    Calls Tryd.prog 32 #[.string s] w fun e w' => RTells s e w' ∧ Below w.heap.size w w' := by
  by_cases hg : Begins s
  · exact RItems_begun s w hs hs2 hg
  · exact RItems_form s w hs hs2 hg
end Go.Proofs.YtliojhhiadfmiaaDoor.Pk
