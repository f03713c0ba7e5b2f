/-
  pack's inForm tells whether the parts of bytes are a pack's; old memory stays. Conditions: bytes that begin as a pack does, of a size that the form's numbers bear.
-/
import Derived.Test.YtliojhhiadfmiaaDoorRows
import Derived.Test.YtliojhhiadfmiaaDoorPkOwn
import Derived.Test.YtliojhhiadfmiaaDoorPkForm
import Derived.Test.YtliojhhiadfmiaaDoorPkSort
import Derived.Test.YtliojhhiadfmiaaDoorPkCut
import Derived.Test.YtliojhhiadfmiaaDoorPkNth
import Derived.Test.YtliojhhiadfmiaaDoorPkFan
import Derived.Test.YtliojhhiadfmiaaDoorOctCalls
import Derived.Test.YtliojhhiadfmiaaDoorOctKit
import Derived.WalkKit
import Derived.WalkSpells
import Derived.WalkLawsBesides
import Derived.ProofKit
import Derived.OpenShut
import Derived.Laws.BytesArg
import Derived.Laws.Externs
import Derived.Deep.QuietTactic
import Derived.BigQuiet
import Derived.BigRegion
import Derived.Lib.Hide
import Derived.IntWalk
import Derived.Deep.LoopGhost
import Derived.StillTailTactics
import Derived.Handy
import Derived.Deep.RegionHeld3
namespace Go.Proofs.YtliojhhiadfmiaaDoor.Pk
open Go Go.RowKit
open Oct (empty num4 num4_size rd4 Only Rd)

theorem pfan_eq {s : ByteArray} (h : Begins s) : fanB (idsAt s (num s)) 256 = pfan s ↔ Fans s := by
  have hn := num_le h
  rw [fan_eq _ (by rw [idsAt_length]; omega) _ (pfan_size h)]
  unfold Fans
  constructor
  · intro g i hi; rw [← fan_piece h i hi]; exact g i hi
  · intro g i hi; rw [fan_piece h i hi]; exact g i hi
theorem whole_iff {s : ByteArray} (h : Begins s) : start s + upTo s (num s) + 32 = s.size ↔ upTo s (num s) = (pdat s).size := by
  have := h.room
  rw [pdat_size h]; omega
/-- blocks of other types stay -/
def KeepT (T0 : TypeId) (w w' : World) : Prop := ∀ (k : Nat) (cs : Array Value) (T : TypeId) (fr : Nat × Nat), T ≠ T0 → w.heap[k]? = some (Go.Obj.cells cs T fr) → w'.heap[k]? = some (Go.Obj.cells cs T fr)
theorem wrap_i64 (n : Nat) (h : n ≤ 1000000000000) : IntKind.i64.wrap (n : Int) = n := by simp [IntKind.wrap, IntKind.bits, IntKind.signed]; omega
theorem grown_keepT {w w' : World} {B n size : Nat} {T0 : TypeId} {v : Value} {xs : List Value} (hown : w.ownsRow B T0 size v n xs) (hg : w.grownBy w' v.ownBlock) : KeepT T0 w w' := fun k cs T fr hT he => by
  refine (hg.block k (Array.getElem?_eq_some_iff.1 he).1 fun e => ?_).trans he
  rcases hown.2 with ⟨hv, _⟩ | ⟨g, cap, cur, hv, _, hc, _⟩
  · rw [hv] at e; simp [Value.ownBlock] at e
  · rw [hv] at e
    simp only [Value.ownBlock, Option.some.injEq] at e
    subst e
    rw [hc] at he
    simp only [Option.some.injEq, Obj.cells.injEq] at he
    exact hT he.2.1.symm
/-- append(texts, t), with what it leaves alone -/
theorem wp_append_tx2 {ops : Array Oper} {rest : List Oper} {o : Oper} {a : Act} {Q : Exit → Act → World → Prop} {w : World} (hgd : o.guard = none) (s x : Operand)
    (ho : o.op = .call { callee := .builtin .append, args := #[s, x], argTypes := #[22, 22] })
    (B : Nat) (v : Value) (L : List ByteArray) (l : ByteArray) (hs : a.eval s = v) (hx : a.eval x = .slice (some ⟨w.heap.size, 0, none⟩) 1 1)
    (hown : OwnT B w v L) (hB : B ≤ w.heap.size) (hlen : L.length ≤ 1099511627776)
    (h : ∀ v' w', OwnT B w' v' (L ++ [l]) → (∀ u, Below B u w → Below B u w') → KeepT 9 w w' → wpList Tryd.prog ops Q rest (a.put o.dst v') w') : wpList Tryd.prog ops Q (o :: rest) a (w.alloc (.cells #[.string l] 9)) := by
  obtain ⟨i0, hi, hz0, hz1, hz2⟩ := info_parts infoStr
  have hoA := World.ownsRow.alloc hown (.cells #[.string l] 9)
  have hnews : ∀ (j : Nat) (u : Value), ([.string l] : List Value)[j]? = some u → (w.alloc (.cells #[.string l] 9)).cell? ((⟨w.heap.size, 0, none⟩ : Addr).add j) = some u := fun j u hj => by
    match j, hj with
    | 0, hj => simp at hj; subst hj; simp [Addr.add]
    | j + 1, hj => simp at hj
  refine wpList_append_own _ hgd s x 22 ho B 9 i0 (.string ⟨#[]⟩) 1 16 Tryd.underlying22 hi hz0 hz1 hz2 rfl (by decide) v L.length (L.map Value.string) hs hoA ⟨w.heap.size, 0, none⟩ 1 1 [.string l] hx rfl hnews
    (fun u hu => by simp at hu; subst hu; rfl) (by unfold maxLen; omega) (by omega) (by simp; omega) ?_
  intro v' w' hown' hgrow hnil
  refine h v' w' (by unfold OwnT; rw [List.map_append, List.length_append]; exact hown') (fun u hu => ?_) (fun k cs T fr hT he => grown_keepT hoA hgrow k cs T fr hT (((b_alloc w _).block k (Array.getElem?_eq_some_iff.1 he).1).trans he))
  exact (hu.alloc hB (.cells #[.string l] 9)).grown hgrow (by simp; omega) (fun k hk => (World.ownsRow.lt hoA k hk).1)
theorem str_iff {a b : ByteArray} : (a.toList == b.toList) = true ↔ a = b := ⟨fun h => Classical.byContradiction fun g => (by rw [str_ne g] at h; cases h), str_eq⟩
/-- what inForm answers -/
def Tells (s : ByteArray) (e : Ending) : Prop := ∃ r : Bool, e = .returned (.bool r) ∧ (r = true ↔ Form s)
theorem Tells.no {s : ByteArray} (h : ¬ Form s) : Tells s (.returned (.bool false)) := ⟨false, rfl, (fun g => by cases g), fun g => absurd g h⟩
theorem Tells.of {s : ByteArray} {r : Bool} (h : r = true ↔ Form s) : Tells s (.returned (.bool r)) := ⟨r, rfl, h⟩
attribute [local irreducible] fanB fanN
set_option maxRecDepth 100000 in
set_option maxHeartbeats 4000000 in
theorem inForm_calls (s : ByteArray) (w : World) (hg : Begins s) (hs : s.size ≤ 1000000000) :
    Calls Tryd.prog 30 #[.agg #[.string (pfan s), .string (pidx s), .string (pdat s)]] w fun e w' => Tells s e ∧ Below w.heap.size w w' := by
  have hn := num_le hg
  have hcnt : Hid (∀ w : World, Calls Tryd.prog 37 #[.agg #[.string (pfan s), .string (pidx s), .string (pdat s)]] w fun e w' => e = .returned (.int .i64 (num s : Nat)) ∧ Below w.heap.size w w') := Lib.hid fun w => count_calls (pfan s) (pidx s) (pdat s) (num s) w (pidx_size hg) hn.2
  have hnth : Hid (∀ (k : Nat) (w : World), k < num s → Calls Tryd.prog 38 #[.agg #[.string (pfan s), .string (pidx s), .string (pdat s)], .int .i64 k] w fun e w' => e = .returned (.agg #[.string (idAt s k), .int .u32 (atAt s k), .int .u32 (szAt s k), .int .u32 (ckAt s k)]) ∧ Below w.heap.size w w') := Lib.hid fun k w hk => nth_calls s (pfan s) (pdat s) k w hg hk
  have hbad : Hid (∀ k, k < num s → ¬ Fits s k → ¬ Form s) := Lib.hid fun k hk h g => h (g.fits k hk)
  have hfit : Hid (∀ k, k < num s → (Fits s k ↔ lt (ahd s k) (idAt s k) = true ∧ atAt s k = upTo s k ∧ szAt s k ≤ 131072)) := Lib.hid fun k hk => fits_iff (idAt_size hg hk)
  have hform : Hid ((∀ k, k < num s → Fits s k) → (Form s ↔ upTo s (num s) = (pdat s).size ∧ fanB (idsAt s (num s)) 256 = pfan s)) := Lib.hid fun hf => by
    rw [pfan_eq hg, ← whole_iff hg]
    exact ⟨fun g => ⟨g.whole, g.fans⟩, fun g => ⟨hg, hf, g.1, g.2⟩⟩
  have hidu := Lib.hid (ids_up (s := s) (num s))
  have hid32 := Lib.hid (ids_32 hg)
  have hrng : Hid (∀ k, 0 ≤ szAt s k ∧ szAt s k < 4294967296) := Lib.hid fun k => rdAt_range _ _
  have hX := Lib.hid (Blk.new w #[.string (pfan s), .string (pidx s), .string (pdat s)] 53)
  have hB := Lib.hid (b_alloc w (.cells #[.string (pfan s), .string (pidx s), .string (pdat s)] 53))
  have hsD : (pdat s).size ≤ 1000000000 := by rw [pdat_size hg]; omega
  generalize num s = n at *
  generalize pfan s = F at *
  generalize pidx s = I at *
  generalize pdat s = D at *
  replace hg := Lib.hid hg
  go_enter Tryd.func30, Tryd.ntmps30
  go_wp2_with fail
  have hsz1 : Hid ((w.alloc (.cells #[.string F, .string I, .string D] 53)).heap.size = w.heap.size + 1) := Lib.hid (by simp)
  generalize w.alloc (.cells #[.string F, .string I, .string D] 53) = w1 at *
  refine (hcnt.out _).mono ?_
  rintro e w2 ⟨rfl, bb⟩
  replace hB := Lib.hid (below_next hB.out bb)
  replace hX := Lib.hid (hX.out.next bb)
  have hsz2 : Hid (w.heap.size + 1 ≤ w2.heap.size) := Lib.hid (by have := bb.size; have := hsz1.out; omega)
  clear bb hcnt hsz1
  go_wp2
  go_loopw [3, 4, 5, 6, 7, 10] (fun v a z _ _ i wr => ∃ k : Nat, k ≤ n ∧ i = .int .i64 k ∧ a = .string (ahd s k) ∧ z = .int .u32 (upTo s k : Nat) ∧ Hid (OwnT (w.heap.size + 1) wr v (idsAt s k)) ∧ Hid (∀ j, j < k → Fits s j) ∧ Hid (Below (w.heap.size + 1) w2 wr)) (fun _ _ _ _ _ i _ => n - (intOf i).toNat)
  case atStart => exact ⟨0, by omega, rfl, rfl, rfl, Lib.hid (OwnT.nil _ _), Lib.hid fun j hj => by omega, Lib.hid (Below.refl _ _)⟩
  case round =>
    obtain ⟨k, hk, rfl, rfl, rfl, hO, hF, hBr⟩ := hrel
    have hub := upTo_bound k hF.out
    have hXr := Lib.hid (hX.out.below hBr.out (Nat.lt_succ_self _))
    have c0 := hXr.out.cell 0 (v := .string F) rfl
    have c1 := hXr.out.cell 1 (v := .string I) rfl
    have c2 := hXr.out.cell 2 (v := .string D) rfl
    have hszr : Hid (w.heap.size + 1 ≤ wr.heap.size) := Lib.hid (Nat.le_trans hsz2.out hBr.out.size)
    have hBw := Lib.hid (hB.out.trans (hBr.out.mono (Nat.le_succ _)))
    by_cases hlt : k < n
    · have i1 : (k : Int) < n := by omega
      have hN := Lib.hid fun w => hnth.out k w hlt
      have hfk := Lib.hid (hfit.out k hlt)
      have hbk := Lib.hid (hbad.out k hlt)
      have hsr := hrng.out k
      have hns : Hid (idsAt s (k + 1) = idsAt s k ++ [idAt s k]) := Lib.hid (idsAt_succ s k)
      have hnu : Hid (upTo s (k + 1) = upTo s k + (szAt s k).toNat) := Lib.hid rfl
      have hna : Hid (ahd s (k + 1) = idAt s k) := Lib.hid rfl
      have hlenM : (idsAt s k).length ≤ 1099511627776 := by rw [idsAt_length]; omega
      have hF2 : Hid (Fits s k → ∀ j, j < k + 1 → Fits s j) := Lib.hid fun h j hj => by
        by_cases e : j = k
        · rw [e]; exact h
        · exact hF.out j (by omega)
      have hlc := leq_cases (ahd s k) (idAt s k)
      clear hnth hfit hbad hrng hform hidu hid32
      generalize ahd s k = P at *
      generalize upTo s k = U at *
      generalize idsAt s k = M at *
      go_wp2_with fail
      refine (hN.out _).mono ?_
      rintro e w6 ⟨rfl, bb⟩
      clear c0 c1 c2 hN
      replace hO := Lib.hid (hO.out.next bb)
      replace hBr := Lib.hid (hBr.out.trans (bb.mono hszr.out))
      replace hBw := Lib.hid (below_next hBw.out bb)
      replace hszr := Lib.hid (Nat.le_trans hszr.out bb.size)
      clear bb
      have bb := b_alloc w6 (.cells #[.string (idAt s k), .int .u32 (atAt s k), .int .u32 (szAt s k), .int .u32 (ckAt s k)] 65)
      replace hO := Lib.hid (hO.out.next bb)
      replace hBr := Lib.hid (hBr.out.trans (bb.mono hszr.out))
      replace hBw := Lib.hid (below_next hBw.out bb)
      replace hszr := Lib.hid (Nat.le_trans hszr.out bb.size)
      clear bb
      have hE := Lib.hid (Blk.new w6 #[.string (idAt s k), .int .u32 (atAt s k), .int .u32 (szAt s k), .int .u32 (ckAt s k)] 65)
      generalize idAt s k = X at *
      generalize atAt s k = A at *
      generalize szAt s k = S at *
      generalize ckAt s k = C at *
      go_upto_region 8 with (fail)
      generalize w6.alloc (.cells #[.string X, .int .u32 A, .int .u32 S, .int .u32 C] 65) = w7 at *
      generalize w6.heap.size = r2 at *
      have e0 := hE.out.cell 0 (v := .string X) rfl
      have e1 := hE.out.cell 1 (v := .int .u32 A) rfl
      have e2 := hE.out.cell 2 (v := .int .u32 S) rfl
      have e3 := hE.out.cell 3 (v := .int .u32 C) rfl
      rcases hlc with ⟨l0, l1, l2⟩ | ⟨l0, l1⟩
      · by_cases ha : A = (U : Nat)
        · have a1 : (A != (U : Nat)) = false := by simpa using ha
          by_cases hz : S ≤ 131072
          · have z1 : decide (131072 < S) = false := decide_eq_false (by omega)
            have hfin := Lib.hid (hF2.out (hfk.out.2 ⟨l0, ha, hz⟩))
            obtain ⟨z, rfl⟩ := Int.eq_ofNat_of_zero_le hsr.1
            rw [show ((z : Nat) : Int).toNat = z from rfl] at hnu
            have hzb : z ≤ 131072 := by omega
            have hw1 : ((U : Int) + z) % 4294967296 = ((U + z : Nat) : Int) := by omega
            replace ha := Lib.hid ha
            clear hfk hbk hF2 hF
            go_wp2_with (at_builtin; refine wp_append_tx2 rfl _ _ rfl (w.heap.size + 1) u3 M X rfl rfl hO.out hszr.out hlenM ?_)
            intro v' w5 hO5 hB5 hK5
            have hB6 := Lib.hid (hB5 _ hBr.out)
            have hE5 : Hid (Blk w5 r2 #[.string X, .int .u32 A, .int .u32 z, .int .u32 C] 65) := Lib.hid (hK5 _ _ _ _ (by decide) hE.out)
            rw [← hns.out] at hO5
            replace hO5 := Lib.hid hO5
            clear hO hBr hB5 e0 e1 e2 e3 hK5
            have e0 := hE5.out.cell 0 (v := .string X) rfl
            have e2 := hE5.out.cell 2 (v := .int .u32 z) rfl
            go_wp2
            exact ⟨⟨k + 1, by omega, by go_num, by rw [hna.out], by rw [hnu.out]; simp, hO5, hfin, hB6⟩, by simp [intOf]; omega⟩
          · have z1 : 131072 < S := by omega
            have hfin := Lib.hid (hbk.out (fun g => hz (hfk.out.1 g).2.2))
            replace ha := Lib.hid ha
            clear hfk hbk hF2 hF
            go_wp2
            go_ret
            exact ⟨Tells.no hfin.out, hBw.out⟩
        · have a1 : (A != (U : Nat)) = true := by simpa using ha
          have hfin := Lib.hid (hbk.out (fun g => ha (hfk.out.1 g).2.1))
          replace ha := Lib.hid ha
          clear hfk hbk hF2 hF
          go_wp2
          go_ret
          exact ⟨Tells.no hfin.out, hBw.out⟩
      · have hfin := Lib.hid (hbk.out (fun g => by have := (hfk.out.1 g).1; rw [l0] at this; cases this))
        clear hfk hbk hF2 hF
        rcases l1 with l1 | ⟨l1, l2⟩
        all_goals
          go_wp2
          go_ret
          exact ⟨Tells.no hfin.out, hBw.out⟩
    · have d3 : decide ((k : Int) < n) = false := decide_eq_false (by omega)
      have d4 : (n : Int) ≤ k := by omega
      obtain rfl : k = n := by omega
      have hfm := Lib.hid (hform.out hF.out)
      have hiu := Lib.hid (hidu.out hF.out)
      clear hform hidu hnth hfit hbad hrng hF
      by_cases hw : upTo s k = D.size
      · obtain ⟨ia, icap, ib, ioff, hv, hTx, hcap, hib⟩ := hO.out.at_
        subst hv
        have hFan := Lib.hid fun (w' : World) (b : Below wr.heap.size wr w') => fanOf_calls ia icap ib ioff (idsAt s k) w' (hTx.next b) hiu.out hid32.out (by rw [idsAt_length]; omega)
        have hfm2 : Hid (Form s ↔ fanB (idsAt s k) 256 = F) := Lib.hid (hfm.out.trans ⟨fun g => g.2, fun g => ⟨hw, g⟩⟩)
        have q0 : ((upTo s k : Int) == (D.size : Int)) = true := by rw [hw]; simp
        have hub2 : upTo s k ≤ 1000000000 := by omega
        have hwU := wrap_i64 (upTo s k) (by omega)
        replace hw := Lib.hid hw
        generalize upTo s k = U at *
        generalize (idsAt s k) = J at *
        generalize fanB J 256 = T at *
        have bc : Below wr.heap.size wr wr.drew := b_drew wr
        have hkeep : Hid (∀ w', Below wr.heap.size wr w' → (w'.cell? ⟨w.heap.size, 0, none⟩ = some (.string F) ∧ w'.cell? ⟨w.heap.size, 1, none⟩ = some (.string I) ∧ w'.cell? ⟨w.heap.size, 2, none⟩ = some (.string D))) :=
          Lib.hid fun w' b => ⟨(hXr.out.next b).cell 0 rfl, (hXr.out.next b).cell 1 rfl, (hXr.out.next b).cell 2 rfl⟩
        have hk0 := hkeep.out _ bc
        clear hTx hib hcap c0 c1 c2 hO hXr hX hBr hB hsz2
        go_upto_region 14 with (fail)
        go_region_held3 (fun w' => w'.cell? ⟨w.heap.size, 0, none⟩ = some (.string F) ∧ w'.cell? ⟨w.heap.size, 1, none⟩ = some (.string I) ∧ w'.cell? ⟨w.heap.size, 2, none⟩ = some (.string D))
          (exact hkeep.out _ bc)
          (first
            | (go_at_call 50; refine (hFan.out _ bc).mono ?_; rintro e w4 ⟨rfl, bb⟩; replace bc := below_next bc bb; clear bb))
        all_goals
          go_wp2
          go_ret
          refine ⟨Tells.of ?_, below_next hBw.out bc⟩
          rw [hfm2.out]
          exact str_iff
      · have hfin : Hid (¬ Form s) := Lib.hid fun g => hw (hfm.out.1 g).1
        have q0 : ((upTo s k : Int) == (D.size : Int)) = false := by rw [beq_eq_false_iff_ne]; omega
        have hub2 : upTo s k ≤ 1000000000 := by omega
        have hwU := wrap_i64 (upTo s k) (by omega)
        replace hw := Lib.hid hw
        have hBe := Lib.hid fun n => below_next hBw.out (b_drewN wr n)
        generalize upTo s k = U at *
        clear hXr hX hBr hB hsz2 hO hBw
        go_wp2_with fail
        go_quiet (fail)
        go_wp2
        go_ret
        exact ⟨Tells.no hfin.out, hBe.out _⟩
end Go.Proofs.YtliojhhiadfmiaaDoor.Pk
