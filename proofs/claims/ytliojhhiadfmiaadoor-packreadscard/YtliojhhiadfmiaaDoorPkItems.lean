/-
  pack's items and Read answer what the plain function does; old memory stays. Conditions: bytes of a size that the form's numbers bear; the tables lie where the program's variables are.
-/
import Derived.Test.YtliojhhiadfmiaaDoorRows
import Derived.Test.YtliojhhiadfmiaaDoorPkOwn
import Derived.Test.YtliojhhiadfmiaaDoorPkForm
import Derived.Test.YtliojhhiadfmiaaDoorPkSort
import Derived.Test.YtliojhhiadfmiaaDoorPkCut
import Derived.Test.YtliojhhiadfmiaaDoorPkNth
import Derived.Test.YtliojhhiadfmiaaDoorPkRead
import Derived.Test.YtliojhhiadfmiaaDoorOctKit
import Derived.WalkKit
import Derived.WalkSpells
import Derived.WalkLawsBesides
import Derived.ProofKit
import Derived.OpenShut
import Derived.Laws.BytesArg
import Derived.Laws.Externs
import Derived.Deep.QuietTactic
import Derived.BigQuiet
import Derived.BigRegion
import Derived.Lib.Hide
import Derived.IntWalk
import Derived.Deep.LoopGhost
import Derived.StillTailTactics
import Derived.Handy
import Derived.Deep.RegionHeld3
namespace Go.Proofs.YtliojhhiadfmiaaDoor.Pk
open Go Go.RowKit
open Oct (empty num4 num4_size rd4 Only Rd)

theorem Chk_b (s : ByteArray) (w : World) (he : Ev w) (hn : s.size ≤ 140737488351232) :
    Calls Tryd.prog 52 #[.string s] w fun e w' => e = .returned (.int .u32 (chk s)) ∧ Below w.heap.size w w' := by
  refine (Chk_calls s w he hn).mono ?_
  rintro e w' ⟨rfl, m, rfl⟩
  exact ⟨rfl, b_drewN w m⟩
/-- items answered, with a code -/
def Gives (r : List Itm × Int) (e : Ending) (w' : World) : Prop := ∃ (a : Option Addr) (cap b off : Nat), e = .returned (.tuple #[.slice a r.1.length cap, .int .i64 r.2]) ∧ ItAt w' a b off r.1
theorem Gives.none (c : Int) (w : World) : Gives ([], c) (.returned (.tuple #[.slice none 0 0, .int .i64 c])) w := ⟨Option.none, 0, 0, 0, rfl, ItAt.nil _ _⟩
theorem Gives.own {B : Nat} {w : World} {v : Value} {L : List Itm} (h : OwnI B w v L) (c : Int) : Gives (L, c) (.returned (.tuple #[v, .int .i64 c])) w := by
  obtain ⟨a, cap, b, off, rfl, hI, _⟩ := h.at_
  exact ⟨a, cap, b, off, rfl, hI⟩
/-- blocks of other types stay, append(items, x) -/
theorem wp_append_it2 {ops : Array Oper} {rest : List Oper} {o : Oper} {a : Act} {Q : Exit → Act → World → Prop} {w : World} (hgd : o.guard = none) (s x : Operand)
    (ho : o.op = .call { callee := .builtin .append, args := #[s, x], argTypes := #[28, 28] })
    (B : Nat) (v : Value) (L : List Itm) (i d : ByteArray) (hs : a.eval s = v) (hx : a.eval x = .slice (some ⟨w.heap.size, 0, none⟩) 1 1)
    (hown : OwnI B w v L) (hB : B ≤ w.heap.size) (hlen : L.length ≤ 1099511627776)
    (h : ∀ v' w', OwnI B w' v' (L ++ [⟨i, d⟩]) → (∀ u, Below B u w → Below B u w') → wpList Tryd.prog ops Q rest (a.put o.dst v') w') : wpList Tryd.prog ops Q (o :: rest) a (w.alloc (.cells #[.string i, .string d] 37)) :=
  wp_append_it hgd s x ho B v L ⟨i, d⟩ hs hx hown hB hlen h
theorem dat_piece {s : ByteArray} (h : Form s) (k : Nat) (hk : k < num s) : ((pdat s).extract (atAt s k).toNat (pdat s).size).extract 0 (szAt s k).toNat = datAt s k ∧ (atAt s k).toNat = upTo s k ∧ upTo s k + (szAt s k).toNat ≤ (pdat s).size := by
  have hw := h.whole
  have hu := upTo_le s (Nat.succ_le_of_lt hk)
  have hp := pdat_size h.begins
  have hs1 : upTo s (k + 1) = upTo s k + (szAt s k).toNat := by rw [upTo]
  obtain ⟨_, ha, _⟩ := h.fits k hk
  have hr2 : 0 ≤ szAt s k := by unfold szAt; exact (rdAt_range _ _).1
  have ht := there_piece h.begins k
  have e2 : datAt s k = s.extract (start s + upTo s k) (start s + upTo s k + (szAt s k).toNat) := by rw [datAt]
  have e3 : there s k = s.extract (start s + (atAt s k).toNat) (start s + (atAt s k).toNat + (szAt s k).toNat) := by rw [there]
  rw [e3] at ht
  rw [e2]
  rw [Nat.succ_eq_add_one, hs1] at hu
  clear e2 e3 hs1 h
  generalize szAt s k = S at *
  generalize upTo s (num s) = V at *
  generalize upTo s k = U at *
  generalize atAt s k = A at *
  generalize start s = B at *
  generalize pdat s = D at *
  subst ha
  rw [Int.toNat_natCast] at ht ⊢
  exact ⟨ht (by omega), rfl, by omega⟩
set_option maxRecDepth 100000 in
set_option maxHeartbeats 4000000 in
theorem items_calls (s : ByteArray) (w : World) (hf : Form s) (hs : s.size ≤ 1000000000) (he : Ev w) :
    Calls Tryd.prog 31 #[.agg #[.string (pfan s), .string (pidx s), .string (pdat s)]] w fun e w' => Gives (if ∀ k, k < num s → Sound s k then (itms s (num s), 0) else ([], 20)) e w' ∧ Below w.heap.size w w' := by
  have hg := hf.begins
  have hn := num_le hg
  have hcnt : Hid (∀ w : World, Calls Tryd.prog 37 #[.agg #[.string (pfan s), .string (pidx s), .string (pdat s)]] w fun e w' => e = .returned (.int .i64 (num s : Nat)) ∧ Below w.heap.size w w') := Lib.hid fun w => count_calls (pfan s) (pidx s) (pdat s) (num s) w (pidx_size hg) hn.2
  have hnth : Hid (∀ (k : Nat) (w : World), k < num s → Calls Tryd.prog 38 #[.agg #[.string (pfan s), .string (pidx s), .string (pdat s)], .int .i64 k] w fun e w' => e = .returned (.agg #[.string (idAt s k), .int .u32 (atAt s k), .int .u32 (szAt s k), .int .u32 (ckAt s k)]) ∧ Below w.heap.size w w') := Lib.hid fun k w hk => nth_calls s (pfan s) (pdat s) k w hg hk
  have hpc := Lib.hid (dat_piece hf)
  have hrng : Hid (∀ k, 0 ≤ szAt s k ∧ szAt s k ≤ 131072 ∨ ¬ k < num s) := Lib.hid fun k => if h : k < num s then Or.inl ⟨(rdAt_range s (1036 + 44 * k + 36)).1, (hf.fits k h).1⟩ else Or.inr h
  have hrat : Hid (∀ k, 0 ≤ atAt s k) := Lib.hid fun k => (rdAt_range _ _).1
  have hi32 : Hid (∀ k, k < num s → (idAt s k).size = 32) := Lib.hid fun k hk => idAt_size hg hk
  have hX := Lib.hid (Blk.new w #[.string (pfan s), .string (pidx s), .string (pdat s)] 53)
  have hB := Lib.hid (b_alloc w (.cells #[.string (pfan s), .string (pidx s), .string (pdat s)] 53))
  have hsD : (pdat s).size ≤ 1000000000 := by rw [pdat_size hg]; omega
  replace he := Lib.hid he
  generalize num s = n at *
  generalize pfan s = F at *
  generalize pidx s = I at *
  generalize pdat s = D at *
  replace hg := Lib.hid hg
  replace hf := Lib.hid hf
  obtain ⟨R, hR⟩ : ∃ R, R = (if ∀ k, k < n → Sound s k then (itms s n, (0 : Int)) else ([], 20)) := ⟨_, rfl⟩
  rw [← hR]
  have hbad : Hid (∀ k, k < n → ¬ Sound s k → R = ([], 20)) := Lib.hid fun k hk h => by rw [hR, if_neg (fun g => h (g k hk))]
  have hgood : Hid ((∀ k, k < n → Sound s k) → R = (itms s n, 0)) := Lib.hid fun h => by rw [hR, if_pos h]
  clear hR
  go_enter Tryd.func31, Tryd.ntmps31
  go_wp2_with fail
  have hsz1 : Hid ((w.alloc (.cells #[.string F, .string I, .string D] 53)).heap.size = w.heap.size + 1) := Lib.hid (by simp)
  generalize w.alloc (.cells #[.string F, .string I, .string D] 53) = w1 at *
  refine (hcnt.out _).mono ?_
  rintro e w2 ⟨rfl, bb⟩
  replace hB := Lib.hid (below_next hB.out bb)
  replace hX := Lib.hid (hX.out.next bb)
  have hsz2 : Hid (w.heap.size + 1 ≤ w2.heap.size) := Lib.hid (by have := bb.size; have := hsz1.out; omega)
  clear bb hcnt hsz1
  go_wp2
  go_loopw [4, 5, 6, 7, 10] (fun v _ _ _ i wr => ∃ k : Nat, k ≤ n ∧ i = .int .i64 k ∧ Hid (OwnI (w.heap.size + 1) wr v (itms s k)) ∧ Hid (∀ j, j < k → Sound s j) ∧ Hid (Below (w.heap.size + 1) w2 wr)) (fun _ _ _ _ i _ => n - (intOf i).toNat)
  case atStart => exact ⟨0, by omega, rfl, Lib.hid (OwnI.nil _ _), Lib.hid fun j hj => by omega, Lib.hid (Below.refl _ _)⟩
  case round =>
    obtain ⟨k, hk, rfl, hO, hF, hBr⟩ := hrel
    have hXr := Lib.hid (hX.out.below hBr.out (Nat.lt_succ_self _))
    have hszr : Hid (w.heap.size + 1 ≤ wr.heap.size) := Lib.hid (Nat.le_trans hsz2.out hBr.out.size)
    have hBw := Lib.hid (hB.out.trans (hBr.out.mono (Nat.le_succ _)))
    by_cases hlt : k < n
    · have i1 : (k : Int) < n := by omega
      have hN := Lib.hid fun w => hnth.out k w hlt
      have hbk := Lib.hid (hbad.out k hlt)
      have hsr := (hrng.out k).resolve_right (fun h => h hlt)
      have har := hrat.out k
      obtain ⟨p1, p2, p3⟩ := hpc.out k hlt
      have hid := hi32.out k hlt
      have hns : Hid (itms s (k + 1) = itms s k ++ [⟨idAt s k, datAt s k⟩]) := Lib.hid (itms_succ s k)
      have hlenM : (itms s k).length ≤ 1099511627776 := by rw [itms_length]; omega
      have hF2 : Hid (Sound s k → ∀ j, j < k + 1 → Sound s j) := Lib.hid fun h j hj => by
        by_cases e : j = k
        · rw [e]; exact h
        · exact hF.out j (by omega)
      have hsd : Hid (Sound s k ↔ chk (datAt s k) = ckAt s k ∧ dig (datAt s k) = idAt s k) := Lib.hid Iff.rfl
      obtain ⟨a, ha⟩ := Int.eq_ofNat_of_zero_le har
      obtain ⟨z, hz⟩ := Int.eq_ofNat_of_zero_le hsr.1
      rw [ha, hz] at p1
      rw [hz] at p3
      rw [ha] at p2
      rw [Int.toNat_natCast] at p2
      rw [Int.toNat_natCast, Int.toNat_natCast] at p1
      rw [Int.toNat_natCast] at p3
      rw [← p2] at p3
      have hzb : z ≤ 131072 := by omega
      have hdz : (datAt s k).size ≤ 131072 := by
        rw [← p1, ByteArray.size_extract]; omega
      rw [ha, hz] at hN
      have c0 := hXr.out.cell 0 (v := .string F) rfl
      have c1 := hXr.out.cell 1 (v := .string I) rfl
      have c2 := hXr.out.cell 2 (v := .string D) rfl
      clear hnth hbad hrng hgood hpc hrat hi32 p2 hsr har ha hz
      generalize itms s k = M at *
      go_wp2_with fail
      refine (hN.out _).mono ?_
      rintro e w6 ⟨rfl, bb⟩
      clear c0 c1 c2 hN
      replace hO := Lib.hid (hO.out.next bb)
      replace hBr := Lib.hid (hBr.out.trans (bb.mono hszr.out))
      replace hBw := Lib.hid (below_next hBw.out bb)
      replace hXr := Lib.hid (hXr.out.next bb)
      replace hszr := Lib.hid (Nat.le_trans hszr.out bb.size)
      clear bb
      have bb := b_alloc w6 (.cells #[.string (idAt s k), .int .u32 (a : Nat), .int .u32 (z : Nat), .int .u32 (ckAt s k)] 65)
      replace hO := Lib.hid (hO.out.next bb)
      replace hBr := Lib.hid (hBr.out.trans (bb.mono hszr.out))
      replace hBw := Lib.hid (below_next hBw.out bb)
      replace hXr := Lib.hid (hXr.out.next bb)
      replace hszr := Lib.hid (Nat.le_trans hszr.out bb.size)
      clear bb
      have hE := Lib.hid (Blk.new w6 #[.string (idAt s k), .int .u32 (a : Nat), .int .u32 (z : Nat), .int .u32 (ckAt s k)] 65)
      generalize idAt s k = X at *
      generalize ckAt s k = C at *
      generalize datAt s k = T at *
      go_upto_region 6 with (fail)
      generalize w6.alloc (.cells #[.string X, .int .u32 (a : Nat), .int .u32 (z : Nat), .int .u32 C] 65) = w7 at *
      generalize w6.heap.size = r2 at *
      have k3 : ((a : Nat) : Int) ≤ D.size := by omega
      have hz1 := piece_size D a D.size (Nat.le_refl _)
      obtain ⟨D1, hD1⟩ : ∃ D1, D.extract a D.size = D1 := ⟨_, rfl⟩
      rw [hD1] at p1 hz1
      have k4 : ((z : Nat) : Int) ≤ D1.size := by omega
      replace hz1 := Lib.hid hz1
      have e0 := hE.out.cell 0 (v := .string X) rfl
      have e1 := hE.out.cell 1 (v := .int .u32 (a : Nat)) rfl
      have e2 := hE.out.cell 2 (v := .int .u32 (z : Nat)) rfl
      have e3 := hE.out.cell 3 (v := .int .u32 C) rfl
      have c0 := hXr.out.cell 0 (v := .string F) rfl
      have c1 := hXr.out.cell 1 (v := .string I) rfl
      have c2 := hXr.out.cell 2 (v := .string D) rfl
      go_quiet (fail)
      have bb := b_drewN w7 nq
      replace hO := Lib.hid (hO.out.next bb)
      replace hBr := Lib.hid (hBr.out.trans (bb.mono hszr.out))
      replace hBw := Lib.hid (below_next hBw.out bb)
      replace hE := Lib.hid (hE.out.next bb)
      replace hszr := Lib.hid (Nat.le_trans hszr.out bb.size)
      clear bb c0 c1 c2 e0 e1 e2 e3 hXr
      generalize w7.drewN nq = w8 at *
      have hev := Lib.hid (he.out.next hBw.out)
      have bc : Below w8.heap.size w8 w8.drew := b_drew w8
      have hkeep : Hid (∀ w', Below w8.heap.size w8 w' → (w'.cell? ⟨r2, 0, none⟩ = some (.string X) ∧ w'.cell? ⟨r2, 3, none⟩ = some (.int .u32 C))) :=
        Lib.hid fun w' b => ⟨(hE.out.next b).cell 0 rfl, (hE.out.next b).cell 3 rfl⟩
      have hk0 := hkeep.out _ bc
      by_cases hc : chk T = C
      · have qc : (chk T != C) = false := by simpa using hc
        have hdz2 : T.size ≤ 281474976710656 := by omega
        have hiz2 : X.size ≤ 281474976710656 := by omega
        by_cases hd : dig T = X
        · have qd := str_eq hd
          have qe : ((dig T).toList != X.toList) = false := by rw [bne, qd]; rfl
          have hfin := Lib.hid (hF2.out (hsd.out.2 ⟨hc, hd⟩))
          replace hc := Lib.hid hc
          replace hd := Lib.hid hd
          clear hbk hF2 hsd hF
          go_upto_region 7 with (fail)
          go_region_held3 (fun w' => w'.cell? ⟨r2, 0, none⟩ = some (.string X) ∧ w'.cell? ⟨r2, 3, none⟩ = some (.int .u32 C))
            (exact hkeep.out _ bc)
            (first
              | (go_at_call 52; refine (Chk_b T _ (hev.out.next bc) (by omega)).mono ?_; rintro e w4 ⟨rfl, bb⟩; replace bc := below_next bc bb; clear bb)
              | (go_at_call 44; refine (Id_calls T _ (hev.out.next bc) (by omega)).mono ?_; rintro e w4 ⟨rfl, bb⟩; replace bc := below_next bc bb; clear bb))
          all_goals
            rename_i hHe
            clear hHe
            replace hO := Lib.hid (hO.out.next bc)
            replace hBr := Lib.hid (hBr.out.trans (bc.mono hszr.out))
            replace hszr := Lib.hid (Nat.le_trans hszr.out bc.size)
            replace hE := Lib.hid (hE.out.next bc)
            clear hkeep hk0 hBw hev bc
            have e0 := hE.out.cell 0 (v := .string X) rfl
            go_wp2_with fail
            refine (Clone_calls X _ hiz2).mono ?_
            rintro e w9 ⟨rfl, bb⟩
            replace hO := Lib.hid (hO.out.next bb)
            replace hBr := Lib.hid (hBr.out.trans (bb.mono hszr.out))
            replace hszr := Lib.hid (Nat.le_trans hszr.out bb.size)
            clear bb e0 hE
            go_wp2_with fail
            refine (Clone_calls T _ hdz2).mono ?_
            rintro e w10 ⟨rfl, bb⟩
            replace hO := Lib.hid (hO.out.next bb)
            replace hBr := Lib.hid (hBr.out.trans (bb.mono hszr.out))
            replace hszr := Lib.hid (Nat.le_trans hszr.out bb.size)
            clear bb
            go_wp2_with (at_builtin; refine wp_append_it2 rfl _ _ rfl (w.heap.size + 1) u4 M X T rfl rfl hO.out hszr.out hlenM ?_)
            intro v' w11 hO5 hB5
            have hB6 := Lib.hid (hB5 _ hBr.out)
            rw [← hns.out] at hO5
            replace hO5 := Lib.hid hO5
            clear hO hBr hB5
            go_wp2
            exact ⟨⟨k + 1, by omega, by go_num, hO5, hfin, hB6⟩, by simp [intOf]; omega⟩
        · have qd := str_ne hd
          have qe : ((dig T).toList != X.toList) = true := by rw [bne, qd]; rfl
          have hfin := Lib.hid (hbk.out (fun g => hd (hsd.out.1 g).2))
          replace hc := Lib.hid hc
          replace hd := Lib.hid hd
          clear hbk hF2 hsd hF
          go_upto_region 7 with (fail)
          go_region_held3 (fun w' => w'.cell? ⟨r2, 0, none⟩ = some (.string X) ∧ w'.cell? ⟨r2, 3, none⟩ = some (.int .u32 C))
            (exact hkeep.out _ bc)
            (first
              | (go_at_call 52; refine (Chk_b T _ (hev.out.next bc) (by omega)).mono ?_; rintro e w4 ⟨rfl, bb⟩; replace bc := below_next bc bb; clear bb)
              | (go_at_call 44; refine (Id_calls T _ (hev.out.next bc) (by omega)).mono ?_; rintro e w4 ⟨rfl, bb⟩; replace bc := below_next bc bb; clear bb))
          all_goals
            go_wp2
            go_ret2
            exact ⟨by rw [hfin.out]; exact Gives.none _ _, below_next hBw.out bc⟩
      · have qc : (chk T != C) = true := by simpa using hc
        have hfin := Lib.hid (hbk.out (fun g => hc (hsd.out.1 g).1))
        have hCk := Lib.hid fun w he => Chk_calls T w he (by omega)
        have e0 := hE.out.cell 0 (v := .string X) rfl
        have e3 := hE.out.cell 3 (v := .int .u32 C) rfl
        have hBe := Lib.hid fun n => below_next hBw.out (b_drewN w8 n)
        replace hc := Lib.hid hc
        clear bc hk0 hkeep hO hBr hBw
        go_upto_region 7 with (fail)
        go_quiet ((go_at_call 52; exact quiet_drawn (hCk.out _ (hev.out.drewN _))))
        go_wp2
        go_ret2
        exact ⟨by rw [hfin.out]; exact Gives.none _ _, hBe.out _⟩
    · have d3 : decide ((k : Int) < n) = false := decide_eq_false (by omega)
      have d4 : (n : Int) ≤ k := by omega
      obtain rfl : k = n := by omega
      have hfin := Lib.hid (hgood.out hF.out)
      clear hgood hbad hnth hpc hrng hrat hi32 hF
      go_wp2
      go_ret2
      exact ⟨by rw [hfin.out]; exact Gives.own hO.out 0, hBw.out⟩
theorem rd_short {s : ByteArray} (h : s.size < 1112) : rd s = ([], 3) := by unfold rd; rw [if_pos h]
theorem rd_sum {s : ByteArray} (h : ¬ s.size < 1112) (h2 : ¬ Sealed s) : rd s = ([], 20) := by unfold rd; rw [if_neg h, if_pos h2]
theorem rd_form {s : ByteArray} (h : ¬ s.size < 1112) (h2 : Sealed s) (h3 : ¬ Form s) : rd s = ([], 4) := by unfold rd; rw [if_neg h, if_neg (fun g => g h2), if_pos h3]
theorem rd_items {s : ByteArray} (h : ¬ s.size < 1112) (h2 : Sealed s) (h3 : Form s) : rd s = if ∀ k, k < num s → Sound s k then (itms s (num s), 0) else ([], 20) := by unfold rd; rw [if_neg h, if_neg (fun g => g h2), if_neg (fun g => g h3)]
set_option maxRecDepth 100000 in
set_option maxHeartbeats 2000000 in
theorem Read_calls (s : ByteArray) (w : World) (hs : s.size ≤ 4000000) (he : Ev w) :
    Calls Tryd.prog 14 #[.string s] w fun e w' => Gives (rd s) e w' ∧ Below w.heap.size w w' := by
  have d0 : decide (4194304 < (s.size : Int)) = false := decide_eq_false (by omega)
  have d1 : (s.size : Int) ≤ 4194304 := by omega
  by_cases h1 : s.size < 1112
  · rw [rd_short h1]
    have d2 : (s.size : Int) < 1112 := by omega
    go_enter Tryd.func14, Tryd.ntmps14
    go_wp2
    go_ret2
    exact ⟨Gives.none _ _, Below.refl _ _⟩
  · have d2 : decide ((s.size : Int) < 1112) = false := decide_eq_false (by omega)
    have d3 : (1112 : Int) ≤ s.size := by omega
    obtain ⟨E, hE⟩ : ∃ E, s.size - 32 = E := ⟨_, rfl⟩
    have e1 : IntKind.i64.wrap ((s.size : Int) - 32) = (E : Nat) := by simp [IntKind.wrap, IntKind.bits, IntKind.signed]; omega
    have e2 : (E : Int) ≤ s.size := by omega
    have hEs : E ≤ s.size := by omega
    have hz1 := piece_size s 0 E hEs
    have hsl : Sealed s ↔ dig (s.extract 0 E) = s.extract E s.size := by unfold Sealed; rw [hE]
    have hC := Lib.hid fun w => cut_calls s w (by omega) (by omega)
    have hS := Lib.hid fun w he => Sum_calls (s.extract 0 E) w he (by omega)
    replace he := Lib.hid he
    have bc : Below w.heap.size w w.drew := b_drew w
    by_cases h2 : Sealed s
    · have q1 := str_eq (hsl.1 h2)
      have q2 : ((dig (s.extract 0 E)).toList != (s.extract E s.size).toList) = false := by rw [bne, q1]; rfl
      by_cases hg : Begins s
      · rw [if_pos hg, decide_eq_true hg] at hC
        replace hC : Hid (∀ w : World, Calls Tryd.prog 29 #[.string s] w fun e w' => e = .returned (.tuple #[.agg #[.string (pfan s), .string (pidx s), .string (pdat s)], .bool true]) ∧ Below w.heap.size w w') := hC
        have hF := Lib.hid fun w => inForm_calls s w hg (by omega)
        have hI := Lib.hid fun w hf he => items_calls s w hf (by omega) he
        have hrf := Lib.hid (rd_form h1 h2)
        have hri := Lib.hid (rd_items h1 h2)
        replace h1 := Lib.hid h1
        replace h2 := Lib.hid h2
        replace hg := Lib.hid hg
        replace hE := Lib.hid hE
        replace hsl := Lib.hid hsl
        replace hz1 := Lib.hid hz1
        generalize dig (s.extract 0 E) = dg at *
        generalize pfan s = F at *
        generalize pidx s = I at *
        generalize pdat s = D at *
        go_enter Tryd.func14, Tryd.ntmps14
        go_upto_region 6 with (fail)
        go_region_held3 (fun _ => True) (exact trivial)
          (first
            | (go_at_call 19; refine (hS.out _ (he.out.next bc)).mono ?_; rintro e w4 ⟨rfl, bb⟩; replace bc := below_next bc bb; clear bb))
        all_goals
          have hB := Lib.hid bc
          clear bc hS
          go_wp2_with fail
          refine (hC.out _).mono ?_
          rintro e w5 ⟨rfl, bb⟩
          replace hB := Lib.hid (below_next hB.out bb)
          clear bb hC
          have bb := b_alloc w5 (.cells #[.string F, .string I, .string D] 53)
          have hX := Lib.hid (Blk.new w5 #[.string F, .string I, .string D] 53)
          replace hB := Lib.hid (below_next hB.out bb)
          clear bb
          go_wp2_with fail
          generalize w5.alloc (.cells #[.string F, .string I, .string D] 53) = w6 at *
          generalize w5.heap.size = r at *
          refine (hF.out _).mono ?_
          rintro e w7 ⟨⟨r, rfl, hr⟩, bb⟩
          replace hB := Lib.hid (below_next hB.out bb)
          replace hX := Lib.hid (hX.out.next bb)
          clear bb hF
          cases r with
          | false =>
            have hfin := Lib.hid (hrf.out (fun g => by have := hr.2 g; cases this))
            clear hr hrf hri
            go_wp2
            go_ret2
            exact ⟨by rw [hfin.out]; exact Gives.none _ _, hB.out⟩
          | true =>
            have hfm := Lib.hid (hr.1 rfl)
            have hfin := Lib.hid (hri.out hfm.out)
            have c0 := hX.out.cell 0 (v := .string F) rfl
            have c1 := hX.out.cell 1 (v := .string I) rfl
            have c2 := hX.out.cell 2 (v := .string D) rfl
            have hev := Lib.hid (he.out.next hB.out)
            clear hr hrf hri
            go_wp2_with fail
            refine (hI.out _ hfm.out hev.out).mono ?_
            rintro e w8 ⟨⟨a, cap, b, off, rfl, hit⟩, bb⟩
            replace hB := Lib.hid (below_next hB.out bb)
            generalize (if ∀ k, k < num s → Sound s k then (itms s (num s), (0 : Int)) else ([], 20)) = R at *
            have hG : Hid (Gives R (.returned (.tuple #[.slice a R.1.length cap, .int .i64 R.2])) w8) := Lib.hid ⟨a, cap, b, off, rfl, hit⟩
            clear bb hev c0 c1 c2 hit hI
            go_wp2
            go_ret2
            exact ⟨by rw [hfin.out]; exact hG.out, hB.out⟩
      · rw [if_neg hg, decide_eq_false hg] at hC
        have hfin := Lib.hid (rd_form h1 h2 (fun g => hg g.begins))
        replace h1 := Lib.hid h1
        replace h2 := Lib.hid h2
        replace hg := Lib.hid hg
        replace hE := Lib.hid hE
        replace hsl := Lib.hid hsl
        replace hz1 := Lib.hid hz1
        generalize dig (s.extract 0 E) = dg at *
        go_enter Tryd.func14, Tryd.ntmps14
        go_upto_region 6 with (fail)
        go_region_held3 (fun _ => True) (exact trivial)
          (first
            | (go_at_call 19; refine (hS.out _ (he.out.next bc)).mono ?_; rintro e w4 ⟨rfl, bb⟩; replace bc := below_next bc bb; clear bb))
        all_goals
          have hB := Lib.hid bc
          clear bc hS
          go_wp2_with fail
          refine (hC.out _).mono ?_
          rintro e w5 ⟨rfl, bb⟩
          replace hB := Lib.hid (below_next hB.out (below_next bb (b_alloc w5 (.cells #[.string empty, .string empty, .string empty] 53))))
          clear bb hC
          go_wp2
          go_ret2
          exact ⟨by rw [hfin.out]; exact Gives.none _ _, hB.out⟩
    · have q1 := str_ne (fun g => h2 (hsl.2 g))
      have q2 : ((dig (s.extract 0 E)).toList != (s.extract E s.size).toList) = true := by rw [bne, q1]; rfl
      have hfin := Lib.hid (rd_sum h1 h2)
      replace h1 := Lib.hid h1
      replace h2 := Lib.hid h2
      replace hE := Lib.hid hE
      replace hsl := Lib.hid hsl
      replace hz1 := Lib.hid hz1
      generalize dig (s.extract 0 E) = dg at *
      go_enter Tryd.func14, Tryd.ntmps14
      go_upto_region 6 with (fail)
      go_region_held3 (fun _ => True) (exact trivial)
        (first
          | (go_at_call 19; refine (hS.out _ (he.out.next bc)).mono ?_; rintro e w4 ⟨rfl, bb⟩; replace bc := below_next bc bb; clear bb))
      all_goals
        go_wp2
        go_ret2
        exact ⟨by rw [hfin.out]; exact Gives.none _ _, bc⟩
end Go.Proofs.YtliojhhiadfmiaaDoor.Pk
