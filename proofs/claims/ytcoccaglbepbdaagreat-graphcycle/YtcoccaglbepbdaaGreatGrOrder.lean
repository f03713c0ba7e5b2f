/-
  graph's Order and Height. Conditions: a graph, and keys, as the statements ask of.
-/
import Derived.Test.YtcoccaglbepbdaaGreatRows
import Derived.Test.YtcoccaglbepbdaaGreatGrTell
namespace Go.Proofs.YtcoccaglbepbdaaGreat.Gr
open Go.RowKit Sh
open Ti (SetAt Reads IsOf keysV keysV_len keysV_snoc info_key row_of_owns owns_none)
open Rf (Sl sl_of_owns)
attribute [local go_sem] fold_none

theorem reads_of_sl {W : World} {s : Option Addr} {c : Nat} {M : List Int} (h : Sl W (.slice s M.length c) M) : Reads W.heap.size W (.slice s M.length c) M := by
  obtain ⟨s2, c2, e, h2⟩ := h
  refine ⟨s, c, rfl, fun h0 => ?_⟩
  have : s = s2 := by simp at e; exact e.1
  subst this
  exact h2 h0
set_option maxRecDepth 100000 in
set_option maxHeartbeats 4000000 in
theorem Order_calls (w : World) (b m : Nat) (G : Gph) (v : Value) (K : List Int) (h : GraphAt w b m G) (hS : Small G) (hK : K.length ≤ 100) (hv : Sl w v K) :
    Calls Tryz.prog 22 #[.pointer (some ⟨b, 0, none⟩), v] w (Ordered w G K) := by
  obtain ⟨i0, hi, hz0, hz1, hz2⟩ := info_parts info_key
  obtain ⟨sv, cv, rfl, hv2⟩ := sl_box hv
  have hO := Lib.hid (Ti.Of_calls w sv cv K (by omega) (reads_of_sl hv))
  have hG := Lib.hid fun w' (hb : Below w.heap.size w w') => h.next hb
  clear hv h
  go_enter Tryz.func22, Tryz.ntmps22
  go_wp2_with fail
  refine hO.out.mono ?_
  rintro e w1 ⟨S, hI, sb, rfl, -, hS1, b1⟩
  have hSK : S.length ≤ 100 := Nat.le_trans hI.2.2 hK
  have hL := Lib.hid (Ti.SetList_calls w1 _ S hS1 (by omega))
  replace hI := Lib.hid hI
  replace b1 := Lib.hid b1
  clear hO hS1
  go_wp2_with fail
  refine hL.out.mono ?_
  rintro e w2 ⟨u, rfl, ⟨hown, hu⟩, b2⟩
  obtain ⟨g, c, rfl⟩ := hu
  rw [keysV_len] at *
  have hsl := sl_of_owns (M := S) (by rw [keysV_len]; exact hown)
  have b02 := Lib.hid (b_then b1.out b2)
  have hgl : g < w2.heap.size := (hown.lt g rfl).2
  have hcl : ∀ t, t < S.length → w2.cell? ⟨g, t, none⟩ = some (.int .i64 (S[t]?.getD 0)) := fun t ht => by
    have := World.ownsRow.cells hown (g := g) rfl t (.int .i64 (S[t]?.getD 0)) (by simp [keysV, List.getElem?_eq_getElem ht])
    rw [Addr.add_mid, Nat.zero_add] at this
    exact this
  have hCo := Lib.hid (Contains_lacks w2 b m g c G S (hG.out _ b02.out) (by omega) hgl hcl)
  have hAm := Lib.hid fun w' (hb : Below w2.heap.size w2 w') => among_calls w' b m G (.slice (some ⟨g, 0, none⟩) S.length c) S (hG.out _ (b_then b02.out hb)) hS hI.out.1 hSK (hsl.next hb)
  replace hsl := Lib.hid hsl
  replace hcl := Lib.hid hcl
  clear hown b2 hL
  go_wp2_with fail
  refine hCo.out.mono ?_
  rintro e w3 ⟨z, rfl, hz, b3⟩
  have b03 := Lib.hid (b_then b02.out b3)
  clear hCo
  cases z with
  | true =>
    have hx : ∃ x ∈ K, x ∉ G.D := Classical.byContradiction fun e => by
      have := hz.2 fun x hx => Classical.byContradiction fun e2 => e ⟨x, (hI.out.2.1 x).1 hx, e2⟩
      cases this
    obtain ⟨x, hx1, hx2⟩ := hx
    have hend := Lib.hid (Ordered.none_ hx1 hx2 b03.out)
    clear hz hAm
    go_wp2
    go_ret2
    exact hend.out
  | false =>
    have hall : Hid (∀ x ∈ K, x ∈ G.D) := Lib.hid fun x hx => hz.1 rfl x ((hI.out.2.1 x).2 hx)
    have hAm2 := Lib.hid (hAm.out _ b3)
    have hcl3 : Hid (∀ t, t < S.length → ∀ w', Below w3.heap.size w3 w' → w'.cell? ⟨g, t, none⟩ = some (.int .i64 (S[t]?.getD 0))) := Lib.hid fun t ht w' hb => (hb.cell (p := ⟨g, t, none⟩) (Nat.lt_of_lt_of_le hgl b3.size)).trans ((b3.cell (p := ⟨g, t, none⟩) hgl).trans (hcl.out t ht))
    clear hz hAm b3 hcl hgl hsl
    go_wp2_with fail
    refine hAm2.out.mono ?_
    rintro e w4 ⟨uF, F, rfl, hA, hF, b4⟩
    have hSt := Lib.hid (settled_calls w4 uF S.length F (places_among hS hSK hA) hF)
    have hoa := Lib.hid (order_among hI.out.1 hA)
    have b04 := Lib.hid (b_then b03.out b4)
    replace b4 := Lib.hid b4
    clear hAm2 hF
    go_wp2_with fail
    refine hSt.out.mono ?_
    rintro e w5 ⟨uo, z, rfl, hzo, b5⟩
    have b05 := Lib.hid (b_then b04.out b5)
    have b35 := Lib.hid (b_then b4.out b5)
    clear hSt b5 b4
    rcases hzo with ⟨rfl, o, ho, hso⟩ | ⟨rfl, ho⟩
    · rw [ho] at hoa
      have hoS : Stand (ptr F) (rng S.length) o := order_stand _ (rng_len _) (rng_rises _) ho
      have hol : o.length = S.length := by rw [hoS.len, rng_len]
      obtain ⟨so, co, rfl, hso2⟩ := sl_box hso
      rw [hol] at hso2 ⊢
      replace hoS := Lib.hid hoS
      replace hol := Lib.hid hol
      clear hso hA ho
      go_wp2
      go_loopg [9, 32] S.length (fun gg s9 s32 wr => ∃ (i : Nat), s32 = .int .i64 (i : Int) ∧ i ≤ S.length ∧ S.length - i ≤ gg ∧ Hid (wr.ownsRow w5.heap.size 3 1 s9 (keysV ((o.take i).map (name S))).length (keysV ((o.take i).map (name S)))) ∧ Hid (Below w5.heap.size w5 wr))
      case atStart => exact ⟨0, rfl, by omega, by omega, Lib.hid (World.ownsRow_nil _ _ _ _), Lib.hid (Below.refl _ _)⟩
      case round =>
        obtain ⟨i, rfl, hil, hgg, hrow, hbr⟩ := hrel
        obtain ⟨ra, rn, rc, rfl⟩ : ∃ ra rn rc, u9 = .slice ra rn rc := by
          obtain ⟨a9, c9, e9⟩ := row_shape hrow.out
          exact ⟨_, _, _, e9⟩
        by_cases hlt : i < S.length
        · have hlo : i < o.length := by rw [hol.out]; exact hlt
          obtain ⟨go, oo, rfl, cO⟩ := sl_cell hso2.out hbr.out hlo
          have hop : o[i]? = some (o[i]?.getD 0) := by rw [List.getElem?_eq_getElem hlo]; simp
          obtain ⟨p, hpn, hpe⟩ := mem_rng.1 ((hoS.out.mem _).1 (List.mem_of_getElem? hop))
          rw [hpe] at hop cO
          have cp := hcl3.out p hpn wr (b_then b35.out hbr.out)
          have hnx : (o.take (i + 1)).map (name S) = (o.take i).map (name S) ++ [S[p]?.getD 0] := by
            rw [List.take_add_one, hop, List.map_append]; simp [name]
          have hln : ((o.take i).map (name S)).length ≤ 100 := by rw [List.length_map, List.length_take]; omega
          have l1 : (i : Int) < S.length := by omega
          have l2 : (0 : Int) ≤ i := by omega
          have l3 : (p : Int) < S.length := by omega
          have l4 : (0 : Int) ≤ p := by omega
          have hw1 : IntKind.i64.wrap ((i : Int) + 1) = ((i + 1 : Nat) : Int) := wrap_nat (i + 1) (by omega)
          have hms : Hid (S.length - (i + 1) < gk) := Lib.hid (by omega)
          have hi3 : Hid (i + 1 ≤ S.length) := Lib.hid (by omega)
          generalize (o.take i).map (name S) = A at *
          generalize S[p]?.getD 0 = y at *
          replace hnx := Lib.hid hnx
          clear hlo hop hpe hgg hil hlt hpn
          have hbs := Lib.hid hbr.out.size
          go_wp2_with (first
            | (fail)
            | (at_builtin; refine wpList_append_own _ rfl _ _ 23 rfl w5.heap.size 3 i0 (.int .i64 0) 1 8 Tryz.underlying23 hi hz0 hz1 hz2 rfl (by decide) _ _ _ rfl (hrow.out.alloc _) ⟨wr.heap.size, 0, none⟩ 1 1 [.int .i64 y] rfl rfl (cell_one_new _ _ _) (by simp [Value.oneCell']) ?c3 ?c4 ?c5 ?_))
          case c3 => rw [keysV_len]; simp [maxLen]; omega
          case c4 => rw [keysV_len]; omega
          case c5 => have := hbs.out; simp; omega
          intro v' w6 ho' hgrow _
          have ho2 : Hid (w6.ownsRow w5.heap.size 3 1 v' (keysV ((o.take (i + 1)).map (name S))).length (keysV ((o.take (i + 1)).map (name S)))) := Lib.hid (by rw [hnx.out, keysV_snoc, List.length_append]; exact ho')
          have hb2 : Hid (Below w5.heap.size w5 w6) := Lib.hid ((b_next hbr.out (b_alloc _ _) (Nat.le_refl _)).grown hgrow (by have := hbs.out; simp; omega) (fun q e => (hrow.out.lt q e).1))
          clear ho' hgrow hrow hbr
          go_wp2
          go_roundg (S.length - (i + 1))
          case measure => exact hms.out
          case rel => exact ⟨i + 1, by simp, hi3.out, Nat.le_refl _, ho2, hb2⟩
        · obtain rfl : i = S.length := by omega
          have l1 : ¬ (S.length : Int) < S.length := by omega
          have hslr := sl_of_owns hrow.out
          rw [List.take_of_length_le (by rw [hol.out]; exact Nat.le_refl _)] at hslr
          have hend := Lib.hid (Ordered.yes hall.out hI.out.1 hI.out.2.1 hoa.out hslr (b_then b05.out hbr.out))
          clear hslr hrow hso2
          go_wp2
          go_ret2
          exact hend.out
    · rw [ho] at hoa
      have hend := Lib.hid (Ordered.ring hall.out hI.out.1 hI.out.2.1 hoa.out b05.out)
      clear ho hA
      go_wp2
      go_ret2
      exact hend.out
/-- Height's answer -/
def Heighted (w : World) (G : Gph) (k : Int) (e : Ending) (w' : World) : Prop := ∃ h c, e = .returned (.tuple #[.int .i64 h, .int .i64 c]) ∧ HgtIs G k h c ∧ Below w.heap.size w w'
theorem Heighted.mk_ {w w' : World} {G : Gph} {k h c : Int} (h1 : HgtIs G k h c) (hb : Below w.heap.size w w') : Heighted w G k (.returned (.tuple #[.int .i64 h, .int .i64 c])) w' := ⟨h, c, rfl, h1, hb⟩
theorem sl_one (w : World) (k : Int) : Sl (w.alloc (.cells #[.int .i64 k] 3)) (.slice (some ⟨w.heap.size, 0, none⟩) 1 1) [k] :=
  ⟨_, 1, rfl, fun _ => ⟨w.heap.size, 0, rfl, by simp, fun j hj => by
    have : j = 0 := by simpa using hj
    subst this
    exact (Boxed.new w 3 (.int .i64 k)).cell⟩⟩
theorem top_height {G : Gph} (hG : G.Ok) {k : Int} {M : List Int} {h : Nat → Nat} (hk : k ∈ G.D) (hM : IsMet G.T [k] M) (hH : Hts G k (fun x => h ((reach G.D M).idxOf x))) {x : Int}
    (hx : x ∈ waitsOf (reach G.D M).length h) (hall : ∀ y ∈ waitsOf (reach G.D M).length h, y ≤ x) : x = ((h ((reach G.D M).idxOf k) : Nat) : Int) := by
  have hkm : k ∈ reach G.D M := mem_reach.2 ⟨(hM.2 k).2 (.here (by simp)), hk⟩
  have h1 := hall ((h ((reach G.D M).idxOf k) : Nat) : Int) (List.mem_map.2 ⟨_, List.mem_range.2 (List.idxOf_lt_length_of_mem hkm), rfl⟩)
  obtain ⟨q, hq, rfl⟩ := List.mem_map.1 hx
  have hq := List.mem_range.1 hq
  have hn := name_in (S := reach G.D M) hq
  obtain ⟨h2, h3⟩ := mem_reach.1 hn.2
  have h4 := hH.top hG ((hM.2 _).1 h2) h3
  rw [idx_name (reach_rises hM.1) hq] at h4
  omega
set_option maxRecDepth 100000 in
set_option maxHeartbeats 4000000 in
theorem Height_calls (w : World) (b m : Nat) (G : Gph) (k : Int) (h : GraphAt w b m G) (hS : Small G) :
    Calls Tryz.prog 24 #[.pointer (some ⟨b, 0, none⟩), .int .i64 k] w (Heighted w G k) := by
  have hLa := Lib.hid (lacks_calls w b m G k h)
  have hG := Lib.hid fun w' (hb : Below w.heap.size w w') => h.next hb
  have hok := Lib.hid h.ok
  have b0 := b_alloc w (.cells #[.int .i64 k] 3)
  have hRe := Lib.hid (Reach_calls _ b m G _ [k] (h.next b0) hS (by simp) (sl_one w k))
  have hb00 := Below.refl w.heap.size w
  clear h
  by_cases hk : k ∈ G.D
  · rw [show decide (k ∈ G.D) = true by simpa using hk] at hLa
    replace hk := Lib.hid hk
    go_enter Tryz.func24, Tryz.ntmps24
    go_wp2_with (go_at_call 45; refine hLa.out.mono ?_; rintro e w' ⟨rfl, hw'⟩; obtain rfl := hw'.symm; clear hw' hLa)
    refine hRe.out.mono ?_
    rintro e w1 ⟨M, hM, hMl, u, rfl, hu, b1⟩
    have b01 := Lib.hid (b_then b0 b1)
    obtain ⟨R, hR⟩ : ∃ R, Hid (R = reach G.D M) := ⟨_, Lib.hid rfl⟩
    rw [← hR.out] at hu
    have hRr : Rises R := by rw [hR.out]; exact reach_rises hM.1
    have hRl : R.length ≤ 100 := Nat.le_trans (nodup_len R G.D (rises_nodup hRr) fun x hx => by rw [hR.out] at hx; exact (mem_reach.1 hx).2) (Nat.le_trans hS.nodes (by omega))
    have hAm := Lib.hid (among_calls w1 b m G u R (hG.out _ b01.out) hS hRr hRl hu)
    replace hM := Lib.hid hM
    replace hRr := Lib.hid hRr
    obtain ⟨su, cu, rfl, -⟩ := sl_box hu
    clear hRe b1 hu
    go_wp2_with fail
    refine hAm.out.mono ?_
    rintro e w2 ⟨uF, F, rfl, hA, hF, b2⟩
    have hPl := places_among hS hRl hA
    have hSt := Lib.hid (settled_calls w2 uF R.length F hPl hF)
    have hoa := Lib.hid (order_among hRr.out hA)
    have b02 := Lib.hid (b_then b01.out b2)
    have hHe := Lib.hid fun w' u' o (hb : Below w2.heap.size w2 w') (ho : order (ptr F) R.length (rng R.length) = some o) (hu' : Sl w' u' o) => heights_calls w' uF u' R.length F o hPl (hF.next hb) (order_stand _ (rng_len _) (rng_rises _) ho) hu'
    replace hA := Lib.hid hA
    clear hAm b2 hF hPl
    go_wp2_with fail
    refine hSt.out.mono ?_
    rintro e w3 ⟨uo, z, rfl, hzo, b3⟩
    have b03 := Lib.hid (b_then b02.out b3)
    clear hSt
    rcases hzo with ⟨rfl, o, ho, hso⟩ | ⟨rfl, ho⟩
    · have hHe2 := Lib.hid (hHe.out w3 uo o b3 ho hso)
      rw [ho] at hoa
      replace ho := Lib.hid ho
      obtain ⟨so, co, rfl, -⟩ := sl_box hso
      clear hHe b3 hso
      go_wp2_with fail
      refine hHe2.out.mono ?_
      rintro e w4 ⟨r, hh, rfl, hr, hri, b4⟩
      have b04 := Lib.hid (b_then b03.out b4)
      have hkR : k ∈ R := by rw [hR.out]; exact mem_reach.2 ⟨(hM.out.2 k).2 (.here (by simp)), hk.out⟩
      have hMx := Lib.hid (Max_calls w4 r _ (by rw [waits_len]; omega) (by rw [waits_len]; exact List.length_pos_of_mem hkR) hr)
      have hHt : Hid (Hts G k (fun x => hh (R.idxOf x))) := Lib.hid (hts_among hM.out hR.out hA.out ho.out hri)
      obtain ⟨sr, cr, rfl, -⟩ := sl_box hr
      clear hHe2 b4 hr hri hkR
      go_wp2_with fail
      refine hMx.out.mono ?_
      rintro e w5 ⟨⟨x, rfl, hx1, hx2⟩, hw5⟩
      obtain rfl := hw5.symm
      have hxe : x = ((hh (R.idxOf k) : Nat) : Int) := by
        rw [hR.out] at hx1 hx2 hHt ⊢
        exact top_height hok.out hk.out hM.out hHt.out hx1 hx2
      have hend : Hid (Heighted w G k (.returned (.tuple #[.int .i64 x, .int .i64 0])) w4) := Lib.hid (Heighted.mk_ (Or.inr ⟨hk.out, M, hM.out, Or.inr ⟨_, _, by rw [← hR.out]; exact hoa.out, hHt.out, hxe, rfl⟩⟩) b04.out)
      clear hx1 hx2 hxe hMx hw5
      go_wp2
      go_ret2
      exact hend.out
    · rw [ho] at hoa
      have hend : Hid (Heighted w G k (.returned (.tuple #[.int .i64 0, .int .i64 23])) w3) := Lib.hid (Heighted.mk_ (Or.inr ⟨hk.out, M, hM.out, Or.inl ⟨by rw [← hR.out]; exact hoa.out, rfl, rfl⟩⟩) b03.out)
      clear hHe b3 ho
      go_wp2
      go_ret2
      exact hend.out
  · rw [show decide (k ∈ G.D) = false by simpa using hk] at hLa
    have hend : Hid (Heighted w G k (.returned (.tuple #[.int .i64 0, .int .i64 12])) w) := Lib.hid (Heighted.mk_ (Or.inl ⟨hk, rfl, rfl⟩) hb00)
    clear hk hRe
    go_enter Tryz.func24, Tryz.ntmps24
    go_wp2_with (go_at_call 45; refine hLa.out.mono ?_; rintro e w' ⟨rfl, hw'⟩; obtain rfl := hw'.symm; clear hw' hLa)
    go_ret2
    exact hend.out
/-- of a nil graph -/
theorem OrderNil_calls (w : World) (a : Option Addr) (n cap : Nat) :
    Calls Tryz.prog 22 #[.pointer none, .slice a n cap] w fun e w' => e = .returned (.tuple #[.slice none 0 0, .int .i64 2]) ∧ w' = w := by
  go_enter Tryz.func22, Tryz.ntmps22
  go_wp2
  go_ret2
  exact ⟨rfl, rfl⟩
theorem HeightNil_calls (w : World) (k : Int) :
    Calls Tryz.prog 24 #[.pointer none, .int .i64 k] w fun e w' => e = .returned (.tuple #[.int .i64 0, .int .i64 2]) ∧ w' = w := by
  go_enter Tryz.func24, Tryz.ntmps24
  go_wp2
  go_ret2
  exact ⟨rfl, rfl⟩
end Go.Proofs.YtcoccaglbepbdaaGreat.Gr
