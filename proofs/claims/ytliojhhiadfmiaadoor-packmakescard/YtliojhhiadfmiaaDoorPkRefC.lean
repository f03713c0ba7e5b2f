/-
  The reference's Make answers what the plain function does, and Same tells like lists alike; old memory stays. Conditions: lists and texts of a length that the form's numbers bear.
-/
import Derived.Test.YtliojhhiadfmiaaDoorRows
import Derived.Test.YtliojhhiadfmiaaDoorPkOwn
import Derived.Test.YtliojhhiadfmiaaDoorPkMake
import Derived.Test.YtliojhhiadfmiaaDoorPkRefA
import Derived.Test.YtliojhhiadfmiaaDoorPkRefB
import Derived.Test.YtliojhhiadfmiaaDoorOctKit
import Derived.WalkKit
import Derived.WalkSpells
import Derived.WalkLawsBesides
import Derived.ProofKit
import Derived.OpenShut
import Derived.Laws.BytesArg
import Derived.Laws.Externs
import Derived.Deep.QuietTactic
import Derived.BigQuiet
import Derived.BigRegion
import Derived.Lib.Hide
import Derived.IntWalk
import Derived.Deep.LoopGhost
import Derived.Handy
import Derived.Deep.RegionHeld3
namespace Go.Proofs.YtliojhhiadfmiaaDoor.Pk
open Go Go.RowKit
open Oct (empty num4 num4_size)

theorem with_no (a : Option Addr) (cap b off : Nat) (L : List Itm) (x : Itm) (w : World) (hL : ItAt w a b off L) (hlen : L.length ≤ 100000) (h : ∃ l ∈ L, l.id = x.id) :
    Calls Tryd.prog 26 #[.slice a L.length cap, .agg #[.string x.id, .string x.data]] w fun e w' => (∃ v, e = .returned (.tuple #[v, .bool false])) ∧ Below w.heap.size w w' := by
  refine (with_calls a cap b off L x w hL hlen).mono ?_
  rintro e w' ⟨h1 | h1, hb⟩
  · exact ⟨h1.2, hb⟩
  · obtain ⟨l, hl, e⟩ := h
    exact absurd e (h1.1 l hl)
theorem with_yes (a : Option Addr) (cap b off : Nat) (L : List Itm) (x : Itm) (w : World) (hL : ItAt w a b off L) (hlen : L.length ≤ 100000) (h : ∀ l ∈ L, l.id ≠ x.id) :
    Calls Tryd.prog 26 #[.slice a L.length cap, .agg #[.string x.id, .string x.data]] w fun e w' => (∃ (a : Option Addr) (cap b off : Nat), e = .returned (.tuple #[.slice a (ins x L).length cap, .bool true]) ∧ ItAt w' a b off (ins x L)) ∧ Below w.heap.size w w' := by
  refine (with_calls a cap b off L x w hL hlen).mono ?_
  rintro e w' ⟨h1 | h1, hb⟩
  · obtain ⟨⟨l, hl, e⟩, _⟩ := h1
    exact absurd e (h l hl)
  · exact ⟨h1.2, hb⟩
theorem one_next {l : List ByteArray} {k : Nat} (h : k < l.length) (ho : One (l.take k)) (hn : ∀ x ∈ srt (l.take k), x.id ≠ dig l[k]) : One (l.take (k + 1)) := by
  unfold One at *
  rw [take_next h, List.map_append, List.nodup_append]
  refine ⟨ho, by simp, fun a ha b hb e => ?_⟩
  obtain ⟨s, hs, rfl⟩ := List.mem_map.1 ha
  simp only [List.map_cons, List.map_nil, List.mem_singleton] at hb
  exact hn (itm s) (srt_mem.2 ⟨s, hs, rfl⟩) (e.trans hb)
theorem one_not {l : List ByteArray} {k : Nat} (h : k < l.length) (hn : ∃ x ∈ srt (l.take k), x.id = dig l[k]) : ¬ One l := fun ho => by
  obtain ⟨x, hx, e⟩ := hn
  obtain ⟨s, hs, rfl⟩ := srt_mem.1 hx
  have h1 : One (l.take (k + 1)) := ho.take (k + 1)
  unfold One at h1
  rw [take_next h, List.map_append, List.nodup_append] at h1
  exact h1.2.2 (dig s) (List.mem_map.2 ⟨s, hs, rfl⟩) (dig l[k]) (by simp) e
theorem sumB_take (l : List ByteArray) (k : Nat) : sumB (l.take k) ≤ sumB l := by
  have := sumB_append (l.take k) (l.drop k)
  rw [List.take_append_drop] at this
  omega
theorem sumB_next' {l : List ByteArray} {k : Nat} (h : k < l.length) : sumB (l.take (k + 1)) = sumB (l.take k) + l[k].size := by
  rw [take_next h, sumB_append]
  simp [sumB]
theorem big_next {l : List ByteArray} {k : Nat} (h : k < l.length) : big (l.take (k + 1)) = (big (l.take k) || decide (131072 < l[k].size)) := by
  rw [take_next h]; unfold big; rw [List.any_append]; simp only [List.any_cons, List.any_nil, Bool.or_false]
set_option maxRecDepth 100000 in
set_option maxHeartbeats 4000000 in
theorem RMake_calls (a : Option Addr) (cap b off : Nat) (l : List ByteArray) (w : World) (hT : TxAt w a b off l) (hl : l.length ≤ 1024) (hs : sumB l ≤ 4000000) :
    Calls Tryd.prog 13 #[.slice a l.length cap] w fun e w' => e = .returned (.tuple #[.string (mk l).1, .int .i64 (mk l).2]) ∧ Below w.heap.size w w' := by
  replace hT := Lib.hid hT
  by_cases h0 : l.length = 0
  · obtain rfl : l = [] := List.length_eq_zero_iff.1 h0
    rw [mk_none]
    go_enter Tryd.func13, Tryd.ntmps13
    go_wp2
    go_ret2
    exact ⟨rfl, Below.refl _ _⟩
  · have d0 : ((l.length : Int) == 0) = false := by rw [beq_eq_false_iff_ne]; omega
    have d1 : decide (1024 < (l.length : Int)) = false := decide_eq_false (by omega)
    have d2 : ¬ 1024 < (l.length : Int) := by omega
    have hne : ¬ (l.length : Int) = 0 := by omega
    have hmb := Lib.hid (mk_big h0)
    have hm2 := Lib.hid fun hb => mk_two (l := l) h0 hb
    have hm1 := Lib.hid fun hb => mk_one l h0 (not_big hb)
    obtain ⟨R, hR⟩ : ∃ R, mk l = R := ⟨_, rfl⟩
    rw [hR] at hmb hm2 hm1 ⊢
    have hgd : Hid (R.2 = 0 → Good (srt l)) := Lib.hid fun h => made_good (by rw [hR]; exact h) hl hs
    clear hR
    go_enter Tryd.func13, Tryd.ntmps13
    go_wp2
    go_loopw [4] (fun i wr => ∃ k : Nat, k ≤ l.length ∧ i = .int .i64 k ∧ Hid (big (l.take k) = false) ∧ wr = w) (fun i _ => l.length - (intOf i).toNat)
    case atStart => exact ⟨0, by omega, rfl, Lib.hid rfl, rfl⟩
    case round =>
      obtain ⟨k, hk, rfl, hp, rfl⟩ := hrel
      by_cases hlt : k < l.length
      · have i1 : (k : Int) < l.length := by omega
        have i0 : 0 ≤ (k : Int) := by omega
        obtain rfl := hT.out.addr (by omega)
        have c0 := hT.out.cell k _ (List.getElem?_eq_getElem hlt)
        have hn := Lib.hid (big_next hlt)
        have hm : Hid (131072 < l[k].size → R = (empty, 5)) := Lib.hid fun h => hmb.out (big_iff.2 ⟨l[k], List.getElem_mem hlt, h⟩)
        generalize l[k] = s at *
        by_cases hz : 131072 < s.size
        · have q0 : (131072 : Int) < s.size := by omega
          have hfin := Lib.hid (hm.out hz)
          go_wp2
          go_ret2
          exact ⟨by rw [hfin.out]; rfl, Below.refl _ _⟩
        · have q0 : decide ((131072 : Int) < s.size) = false := decide_eq_false (by omega)
          have q1 : (s.size : Int) ≤ 131072 := by omega
          have q2 : decide (131072 < s.size) = false := decide_eq_false hz
          have hn2 : Hid (big (l.take (k + 1)) = false) := Lib.hid (by rw [hn.out, hp.out, q2]; rfl)
          go_wp2
          exact ⟨⟨k + 1, by omega, by go_num, hn2, trivial⟩, by simp [intOf]; omega⟩
      · have j0 : decide ((k : Int) < l.length) = false := decide_eq_false (by omega)
        have j1 : (l.length : Int) ≤ k := by omega
        obtain rfl : k = l.length := by omega
        rw [List.take_length] at hp
        replace hm2 := Lib.hid (hm2.out hp.out)
        replace hm1 := Lib.hid (hm1.out hp.out)
        have hnb := Lib.hid (not_big hp.out)
        clear hmb hp
        have hB := Lib.hid (b_alloc wr (.cells #[] 37))
        replace hT := Lib.hid (hT.out.next hB.out)
        obtain ⟨n0, hn0⟩ : ∃ n0 : Nat, n0 = 1068 + 44 * l.length := ⟨_, rfl⟩
        go_wp2
        generalize wr.alloc (.cells #[] 37) = w2 at *
        go_loopw [5, 6, 7, 8, 9] (fun v z i _ _ wx => ∃ (k : Nat) (a' : Option Addr) (c' b' o' : Nat), k ≤ l.length ∧ i = .int .i64 k ∧ v = .slice a' (srt (l.take k)).length c' ∧ z = .int .i64 (1068 + 44 * l.length + sumB (l.take k) : Nat) ∧ Hid (ItAt wx a' b' o' (srt (l.take k))) ∧ Hid (One (l.take k)) ∧ Hid (Below w2.heap.size w2 wx)) (fun _ _ i _ _ _ => l.length - (intOf i).toNat)
        case atStart => exact ⟨0, _, _, 0, 0, by omega, rfl, rfl, by simp [sumB], Lib.hid (ItAt.nil _ _), Lib.hid (by simp [One]), Lib.hid (Below.refl _ _)⟩
        case round =>
          obtain ⟨k, a', c', b', o', hk, rfl, rfl, rfl, hI, hone, hBr⟩ := hrel
          have hst := sumB_take l k
          have hTr := Lib.hid (hT.out.next hBr.out)
          have hlS : (srt (l.take k)).length ≤ 1024 := by rw [srt_length, List.length_take]; omega
          by_cases hlt : k < l.length
          · have i1 : (k : Int) < l.length := by omega
            have i0 : 0 ≤ (k : Int) := by omega
            obtain rfl := hTr.out.addr (by omega)
            have hgl : l[k]? = some l[k] := List.getElem?_eq_getElem hlt
            have hzz := hnb.out _ (List.getElem_mem hlt)
            have hsn := Lib.hid (srt_next hlt)
            have hbn := Lib.hid (sumB_next' hlt)
            have hno := Lib.hid (one_not hlt)
            have hon := Lib.hid (one_next hlt hone.out)
            replace hgl := Lib.hid hgl
            generalize l[k] = s at *
            generalize srt (l.take k) = S at *
            generalize sumB (l.take k) = Z at *
            have hSm := Lib.hid fun w => RSum_b s w (by omega)
            have bc : Below wr.heap.size wr wr.drew := b_drew wr
            have hkeep : Hid (∀ w', Below wr.heap.size wr w' → w'.cell? ⟨b, off + k, none⟩ = some (.string s)) := Lib.hid fun w' h => (hTr.out.next h).cell k _ hgl.out
            have hk0 := hkeep.out _ bc
            by_cases hex : ∃ x ∈ S, x.id = dig s
            · have hfin := Lib.hid (hm2.out (hno.out hex))
              have hW := Lib.hid fun (w' : World) (h : Below wr.heap.size wr w') => with_no a' c' b' o' S (itm s) w' (hI.out.next h) (by omega) hex
              replace hex := Lib.hid hex
              go_upto_region 15 with (fail)
              go_region_held3 (fun w' => w'.cell? ⟨b, off + k, none⟩ = some (.string s))
                (exact hkeep.out _ bc)
                (first
                  | (go_at_call 27; refine (hSm.out _).mono ?_; rintro e w4 ⟨rfl, bb⟩; replace bc := below_next bc bb; clear bb)
                  | (go_at_call 26; refine (hW.out _ bc).mono ?_; rintro e w4 ⟨⟨v, rfl⟩, bb⟩; replace bc := below_next bc bb; clear bb))
              all_goals
                go_wp2
                go_ret2
                exact ⟨by rw [hfin.out]; rfl, below_next hB.out (below_next hBr.out bc)⟩
            · have hex2 : ∀ x ∈ S, x.id ≠ dig s := fun x hx e => hex ⟨x, hx, e⟩
              have hfin := Lib.hid (hon.out hex2)
              have hW := Lib.hid fun (w' : World) (h : Below wr.heap.size wr w') => with_yes a' c' b' o' S (itm s) w' (hI.out.next h) (by omega) hex2
              replace hex := Lib.hid hex
              replace hex2 := Lib.hid hex2
              go_upto_region 15 with (fail)
              go_region_held3 (fun w' => w'.cell? ⟨b, off + k, none⟩ = some (.string s))
                (exact hkeep.out _ bc)
                (first
                  | (go_at_call 27; refine (hSm.out _).mono ?_; rintro e w4 ⟨rfl, bb⟩; replace bc := below_next bc bb; clear bb)
                  | (go_at_call 26; refine (hW.out _ bc).mono ?_; rintro e w4 ⟨⟨a2, c2, b2, o2, rfl, hI2⟩, bb⟩; replace hI2 := Lib.hid hI2; replace bc := below_next bc bb; clear bb))
              all_goals
                rename_i hHe
                have c0 := hHe
                clear hHe
                replace hBr := Lib.hid (below_next hBr.out bc)
                rw [← hsn.out] at hI2 ⊢
                clear hkeep hk0 bc hW hSm
                go_wp2
                exact ⟨⟨k + 1, a2, c2, b2, o2, by omega, by go_num, rfl, by rw [hbn.out]; go_num, hI2, hfin, hBr⟩, by simp [intOf]; omega⟩
          · have j2 : decide ((k : Int) < l.length) = false := decide_eq_false (by omega)
            have j3 : (l.length : Int) ≤ k := by omega
            obtain rfl : k = l.length := by omega
            rw [List.take_length] at hI hone hst hlS ⊢
            have hfin := Lib.hid (hm1.out hone.out)
            have hg := Lib.hid (hgd.out (by rw [hfin.out]))
            obtain ⟨Z, hZ⟩ : ∃ Z, Z = 1068 + 44 * l.length + sumB l := ⟨_, rfl⟩
            rw [← hZ]
            have z1 : decide (4194304 < (Z : Int)) = false := decide_eq_false (by omega)
            have z2 : (Z : Int) ≤ 4194304 := by omega
            have hbz := body_size _ hg.out.id32
            rw [srt_length, srt_sum] at hbz
            have hbb2 : (body (srt l)).size ≤ 4100000 := by omega
            have hds : (dig (body (srt l))).size ≤ 32 := Nat.le_of_eq (dig_size _)
            have hBy := Lib.hid (RBytes_calls a' c' b' o' (srt l) wr hI.out hg.out)
            have hSm := Lib.hid fun w => RSum_b (body (srt l)) w (by omega)
            have hpk : Hid (pack (srt l) = body (srt l) ++ dig (body (srt l))) := Lib.hid rfl
            replace hZ := Lib.hid hZ
            replace hbz := Lib.hid hbz
            generalize srt l = S at *
            generalize body S = Bd at *
            have s1 : ¬ 9223372036854775807 < Bd.size + (dig Bd).size := by omega
            go_wp2_with fail
            refine hBy.out.mono ?_
            rintro e w4 ⟨rfl, bb⟩
            replace hBr := Lib.hid (below_next hBr.out bb)
            clear bb
            go_wp2_with fail
            refine (hSm.out _).mono ?_
            rintro e w5 ⟨rfl, bb⟩
            replace hBr := Lib.hid (below_next hBr.out bb)
            clear bb
            go_wp2
            go_ret2
            exact ⟨by rw [hfin.out, hpk.out]; rfl, below_next hB.out hBr.out⟩
end Go.Proofs.YtliojhhiadfmiaaDoor.Pk
