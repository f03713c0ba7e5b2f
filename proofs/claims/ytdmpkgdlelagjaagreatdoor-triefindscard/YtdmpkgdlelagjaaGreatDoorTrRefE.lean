/-
  The document's own Draw. Conditions: lists of at most 80 texts, of sizes that the form's numbers bear.
-/
import Derived.Test.YtdmpkgdlelagjaaGreatDoorRows
import Derived.Test.YtdmpkgdlelagjaaGreatDoorTrRefD
import Derived.Test.YtdmpkgdlelagjaaGreatDoorTrDraw
import Derived.Deep.DeepCutAuto
import Derived.Deep.CutRange
namespace Go.Proofs.YtdmpkgdlelagjaaGreatDoor.Tr
open Go Go.RowKit
open Ident (by_ val dg digit has digits)
open Sh (b_alloc b_drew b_drewN b_next b_then Rises)

set_option maxRecDepth 100000 in
set_option maxHeartbeats 4000000 in
theorem RDraw_bad (a : Option Addr) (cap b off : Nat) (L : List ByteArray) (c : Cell) (vi vk : Value) (w : World) (hT : TxAt w a b off L) (hn : L.length ≤ 140737488351232) (hsz : ∀ x ∈ L, x.size ≤ 140737488351232) (hi : Lst w vi c.ids) (hk : Lst w vk c.kds) (hs : ¬ IsSet L) :
    Calls Tryz.prog 16 #[.slice a L.length cap, cellV c vi vk] w (DrawIs w [] [] 1) := by
  obtain ⟨p, n, s, I, K⟩ := c
  obtain ⟨ai, ci, bi, oi, rfl, -, -⟩ := hi
  obtain ⟨ak, ck, bk, ok, rfl, -, -⟩ := hk
  unfold cellV
  dsimp only at *
  have ba := b_alloc w (.cells #[.string p, .int .i64 n, .string s, .slice ai I.length ci, .slice ak K.length ck] 25)
  have hS := Lib.hid (tells_no (RSet_calls a cap b off L _ (hT.next ba) hn hsz) hs)
  generalize L.length = m at *
  generalize I.length = ni at *
  generalize K.length = nk at *
  replace ba := Lib.hid ba
  clear hT hs
  go_enter Tryz.func16, Tryz.ntmps16
  go_wp2_with fail
  refine hS.out.mono ?_
  rintro e w1 ⟨rfl, b1⟩
  have bw1 := Lib.hid (b_then ba.out b1)
  clear hS b1
  go_wp2
  exact bodyPost_ret (v := .tuple #[.slice none 0 0, .slice none 0 0, .int .i64 1]) (by simp [results, Tryz.results16]) rfl ⟨_, _, rfl, Lst.nil _, Lst.nil _, bw1.out⟩
theorem lst_empty (w : World) (g cap : Nat) : Lst w (.slice (some ⟨g, 0, none⟩) 0 cap) [] := ⟨_, cap, g, 0, rfl, Nat.zero_le _, TxAt.nil _ _ _ _⟩
set_option maxRecDepth 100000 in
set_option maxHeartbeats 8000000 in
theorem RDraw_calls (a : Option Addr) (cap b off : Nat) (L : List ByteArray) (c : Cell) (vi vk : Value) (w : World) (hT : TxAt w a b off L) (hn : L.length ≤ 80) (hi : Lst w vi c.ids) (hk : Lst w vk c.kds) (hs : IsSet L) (hni : c.ids.length ≤ 80) (hnk : c.kds.length ≤ 80) (hz : c.pre.size ≤ 140737488351232)
    (hzi : ∀ x ∈ c.ids, x.size ≤ 140737488351232) (hzk : ∀ x ∈ c.kds, x.size ≤ 140737488351232) :
    Calls Tryz.prog 16 #[.slice a L.length cap, cellV c vi vk] w fun e w' => (∃ n, IsCheck c n ∧ n ≠ 0 ∧ DrawIs w [] [] n e w') ∨ (IsCheck c 0 ∧ DrawIs w (lacks L c) (asks L c) 0 e w') := by
  have hSt := Lib.hid fun w' (hb : Below w.heap.size w w') => tells_yes (RSet_calls a cap b off L w' (hT.next hb) (by omega) (fun x hx => by rw [hs.1 x hx]; omega)) hs
  have hCh := Lib.hid fun w' (hb : Below w.heap.size w w') => RCheck_calls c vi vk w' (hi.next hb) (hk.next hb) hni hnk hz hzi hzk
  have hfit : Hid (IsCheck c 0 → (TellsIds c ∧ c.kds.length = 0) ∨ (IsPre c.pre ∧ TellsKids c ∧ c.kds.length = 16 ∧ c.ids = [])) := Lib.hid fun h => by
    by_cases g : IsPre c.pre ∧ (TellsIds c ∨ TellsKids c)
    · rcases g.2 with g' | g'
      · exact Or.inl ⟨g', g'.2.2.1⟩
      · exact Or.inr ⟨g.1, g', g'.2.2.2.1, List.length_eq_zero_iff.1 g'.2.2.1⟩
    · have := h.form g; omega
  obtain ⟨ai, ci, bi, oi, rfl, -, hTi⟩ := hi
  obtain ⟨ak, ck, bk, ok, rfl, -, hTk⟩ := hk
  have hIn := Lib.hid fun x w' (hb : Below w.heap.size w w') => Rin_calls a cap b off L x w' (hT.next hb) (by omega)
  have hBe := Lib.hid fun (q : ByteArray) w' (hb : Below w.heap.size w w') => RBelow_calls a cap b off L q w' (hT.next hb) (by omega)
  have hSu := Lib.hid fun (d : Nat) (hpre : IsPre (longer c.pre d)) (a : Option Addr) (cap b off : Nat) (w : World) (h1 : TxAt w a b off (below L (longer c.pre d))) => RSum_calls (64 - (longer c.pre d).size) (longer c.pre d) (by have := hpre.1; omega) hpre a cap b off (below L (longer c.pre d)) w h1 (Nat.le_trans (List.length_filter_le _ _) (by omega)) (below_set hs _) (below_below L _)
  unfold cellV at *
  have ba := b_alloc w (.cells #[.string c.pre, .int .i64 c.count, .string c.sum, .slice ai c.ids.length ci, .slice ak c.kds.length ck] 25)
  have cA := CellAt.new w (.string c.pre) (.int .i64 c.count) (.string c.sum) (.slice ai c.ids.length ci) (.slice ak c.kds.length ck) 25
  have hSt1 := Lib.hid (hSt.out _ ba)
  obtain ⟨p, hp⟩ : ∃ p, Hid (c.pre = p) := ⟨_, Lib.hid rfl⟩
  obtain ⟨n, hn'⟩ : ∃ n, Hid (c.count = n) := ⟨_, Lib.hid rfl⟩
  obtain ⟨s, hs'⟩ : ∃ s, Hid (c.sum = s) := ⟨_, Lib.hid rfl⟩
  obtain ⟨mi, hmi⟩ : ∃ mi, Hid (c.ids.length = mi) := ⟨_, Lib.hid rfl⟩
  obtain ⟨mk, hmk⟩ : ∃ mk, Hid (c.kds.length = mk) := ⟨_, Lib.hid rfl⟩
  obtain ⟨m, hm⟩ : ∃ m, Hid (L.length = m) := ⟨_, Lib.hid rfl⟩
  rw [hp.out] at hSu
  simp only [hp.out, hn'.out, hs'.out, hmi.out, hmk.out, hm.out] at hIn hBe ba cA hSt1 hCh hni hnk ⊢
  have hcell := Lib.hid fun w' (hb : Below (w.alloc (.cells #[.string p, .int .i64 n, .string s, .slice ai mi ci, .slice ak mk ck] 25)).heap.size (w.alloc (.cells #[.string p, .int .i64 n, .string s, .slice ai mi ci, .slice ak mk ck] 25)) w') => cA.next hb
  replace ba := Lib.hid ba
  replace hs := Lib.hid hs
  replace hTi := Lib.hid hTi
  replace hTk := Lib.hid hTk
  clear hT hz hSt cA
  go_enter Tryz.func16, Tryz.ntmps16
  go_wp2_with fail
  generalize (w.alloc (.cells #[.string p, .int .i64 n, .string s, .slice ai mi ci, .slice ak mk ck] 25)) = W at *
  refine hSt1.out.mono ?_
  rintro e w0 ⟨rfl, b0⟩
  have bw0 := Lib.hid (b_then ba.out b0)
  have hCh1 := Lib.hid (hCh.out w0 bw0.out)
  replace hcell := Lib.hid fun w' (hb : Below w0.heap.size w0 w') => hcell.out w' (b_then b0 hb)
  clear hSt1 hCh b0 ba
  obtain ⟨z0, z1, z2, z3, z4⟩ := hcell.out _ (Below.refl _ w0)
  go_wp2_with fail
  refine hCh1.out.mono ?_
  rintro e w1 ⟨⟨k, rfl, hk⟩, b1⟩
  have bw1 := Lib.hid (b_then bw0.out b1)
  replace hcell := Lib.hid fun w' (hb : Below w1.heap.size w1 w') => hcell.out w' (b_then b1 hb)
  clear hCh1 b1 bw0 z0 z1 z2 z3 z4
  by_cases h0 : k = 0
  case neg =>
    have hE : Hid ((∃ n, IsCheck c n ∧ n ≠ 0 ∧ DrawIs w [] [] n (.returned (.tuple #[.slice none 0 0, .slice none 0 0, .int .i64 k])) w1) ∨ (IsCheck c 0 ∧ DrawIs w (lacks L c) (asks L c) 0 (.returned (.tuple #[.slice none 0 0, .slice none 0 0, .int .i64 k])) w1)) := Lib.hid (Or.inl ⟨k, hk, h0, _, _, rfl, Lst.nil _, Lst.nil _, bw1.out⟩)
    have d0 : (k == 0) = false := by simpa using h0
    have d1 : (k != 0) = true := by simpa using h0
    clear hIn hBe hSu hk h0
    go_wp2
    exact bodyPost_ret (v := .tuple #[.slice none 0 0, .slice none 0 0, .int .i64 k]) (by simp [results, Tryz.results16]) rfl hE.out
  subst h0
  have hO0 : Hid (OwnT w1.heap.size (w1.alloc (.cells #[] 9)) (.slice (some ⟨w1.heap.size, 0, none⟩) 0 0) []) := Lib.hid (OwnT.new w1 _ (Nat.le_refl _))
  have hB1 := b_alloc w1 (.cells #[] 9)
  have hB2 := b_alloc (w1.alloc (.cells #[] 9)) (.cells #[] 9)
  rcases hfit.out hk with ⟨h1, h2⟩ | ⟨hpre, h1, h2, h3⟩
  · obtain rfl : mk = 0 := by rw [← hmk.out]; exact h2
    have hO1 : Hid (OwnT w1.heap.size ((w1.alloc (.cells #[] 9)).alloc (.cells #[] 9)) (.slice (some ⟨w1.heap.size, 0, none⟩) 0 0) (notIn L (c.ids.take 0))) := Lib.hid (hO0.out.next hB2)
    have hB3 := Lib.hid (b_then hB1 hB2)
    have hE : Hid (∀ v g w', OwnT w1.heap.size w' v (notIn L c.ids) → Below w1.heap.size w1 w' → (∃ n, IsCheck c n ∧ n ≠ 0 ∧ DrawIs w [] [] n (.returned (.tuple #[v, .slice (some ⟨g, 0, none⟩) 0 0, .int .i64 0])) w') ∨ (IsCheck c 0 ∧ DrawIs w (lacks L c) (asks L c) 0 (.returned (.tuple #[v, .slice (some ⟨g, 0, none⟩) 0 0, .int .i64 0])) w')) := Lib.hid fun v g w' ho hb =>
      Or.inr ⟨hk, v, _, rfl, ho.lst, by rw [asks_none L h2]; exact lst_empty _ _ _, b_then bw1.out hb⟩
    clear hBe hSu hk h1 h2 hB1 hB2 hO0 hfit
    go_wp2
    go_loopw [8, 10] (fun v i wr => ∃ k : Nat, k ≤ mi ∧ i = .int .i64 (k : Int) ∧ Hid (OwnT w1.heap.size wr v (notIn L (c.ids.take k))) ∧ Hid (Below w1.heap.size w1 wr)) (fun _ i _ => mi - (intOf i).toNat)
    case atStart => exact ⟨0, by omega, rfl, hO1, hB3⟩
    case round =>
      clear hO1 hB3
      obtain ⟨k, hk, rfl, hO, hB⟩ := hrel
      obtain ⟨z0, z1, z2, z3, z4⟩ := hcell.out _ hB.out
      by_cases hlt : k < mi
      · have i1 : (k : Int) < mi := by omega
        have i0 : 0 ≤ (k : Int) := by omega
        have hkl : k < c.ids.length := by rw [hmi.out]; exact hlt
        have hka := hTi.out.addr (by omega)
        subst hka
        have bwr := b_then bw1.out hB.out
        have c0 := (hTi.out.next bwr).cell k _ (List.getElem?_eq_getElem hkl)
        obtain ⟨x, hx⟩ : ∃ x, Hid (c.ids[k] = x) := ⟨_, Lib.hid rfl⟩
        rw [hx.out] at c0
        have hIn1 := Lib.hid (hIn.out x wr bwr)
        replace bwr := Lib.hid bwr
        go_wp2_with fail
        refine hIn1.out.mono ?_
        rintro e w' ⟨⟨z, rfl, hz⟩, hw'⟩
        subst hw'
        clear hIn1
        by_cases hin : x ∈ L
        · obtain rfl : z = true := hz.2 hin
          have hnx : Hid (OwnT w1.heap.size wr u8 (notIn L (c.ids.take (k + 1)))) := Lib.hid (by rw [← notIn_snoc_no hkl hx.out hin]; exact hO.out)
          replace hin := Lib.hid hin
          clear hz
          go_wp2
          exact ⟨⟨k + 1, by omega, by go_num, hnx, hB⟩, by simp [intOf]; omega⟩
        · obtain rfl : z = false := by cases z with | false => rfl | true => exact absurd (hz.1 rfl) hin
          have hs2 := Lib.hid (notIn_snoc_yes hkl hx.out hin)
          have hl2 : (notIn L (c.ids.take k)).length ≤ 1099511627776 := Nat.le_trans (List.length_filter_le _ _) (by rw [List.length_take]; omega)
          replace hin := Lib.hid hin
          clear hz
          go_wp2_with (at_builtin; refine wp_append_tx rfl _ _ rfl w1.heap.size u8 (notIn L (c.ids.take k)) x rfl rfl hO.out hB.out.size hl2 ?_)
          intro v' w2 hO2 hB2
          have hO3 := Lib.hid hO2
          have hB3 := Lib.hid (hB2 _ hB.out)
          rw [hs2.out] at hO3
          clear hO2 hB2
          go_wp2
          exact ⟨⟨k + 1, by omega, by go_num, hO3, hB3⟩, by simp [intOf]; omega⟩
      · have d0 : decide ((k : Int) < mi) = false := decide_eq_false (by omega)
        have d1 : (mi : Int) ≤ k := by omega
        have hE1 := Lib.hid (hE.out u8 (w1.heap.size + 1) wr (by have := hO.out; rwa [List.take_of_length_le (by rw [hmi.out]; omega)] at this) hB.out)
        clear hE
        go_wp2
        go_loopw [9, 11] (fun q i w' => q = .slice (some ⟨w1.heap.size + 1, 0, none⟩) 0 0 ∧ i = .int .i64 0 ∧ wr = w') (fun _ _ _ => 0)
        case atStart => exact ⟨rfl, rfl, rfl⟩
        case round =>
          obtain ⟨rfl, rfl, rfl⟩ := hrel
          go_wp2
          exact bodyPost_ret (v := .tuple #[u8, .slice (some ⟨w1.heap.size + 1, 0, none⟩) 0 0, .int .i64 0]) (by simp [results, Tryz.results16]) rfl hE1.out
  · obtain rfl : mk = 16 := by rw [← hmk.out]; exact h2
    obtain rfl : mi = 0 := by rw [← hmi.out, h3]; rfl
    have hp64 : p.size < 64 := by have := h1.2.2.2.2.1; rwa [hp.out] at this
    rw [hp.out] at hpre
    have hkz : ∀ x ∈ c.kds, x.size = 32 := h1.2.2.2.2.2
    have hO2 := OwnT.new (w1.alloc (.cells #[] 9)) _ (Nat.le_refl _)
    have hO1 : Hid (OwnT w1.heap.size ((w1.alloc (.cells #[] 9)).alloc (.cells #[] 9)) (.slice (some ⟨w1.heap.size + 1, 0, none⟩) 0 0) (asksTo L c 0)) := Lib.hid (by
      have := hO2.mono (C := w1.heap.size) (by simp)
      simp only [World.size_alloc] at this
      exact this)
    have hB3 := Lib.hid (b_then hB1 hB2)
    have hE : Hid (∀ v g w', OwnT w1.heap.size w' v (asksTo L c 16) → Below w1.heap.size w1 w' → (∃ n, IsCheck c n ∧ n ≠ 0 ∧ DrawIs w [] [] n (.returned (.tuple #[.slice (some ⟨g, 0, none⟩) 0 0, v, .int .i64 0])) w') ∨ (IsCheck c 0 ∧ DrawIs w (lacks L c) (asks L c) 0 (.returned (.tuple #[.slice (some ⟨g, 0, none⟩) 0 0, v, .int .i64 0])) w')) := Lib.hid fun v g w' ho hb =>
      Or.inr ⟨hk, _, v, rfl, by unfold lacks; rw [h3]; exact lst_empty _ _ _, by rw [← asks_sixteen L h2]; exact ho.lst, b_then bw1.out hb⟩
    have hF1 := Lib.hid fun w' => ref_few [] w' (by show 0 ≤ _; omega)
    have hnil : ((⟨#[108]⟩ : ByteArray) ++ jt []) = ⟨#[108]⟩ := by kernel_rfl
    rw [hnil] at hF1
    clear hIn hk h1 h2 h3 hB1 hB2 hO0 hfit hO2 hnil
    replace hkz := Lib.hid hkz
    replace hpre := Lib.hid hpre
    go_wp2
    go_loopw [8, 10] (fun q i w' => q = .slice (some ⟨w1.heap.size, 0, none⟩) 0 0 ∧ i = .int .i64 0 ∧ ((w1.alloc (.cells #[] 9)).alloc (.cells #[] 9)) = w') (fun _ _ _ => 0)
    case atStart => exact ⟨rfl, rfl, rfl⟩
    case round =>
      obtain ⟨rfl, rfl, rfl⟩ := hrel
      obtain ⟨z0, z1, z2, z3, z4⟩ := hcell.out _ hB3.out
      go_wp2
      clear z0 z1 z2 z3 z4
      go_loopw [9, 11] (fun v i wr => ∃ d : Nat, d ≤ 16 ∧ i = .int .i64 (d : Int) ∧ Hid (OwnT w1.heap.size wr v (asksTo L c d)) ∧ Hid (Below w1.heap.size w1 wr)) (fun _ i _ => 16 - (intOf i).toNat)
      case atStart => exact ⟨0, by omega, rfl, hO1, hB3⟩
      case round =>
        clear hO1 hB3
        obtain ⟨d, hd, rfl, hO, hB⟩ := hrel
        obtain ⟨z0, z1, z2, z3, z4⟩ := hcell.out _ hB.out
        by_cases hlt : d < 16
        · have i1 : (d : Int) < 16 := by omega
          have i0 : 0 ≤ (d : Int) := by omega
          have hkl : d < c.kds.length := by rw [hmk.out]; exact hlt
          have hka := hTk.out.addr (by omega)
          subst hka
          have bwr := b_then bw1.out hB.out
          have c0 := (hTk.out.next bwr).cell d _ (List.getElem?_eq_getElem hkl)
          obtain ⟨x, hx⟩ : ∃ x, Hid (c.kds[d] = x) := ⟨_, Lib.hid rfl⟩
          rw [hx.out] at c0
          have hxD : c.kds.getD d ByteArray.empty = x := by rw [List.getD_eq_getElem?_getD, List.getElem?_eq_getElem hkl]; exact hx.out
          have hpL := longer_pre hpre.out hp64 hlt
          have hle := letter_at d hlt
          have hlo := longer_of p d
          have hBe1 := Lib.hid fun w' (hb : Below wr.heap.size wr w') => hBe.out (longer p d) w' (b_then bwr hb)
          have hSu1 := Lib.hid fun a cap b off w => hSu.out d hpL a cap b off w
          have u2 : ((d : Int) + 1).toNat = d + 1 := by omega
          have u3 : (d : Int) + 1 ≤ 16 := by omega
          have u4 : (0 : Int) ≤ (d : Int) + 1 := by omega
          have u6 : (d : Int) ≤ (d : Int) + 1 := by omega
          have uw : IntKind.i64.wrap ((d : Int) + 1) = (d : Int) + 1 := IntWalk.i64_in _ (by omega)
          have g1 : ¬ 9223372036854775807 < p.size + 1 := by omega
          have g2 : ¬ (9223372036854775807 : Int) < (p.size : Int) + 1 := by omega
          have hask : asked L c d = decide (x ≠ sumAt (longer p d).size (below L (longer p d)) ∧ x ≠ few []) := by
            unfold asked
            rw [hxD, hp.out, kid_below hp64 hlt]
          obtain ⟨q2, hq2⟩ : ∃ q2, Hid (longer p d = q2) := ⟨_, Lib.hid rfl⟩
          rw [hq2.out] at hlo hBe1 hSu1 hask
          obtain ⟨kd, hkd⟩ : ∃ kd, Hid (sumAt q2.size (below L q2) = kd) := ⟨_, Lib.hid rfl⟩
          rw [hkd.out] at hSu1 hask
          obtain ⟨nb, hnb⟩ : ∃ nb, Hid ((below L q2).length = nb) := ⟨_, Lib.hid rfl⟩
          rw [hnb.out] at hSu1
          obtain ⟨fw, hfw⟩ : ∃ fw, Hid (few [] = fw) := ⟨_, Lib.hid rfl⟩
          rw [hfw.out] at hask
          have hF2 := Lib.hid (show ∀ w', Calls Tryz.prog 41 #[.string ⟨#[108]⟩] w' (fun e w2 => e = .returned (.string fw) ∧ Below w'.heap.size w' w2) from fun w' => by have := hF1.out w'; rwa [hfw.out] at this)
          replace bwr := Lib.hid bwr
          go_upto_region 16 with (fail)
          go_cut [12] from 53 to 59 (fun q wx => q = .string q2 ∧ Hid (∃ j, wx = wr.drewN j))
          case first =>
            go_quiet (fail)
            go_wp2
            go_meet
            exact ⟨rfl, Lib.hid ⟨_, rfl⟩⟩
          case rest =>
            obtain ⟨rfl, hj⟩ := hcut
            obtain ⟨j, rfl⟩ := hj.out
            have bJ := b_drewN wr j
            replace hBe1 := Lib.hid fun w' (hb : Below (wr.drewN j).heap.size (wr.drewN j) w') => hBe1.out w' (b_then bJ hb)
            replace hcell := Lib.hid fun w' (hb : Below (wr.drewN j).heap.size (wr.drewN j) w') => hcell.out w' (b_then hB.out (b_then bJ hb))
            have hTk2 := Lib.hid fun w' (hb : Below (wr.drewN j).heap.size (wr.drewN j) w') => ((hTk.out.next bwr.out).next (b_then bJ hb)).cell d _ (List.getElem?_eq_getElem hkl)
            rw [hx.out] at hTk2
            replace hB := Lib.hid (b_then hB.out bJ)
            replace hO := Lib.hid (hO.out.next bJ)
            generalize wr.drewN j = wj at *
            clear z0 z1 z2 z3 z4 c0 hle hlo u2 u3 u4 u6 uw g1 g2 hSu hF1 bwr bJ hj hE
            have hS : Hid (∀ w', Below wj.heap.size wj w' → w'.cell? ⟨w.heap.size, 4, none⟩ = some (.slice (some ⟨bk, ok, none⟩) 16 ck) ∧ w'.cell? ⟨bk, ok + d, none⟩ = some (.string x)) := Lib.hid fun w' hb => by
              obtain ⟨_, _, _, _, h4⟩ := hcell.out w' hb
              exact ⟨h4, hTk2.out w' hb⟩
            have hl2 : (asksTo L c d).length ≤ 1099511627776 := Nat.le_trans (asksTo_len L c d) (by omega)
            have q0 := hB.out.size
            by_cases hx1 : x = kd
            · have e1 := str_eq hx1
              have e2 : (x.toList != kd.toList) = false := by rw [bne, e1]; rfl
              have hno : Hid (OwnT w1.heap.size wj u9 (asksTo L c (d + 1))) := Lib.hid (by
                rw [← asksTo_no (by rw [hask]; exact decide_eq_false fun h => h.1 hx1)]; exact hO.out)
              clear hx1 hask
              go_upto_region 17 with (fail)
              refine wp_region_held_drew (S := (fun w' => w'.cell? ⟨w.heap.size, 4, none⟩ = some (.slice (some ⟨bk, ok, none⟩) 16 ck) ∧ w'.cell? ⟨bk, ok + d, none⟩ = some (.string x))) (by kernel_rfl) (hS.out _ (b_drew wj)) (fun hHeld => ?_)
              refine wpAnyH_take (i := 0) (oi := { dst := some 60, op := _, type := _, pos := _, after := _, guard := none }) (v := ?vr1_0) rfl (by kernel_rfl) (by kernel_rfl) (by kernel_rfl) (fun _ _ _ h => h) (Or.inl ⟨by rfl, ?hyr1_0⟩) (by assumption) ?restr1_0
              case hyr1_0 => (intro w hSw; (try dsimp only at hSw); go_simp <;> with_reducible rfl)
              (try simp only [Act.put, List.setIfInBounds_toArray, List.set_cons_zero, List.set_cons_succ])
              refine wpAnyH_take (i := 1) (oi := { dst := some 61, op := _, type := _, pos := _, after := _, guard := none }) (v := ?vr1_1) rfl (by kernel_rfl) (by kernel_rfl) (by kernel_rfl) (fun _ _ _ h => h) (Or.inl ⟨by rfl, ?hyr1_1⟩) (by assumption) ?restr1_1
              case hyr1_1 => (intro w hSw; (try dsimp only at hSw); go_simp <;> with_reducible rfl)
              (try simp only [Act.put, List.setIfInBounds_toArray, List.set_cons_zero, List.set_cons_succ])
              refine wpAnyH_take (i := 2) (oi := { dst := some 62, op := _, type := _, pos := _, after := _, guard := none }) (v := ?vr1_2) rfl (by kernel_rfl) (by kernel_rfl) (by kernel_rfl) (fun _ _ _ h => h) (Or.inl ⟨by rfl, ?hyr1_2⟩) (by assumption) ?restr1_2
              case hyr1_2 => (intro w hSw; (try dsimp only at hSw); go_simp <;> with_reducible rfl)
              (try simp only [Act.put, List.setIfInBounds_toArray, List.set_cons_zero, List.set_cons_succ])
              refine wpAnyH_take (i := 3) (oi := { dst := some 63, op := _, type := _, pos := _, after := _, guard := none }) (v := ?vr1_3) rfl (by kernel_rfl) (by kernel_rfl) (by kernel_rfl) (fun _ _ _ h => h) (Or.inl ⟨by rfl, ?hyr1_3⟩) (by assumption) ?restr1_3
              case hyr1_3 => (intro w hSw; (try dsimp only at hSw); go_simp <;> with_reducible rfl)
              (try simp only [Act.put, List.setIfInBounds_toArray, List.set_cons_zero, List.set_cons_succ])
              refine wpAnyH_take (i := 4) (oi := { dst := some 64, op := _, type := _, pos := _, after := _, guard := none }) (v := ?vr1_4) rfl (by kernel_rfl) (by kernel_rfl) (by kernel_rfl) (fun _ _ _ h => h) (Or.inl ⟨by rfl, ?hyr1_4⟩) (by assumption) ?restr1_4
              case hyr1_4 => (intro w hSw; (try dsimp only at hSw); go_simp <;> with_reducible rfl)
              (try simp only [Act.put, List.setIfInBounds_toArray, List.set_cons_zero, List.set_cons_succ])
              refine wpAnyH_take (i := 5) (oi := { dst := some 65, op := _, type := _, pos := _, after := _, guard := none }) (v := ?vr1_5) rfl (by kernel_rfl) (by kernel_rfl) (by kernel_rfl) (fun _ _ _ h => h) (Or.inl ⟨by rfl, ?hyr1_5⟩) (by assumption) ?restr1_5
              case hyr1_5 => (intro w hSw; (try dsimp only at hSw); go_simp <;> with_reducible rfl)
              (try simp only [Act.put, List.setIfInBounds_toArray, List.set_cons_zero, List.set_cons_succ])
              refine wpAnyH_take (i := 6) (oi := { dst := some 66, op := _, type := _, pos := _, after := _, guard := none }) (v := ?vr1_6) rfl (by kernel_rfl) (by kernel_rfl) (by kernel_rfl) (fun _ _ _ h => h) (Or.inl ⟨by rfl, ?hyr1_6⟩) (by assumption) ?restr1_6
              case hyr1_6 => (intro w hSw; (try dsimp only at hSw); go_simp <;> with_reducible rfl)
              (try simp only [Act.put, List.setIfInBounds_toArray, List.set_cons_zero, List.set_cons_succ])
              refine wpAnyH_take (i := 8) (oi := { dst := some 68, op := _, type := _, pos := _, after := _, guard := none }) (v := ?vr1_7) rfl (by kernel_rfl) (by kernel_rfl) (by kernel_rfl) (fun _ _ _ h => h) (Or.inl ⟨by rfl, ?hyr1_7⟩) (by assumption) ?restr1_7
              case hyr1_7 => (intro w hSw; (try dsimp only at hSw); go_simp <;> with_reducible rfl)
              (try simp only [Act.put, List.setIfInBounds_toArray, List.set_cons_zero, List.set_cons_succ])
              refine wpAnyH_ready (rs := [7]) (by kernel_rfl) (by simp) ?_
              refine AllReadyH.cons (o := { dst := some 67, op := _, type := _, pos := _, after := _, guard := none }) rfl (fun K hK => ?_) AllReadyH.nil
              go_simp
              (refine (hBe1.out _ (b_drew wj)).mono ?_; rintro e w7 ⟨v7, rfl, hO7, bb⟩; obtain ⟨a7, c7, b7, o7, rfl, hT7, -, -⟩ := hO7.at_; rw [hnb.out]; have bc := b_then (b_drew wj) bb)
              (try go_wp2_with fail)
              refine hK.out _ _ ((hS.out _ bc)) (fun hHeld => ?_)
              clear hK K
              (try simp only [Act.put, List.setIfInBounds_toArray, List.set_cons_zero, List.set_cons_succ])
              refine wpAnyH_ready (rs := [9]) (by kernel_rfl) (by simp) ?_
              refine AllReadyH.cons (o := { dst := some 69, op := _, type := _, pos := _, after := _, guard := none }) rfl (fun K hK => ?_) AllReadyH.nil
              go_simp
              (refine (hSu1.out _ _ _ _ _ hT7).mono ?_; rintro e w8 ⟨rfl, b8⟩; have bd := b_then bc b8)
              (try go_wp2_with fail)
              refine hK.out _ _ ((hS.out _ bd)) (fun hHeld => ?_)
              clear hK K
              (try simp only [Act.put, List.setIfInBounds_toArray, List.set_cons_zero, List.set_cons_succ])
              refine wpAnyH_take (i := 10) (oi := { dst := some 70, op := _, type := _, pos := _, after := _, guard := none }) (v := ?vr1_8) rfl (by kernel_rfl) (by kernel_rfl) (by kernel_rfl) (fun _ _ _ h => h) (Or.inl ⟨by rfl, ?hyr1_8⟩) (by assumption) ?restr1_8
              case hyr1_8 => (intro w hSw; (try dsimp only at hSw); go_simp <;> with_reducible rfl)
              (try simp only [Act.put, List.setIfInBounds_toArray, List.set_cons_zero, List.set_cons_succ])
              refine wpAnyH_take (i := 11) (oi := { dst := some 71, op := _, type := _, pos := _, after := _, guard := none }) (v := ?vr1_9) rfl (by kernel_rfl) (by kernel_rfl) (by kernel_rfl) (fun _ _ _ h => h) (Or.inl ⟨by rfl, ?hyr1_9⟩) (by assumption) ?restr1_9
              case hyr1_9 => (intro w hSw; (try dsimp only at hSw); go_simp <;> with_reducible rfl)
              (try simp only [Act.put, List.setIfInBounds_toArray, List.set_cons_zero, List.set_cons_succ])
              refine wpAnyH_take (i := 12) (oi := { dst := some 72, op := _, type := _, pos := _, after := _, guard := some (11, true) }) (v := undef) rfl (by kernel_rfl) (by kernel_rfl) (by kernel_rfl) (fun _ _ _ h => h) (Or.inr ⟨by rfl, rfl⟩) (by assumption) ?_
              (try simp only [Act.put, List.setIfInBounds_toArray, List.set_cons_zero, List.set_cons_succ])
              refine wpAnyH_take (i := 13) (oi := { dst := some 73, op := _, type := _, pos := _, after := _, guard := some (11, true) }) (v := undef) rfl (by kernel_rfl) (by kernel_rfl) (by kernel_rfl) (fun _ _ _ h => h) (Or.inr ⟨by rfl, rfl⟩) (by assumption) ?_
              (try simp only [Act.put, List.setIfInBounds_toArray, List.set_cons_zero, List.set_cons_succ])
              refine wpAnyH_take (i := 14) (oi := { dst := some 74, op := _, type := _, pos := _, after := _, guard := some (11, true) }) (v := undef) rfl (by kernel_rfl) (by kernel_rfl) (by kernel_rfl) (fun _ _ _ h => h) (Or.inr ⟨by rfl, rfl⟩) (by assumption) ?_
              (try simp only [Act.put, List.setIfInBounds_toArray, List.set_cons_zero, List.set_cons_succ])
              refine wpAnyH_take (i := 15) (oi := { dst := some 75, op := _, type := _, pos := _, after := _, guard := some (11, true) }) (v := undef) rfl (by kernel_rfl) (by kernel_rfl) (by kernel_rfl) (fun _ _ _ h => h) (Or.inr ⟨by rfl, rfl⟩) (by assumption) ?_
              (try simp only [Act.put, List.setIfInBounds_toArray, List.set_cons_zero, List.set_cons_succ])
              refine wpAnyH_take (i := 16) (oi := { dst := some 76, op := _, type := _, pos := _, after := _, guard := some (11, true) }) (v := undef) rfl (by kernel_rfl) (by kernel_rfl) (by kernel_rfl) (fun _ _ _ h => h) (Or.inr ⟨by rfl, rfl⟩) (by assumption) ?_
              (try simp only [Act.put, List.setIfInBounds_toArray, List.set_cons_zero, List.set_cons_succ])
              refine wpAnyH_take (i := 17) (oi := { dst := some 77, op := _, type := _, pos := _, after := _, guard := some (11, true) }) (v := undef) rfl (by kernel_rfl) (by kernel_rfl) (by kernel_rfl) (fun _ _ _ h => h) (Or.inr ⟨by rfl, rfl⟩) (by assumption) ?_
              (try simp only [Act.put, List.setIfInBounds_toArray, List.set_cons_zero, List.set_cons_succ])
              refine wpAnyH_take (i := 18) (oi := { dst := some 78, op := _, type := _, pos := _, after := _, guard := some (11, true) }) (v := undef) rfl (by kernel_rfl) (by kernel_rfl) (by kernel_rfl) (fun _ _ _ h => h) (Or.inr ⟨by rfl, rfl⟩) (by assumption) ?_
              (try simp only [Act.put, List.setIfInBounds_toArray, List.set_cons_zero, List.set_cons_succ])
              refine wpAnyH_take (i := 19) (oi := { dst := some 79, op := _, type := _, pos := _, after := _, guard := none }) (v := ?vr1_17) rfl (by kernel_rfl) (by kernel_rfl) (by kernel_rfl) (fun _ _ _ h => h) (Or.inl ⟨by rfl, ?hyr1_17⟩) (by assumption) ?restr1_17
              case hyr1_17 => (intro w hSw; (try dsimp only at hSw); go_simp <;> with_reducible rfl)
              (try simp only [Act.put, List.setIfInBounds_toArray, List.set_cons_zero, List.set_cons_succ])
              refine wpAnyH_done (by kernel_rfl) ?_ _
              have hBE := Lib.hid (b_then hB.out bd)
              have hOE := Lib.hid (hno.out.next bd)
              clear bd bc
              go_wp2
              exact ⟨⟨d + 1, by omega, by go_num, hOE, hBE⟩, by simp [intOf]; omega⟩
            · have e1 := str_ne hx1
              have e2 : (x.toList != kd.toList) = true := by rw [bne, e1]; rfl
              obtain ⟨y, hy⟩ : ∃ y, (x.toList == fw.toList) = y := ⟨_, rfl⟩
              have hy2 : (x.toList != fw.toList) = !y := by rw [bne, hy]
              have hky : Hid ((y = true → x = fw) ∧ (x = fw → y = true)) := by
                refine Lib.hid ⟨fun h => ?_, fun h => by rw [← hy]; exact str_eq h⟩
                by_cases g : x = fw
                · exact g
                · rw [str_ne g] at hy
                  rw [← hy] at h
                  cases h
              go_upto_region 17 with (fail)
              refine wp_region_held_drew (S := (fun w' => w'.cell? ⟨w.heap.size, 4, none⟩ = some (.slice (some ⟨bk, ok, none⟩) 16 ck) ∧ w'.cell? ⟨bk, ok + d, none⟩ = some (.string x))) (by kernel_rfl) (hS.out _ (b_drew wj)) (fun hHeld => ?_)
              refine wpAnyH_take (i := 0) (oi := { dst := some 60, op := _, type := _, pos := _, after := _, guard := none }) (v := ?vr2_0) rfl (by kernel_rfl) (by kernel_rfl) (by kernel_rfl) (fun _ _ _ h => h) (Or.inl ⟨by rfl, ?hyr2_0⟩) (by assumption) ?restr2_0
              case hyr2_0 => (intro w hSw; (try dsimp only at hSw); go_simp <;> with_reducible rfl)
              (try simp only [Act.put, List.setIfInBounds_toArray, List.set_cons_zero, List.set_cons_succ])
              refine wpAnyH_take (i := 1) (oi := { dst := some 61, op := _, type := _, pos := _, after := _, guard := none }) (v := ?vr2_1) rfl (by kernel_rfl) (by kernel_rfl) (by kernel_rfl) (fun _ _ _ h => h) (Or.inl ⟨by rfl, ?hyr2_1⟩) (by assumption) ?restr2_1
              case hyr2_1 => (intro w hSw; (try dsimp only at hSw); go_simp <;> with_reducible rfl)
              (try simp only [Act.put, List.setIfInBounds_toArray, List.set_cons_zero, List.set_cons_succ])
              refine wpAnyH_take (i := 2) (oi := { dst := some 62, op := _, type := _, pos := _, after := _, guard := none }) (v := ?vr2_2) rfl (by kernel_rfl) (by kernel_rfl) (by kernel_rfl) (fun _ _ _ h => h) (Or.inl ⟨by rfl, ?hyr2_2⟩) (by assumption) ?restr2_2
              case hyr2_2 => (intro w hSw; (try dsimp only at hSw); go_simp <;> with_reducible rfl)
              (try simp only [Act.put, List.setIfInBounds_toArray, List.set_cons_zero, List.set_cons_succ])
              refine wpAnyH_take (i := 3) (oi := { dst := some 63, op := _, type := _, pos := _, after := _, guard := none }) (v := ?vr2_3) rfl (by kernel_rfl) (by kernel_rfl) (by kernel_rfl) (fun _ _ _ h => h) (Or.inl ⟨by rfl, ?hyr2_3⟩) (by assumption) ?restr2_3
              case hyr2_3 => (intro w hSw; (try dsimp only at hSw); go_simp <;> with_reducible rfl)
              (try simp only [Act.put, List.setIfInBounds_toArray, List.set_cons_zero, List.set_cons_succ])
              refine wpAnyH_take (i := 4) (oi := { dst := some 64, op := _, type := _, pos := _, after := _, guard := none }) (v := ?vr2_4) rfl (by kernel_rfl) (by kernel_rfl) (by kernel_rfl) (fun _ _ _ h => h) (Or.inl ⟨by rfl, ?hyr2_4⟩) (by assumption) ?restr2_4
              case hyr2_4 => (intro w hSw; (try dsimp only at hSw); go_simp <;> with_reducible rfl)
              (try simp only [Act.put, List.setIfInBounds_toArray, List.set_cons_zero, List.set_cons_succ])
              refine wpAnyH_take (i := 5) (oi := { dst := some 65, op := _, type := _, pos := _, after := _, guard := none }) (v := ?vr2_5) rfl (by kernel_rfl) (by kernel_rfl) (by kernel_rfl) (fun _ _ _ h => h) (Or.inl ⟨by rfl, ?hyr2_5⟩) (by assumption) ?restr2_5
              case hyr2_5 => (intro w hSw; (try dsimp only at hSw); go_simp <;> with_reducible rfl)
              (try simp only [Act.put, List.setIfInBounds_toArray, List.set_cons_zero, List.set_cons_succ])
              refine wpAnyH_take (i := 6) (oi := { dst := some 66, op := _, type := _, pos := _, after := _, guard := none }) (v := ?vr2_6) rfl (by kernel_rfl) (by kernel_rfl) (by kernel_rfl) (fun _ _ _ h => h) (Or.inl ⟨by rfl, ?hyr2_6⟩) (by assumption) ?restr2_6
              case hyr2_6 => (intro w hSw; (try dsimp only at hSw); go_simp <;> with_reducible rfl)
              (try simp only [Act.put, List.setIfInBounds_toArray, List.set_cons_zero, List.set_cons_succ])
              refine wpAnyH_take (i := 8) (oi := { dst := some 68, op := _, type := _, pos := _, after := _, guard := none }) (v := ?vr2_7) rfl (by kernel_rfl) (by kernel_rfl) (by kernel_rfl) (fun _ _ _ h => h) (Or.inl ⟨by rfl, ?hyr2_7⟩) (by assumption) ?restr2_7
              case hyr2_7 => (intro w hSw; (try dsimp only at hSw); go_simp <;> with_reducible rfl)
              (try simp only [Act.put, List.setIfInBounds_toArray, List.set_cons_zero, List.set_cons_succ])
              refine wpAnyH_ready (rs := [7]) (by kernel_rfl) (by simp) ?_
              refine AllReadyH.cons (o := { dst := some 67, op := _, type := _, pos := _, after := _, guard := none }) rfl (fun K hK => ?_) AllReadyH.nil
              go_simp
              (refine (hBe1.out _ (b_drew wj)).mono ?_; rintro e w7 ⟨v7, rfl, hO7, bb⟩; obtain ⟨a7, c7, b7, o7, rfl, hT7, -, -⟩ := hO7.at_; rw [hnb.out]; have bc := b_then (b_drew wj) bb)
              (try go_wp2_with fail)
              refine hK.out _ _ ((hS.out _ bc)) (fun hHeld => ?_)
              clear hK K
              (try simp only [Act.put, List.setIfInBounds_toArray, List.set_cons_zero, List.set_cons_succ])
              refine wpAnyH_ready (rs := [9]) (by kernel_rfl) (by simp) ?_
              refine AllReadyH.cons (o := { dst := some 69, op := _, type := _, pos := _, after := _, guard := none }) rfl (fun K hK => ?_) AllReadyH.nil
              go_simp
              (refine (hSu1.out _ _ _ _ _ hT7).mono ?_; rintro e w8 ⟨rfl, b8⟩; have bd := b_then bc b8)
              (try go_wp2_with fail)
              refine hK.out _ _ ((hS.out _ bd)) (fun hHeld => ?_)
              clear hK K
              (try simp only [Act.put, List.setIfInBounds_toArray, List.set_cons_zero, List.set_cons_succ])
              refine wpAnyH_take (i := 10) (oi := { dst := some 70, op := _, type := _, pos := _, after := _, guard := none }) (v := ?vr2_8) rfl (by kernel_rfl) (by kernel_rfl) (by kernel_rfl) (fun _ _ _ h => h) (Or.inl ⟨by rfl, ?hyr2_8⟩) (by assumption) ?restr2_8
              case hyr2_8 => (intro w hSw; (try dsimp only at hSw); go_simp <;> with_reducible rfl)
              (try simp only [Act.put, List.setIfInBounds_toArray, List.set_cons_zero, List.set_cons_succ])
              refine wpAnyH_take (i := 11) (oi := { dst := some 71, op := _, type := _, pos := _, after := _, guard := none }) (v := ?vr2_9) rfl (by kernel_rfl) (by kernel_rfl) (by kernel_rfl) (fun _ _ _ h => h) (Or.inl ⟨by rfl, ?hyr2_9⟩) (by assumption) ?restr2_9
              case hyr2_9 => (intro w hSw; (try dsimp only at hSw); go_simp <;> with_reducible rfl)
              (try simp only [Act.put, List.setIfInBounds_toArray, List.set_cons_zero, List.set_cons_succ])
              refine wpAnyH_take (i := 12) (oi := { dst := some 72, op := _, type := _, pos := _, after := _, guard := some (11, true) }) (v := ?vr2_10) rfl (by kernel_rfl) (by kernel_rfl) (by kernel_rfl) (fun _ _ _ h => h) (Or.inl ⟨by rfl, ?hyr2_10⟩) (by assumption) ?restr2_10
              case hyr2_10 => (intro w hSw; (try dsimp only at hSw); go_simp <;> with_reducible rfl)
              (try simp only [Act.put, List.setIfInBounds_toArray, List.set_cons_zero, List.set_cons_succ])
              refine wpAnyH_take (i := 13) (oi := { dst := some 73, op := _, type := _, pos := _, after := _, guard := some (11, true) }) (v := ?vr2_11) rfl (by kernel_rfl) (by kernel_rfl) (by kernel_rfl) (fun _ _ _ h => h) (Or.inl ⟨by rfl, ?hyr2_11⟩) (by assumption) ?restr2_11
              case hyr2_11 => (intro w hSw; (try dsimp only at hSw); go_simp <;> with_reducible rfl)
              (try simp only [Act.put, List.setIfInBounds_toArray, List.set_cons_zero, List.set_cons_succ])
              refine wpAnyH_take (i := 14) (oi := { dst := some 74, op := _, type := _, pos := _, after := _, guard := some (11, true) }) (v := ?vr2_12) rfl (by kernel_rfl) (by kernel_rfl) (by kernel_rfl) (fun _ _ _ h => h) (Or.inl ⟨by rfl, ?hyr2_12⟩) (by assumption) ?restr2_12
              case hyr2_12 => (intro w hSw; (try dsimp only at hSw); go_simp <;> with_reducible rfl)
              (try simp only [Act.put, List.setIfInBounds_toArray, List.set_cons_zero, List.set_cons_succ])
              refine wpAnyH_take (i := 15) (oi := { dst := some 75, op := _, type := _, pos := _, after := _, guard := some (11, true) }) (v := ?vr2_13) rfl (by kernel_rfl) (by kernel_rfl) (by kernel_rfl) (fun _ _ _ h => h) (Or.inl ⟨by rfl, ?hyr2_13⟩) (by assumption) ?restr2_13
              case hyr2_13 => (intro w hSw; (try dsimp only at hSw); go_simp <;> with_reducible rfl)
              (try simp only [Act.put, List.setIfInBounds_toArray, List.set_cons_zero, List.set_cons_succ])
              refine wpAnyH_take (i := 16) (oi := { dst := some 76, op := _, type := _, pos := _, after := _, guard := some (11, true) }) (v := ?vr2_14) rfl (by kernel_rfl) (by kernel_rfl) (by kernel_rfl) (fun _ _ _ h => h) (Or.inl ⟨by rfl, ?hyr2_14⟩) (by assumption) ?restr2_14
              case hyr2_14 => (intro w hSw; (try dsimp only at hSw); go_simp <;> with_reducible rfl)
              (try simp only [Act.put, List.setIfInBounds_toArray, List.set_cons_zero, List.set_cons_succ])
              refine wpAnyH_ready (rs := [17]) (by kernel_rfl) (by simp) ?_
              refine AllReadyH.cons (o := { dst := some 77, op := _, type := _, pos := _, after := _, guard := some (11, true) }) rfl (fun K hK => ?_) AllReadyH.nil
              go_simp
              (refine (hF2.out _).mono ?_; rintro e w9 ⟨rfl, b9⟩; have be := b_then bd b9)
              (try go_wp2_with fail)
              refine hK.out _ _ ((hS.out _ be)) (fun hHeld => ?_)
              clear hK K
              (try simp only [Act.put, List.setIfInBounds_toArray, List.set_cons_zero, List.set_cons_succ])
              refine wpAnyH_take (i := 18) (oi := { dst := some 78, op := _, type := _, pos := _, after := _, guard := some (11, true) }) (v := ?vr2_15) rfl (by kernel_rfl) (by kernel_rfl) (by kernel_rfl) (fun _ _ _ h => h) (Or.inl ⟨by rfl, ?hyr2_15⟩) (by assumption) ?restr2_15
              case hyr2_15 => (intro w hSw; (try dsimp only at hSw); go_simp <;> with_reducible rfl)
              (try simp only [Act.put, List.setIfInBounds_toArray, List.set_cons_zero, List.set_cons_succ])
              refine wpAnyH_take (i := 19) (oi := { dst := some 79, op := _, type := _, pos := _, after := _, guard := none }) (v := ?vr2_16) rfl (by kernel_rfl) (by kernel_rfl) (by kernel_rfl) (fun _ _ _ h => h) (Or.inl ⟨by rfl, ?hyr2_16⟩) (by assumption) ?restr2_16
              case hyr2_16 => (intro w hSw; (try dsimp only at hSw); go_simp <;> with_reducible rfl)
              (try simp only [Act.put, List.setIfInBounds_toArray, List.set_cons_zero, List.set_cons_succ])
              refine wpAnyH_done (by kernel_rfl) ?_ _
              have hBE := Lib.hid (b_then hB.out be)
              have hOE := Lib.hid (hO.out.next be)
              have hsz := hBE.out.size
              clear be bd bc
              cases y with
              | true =>
                have hno : Hid (OwnT w1.heap.size w9 u9 (asksTo L c (d + 1))) := Lib.hid (by
                  rw [← asksTo_no (by rw [hask]; exact decide_eq_false fun h => h.2 (hky.out.1 rfl))]; exact hOE.out)
                clear hask hx1 hky
                go_wp2
                exact ⟨⟨d + 1, by omega, by go_num, hno, hBE⟩, by simp [intOf]; omega⟩
              | false =>
                have hye : asksTo L c d ++ [q2] = asksTo L c (d + 1) := by
                  rw [← asksTo_yes (by rw [hask]; exact decide_eq_true ⟨hx1, fun h => by have := hky.out.2 h; cases this⟩), hp.out, hq2.out]
                replace hye := Lib.hid hye
                clear hask hx1 hky
                go_wp2_with (at_builtin; refine wp_append_tx rfl _ _ rfl w1.heap.size u9 (asksTo L c d) q2 rfl rfl hOE.out hsz hl2 ?_)
                intro v' w5 hO5 hB5
                have hO6 := Lib.hid hO5
                have hB6 := Lib.hid (hB5 _ hBE.out)
                rw [hye.out] at hO6
                clear hO5 hB5
                go_wp2
                exact ⟨⟨d + 1, by omega, by go_num, hO6, hB6⟩, by simp [intOf]; omega⟩
        · have dj : decide ((d : Int) < 16) = false := decide_eq_false (by omega)
          have hE1 := Lib.hid (hE.out u9 w1.heap.size wr (by have := hO.out; rwa [show d = 16 by omega] at this) hB.out)
          clear hE
          go_wp2
          exact bodyPost_ret (v := .tuple #[.slice (some ⟨w1.heap.size, 0, none⟩) 0 0, u9, .int .i64 0]) (by simp [results, Tryz.results16]) rfl hE1.out
end Go.Proofs.YtdmpkgdlelagjaaGreatDoor.Tr
