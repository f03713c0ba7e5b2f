/-
  Proved: for every list of texts and every list of flags, PathApart returns true and turns nothing of what it was given. Conditions: none beyond the form's own (the two tables of the library that the row lists are what the program's text lays: the card ties them).
-/
import Derived.Test.YtokebgmlenlciaaDoorRows
import Derived.Test.YtokebgmlenlciaaDoorCards
import Derived.Test.YtokebgmlenlciaaDoorTie
import Derived.Test.YtokebgmlenlciaaDoorPaPlain
import Derived.Test.YtokebgmlenlciaaDoorPaLib
import Derived.Test.YtokebgmlenlciaaDoorPaRune
import Derived.Test.YtokebgmlenlciaaDoorPaShelf
import Derived.Test.YtokebgmlenlciaaDoorPaGood
import Derived.Test.YtokebgmlenlciaaDoorPaSplit
import Derived.Test.YtokebgmlenlciaaDoorPaSort
import Derived.Test.YtokebgmlenlciaaDoorPaCheck
import Derived.Test.YtokebgmlenlciaaDoorPaAwake
import Derived.Test.YtokebgmlenlciaaDoorPaMore
import Derived.Test.YtokebgmlenlciaaDoorPaOwn
import Derived.Test.YtokebgmlenlciaaDoorOctKit
import Derived.WalkKit
import Derived.WalkSpells
import Derived.WalkLawsBesides
import Derived.ProofKit
import Derived.OpenShut
import Derived.Laws.BytesArg
import Derived.Laws.Externs
import Derived.Deep.QuietTactic
import Derived.BigQuiet
import Derived.BigRegion
import Derived.Lib.Hide
import Derived.Lib.Bytealg
import Derived.IntWalk
import Derived.Deep.LoopGhost
import Derived.Laws.OwnMore
import Derived.Deep.OwnRows
import Derived.Deep.Draws
import Derived.Deep.MidRow
import Derived.SevenTiedAt
import Derived.LaidMore
import Derived.Lay
import Derived.Stop.Joined
import Derived.MakeChecks
import Derived.Deep.Grids
import Derived.Deep.RegionHeld3
namespace Go.Proofs.YtokebgmlenlciaaDoor.pathApart
open Go Go.ChangeShapes Go.WideShapes Go.ChangeAt Go.RowKit Pa
open Oct (TextsAt)

/-- the flags of a list that came in -/
structure FlagsAt (w : World) (a : Option Addr) (b off len : Nat) (K : Nat → Bool) : Prop where
  addr : 0 < len → a = some ⟨b, off, none⟩
  cell : ∀ i, i < len → w.cell? ⟨b, off + i, none⟩ = some (.bool (K i))
theorem FlagsAt.below {w w' : World} {a : Option Addr} {b off len : Nat} {K : Nat → Bool} (h : FlagsAt w a b off len K) (t : Below w.heap.size w w') : FlagsAt w' a b off len K :=
  ⟨h.addr, fun i hi => (t.cell (p := ⟨b, off + i, none⟩) (Oct.lt_of_cell (h.cell i hi))).trans (h.cell i hi)⟩
theorem open_flags {H : Type} {enc : TypeId × Value → H} {P : Program} {w : World} {base b0 : Nat} {held : Bool} {r : Reach} {t e : TypeId} {v : Value} {d : DataW H} {p : List MemPlace}
    (ht : P.underlying t = some (.slice e)) (he : P.underlying e = some .bool) (hc : P.cellsOf e = 1)
    (ok : Value.okWide P w r b0 t v) (h : DataW.Trod enc P w base (fun _ => true) held t v d p) :
    ∃ (a : Option Addr) (len cap b off : Nat) (K : Nat → Bool), v = .slice a len cap ∧ FlagsAt w a b off len K := by
  obtain ⟨a, len, cap, rfl⟩ := okWide_slice ht ok
  obtain ⟨fuel, hf⟩ := h
  rcases Go.Deep.open_bools ht he hc hf with ⟨hcs, _⟩ | ⟨x, l, c, K, hcs, _, hl, hm, hx, hcell⟩
  · simp [Value.cells] at hcs
    obtain ⟨rfl, rfl, rfl⟩ := hcs
    exact ⟨_, _, _, 0, 0, fun _ => false, rfl, fun g => by omega, fun i hi => by omega⟩
  · simp [Value.cells] at hcs
    obtain ⟨rfl, rfl, rfl⟩ := hcs
    by_cases hp : 0 < cap
    · obtain ⟨b, off, spot⟩ := x
      have hspot : spot = none := by simpa [Addr.add] using World.cell?_spot (hcell 0 hp)
      subst hspot
      exact ⟨_, _, _, b, off, K, rfl, fun _ => rfl, fun i hi => by rw [← Go.WideShapes.add_plain]; exact hcell i (by omega)⟩
    · exact ⟨_, _, _, 0, 0, K, rfl, fun g => by omega, fun i hi => by omega⟩
/-- what is kept: places that fall, none below so many -/
structure Kept (L : List Nat) (m len : Nat) : Prop where
  ge : ∀ x ∈ L, m ≤ x ∧ x < len
  falls : L.Pairwise (fun x y => y < x)
  few : L.length + m ≤ len
theorem Kept.skip {L : List Nat} {m len : Nat} (h : Kept L (m + 1) len) : Kept L m len := ⟨fun x hx => ⟨by have := (h.ge x hx).1; omega, (h.ge x hx).2⟩, h.falls, by have := h.few; omega⟩
theorem Kept.add {L : List Nat} {m len : Nat} (h : Kept L (m + 1) len) (hm : m < len) : Kept (L ++ [m]) m len := by
  refine ⟨fun x hx => ?_, ?_, by have := h.few; simp; omega⟩
  · rcases List.mem_append.1 hx with hx | hx
    · exact ⟨by have := (h.ge x hx).1; omega, (h.ge x hx).2⟩
    · rw [List.mem_singleton] at hx; subst hx; exact ⟨Nat.le_refl _, hm⟩
  · refine List.pairwise_append.2 ⟨h.falls, by simp, fun x hx y hy => ?_⟩
    rw [List.mem_singleton] at hy; subst hy
    have := (h.ge x hx).1; omega
theorem check_ok {T : Nat → Tx} {n i c : Nat} (h : IsCheck T n i c) (hc : c = 0) : (∀ j, j < n → fault (T j) = 0) ∧ ∀ j k, j < k → k < n → ¬ clash (T j) (T k) := by
  cases h with
  | bad _ _ h => exact absurd hc h
  | twice => exact absurd hc (by decide)
  | clash => exact absurd hc (by decide)
  | ok good all => exact ⟨good, all⟩
/-- a part of a list that can be side by side can be so, in whatever order -/
theorem part_ok {T : Nat → ByteArray} {L : List Nat} {m len : Nat} (hg : ∀ j, j < len → fault (T j).data.toList = 0) (ha : ∀ j k, j < k → k < len → ¬ clash (T j).data.toList (T k).data.toList) (hL : Kept L m len) :
    IsCheck (fun i => ((L.map T).getD i ByteArray.empty).data.toList) (L.map T).length 0 0 := by
  have get : ∀ i (hi : i < L.length), (L.map T).getD i ByteArray.empty = T L[i] := fun i hi => by
    rw [List.getD_eq_getElem?_getD, List.getElem?_map, List.getElem?_eq_getElem hi]; rfl
  refine .ok (fun j hj => ?_) fun j k hjk hk => ?_
  · rw [List.length_map] at hj
    show fault ((L.map T).getD j ByteArray.empty).data.toList = 0
    rw [get j hj]
    exact hg _ (hL.ge _ (List.getElem_mem hj)).2
  · rw [List.length_map] at hk
    show ¬ clash ((L.map T).getD j ByteArray.empty).data.toList ((L.map T).getD k ByteArray.empty).data.toList
    rw [get j (by omega), get k hk]
    have := List.pairwise_iff_getElem.1 hL.falls j k (by omega) hk hjk
    exact fun hc => ha _ _ this (hL.ge _ (List.getElem_mem (by omega))).2 (clash_symm hc)
theorem within_of {x y : Tx} (h : ¬ clash x y) : Pa.within x y = false ∧ Pa.within y x = false := by
  constructor <;> (rw [Bool.eq_false_iff, ne_eq, Pa.within_iff]; rintro ⟨_, _, g⟩)
  · exact h (Or.inr (Or.inl g))
  · exact h (Or.inr (Or.inr g))
set_option maxRecDepth 100000 in
set_option maxHeartbeats 4000000 in
theorem walk (a ka : Option Addr) (len cap b off kl kc kb ko : Nat) (T : Nat → ByteArray) (K : Nat → Bool) (hcap : len ≤ cap) (w : World) (hT : TextsAt w a b off len T) (hK : FlagsAt w ka kb ko kl K) :
    Calls Tryd.prog 8 #[.slice a len cap, .slice ka kl kc] w fun e w' => e = .returned (.bool true) ∧ Below w.heap.size w w' := by
  replace hT := Lib.hid hT
  replace hK := Lib.hid hK
  go_enter Tryd.func8, Tryd.ntmps8
  go_wp2_with fail
  refine (awake_calls w).mono ?_
  rintro e w1 ⟨rfl, b1⟩
  have t1 := Lib.hid (texts_below hT.out b1)
  replace b1 := Lib.hid b1
  by_cases h40 : 40 < len
  · have d0 : (40 : Int) < len := by omega
    go_wp2
    go_ret
    exact ⟨rfl, b1.out⟩
  · have d0 : ¬ (40 : Int) < len := by omega
    have hC := Lib.hid (Check_calls a len cap b off T (by omega) hcap w1 t1.out)
    go_wp2_with fail
    refine hC.out.mono ?_
    rintro e w2 ⟨⟨i, c, rfl, hc⟩, b2⟩
    replace b2 := Lib.hid (b1.out.trans (b2.mono b1.out.size))
    clear b1 t1 hC
    by_cases hc0 : c = 0
    · obtain ⟨hg, hn⟩ := check_ok hc hc0
      subst hc0
      clear hc
      have o3 := Lib.hid (OwnL.new w2 w2.heap.size (Nat.le_refl _))
      have b3 := Lib.hid ((Below.refl w2.heap.size w2).alloc (Nat.le_refl _) (.cells #[] 9))
      replace hg := Lib.hid hg
      replace hn := Lib.hid hn
      go_wp2
      generalize w2.alloc (.cells #[] 9) = w3 at *
      go_loopg [7, 8, 9] len (fun g v x _ wr => x = .int .i64 ((g : Int) - 1) ∧ g ≤ len ∧ ∃ L : List Nat, Hid (Kept L g len) ∧ Hid (OwnL w2.heap.size wr v (L.map T)) ∧ Hid (Below w2.heap.size w2 wr))
      case atStart => exact ⟨rfl, Nat.le_refl _, [], Lib.hid ⟨by simp, by simp, by simp⟩, o3, b3⟩
      case round =>
        clear o3 b3
        obtain ⟨rfl, hgl, L, hL, hO, hB⟩ := hrel
        cases gk with
        | zero =>
          have hz : Hid (∀ t ∈ L.map T, t.size ≤ 140737488351232) := Lib.hid fun t ht => by
            obtain ⟨x, _, rfl⟩ := List.mem_map.1 ht
            exact hT.out.size x
          obtain ⟨g, cp, rfl, hle, ht⟩ := hO.out.texts hz.out
          have hlL : (L.map T).length ≤ 1000 := by
            rw [List.length_map]
            have := hL.out.few
            omega
          have hC := Lib.hid (Check_calls _ _ cp g 0 _ hlL hle wr ht)
          have ok := Lib.hid (part_ok hg.out hn.out hL.out)
          clear hO ht hz hlL
          generalize (L.map T).length = n at *
          go_wp2_with fail
          refine hC.out.mono ?_
          rintro e w4 ⟨⟨x, y, rfl, hxy⟩, b4⟩
          obtain ⟨rfl, rfl⟩ := hxy.unique ok.out
          replace b4 := Lib.hid (b2.out.trans ((hB.out.trans (b4.mono hB.out.size)).mono b2.out.size))
          clear hxy ok hC
          go_wp2
          go_ret
          exact ⟨rfl, b4.out⟩
        | succ m =>
          have m0 : ((m + 1 : Nat) : Int) - 1 = m := by omega
          have m1 : (0 : Int) ≤ m := by omega
          have m2 : (m : Int) < len := by omega
          rw [m0]
          go_wp2
          go_loopw [9] (fun i wr => ∃ k : Nat, k ≤ m ∧ i = .int .i64 k ∧ Hid (OwnL w2.heap.size wr u7 (L.map T)) ∧ Hid (Below w2.heap.size w2 wr)) (fun i _ => m - (intOf i).toNat)
          case atStart => exact ⟨0, by omega, rfl, hO, hB⟩
          case round =>
            clear hO hB
            obtain ⟨k, hk, rfl, hO, hB⟩ := hrel
            have hTw := texts_below hT.out (b2.out.trans (hB.out.mono b2.out.size))
            obtain rfl := hTw.addr (by omega)
            have cm := hTw.cell m (by omega)
            by_cases hlt : k < m
            · have k1 : (k : Int) < m := by omega
              have k0 : (0 : Int) ≤ k := by omega
              have k2 : (k : Int) < len := by omega
              have ck := hTw.cell k (by omega)
              have hbl : b < wr.heap.size := Oct.lt_of_cell ck
              have hno := hn.out k m hlt (by omega)
              obtain ⟨e1, e2⟩ := within_of hno
              have hb : ((T m).toList == (T k).toList) = false := by
                rw [Oct.beq_toList]; exact decide_eq_false fun h => hno (Or.inl (by rw [h]))
              have hsz := Lib.hid hTw.size
              replace e1 := Lib.hid e1
              replace e2 := Lib.hid e2
              clear hTw hno
              go_wp2_with fail
              go_region_held3 (fun w' => w'.cell? ⟨b, off + m, none⟩ = some (.string (T m)) ∧ w'.cell? ⟨b, off + k, none⟩ = some (.string (T k)))
                (first
                  | exact ⟨cm, ck⟩
                  | exact ⟨(b6.cell (p := ⟨b, off + m, none⟩) hbl).trans cm, (b6.cell (p := ⟨b, off + k, none⟩) hbl).trans ck⟩
                  | exact ⟨(b7.cell (p := ⟨b, off + m, none⟩) (Nat.lt_of_lt_of_le hbl b6.size)).trans ((b6.cell (p := ⟨b, off + m, none⟩) hbl).trans cm), (b7.cell (p := ⟨b, off + k, none⟩) (Nat.lt_of_lt_of_le hbl b6.size)).trans ((b6.cell (p := ⟨b, off + k, none⟩) hbl).trans ck)⟩)
                ((go_at_call 20; refine (Within_calls _ _ _ (hsz.out _) (hsz.out _)).mono ?_; (first | rw [e2.out] | rw [e1.out]); (first | (have _ := b6; rintro e w7 ⟨rfl, b7⟩) | (rintro e w6 ⟨rfl, b6⟩))))
              have b6' : Below wr.heap.size wr w6 := ⟨b6.os, b6.tape, b6.output, b6.size, b6.block⟩
              have b67 := b6'.trans (b7.mono b6'.size)
              have hO7 := Lib.hid (hO.out.below b67)
              have hB7 := Lib.hid (hB.out.trans (b67.mono hB.out.size))
              clear hO hB b6 b7 b6' b67 cm ck hb hbl
              go_wp2
              exact ⟨⟨k + 1, by omega, by go_num, hO7, hB7⟩, by simp [intOf]; omega⟩
            · have g0 : decide ((k : Int) < m) = false := decide_eq_false (by omega)
              have g1 : (m : Int) ≤ k := by omega
              obtain rfl : k = m := by omega
              have hKw := Lib.hid (hK.out.below (b2.out.trans (hB.out.mono b2.out.size)))
              clear hTw
              by_cases hkeep : k < kl ∧ K k = true
              · have q1 : (k : Int) < kl := by omega
                obtain rfl := hKw.out.addr (by omega)
                have cK := hKw.out.cell k hkeep.1
                rw [hkeep.2] at cK
                clear hkeep
                have hlen : (L.map T).length ≤ 1099511627776 := by
                  rw [List.length_map]
                  have := hL.out.few
                  omega
                go_wp2_with (at_builtin; refine wp_append_text rfl _ _ rfl w2.heap.size u7 (L.map T) (T k) rfl rfl hO.out hB.out.size hlen ?_)
                intro v' w5 hO5 hB5
                have hO6 : Hid (OwnL w2.heap.size w5 v' ((L ++ [k]).map T)) := Lib.hid (by rw [List.map_append]; exact hO5)
                have hB6 := Lib.hid (hB5 w2 hB.out)
                clear hO hB hO5 hB5 cm cK hlen hKw
                go_wp2
                go_roundg k
                case measure => omega
                case rel => exact ⟨by go_num, by omega, L ++ [k], Lib.hid (hL.out.add (by omega)), hO6, hB6⟩
              · by_cases hkl : k < kl
                · have q1 : (k : Int) < kl := by omega
                  obtain rfl := hKw.out.addr (by omega)
                  have cK := hKw.out.cell k hkl
                  have hkf : K k = false := by
                    cases hh : K k
                    · rfl
                    · exact absurd ⟨hkl, hh⟩ hkeep
                  rw [hkf] at cK
                  clear hkeep hkf
                  go_wp2
                  go_roundg k
                  case measure => omega
                  case rel => exact ⟨by go_num, by omega, L, Lib.hid hL.out.skip, hO, hB⟩
                · have q1 : ¬ (k : Int) < kl := by omega
                  clear hkeep
                  go_wp2
                  go_roundg k
                  case measure => omega
                  case rel => exact ⟨by go_num, by omega, L, Lib.hid hL.out.skip, hO, hB⟩
    · have c0 : ((c : Int) != 0) = true := by simp only [bne_iff_ne]; omega
      clear hc hc0
      go_wp2
      go_ret
      exact ⟨rfl, b2.out⟩

theorem own : ownKnob Tryd.prog.godebug = none := by kernel_rfl
theorem laidOut : laidOutB Tryd.prog = true := by kernel_rfl
set_option maxRecDepth 100000 in
theorem lifted (os : Os) (started : os.Started) (H : Type) (enc : TypeId × Value → H) :
    ReturnsInHanded {} Tryd.checked os 8 .any (fun w args => (Rows.pathApartSpec.pre enc Tryd.prog Tryd.f8 [] false w args ∧ laidMetH Tryd.prog Rows.pathApartRow.laid w) ∧ sizedMet enc Tryd.prog Tryd.f8 (OpenSpec.ofChange Rows.pathApartSpec) false w args) (Rows.pathApartSpec.post enc Tryd.prog Tryd.f8 false true false false) := by
  refine returnsInHanded_of_change_and (C := Tryd.checked) (X := (fun w _ => laidMetH Tryd.prog Rows.pathApartRow.laid w)) (fun _ _ _ hh h => h.of_heap hh) own started (by kernel_rfl) Tryd.func8
    (ChangeSpec.witness_shaped (enc := enc) (C := Tryd.checked) (os := os) (X := (fun w _ => laidMetH Tryd.prog Rows.pathApartRow.laid w)) false (World.laidAll Tryd.prog os Rows.pathApartRow.laid) #[.slice none 0 0, .slice none 0 0] 8 (World.laidAll_os _ _ _) (World.shaped_of_ZipB (by kernel_rfl) (by kernel_rfl)) (by kernel_rfl) (by kernel_rfl) (by kernel_rfl)
      (by rw [MakeChecks.laidMetH_plain _ _ _ (by kernel_rfl)]; exact laidMet_laidAll _ (by kernel_rfl) (by kernel_rfl))) ?_
  intro W base args ds gs before hval0 hW hcnd hsz0 hL _
  have hval : ∀ (j : Nat) t v, Tryd.f8.params[j]? = some t → args[j]? = some v → Value.okWide Tryd.prog W .any base t v := hval0
  have hsz : (DataW.weightsEach Tryd.prog (Tryd.f8.params.toList ++ Rows.pathApartSpec.plain.varTypes Tryd.prog) (ds ++ gs)).all (· ≤ reachBytes) = true := hsz0
  have hW' := hW
  obtain ⟨p, q, hA0, hV, rfl, hfz, hnd⟩ := hW
  have hA : DataW.TrodAll enc Tryd.prog W 0 (fun _ => true) true Tryd.f8.params.toList args.toList ds p := hA0
  rw [Tryd.params8] at hA hval hsz
  obtain ⟨v0, vs0, d0, ds0, p0, q0, hargs, rfl, rfl, h0, r0⟩ := trodAll_cons hA
  obtain ⟨v1, vs1, d1, ds1, p1, q1, rfl, rfl, rfl, h1, r1⟩ := trodAll_cons r0
  obtain ⟨rfl, rfl, rfl⟩ := trodAll_nil r1
  obtain rfl : args = #[v0, v1] := by cases args; simp_all
  obtain ⟨rfl, rfl⟩ := trodVars_none hV
  have k0 := h0
  have lt0 : ∀ x ∈ p0, x.block < W.heap.size := by obtain ⟨m, hm⟩ := k0; exact DataW.trod_lt m _ _ _ hm
  have ok0 := hval 0 22 v0 rfl rfl
  have k1 := h1
  have lt1 : ∀ x ∈ p1, x.block < W.heap.size := by obtain ⟨m, hm⟩ := k1; exact DataW.trod_lt m _ _ _ hm
  have ok1 := hval 1 38 v1 rfl rfl
  clear hA0 hval0 hsz0
  obtain ⟨a0, len, cap, b, off, T, rfl, hT, hl⟩ := Oct.open_texts Tryd.underlying22 Tryd.underlying9 (by kernel_rfl) (of_decide_eq_true (by kernel_rfl)) ok0 h0 (Oct.arg_weights hsz (j := 0) (t := 22) rfl rfl)
  have hcap := cap_of Tryd.underlying22 Tryd.underlying9 (by kernel_rfl) h0
  obtain ⟨a1, kl, kc, kb, ko, K, rfl, hK⟩ := open_flags Tryd.underlying38 Tryd.underlying4 (by kernel_rfl) ok1 h1
  refine (walk a0 a1 len cap b off kl kc kb ko T K hcap W hT hK).mono fun e W' ⟨he, bel⟩ => ?_
  subst he
  exact ⟨_, rfl, _, _, _, [], _, [], hW', trodAll_mk1 (shut_bool Tryd.underlying4 _), (trodAll_cons_mk (Below.trod laidOut (by kernel_rfl) (of_decide_eq_true (by kernel_rfl)) k0 bel lt0) (trodAll_cons_mk (Below.trod laidOut (by kernel_rfl) (of_decide_eq_true (by kernel_rfl)) k1 bel lt1) trodAll_mk0)), rfl, bel.frame _, fun h => by cases h⟩

/-- the row -/
theorem row_proved : Rows.PathApartSaid :=
  OpenClaim.holds_of_wide 8 Tryd.f8 rfl rfl rfl rfl rfl rfl rfl ⟨rfl, rfl, rfl, rfl, rfl⟩ rfl rfl rfl rfl rfl (by kernel_rfl) Tryd.func8 (by kernel_rfl)
    (of_decide_eq_true (by kernel_rfl)) (by unfold Func.isWrapper; first | (rw [if_pos (by decide +kernel)]; kernel_rfl) | (rw [if_neg (by decide +kernel)]; exact ⟨rfl, rfl⟩))
    (fun os started H enc _ => lifted os started H enc)
/-- the statement: the tied card -/
theorem proved : Rows.PathApartCardSaid :=
  Claim7.holds_tied_plain_at .later [] Rows.pathApartCard.laidKinds true Rows.pathApartCard.stood.harness Rows.pathApartCard.stood.looks row_proved (fun _ h => by cases h) (by kernel_rfl) (fun _ h => by cases h) pathApart_row_tie rfl ⟨rfl, rfl⟩ (by kernel_rfl) rfl
    (fun f fn hf hfn => by
      obtain rfl : f = 8 := Option.some.inj ((show Tryd.prog.funcNamed Rows.pathApartRow.func = some 8 by kernel_rfl).symm.trans hf) |>.symm
      obtain rfl : fn = Tryd.f8 := (Option.some.inj (Tryd.func8.symm.trans hfn)).symm
      exact ⟨by kernel_rfl, fun j t ht => by
        rw [Tryd.params8] at ht
        have hm : t ∈ [22, 38] := by simpa using Array.mem_of_getElem? ht
        have hall : ([22, 38].all fun u => !Tryd.prog.wantsStandIn u) = true := by kernel_rfl
        exact (show Tryd.prog.wantsStandIn t = false by simpa using List.all_eq_true.1 hall t hm)⟩)
    (by kernel_rfl)
end Go.Proofs.YtokebgmlenlciaaDoor.pathApart
