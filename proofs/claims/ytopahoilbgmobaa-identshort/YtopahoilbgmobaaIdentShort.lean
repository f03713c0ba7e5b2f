/-
  Proved: for every list of 32 bytes each and every number, IdentShort returns true and turns nothing of what it was given. Conditions: none beyond the form's own.
-/
import Derived.Test.YtopahoilbgmobaaRows
import Derived.Test.YtopahoilbgmobaaOctKit
import Derived.Test.YtopahoilbgmobaaIdOpen
import Derived.Test.YtopahoilbgmobaaIdAwake
namespace Go.Proofs.Ytopahoilbgmobaa.identShort
open Go Go.ChangeShapes Go.WideShapes Go.ChangeAt Go.RowKit Ident
open Oct (TextsAt)
theorem infoText : (Try.prog.info? 9).map (fun i => (i.zero, i.size, i.bytes)) = some (some (.string ⟨#[]⟩), 1, 16) := by kernel_rfl
/-- the texts, as cells -/
def cellsT (T : Nat → ByteArray) (k : Nat) : List Value := (List.range k).map fun i => .string (T i)
theorem cellsT_length (T : Nat → ByteArray) (k : Nat) : (cellsT T k).length = k := by simp [cellsT]
theorem cellsT_succ (T : Nat → ByteArray) (k : Nat) : cellsT T (k + 1) = cellsT T k ++ [.string (T k)] := by simp [cellsT, List.range_succ]
theorem cellsT_get (T : Nat → ByteArray) {k i : Nat} (h : i < k) : (cellsT T k)[i]? = some (.string (T i)) := by simp [cellsT, List.getElem?_range h]
/-- a slice of texts in a row of the call's own -/
def OwnT (B : Nat) (w : World) (v : Value) (T : Nat → ByteArray) (k : Nat) : Prop := w.ownsRow B 9 1 v k (cellsT T k) ∧ v ≠ .slice none 0 0
theorem OwnT.new (w : World) (T : Nat → ByteArray) (B : Nat) (hB : B ≤ w.heap.size) : OwnT B (w.alloc (.cells #[] 9)) (.slice (some ⟨w.heap.size, 0, none⟩) 0 0) T 0 := by
  refine ⟨⟨by simp [cellsT], Or.inr ⟨w.heap.size, 0, #[], rfl, hB, (show _ = _ by show (w.heap.push _)[w.heap.size]? = _; simp), by simp, by simp [maxLen], by simp, by simp [cellsT]⟩⟩, by simp⟩
theorem OwnT.texts {B : Nat} {w : World} {v : Value} {T : Nat → ByteArray} {k : Nat} (h : OwnT B w v T k) (hz : ∀ i, (T i).size ≤ 140737488351232) : ∃ g cap, v = .slice (some ⟨g, 0, none⟩) k cap ∧ TextsAt w (some ⟨g, 0, none⟩) g 0 k T := by
  obtain ⟨ho, hne⟩ := h
  rcases ho.2 with ⟨hv, _⟩ | ⟨g, cap, cur, hv, _⟩
  · exact absurd hv hne
  · refine ⟨g, cap, hv, fun _ => rfl, fun i hi => ?_, hz⟩
    subst hv
    have := ho.cells (g := g) rfl i (.string (T i)) (by rw [cellsT_get T hi])
    rwa [Addr.add_mid] at this
theorem conv_at {w : World} {b o : Nat} {f : Nat → UInt8} (h : ∀ j, j < 32 → w.cell? ⟨b, o + j, none⟩ = some (.int .u8 ((f j).toNat : Int))) (cap : Nat) : (convert 37 9 (.slice (some ⟨b, o, none⟩) 32 cap)).run Try.prog w = .ok (.string (txt f)) w := by
  have := run_convert_bytes_back (P := Try.prog) w 37 9 5 ⟨b, o, none⟩ cap ((List.range 32).map f) Try.underlying37 Try.underlying5 Try.underlying9 (fun j hj => by
    simp only [List.length_map, List.length_range] at hj
    rw [Addr.add_mid, h j hj]
    simp)
  simp only [List.length_map, List.length_range] at this
  exact this
theorem RowsAt.below {w w' : World} {a : Option Addr} {b off len : Nat} {F : Nat → Nat → UInt8} (h : RowsAt w a b off len F) (t : Below w.heap.size w w') : RowsAt w' a b off len F :=
  ⟨h.addr, fun i hi j hj => (t.cell (p := ⟨b, off + (i * 32 + j), none⟩) (Oct.lt_of_cell (h.cell i hi j hj))).trans (h.cell i hi j hj)⟩
theorem extract_extract (s : ByteArray) (n m : Nat) (h : m ≤ n) (hs : n ≤ s.size) : (s.extract 0 n).extract 0 m = s.extract 0 m := by
  have h1 : (s.extract 0 n).size = n := size_extract s n hs
  have h2 : ((s.extract 0 n).extract 0 m).size = m := size_extract _ m (by omega)
  refine ext_by (by rw [h2, size_extract s m (by omega)]) fun k hk => ?_
  rw [h2] at hk
  rw [by_extract _ _ _ hk, by_extract _ _ _ (by omega), by_extract _ _ _ hk]
/-- what the digits that Short tells find, and how those less by one -/
theorem finds {T : Nat → ByteArray} {len n : Nat} {id r : ByteArray} {e : Int} (hid : id.size = 32) (hin : ∃ j, j < len ∧ T j = id) (ht : Tells T len id n) (h : IsFind T len ((hex id).extract 0 n) r e) : r = id ∧ e = 0 := by
  rcases find_ok hid ht.le hin h with ⟨rfl, rfl, _⟩ | ⟨_, _, j, hj, hne, k, hk, hle, _⟩
  · exact ⟨rfl, rfl⟩
  · exact absurd (ht.apart j hj hne k hk) (by omega)
theorem finds_all {T : Nat → ByteArray} {len : Nat} {id r : ByteArray} {e : Int} (hid : id.size = 32) (hin : ∃ j, j < len ∧ T j = id) (h : IsFind T len (hex id) r e) : r = id ∧ e = 0 := by
  rw [← hex_whole hid] at h
  rcases find_ok hid (Nat.le_refl 64) hin h with ⟨rfl, rfl, _⟩ | ⟨_, _, j, hj, hne, k, hk, hle, _⟩
  · exact ⟨rfl, rfl⟩
  · exact absurd (share_lt hk hid hne) (by omega)
theorem finds_less {T : Nat → ByteArray} {len n : Nat} {id r : ByteArray} {e : Int} (hT : ∀ i, (T i).size = 32) (hid : id.size = 32) (hin : ∃ j, j < len ∧ T j = id) (ht : Tells T len id n) (hn : n ≠ 4) (h : IsFind T len ((hex id).extract 0 (n - 1)) r e) : e = 6 := by
  have := ht.le
  rcases find_ok hid (by omega) hin h with ⟨_, _, ha⟩ | ⟨rfl, _⟩
  · rcases ht.few with h4 | ⟨j, hj, hne, hs⟩
    · exact absurd h4 hn
    · rcases ha j hj hne _ hs with g | g
      · omega
      · exact absurd (hT j) g
  · rfl
/-- 'int(uint(c) % uint(n))' is a place below n -/
theorem rem_place (c : Int) (n : Nat) (h0 : 0 < n) (h1 : n ≤ 2147483648) : ∃ k : Nat, wrap64 ((IntKind.u64.wrap c).tmod (n : Int)) = (k : Int) ∧ k < n := by
  obtain ⟨k, h, hk⟩ := Oct.rem_small c n (by omega) (by omega)
  exact ⟨k, h, by omega⟩
set_option maxRecDepth 100000 in
set_option maxHeartbeats 2000000 in
theorem walk (a : Option Addr) (len cap b off : Nat) (F : Nat → Nat → UInt8) (c : Int) (w : World) (hR : RowsAt w a b off len F) (hlen : len ≤ 140737488351232) :
    Calls Try.prog 7 #[.slice a len cap, .int .i64 c] w fun e w' => e = .returned (.bool true) ∧ Below w.heap.size w w' := by
  obtain ⟨i0, hi, hz0, hz1, hz2⟩ := info_parts infoText
  replace hR := Lib.hid hR
  go_enter Try.func7, Try.ntmps7
  go_wp2_with fail
  refine (awake_calls w).mono ?_
  rintro e w1 ⟨rfl, b1⟩
  have r1 := Lib.hid (RowsAt.below hR.out b1)
  replace b1 := Lib.hid b1
  clear hR
  by_cases h0 : len = 0
  · have d0 : ((len : Int) == 0) = true := by simp [h0]
    go_wp2
    go_ret
    exact ⟨rfl, b1.out⟩
  · have d0 : ((len : Int) == 0) = false := by simp; omega
    by_cases h100 : 100 < len
    · have d1 : (100 : Int) < len := by omega
      go_wp2
      go_ret
      exact ⟨rfl, b1.out⟩
    · have d1 : decide ((100 : Int) < len) = false := decide_eq_false (by omega)
      have d2 : (len : Int) ≤ 100 := by omega
      have ha := r1.out.addr (by omega)
      subst ha
      obtain ⟨T, hTe⟩ : ∃ T : Nat → ByteArray, T = fun i => txt (F i) := ⟨_, rfl⟩
      have hT32 : ∀ i, (T i).size = 32 := fun i => by rw [hTe]; exact txt_size _
      have hTz := Lib.hid (show ∀ i, (T i).size ≤ 140737488351232 from fun i => by rw [hT32 i]; omega)
      replace hT32 := Lib.hid hT32
      have hcv := Lib.hid (show ∀ (w' : World), Below w1.heap.size w1 w' → ∀ k, k < len → (convert 37 9 (.slice (some ⟨b, off + k * 32, none⟩) 32 32)).run Try.prog w' = .ok (.string (T k)) w' from fun w' hw k hk => by
        rw [hTe]
        refine conv_at (fun j hj => ?_) 32
        have := (RowsAt.below r1.out hw).cell k hk j hj
        rwa [Nat.add_assoc])
      replace hTe := Lib.hid hTe
      have o1 := Lib.hid (OwnT.new w1 T w1.heap.size (Nat.le_refl _))
      have b2 := Lib.hid ((Below.refl w1.heap.size w1).alloc (Nat.le_refl _) (.cells #[] 9))
      go_wp2_with fail
      generalize w1.alloc (.cells #[] 9) = w2 at *
      go_loopw [5, 6] (fun v i wr => ∃ k : Nat, k ≤ len ∧ i = .int .i64 k ∧ OwnT w1.heap.size wr v T k ∧ Below w1.heap.size w1 wr) (fun _ i _ => len - (intOf i).toNat)
      case atStart => exact ⟨0, by omega, rfl, o1.out, b2.out⟩
      case round =>
        clear o1 b2
        obtain ⟨k, hk, rfl, ho, hB⟩ := hrel
        by_cases hlt : k < len
        · have i1 : (k : Int) < len := by omega
          have i0' : 0 ≤ (k : Int) := by omega
          have hc := hcv.out wr hB k hlt
          have hnx := Lib.hid (cellsT_succ T k)
          generalize T k = t at *
          have hoA := ho.1.alloc (.cells #[.string t] 9)
          have hnews : ∀ (j : Nat) (u : Value), ([.string t] : List Value)[j]? = some u → (wr.alloc (.cells #[.string t] 9)).cell? ((⟨wr.heap.size, 0, none⟩ : Addr).add j) = some u := fun j u hj => by
            match j, hj with
            | 0, hj => simp at hj; subst hj; simp [Addr.add]
            | j + 1, hj => simp at hj
          have hBA := Lib.hid (hB.alloc hB.size (.cells #[.string t] 9))
          have hsA : (wr.alloc (.cells #[.string t] 9)).heap.size = wr.heap.size + 1 := by simp
          have hwr := hB.size
          replace hB := Lib.hid hB
          go_wp2_with (at_builtin; refine wpList_append_own _ rfl _ _ 32 rfl w1.heap.size 9 i0 (.string ⟨#[]⟩) 1 16 Try.underlying32 hi hz0 hz1 hz2 rfl (by decide) _ _ _ rfl hoA ⟨wr.heap.size, 0, none⟩ 1 1 [.string t] rfl rfl hnews ?c1 ?c3 ?c4 ?c5 ?_)
          case c1 => intro u hu; rw [List.mem_singleton] at hu; subst hu; rfl
          case c3 => unfold maxLen; omega
          case c4 => omega
          case c5 => omega
          intro v' w2 hown' hgrow hnil
          have ho2 : OwnT w1.heap.size w2 v' T (k + 1) := by
            unfold OwnT
            rw [hnx.out]
            exact ⟨hown', fun h => hnil h⟩
          have hB2 := hBA.out.grown hgrow (by omega) (fun k hk => (hoA.lt k hk).1)
          replace ho2 := Lib.hid ho2
          replace hB2 := Lib.hid hB2
          clear hoA hnews hBA hsA hown' hgrow hnil ho hB hnx hc
          go_wp2_with fail
          exact ⟨⟨k + 1, by omega, by go_num, ho2.out, hB2.out⟩, by simp [intOf]; omega⟩
        · have hd : decide ((k : Int) < len) = false := decide_eq_false (by omega)
          have hd2 : (len : Int) ≤ k := by omega
          have hkl : k = len := by omega
          subst hkl
          obtain ⟨g, cp, rfl, ht⟩ := ho.texts hTz.out
          replace hB := Lib.hid (b1.out.trans (hB.mono b1.out.size))
          clear ho hcv r1 b1
          obtain ⟨m, hm, hmk⟩ := rem_place c k (by omega) (by omega)
          have u1 : IntKind.u64.wrap (k : Int) = k := by rw [IntKind.wrap_u64]; omega
          have c0 := ht.cell m hmk
          rw [Nat.zero_add] at c0
          have hs := hT32.out m
          have hin := Lib.hid (show ∃ j, j < k ∧ T j = T m from ⟨m, hmk, rfl⟩)
          have m1 : (m : Int) < k := by omega
          have m0 : 0 ≤ (m : Int) := by omega
          generalize T m = id at *
          replace ht := Lib.hid ht
          go_wp2_with fail
          clear c0 hm u1 hi hz0 hz1 hz2 m1 m0
          refine (Short_calls _ k cp g 0 T id wr ht.out (by omega)).mono ?_
          rintro e w4 ⟨⟨s, rfl, hsh⟩, b4⟩
          have t4 := Lib.hid (TextsAt.below ht.out b4)
          replace b4 := Lib.hid (hB.out.trans (b4.mono hB.out.size))
          clear ht hB
          obtain ⟨n, htl, rfl⟩ := hsh.some hs hin.out
          have n4 := htl.four
          have n64 := htl.le
          clear hsh
          have hsz : ((hex id).extract 0 n).size = n := size_extract _ _ (by rw [hex_size hs]; exact n64)
          have hhas := Lib.hid (show has id ((hex id).extract 0 n) from (has_hex hs n64).2 ⟨hs, fun _ _ => rfl⟩)
          have hless := Lib.hid (extract_extract (hex id) n (n - 1) (by omega) (by rw [hex_size hs]; exact n64))
          have fA := Lib.hid (fun (r : ByteArray) (e : Int) => finds (r := r) (e := e) hs hin.out htl)
          have fB := Lib.hid (fun (r : ByteArray) (e : Int) => finds_all (r := r) (e := e) hs hin.out)
          have fC := Lib.hid (fun (hn : n ≠ 4) (r : ByteArray) (e : Int) => finds_less (r := r) (e := e) hT32.out hs hin.out htl hn)
          have hhz := Lib.hid (hex_size hs)
          clear htl
          generalize hd : (hex id).extract 0 n = d at *
          replace hd := Lib.hid hd
          have q1 : decide ((n : Int) < 4) = false := decide_eq_false (by omega)
          have q2 : decide ((64 : Int) < n) = false := decide_eq_false (by omega)
          have q3 : (4 : Int) ≤ n := by omega
          have q4 : (n : Int) ≤ 64 := by omega
          have qe := beq_self id
          go_wp2_with fail
          refine (Has_calls id d w4).mono ?_
          rintro e w' ⟨rfl, rfl⟩
          rw [decide_eq_true hhas.out]
          go_wp2_with fail
          refine (Find_calls _ k cp g 0 T d w4 t4.out (by omega) (by omega)).mono ?_
          rintro e w' ⟨⟨r, m2, rfl, hF⟩, rfl⟩
          obtain ⟨rfl, rfl⟩ := fA.out r m2 hF
          clear hF fA
          go_wp2_with fail
          refine (Hex_calls r w4).mono ?_
          rintro e w5 ⟨rfl, b5⟩
          have t5 := Lib.hid (TextsAt.below t4.out b5)
          replace b5 := Lib.hid (b4.out.trans (b5.mono b4.out.size))
          clear t4 b4
          go_wp2_with fail
          refine (Find_calls _ k cp g 0 T (hex r) w5 t5.out (by omega) (by rw [hhz.out]; omega)).mono ?_
          rintro e w' ⟨⟨r2, m3, rfl, hF⟩, rfl⟩
          obtain ⟨rfl, rfl⟩ := fB.out r2 m3 hF
          clear hF fB
          have p1 : ((n : Int) - 1).toNat = n - 1 := by omega
          have p2 : 0 ≤ (n : Int) - 1 := by omega
          have p3 : (n : Int) - 1 ≤ n := by omega
          have hz3 := Lib.hid (show (d.extract 0 (n - 1)).size ≤ 140737488351232 by rw [size_extract _ _ (by rw [hsz]; omega)]; omega)
          have k100 : k ≤ 140737488351232 := by omega
          go_wp2_with fail
          refine (Find_calls _ k cp g 0 T (d.extract 0 (n - 1)) w5 t5.out k100 hz3.out).mono ?_
          rintro e w' ⟨⟨r3, m4, rfl, hF⟩, rfl⟩
          rw [hless.out] at hF
          by_cases hn : n = 4
          · have x1 : ((n : Int) == 4) = true := by simp [hn]
            clear hF fC
            go_wp2
            go_ret
            exact ⟨rfl, b5.out⟩
          · have x1 : ((n : Int) == 4) = false := by simp; omega
            obtain rfl := fC.out hn r3 m4 hF
            clear hF fC
            go_wp2
            go_ret
            exact ⟨rfl, b5.out⟩

theorem own : ownKnob Try.prog.godebug = none := by kernel_rfl
theorem laidOut : laidOutB Try.prog = true := by kernel_rfl
set_option maxRecDepth 100000 in
theorem lifted (os : Os) (started : os.Started) (H : Type) (enc : TypeId × Value → H) :
    ReturnsInHanded {} Try.checked os 7 .any (Rows.identShortSpec.pre6 enc Try.prog Try.f7 Rows.identShortRow.domain false) (Rows.identShortSpec.post enc Try.prog Try.f7 false true false false) := by
  refine returnsInHanded_of_change_sized (C := Try.checked) own started (by kernel_rfl) Try.func7
    (ChangeSpec.witness6 (enc := enc) (C := Try.checked) false ⟨#[], #[.slice none 0 0, .int .i64 0], []⟩ 8 (by kernel_rfl) (by kernel_rfl) (by kernel_rfl) (by kernel_rfl)) ?_
  intro W base args ds gs before hval0 hW hcnd hsz0 _
  have hval : ∀ (j : Nat) t v, Try.f7.params[j]? = some t → args[j]? = some v → Value.okWide Try.prog W .any base t v := hval0
  have hsz : (DataW.weightsEach Try.prog (Try.f7.params.toList ++ Rows.identShortSpec.plain.varTypes Try.prog) (ds ++ gs)).all (· ≤ reachBytes) = true := hsz0
  have hW' := hW
  obtain ⟨p, q, hA0, hV, rfl, hfz, hnd⟩ := hW
  have hA : DataW.TrodAll enc Try.prog W 0 (fun _ => true) true Try.f7.params.toList args.toList ds p := hA0
  rw [Try.params7] at hA hval hsz
  obtain ⟨v0, vs0, d0, ds0, p0, q0, hargs, rfl, rfl, h0, r0⟩ := trodAll_cons hA
  obtain ⟨v1, vs1, d1, ds1, p1, q1, rfl, rfl, rfl, h1, r1⟩ := trodAll_cons r0
  obtain ⟨rfl, rfl, rfl⟩ := trodAll_nil r1
  obtain rfl : args = #[v0, v1] := by cases args; simp_all
  obtain ⟨rfl, rfl⟩ := trodVars_none hV
  have k0 := h0
  have lt0 : ∀ x ∈ p0, x.block < W.heap.size := by obtain ⟨m, hm⟩ := k0; exact DataW.trod_lt m _ _ _ hm
  have ok0 := hval 0 41 v0 rfl rfl
  have k1 := h1
  have lt1 : ∀ x ∈ p1, x.block < W.heap.size := by obtain ⟨m, hm⟩ := k1; exact DataW.trod_lt m _ _ _ hm
  have ok1 := hval 1 3 v1 rfl rfl
  clear hA0 hval0 hsz0
  obtain ⟨a0, len, cap, b, off, F, rfl, hF, hl⟩ := open_rows Try.underlying41 Try.underlying36 Try.underlying5 (by kernel_rfl) (by kernel_rfl) (of_decide_eq_true (by kernel_rfl)) ok0 h0 (Oct.arg_weights hsz (j := 0) (t := 41) rfl rfl)
  obtain ⟨a1, rfl, rfl, rfl, w1⟩ := open_int Try.underlying3 ok1 h1
  refine (walk a0 len cap b off F a1 W hF hl).mono fun e W' ⟨he, bel⟩ => ?_
  subst he
  exact ⟨_, rfl, _, _, _, [], _, [], hW', trodAll_mk1 (shut_bool Try.underlying4 _), (trodAll_cons_mk (Below.trod laidOut (by kernel_rfl) (of_decide_eq_true (by kernel_rfl)) k0 bel lt0) (trodAll_cons_mk (Below.trod laidOut (by kernel_rfl) (of_decide_eq_true (by kernel_rfl)) k1 bel lt1) trodAll_mk0)), rfl, bel.frame _, fun h => by cases h⟩

/-- the statement -/
theorem proved : Rows.IdentShortSaid :=
  OpenClaim.holds_of_wide 7 Try.f7 rfl rfl rfl rfl rfl rfl rfl ⟨rfl, rfl, rfl, rfl, rfl⟩ rfl rfl rfl rfl rfl (by kernel_rfl) Try.func7 (by kernel_rfl)
    (of_decide_eq_true (by kernel_rfl)) (by unfold Func.isWrapper; first | (rw [if_pos (by decide +kernel)]; kernel_rfl) | (rw [if_neg (by decide +kernel)]; exact ⟨rfl, rfl⟩))
    (fun os started H enc _ => lifted os started H enc)
end Go.Proofs.Ytopahoilbgmobaa.identShort
