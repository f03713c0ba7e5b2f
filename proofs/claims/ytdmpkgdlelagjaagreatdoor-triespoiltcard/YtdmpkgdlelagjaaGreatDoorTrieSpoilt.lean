/-
  Proved: for every list of ids, place and byte, TrieSpoilt returns true and turns nothing of what it was given. Conditions: none beyond the form's own (the digest's constants are what the program's text lays: the card ties them).
-/
import Derived.Test.YtdmpkgdlelagjaaGreatDoorRows
import Derived.Test.YtdmpkgdlelagjaaGreatDoorCards
import Derived.Test.YtdmpkgdlelagjaaGreatDoorTie
import Derived.Test.YtdmpkgdlelagjaaGreatDoorOctKit
import Derived.SevenTiedAt
import Derived.Test.YtdmpkgdlelagjaaGreatDoorTrAwk
import Derived.ProofKit
import Derived.OpenShut
import Derived.Stop.Joined
import Derived.LaidMore
import Derived.MakeChecks
namespace Go.Proofs.YtdmpkgdlelagjaaGreatDoor.trieSpoilt
open Go Go.ChangeShapes Go.WideShapes Go.ChangeAt Go.RowKit Tr
open Ident (by_ RowsAt open_rows)
open Sh (b_alloc b_drew b_drewN b_next b_then Rises)

theorem wrap8 (n : Int) : IntKind.u8.wrap n = n % (256 : Int) := by simp [IntKind.wrap, IntKind.bits, IntKind.signed]
theorem ofInt_b (x : UInt8) : BitVec.ofInt 8 (x.toNat : Int) = x.toBitVec := by
  apply BitVec.eq_of_toNat_eq
  have := x.toNat_lt
  simp only [BitVec.toNat_ofInt, UInt8.toNat_toBitVec]
  omega
theorem toNat_wrap8 (x : UInt8) : IntKind.u8.wrap (x.toBitVec.toNat : Int) = (x.toNat : Int) := by
  have := x.toNat_lt
  rw [wrap8]
  simp only [UInt8.toNat_toBitVec]
  omega
theorem b_xor (a b : UInt8) : bits .xor .u8 (a.toNat : Int) (b.toNat : Int) = ((a ^^^ b).toNat : Int) := by
  rw [← toNat_wrap8 (a ^^^ b)]
  simp only [bits, IntKind.bits]
  rw [ofInt_b, ofInt_b]; rfl
theorem one_byte (x : UInt8) : strOfNums [(x.toNat : Int)] = ⟨#[x]⟩ := by
  apply ByteArray.ext; apply Array.toList_inj.1
  simp [strOfNums]
theorem conv1 (w : World) (b : Nat) (x : UInt8) (h : w.cell? ⟨b, 0, none⟩ = some (.int .u8 (x.toNat : Int))) :
    (convert 42 9 (.slice (some ⟨b, 0, none⟩) 1 1)).run Tryz.prog w = .ok (.string ⟨#[x]⟩) w := by
  rw [← one_byte x]
  exact run_convert_bytes_arg w 42 5 Tryz.underlying42 Tryz.underlying5 b 0 1 1 [(x.toNat : Int)] rfl (fun i hi => by
    match i, hi with
    | 0, _ => exact h) 9 Tryz.underlying9
theorem place (i : Int) : ∃ k : Nat, wrap64 ((IntKind.u64.wrap i).tmod 32) = k ∧ k < 32 := by
  obtain ⟨k, h1, h2⟩ := Oct.rem_small i 32 (by omega) (by omega)
  exact ⟨k, h1, by omega⟩
/-- a text of which a byte is another is another text -/
theorem spoilt_ne {s A C : ByteArray} {c x : UInt8} (h : s.data.toList = A.data.toList ++ c :: C.data.toList) (hx : x ≠ c) : A ++ (⟨#[x]⟩ : ByteArray) ++ C ≠ s := fun e => by
  have := congrArg (fun t => t.data.toList) e
  simp only [ByteArray.data_append, Array.toList_append] at this
  rw [h, List.append_assoc] at this
  have h2 := List.append_cancel_left this
  simp only [List.singleton_append, List.cons.injEq, and_true] at h2
  exact hx h2
theorem cut_list (s : ByteArray) (k : Nat) (h : k < s.size) : s.data.toList = (s.extract 0 k).data.toList ++ s[k] :: (s.extract (k + 1) s.size).data.toList := by
  have hl := Ident.size_list s
  rw [ByteArray.data_extract, ByteArray.data_extract, Array.toList_extract, Array.toList_extract]
  simp only [List.extract_eq_take_drop, List.drop_zero, Nat.sub_zero]
  rw [List.take_of_length_le (l := s.data.toList.drop (k + 1)) (by rw [List.length_drop]; omega)]
  have e1 : s[k] = s.data.toList[k]'(by omega) := rfl
  rw [e1, ← List.drop_eq_getElem_cons, List.take_append_drop]
/-- another sum, another count, no prefix -/
theorem check_sum {c : Cell} (h : IsCheck c 0) {t : ByteArray} (ht : t ≠ c.sum) : IsCheck ⟨c.pre, c.count, t, c.ids, c.kds⟩ 20 := by
  by_cases g : IsPre c.pre ∧ (TellsIds c ∨ TellsKids c)
  · obtain ⟨g1, g2 | g2⟩ := g
    · have e := h.few g1 g2
      refine .of_few g1 g2 ?_
      split at e
      · rename_i e2
        show 20 = if t = few c.ids then (0 : Int) else 20
        rw [if_neg fun e3 => ht (e3.trans e2.symm)]
      · cases e
    · have e := h.many g1 g2
      refine .of_many g1 g2 ?_
      split at e
      · rename_i e2
        show 20 = if t = many c.kds then (0 : Int) else 20
        rw [if_neg fun e3 => ht (e3.trans e2.symm)]
      · cases e
  · have := h.form g; cases this
theorem check_count {c : Cell} (h : IsCheck c 0) (h8 : c.count ≤ 8) {n : Int} (hn : c.count < n) : IsCheck ⟨c.pre, n, c.sum, c.ids, c.kds⟩ 4 := by
  refine .of_form fun g => ?_
  by_cases f : IsPre c.pre ∧ (TellsIds c ∨ TellsKids c)
  · obtain ⟨_, f | f⟩ := f
    · obtain ⟨_, g | g⟩ := g
      · have h1 := f.2.1
        have h2 : (c.ids.length : Int) = n := g.2.1
        omega
      · have h1 := f.2.2.1
        have h2 : c.kds.length = 16 := g.2.2.2.1
        omega
    · have := f.1; omega
  · have := h.form f; cases this
theorem check_pre (n : Int) (s : ByteArray) (I K : List ByteArray) : IsCheck ⟨⟨#[120]⟩, n, s, I, K⟩ 4 := .of_form fun g => by
  have h : Ident.digits ⟨#[120]⟩ := g.1.2
  exact absurd (h 0 (by decide)) (by decide)
/-- two cells side by side in memory, the second one's to be written -/
structure Two (w w3 : World) (c d : Nat) (C0 C1 C2 C3 C4 D0 D1 D2 D3 D4 : Value) (W : World) : Prop where
  src : CellAt W c C0 C1 C2 C3 C4
  dst : CellAt W d D0 D1 D2 D3 D4
  free : ∀ o, W.frozen? ⟨d, o, none⟩ = false
  b3 : Below w3.heap.size w3 W
  b0 : Below w.heap.size w W
theorem Two.next {w w3 : World} {c d : Nat} {C0 C1 C2 C3 C4 D0 D1 D2 D3 D4 : Value} {W W' : World} (h : Two w w3 c d C0 C1 C2 C3 C4 D0 D1 D2 D3 D4 W) (t : Below W.heap.size W W') : Two w w3 c d C0 C1 C2 C3 C4 D0 D1 D2 D3 D4 W' :=
  ⟨h.src.next t, h.dst.next t, fun o => (t.frozen (p := ⟨d, o, none⟩) h.dst.lt).trans (h.free o), b_then h.b3 t, b_then h.b0 t⟩
theorem other_cell {w : World} {c d o : Nat} (hne : c ≠ d) {u0 u1 u2 u3 u4 : Value} (h : CellAt w c u0 u1 u2 u3 u4) (v : Value) : CellAt (w.setCell ⟨d, o, none⟩ v) c u0 u1 u2 u3 u4 := by
  have ne : ∀ j, (⟨d, o, none⟩ : Addr) ≠ ⟨c, j, none⟩ := fun j e => hne (congrArg Addr.block e).symm
  obtain ⟨h0, h1, h2, h3, h4⟩ := h
  exact ⟨(World.cell?_setCell_other _ _ _ _ (ne _)).trans h0, (World.cell?_setCell_other _ _ _ _ (ne _)).trans h1, (World.cell?_setCell_other _ _ _ _ (ne _)).trans h2, (World.cell?_setCell_other _ _ _ _ (ne _)).trans h3, (World.cell?_setCell_other _ _ _ _ (ne _)).trans h4⟩
theorem Two.set0 {w w3 : World} {c d : Nat} {C0 C1 C2 C3 C4 D0 D1 D2 D3 D4 : Value} {W : World} (h : Two w w3 c d C0 C1 C2 C3 C4 D0 D1 D2 D3 D4 W) (hne : c ≠ d) (hd : w3.heap.size ≤ d) (hw : w.heap.size ≤ d) (v : Value) :
    Two w w3 c d C0 C1 C2 C3 C4 v D1 D2 D3 D4 (W.setCell ⟨d, 0, none⟩ v) := by
  have ne : ∀ i j : Nat, i ≠ j → (⟨d, i, none⟩ : Addr) ≠ ⟨d, j, none⟩ := fun i j hij e => hij (congrArg Addr.off e)
  obtain ⟨h0, h1, h2, h3, h4⟩ := h.dst
  exact ⟨other_cell hne h.src v, ⟨World.cell?_setCell_same _ _ _ h0, (World.cell?_setCell_other _ _ _ _ (ne _ _ (by decide))).trans h1, (World.cell?_setCell_other _ _ _ _ (ne _ _ (by decide))).trans h2, (World.cell?_setCell_other _ _ _ _ (ne _ _ (by decide))).trans h3, (World.cell?_setCell_other _ _ _ _ (ne _ _ (by decide))).trans h4⟩,
    fun o => by rw [World.frozen?_setCell]; exact h.free o, h.b3.setCell (p := ⟨d, 0, none⟩) hd v, h.b0.setCell (p := ⟨d, 0, none⟩) hw v⟩
theorem Two.set1 {w w3 : World} {c d : Nat} {C0 C1 C2 C3 C4 D0 D1 D2 D3 D4 : Value} {W : World} (h : Two w w3 c d C0 C1 C2 C3 C4 D0 D1 D2 D3 D4 W) (hne : c ≠ d) (hd : w3.heap.size ≤ d) (hw : w.heap.size ≤ d) (v : Value) :
    Two w w3 c d C0 C1 C2 C3 C4 D0 v D2 D3 D4 (W.setCell ⟨d, 1, none⟩ v) := by
  have ne : ∀ i j : Nat, i ≠ j → (⟨d, i, none⟩ : Addr) ≠ ⟨d, j, none⟩ := fun i j hij e => hij (congrArg Addr.off e)
  obtain ⟨h0, h1, h2, h3, h4⟩ := h.dst
  exact ⟨other_cell hne h.src v, ⟨(World.cell?_setCell_other _ _ _ _ (ne _ _ (by decide))).trans h0, World.cell?_setCell_same _ _ _ h1, (World.cell?_setCell_other _ _ _ _ (ne _ _ (by decide))).trans h2, (World.cell?_setCell_other _ _ _ _ (ne _ _ (by decide))).trans h3, (World.cell?_setCell_other _ _ _ _ (ne _ _ (by decide))).trans h4⟩,
    fun o => by rw [World.frozen?_setCell]; exact h.free o, h.b3.setCell (p := ⟨d, 1, none⟩) hd v, h.b0.setCell (p := ⟨d, 1, none⟩) hw v⟩
theorem Two.set2 {w w3 : World} {c d : Nat} {C0 C1 C2 C3 C4 D0 D1 D2 D3 D4 : Value} {W : World} (h : Two w w3 c d C0 C1 C2 C3 C4 D0 D1 D2 D3 D4 W) (hne : c ≠ d) (hd : w3.heap.size ≤ d) (hw : w.heap.size ≤ d) (v : Value) :
    Two w w3 c d C0 C1 C2 C3 C4 D0 D1 v D3 D4 (W.setCell ⟨d, 2, none⟩ v) := by
  have ne : ∀ i j : Nat, i ≠ j → (⟨d, i, none⟩ : Addr) ≠ ⟨d, j, none⟩ := fun i j hij e => hij (congrArg Addr.off e)
  obtain ⟨h0, h1, h2, h3, h4⟩ := h.dst
  exact ⟨other_cell hne h.src v, ⟨(World.cell?_setCell_other _ _ _ _ (ne _ _ (by decide))).trans h0, (World.cell?_setCell_other _ _ _ _ (ne _ _ (by decide))).trans h1, World.cell?_setCell_same _ _ _ h2, (World.cell?_setCell_other _ _ _ _ (ne _ _ (by decide))).trans h3, (World.cell?_setCell_other _ _ _ _ (ne _ _ (by decide))).trans h4⟩,
    fun o => by rw [World.frozen?_setCell]; exact h.free o, h.b3.setCell (p := ⟨d, 2, none⟩) hd v, h.b0.setCell (p := ⟨d, 2, none⟩) hw v⟩
theorem Two.set3 {w w3 : World} {c d : Nat} {C0 C1 C2 C3 C4 D0 D1 D2 D3 D4 : Value} {W : World} (h : Two w w3 c d C0 C1 C2 C3 C4 D0 D1 D2 D3 D4 W) (hne : c ≠ d) (hd : w3.heap.size ≤ d) (hw : w.heap.size ≤ d) (v : Value) :
    Two w w3 c d C0 C1 C2 C3 C4 D0 D1 D2 v D4 (W.setCell ⟨d, 3, none⟩ v) := by
  have ne : ∀ i j : Nat, i ≠ j → (⟨d, i, none⟩ : Addr) ≠ ⟨d, j, none⟩ := fun i j hij e => hij (congrArg Addr.off e)
  obtain ⟨h0, h1, h2, h3, h4⟩ := h.dst
  exact ⟨other_cell hne h.src v, ⟨(World.cell?_setCell_other _ _ _ _ (ne _ _ (by decide))).trans h0, (World.cell?_setCell_other _ _ _ _ (ne _ _ (by decide))).trans h1, (World.cell?_setCell_other _ _ _ _ (ne _ _ (by decide))).trans h2, World.cell?_setCell_same _ _ _ h3, (World.cell?_setCell_other _ _ _ _ (ne _ _ (by decide))).trans h4⟩,
    fun o => by rw [World.frozen?_setCell]; exact h.free o, h.b3.setCell (p := ⟨d, 3, none⟩) hd v, h.b0.setCell (p := ⟨d, 3, none⟩) hw v⟩
theorem Two.set4 {w w3 : World} {c d : Nat} {C0 C1 C2 C3 C4 D0 D1 D2 D3 D4 : Value} {W : World} (h : Two w w3 c d C0 C1 C2 C3 C4 D0 D1 D2 D3 D4 W) (hne : c ≠ d) (hd : w3.heap.size ≤ d) (hw : w.heap.size ≤ d) (v : Value) :
    Two w w3 c d C0 C1 C2 C3 C4 D0 D1 D2 D3 v (W.setCell ⟨d, 4, none⟩ v) := by
  have ne : ∀ i j : Nat, i ≠ j → (⟨d, i, none⟩ : Addr) ≠ ⟨d, j, none⟩ := fun i j hij e => hij (congrArg Addr.off e)
  obtain ⟨h0, h1, h2, h3, h4⟩ := h.dst
  exact ⟨other_cell hne h.src v, ⟨(World.cell?_setCell_other _ _ _ _ (ne _ _ (by decide))).trans h0, (World.cell?_setCell_other _ _ _ _ (ne _ _ (by decide))).trans h1, (World.cell?_setCell_other _ _ _ _ (ne _ _ (by decide))).trans h2, (World.cell?_setCell_other _ _ _ _ (ne _ _ (by decide))).trans h3, World.cell?_setCell_same _ _ _ h4⟩,
    fun o => by rw [World.frozen?_setCell]; exact h.free o, h.b3.setCell (p := ⟨d, 4, none⟩) hd v, h.b0.setCell (p := ⟨d, 4, none⟩) hw v⟩
theorem byte_of {n : Int} (h : (Lit.int .u8 n).wf = true) : ∃ y : UInt8, n = (y.toNat : Int) := by
  have := bounds_u8 h
  exact ⟨UInt8.ofNat n.toNat, by rw [UInt8.toNat_ofNat']; omega⟩
set_option maxRecDepth 100000 in
set_option maxHeartbeats 8000000 in
theorem walk (a : Option Addr) (n cap b off : Nat) (F : Nat → Nat → UInt8) (i : Int) (y : UInt8) (w : World) (hR : RowsAt w a b off n F) (hn : n ≤ 140737488351232) (hK : Sha.Kc w) :
    Calls Tryz.prog 7 #[.slice a n cap, .int .i64 i, .int .u8 (y.toNat : Int)] w fun e w' => e = .returned (.bool true) ∧ Below w.heap.size w w' := by
  have hAw := Lib.hid (awake_calls w hK)
  replace hR := Lib.hid hR
  replace hK := Lib.hid hK
  go_enter Tryz.func7, Tryz.ntmps7
  go_wp2_with fail
  refine hAw.out.mono ?_
  rintro e w1 ⟨rfl, b1⟩
  replace b1 := Lib.hid b1
  clear hAw
  by_cases h80 : 80 < n
  · have l0 : (80 : Int) < n := by omega
    go_wp2
    go_ret
    exact ⟨rfl, b1.out⟩
  · have l0 : decide ((80 : Int) < n) = false := decide_eq_false (by omega)
    have l1 : (n : Int) ≤ 80 := by omega
    by_cases hy : y = 0
    · subst hy
      go_wp2
      go_ret
      exact ⟨rfl, b1.out⟩
    · have hy0 : (((y.toNat : Int)) == 0) = false := by
        rw [beq_eq_false_iff_ne]
        intro e
        exact hy (UInt8.toNat_inj.1 (by simpa using e))
      have hSo := Lib.hid (sorted_calls a cap b off n F w1 (rows_next hR.out b1.out) (by omega))
      have hSet := Lib.hid (ids_set F n)
      have hle : (ids F n).length ≤ 80 := by have := ids_len F n; omega
      obtain ⟨L, hL⟩ : ∃ L, ids F n = L := ⟨_, rfl⟩
      rw [hL] at hSo hSet hle
      clear hL hR
      go_wp2_with fail
      refine hSo.out.mono ?_
      rintro e w2 ⟨v2, rfl, hO2, b2⟩
      obtain ⟨a2, c2, bb2, o2, rfl, hT2, hc2, -⟩ := hO2.at_
      have hB2 := Lib.hid (b_then b1.out b2)
      have hLo := Lib.hid (Look_ok a2 c2 bb2 o2 L ⟨#[]⟩ w2 hT2 (by omega) hSet.out pre_none (kc_below hK.out hB2.out))
      have hck := Lib.hid (check_cellOf hSet.out (by omega) pre_none)
      have hs32 : (cellOf L ⟨#[]⟩).sum.size = 32 := sumAt_size _ _
      have hil : (cellOf L ⟨#[]⟩).ids.length ≤ 30000 := by
        show (if (below L ⟨#[]⟩).length ≤ 8 then below L ⟨#[]⟩ else []).length ≤ 30000
        split
        · omega
        · exact Nat.zero_le _
      have hkl : (cellOf L ⟨#[]⟩).kds.length ≤ 140737488351232 := by
        show (if (below L ⟨#[]⟩).length ≤ 8 then [] else kids (⟨#[]⟩ : ByteArray).size (below L ⟨#[]⟩)).length ≤ _
        split
        · exact Nat.zero_le _
        · rw [kids_length]; omega
      have hpz : (cellOf L ⟨#[]⟩).pre.size ≤ 64 := Nat.zero_le _
      have hcz : 0 ≤ (cellOf L ⟨#[]⟩).count ∧ (cellOf L ⟨#[]⟩).count ≤ 80 := ⟨Int.natCast_nonneg _, by
        show ((below L ⟨#[]⟩).length : Int) ≤ 80
        have : (below L ⟨#[]⟩).length ≤ L.length := List.length_filter_le _ _
        omega⟩
      generalize cellOf L ⟨#[]⟩ = c at *
      obtain ⟨m, hm⟩ : ∃ m, L.length = m := ⟨_, rfl⟩
      rw [hm] at hLo ⊢
      clear hm hT2 hO2 hc2 hSo b2 b1
      go_wp2_with fail
      refine hLo.out.mono ?_
      rintro e w3 ⟨vi, vk, rfl, hi3, hk3, b3⟩
      obtain ⟨p, q, s, I, K⟩ := c
      dsimp only at hs32 hil hkl hpz hcz hi3 hk3
      obtain ⟨ai, ci, bi, oi, rfl, hci, hTi⟩ := hi3
      obtain ⟨ak, ck, bk, ok, rfl, hck', hTk⟩ := hk3
      unfold cellV
      dsimp only
      have hCh := Lib.hid fun (p' : ByteArray) (q' : Int) (s' : ByteArray) (r : Int) (hr : IsCheck ⟨p', q', s', I, K⟩ r) (hp' : p'.size ≤ 64) w' (hb : Below w.heap.size w w') (hb3 : Below w3.heap.size w3 w') =>
        Check_ok ⟨p', q', s', I, K⟩ (.slice ai I.length ci) (.slice ak K.length ck) w' ⟨ai, ci, bi, oi, rfl, hci, hTi.next hb3⟩ ⟨ak, ck, bk, ok, rfl, hck', hTk.next hb3⟩ (kc_below hK.out hb) hil hkl (by show p'.size ≤ _; omega) r hr
      unfold cellV at hCh
      dsimp only at hCh
      obtain ⟨ni, hni⟩ : ∃ ni, I.length = ni := ⟨_, rfl⟩
      obtain ⟨nk, hnk⟩ : ∃ nk, K.length = nk := ⟨_, rfl⟩
      rw [hni, hnk] at hCh ⊢
      obtain ⟨k, hk, hk32⟩ := place i
      have hB3 := b_then hB2.out b3
      clear hTi hTk hci hck' hLo b3 hB2 hil hkl hni hnk
      go_upto_region 10 with (fail)
      simp only [hk]
      clear hk
      generalize (IntKind.u64.wrap i).tmod 32 = im
      have bC := b_alloc w3 (.cells #[.string p, .int .i64 q, .string s, .slice ai ni ci, .slice ak nk ck] 25)
      have bD := b_alloc (w3.alloc (.cells #[.string p, .int .i64 q, .string s, .slice ai ni ci, .slice ak nk ck] 25)) (.cells #[.string p, .int .i64 q, .string s, .slice ai ni ci, .slice ak nk ck] 25)
      have cC := (CellAt.new w3 (.string p) (.int .i64 q) (.string s) (.slice ai ni ci) (.slice ak nk ck) 25).next bD
      have cD := CellAt.new (w3.alloc (.cells #[.string p, .int .i64 q, .string s, .slice ai ni ci, .slice ak nk ck] 25)) (.string p) (.int .i64 q) (.string s) (.slice ai ni ci) (.slice ak nk ck) 25
      rw [World.size_alloc] at cD
      have fD' : ∀ o, ((w3.alloc (.cells #[.string p, .int .i64 q, .string s, .slice ai ni ci, .slice ak nk ck] 25)).alloc (.cells #[.string p, .int .i64 q, .string s, .slice ai ni ci, .slice ak nk ck] 25)).frozen? ⟨w3.heap.size + 1, o, none⟩ = false := fun o => by simp [go_sem]
      have b34 := b_then bC bD
      generalize (w3.alloc (.cells #[.string p, .int .i64 q, .string s, .slice ai ni ci, .slice ak nk ck] 25)).alloc (.cells #[.string p, .int .i64 q, .string s, .slice ai ni ci, .slice ak nk ck] 25) = w4 at *
      have fD := fD' 2
      obtain ⟨cc0, cc1, cc2, cc3, cc4⟩ := cC
      obtain ⟨cd0, cd1, cd2, cd3, cd4⟩ := cD
      have szc : w3.heap.size < w4.heap.size := Oct.lt_of_cell cc0
      have szd : w3.heap.size + 1 < w4.heap.size := Oct.lt_of_cell cd0
      have k0 : (k : Int) ≤ 32 := by omega
      have k1 : (k : Int) < 32 := by omega
      have k9 : (0 : Int) ≤ k := by omega
      have k2 : IntKind.i64.wrap ((k : Int) + 1) = ((k + 1 : Nat) : Int) := by simp [IntKind.wrap, IntKind.bits, IntKind.signed]; omega
      have k3 : ((k + 1 : Nat) : Int) ≤ 32 := by omega
      have hkP : k < s.size := by omega
      have hPl : Hid (s.data.toList = (s.extract 0 k).data.toList ++ s[k] :: (s.extract (k + 1) s.size).data.toList) := Lib.hid (cut_list s k hkP)
      obtain ⟨c, hcP⟩ : ∃ c, s[k]'hkP = c := ⟨_, rfl⟩
      have hx := b_xor c y
      obtain ⟨A, hA⟩ : ∃ A, s.extract 0 k = A := ⟨_, rfl⟩
      obtain ⟨C, hC⟩ : ∃ C, s.extract (k + 1) s.size = C := ⟨_, rfl⟩
      rw [hA, hC, hcP] at hPl
      rw [hs32] at hC
      have zP := congrArg List.length hPl.out
      have zA := Ident.size_list A
      have zC := Ident.size_list C
      have zS := Ident.size_list s
      rw [List.length_append, List.length_cons] at zP
      have s1 : ¬ 9223372036854775807 < A.size + (⟨#[c ^^^ y]⟩ : ByteArray).size := by show ¬ _ < A.size + 1; omega
      have s2 : ¬ 9223372036854775807 < (A ++ (⟨#[c ^^^ y]⟩ : ByteArray)).size + C.size := by rw [ByteArray.size_append]; show ¬ _ < A.size + 1 + _; omega
      have s3 : ¬ 9223372036854775807 < A.size + (⟨#[c ^^^ y]⟩ : ByteArray).size + C.size := by show ¬ _ < A.size + 1 + _; omega
      obtain ⟨x, hxx⟩ : ∃ x, c ^^^ y = x := ⟨_, rfl⟩
      rw [hxx] at hx s1 s2 s3
      have hcv := conv1 (w4.alloc (.cells #[.int .u8 (x.toNat : Int)] 5)).drew w4.heap.size x (by show (w4.alloc _).cell? ⟨w4.heap.size, 0, none⟩ = _; simp)
      have hxc : Hid (x ≠ c) := Lib.hid fun e => hy (by
        have h2 : c ^^^ (c ^^^ y) = 0 := by rw [hxx, e]; exact UInt8.xor_self
        rw [← UInt8.xor_assoc, UInt8.xor_self, UInt8.zero_xor] at h2
        exact h2)
      replace hxx := Lib.hid hxx
      clear zP zA zC zS
      generalize hkk : k + 1 = k' at *
      replace hkk := Lib.hid hkk
      replace hB3 := Lib.hid hB3
      replace b34 := Lib.hid b34
      clear bC bD
      obtain ⟨T, hT⟩ : ∃ T, A ++ (⟨#[x]⟩ : ByteArray) ++ C = T := ⟨_, rfl⟩
      have hTs : Hid (T ≠ s) := Lib.hid (by rw [← hT]; exact spoilt_ne hPl.out hxc.out)
      have hT0 : Hid (Two w w3 w3.heap.size (w3.heap.size + 1) (.string p) (.int .i64 q) (.string s) (.slice ai ni ci) (.slice ak nk ck) (.string p) (.int .i64 q) (.string s) (.slice ai ni ci) (.slice ak nk ck) w4) := Lib.hid ⟨⟨cc0, cc1, cc2, cc3, cc4⟩, ⟨cd0, cd1, cd2, cd3, cd4⟩, fD', b34.out, b_then hB3.out b34.out⟩
      have hsz : Hid (w3.heap.size ≠ w3.heap.size + 1 ∧ w3.heap.size ≤ w3.heap.size + 1 ∧ w.heap.size ≤ w3.heap.size + 1) := Lib.hid ⟨by omega, by omega, by have := hB3.out.size; omega⟩
      have hT1 := Lib.hid ((hT0.out.set2 hsz.out.1 hsz.out.2.1 hsz.out.2.2 (.string T)).next (b_then (b_alloc _ (.cells #[.int .u8 (x.toNat : Int)] 5)) (b_drew _)))
      clear hT0 cc3 cc4 cc0 cc1 cd3 cd4 cd0 cd1 fD'
      go_region
      generalize ((w4.setCell ⟨w3.heap.size + 1, 2, none⟩ (.string T)).alloc (.cells #[.int .u8 (x.toNat : Int)] 5)).drew = w5 at *
      have hCh1 := Lib.hid (hCh.out p q T 20 (check_sum hck.out hTs.out) hpz w5 hT1.out.b0 hT1.out.b3)
      obtain ⟨d0, d1, d2, d3, d4⟩ := hT1.out.dst
      clear hcv hx hxx hxc hC hA hcP hPl s1 s2 s3 hT hTs fD cc2 cd2 k2 k3 hkk szc szd
      go_wp2_with fail
      refine hCh1.out.mono ?_
      rintro e w6 ⟨rfl, b6⟩
      have hT6 := Lib.hid (hT1.out.next b6)
      clear d0 d1 d2 d3 d4 b6 hCh1 hT1
      have hT7 := Lib.hid ((((((hT6.out.set0 hsz.out.1 hsz.out.2.1 hsz.out.2.2 (.string p)).set1 hsz.out.1 hsz.out.2.1 hsz.out.2.2 (.int .i64 q)).set2 hsz.out.1 hsz.out.2.1 hsz.out.2.2 (.string s)).set3 hsz.out.1 hsz.out.2.1 hsz.out.2.2 (.slice ai ni ci)).set4 hsz.out.1 hsz.out.2.1 hsz.out.2.2 (.slice ak nk ck)).set1 hsz.out.1 hsz.out.2.1 hsz.out.2.2 (.int .i64 (q + 1 + k)))
      obtain ⟨e0, e1, e2, e3, e4⟩ := hT6.out.src
      obtain ⟨d0, d1, d2, d3, d4⟩ := hT6.out.dst
      have fr := hT6.out.free
      obtain ⟨q0, q1⟩ := hcz
      have k8 : (k : Int) < 32 := by omega
      go_upto_region 15 with (fail)
      generalize (((((w6.setCell ⟨w3.heap.size + 1, 0, none⟩ (.string p)).setCell ⟨w3.heap.size + 1, 1, none⟩ (.int .i64 q)).setCell ⟨w3.heap.size + 1, 2, none⟩ (.string s)).setCell ⟨w3.heap.size + 1, 3, none⟩ (.slice ai ni ci)).setCell ⟨w3.heap.size + 1, 4, none⟩ (.slice ak nk ck)).setCell ⟨w3.heap.size + 1, 1, none⟩ (.int .i64 (q + 1 + k)) = w7 at *
      clear e0 e1 e2 e3 e4 d0 d1 d2 d3 d4 fr hT6
      have hCh8 := Lib.hid fun W (hT : Two w w3 w3.heap.size (w3.heap.size + 1) (.string p) (.int .i64 q) (.string s) (.slice ai ni ci) (.slice ak nk ck) (.string ⟨#[120]⟩) (.int .i64 q) (.string s) (.slice ai ni ci) (.slice ak nk ck) W) => hCh.out ⟨#[120]⟩ q s 4 (check_pre _ _ _ _) (by decide) W hT.b0 hT.b3
      have hSx := Lib.hid fun W (hT : Two w w3 w3.heap.size (w3.heap.size + 1) (.string p) (.int .i64 q) (.string s) (.slice ai ni ci) (.slice ak nk ck) (.string p) (.int .i64 (q + 1 + k)) (.string s) (.slice ai ni ci) (.slice ak nk ck) W) => (((((hT.set0 hsz.out.1 hsz.out.2.1 hsz.out.2.2 (.string p)).set1 hsz.out.1 hsz.out.2.1 hsz.out.2.2 (.int .i64 q)).set2 hsz.out.1 hsz.out.2.1 hsz.out.2.2 (.string s)).set3 hsz.out.1 hsz.out.2.1 hsz.out.2.2 (.slice ai ni ci)).set4 hsz.out.1 hsz.out.2.1 hsz.out.2.2 (.slice ak nk ck)).set0 hsz.out.1 hsz.out.2.1 hsz.out.2.2 (.string ⟨#[120]⟩)
      by_cases h8 : q ≤ 8
      · have l8 : decide (q ≤ 8) = true := decide_eq_true h8
        have hCh7 := Lib.hid (hCh.out p (q + 1 + k) s 4 (check_count hck.out h8 (by show q < q + 1 + k; omega)) hpz w7 hT7.out.b0 hT7.out.b3)
        obtain ⟨e0, e1, e2, e3, e4⟩ := hT7.out.src
        obtain ⟨d0, d1, d2, d3, d4⟩ := hT7.out.dst
        go_wp2_with fail
        refine hCh7.out.mono ?_
        rintro e w8 ⟨rfl, b8⟩
        have hT8 := Lib.hid (hT7.out.next b8)
        clear e0 e1 e2 e3 e4 d0 d1 d2 d3 d4 b8 hCh7 hT7
        have hT9 := Lib.hid (hSx.out w8 hT8.out)
        have hCh9 := Lib.hid (hCh8.out _ hT9.out)
        obtain ⟨e0, e1, e2, e3, e4⟩ := hT8.out.src
        obtain ⟨d0, d1, d2, d3, d4⟩ := hT8.out.dst
        have fr := hT8.out.free
        clear hT8 hCh8 hSx hCh
        go_wp2_with fail
        refine hCh9.out.mono ?_
        rintro e wa ⟨rfl, ba⟩
        have hE := Lib.hid (b_then hT9.out.b0 ba)
        clear hT9 hCh9 ba e0 e1 e2 e3 e4 d0 d1 d2 d3 d4 fr
        go_wp2
        go_ret
        exact ⟨rfl, hE.out⟩
      · have l8 : decide (q ≤ 8) = false := decide_eq_false h8
        have hT9 := Lib.hid (hSx.out w7 hT7.out)
        have hCh9 := Lib.hid (hCh8.out _ hT9.out)
        obtain ⟨e0, e1, e2, e3, e4⟩ := hT7.out.src
        obtain ⟨d0, d1, d2, d3, d4⟩ := hT7.out.dst
        have fr := hT7.out.free
        clear hT7 hCh8 hSx hCh
        go_wp2_with fail
        refine hCh9.out.mono ?_
        rintro e wa ⟨rfl, ba⟩
        have hE := Lib.hid (b_then hT9.out.b0 ba)
        clear hT9 hCh9 ba e0 e1 e2 e3 e4 d0 d1 d2 d3 d4 fr
        go_wp2
        go_ret
        exact ⟨rfl, hE.out⟩

theorem own : ownKnob Tryz.prog.godebug = none := by kernel_rfl
theorem laidOut : laidOutB Tryz.prog = true := by kernel_rfl
set_option maxRecDepth 100000 in
theorem lifted (os : Os) (started : os.Started) (H : Type) (enc : TypeId × Value → H) :
    ReturnsInHanded {} Tryz.checked os 7 .any (fun w args => (Rows.trieSpoiltSpec.pre enc Tryz.prog Tryz.f7 [] false w args ∧ laidMetH Tryz.prog Rows.trieSpoiltRow.laid w) ∧ sizedMet enc Tryz.prog Tryz.f7 (OpenSpec.ofChange Rows.trieSpoiltSpec) false w args) (Rows.trieSpoiltSpec.post enc Tryz.prog Tryz.f7 false true false false) := by
  refine returnsInHanded_of_change_and (C := Tryz.checked) (X := (fun w _ => laidMetH Tryz.prog Rows.trieSpoiltRow.laid w)) (fun _ _ _ hh h => h.of_heap hh) own started (by kernel_rfl) Tryz.func7
    (ChangeSpec.witness_shaped (enc := enc) (C := Tryz.checked) (os := os) (X := (fun w _ => laidMetH Tryz.prog Rows.trieSpoiltRow.laid w)) false (World.doorLaid Tryz.prog 14 os) #[.slice none 0 0, .int .i64 0, .int .u8 0] 8 rfl (World.shaped_of_RefB (by kernel_rfl) (by kernel_rfl)) (by kernel_rfl) (by kernel_rfl) (by kernel_rfl) (Sha.door_met os _)) ?_
  intro W base args ds gs before hval0 hW hcnd hsz0 hL _
  have hval : ∀ (j : Nat) t v, Tryz.f7.params[j]? = some t → args[j]? = some v → Value.okWide Tryz.prog W .any base t v := hval0
  have hsz : (DataW.weightsEach Tryz.prog (Tryz.f7.params.toList ++ Rows.trieSpoiltSpec.plain.varTypes Tryz.prog) (ds ++ gs)).all (· ≤ reachBytes) = true := hsz0
  have hW' := hW
  obtain ⟨p, q, hA0, hV, rfl, hfz, hnd⟩ := hW
  have hA : DataW.TrodAll enc Tryz.prog W 0 (fun _ => true) true Tryz.f7.params.toList args.toList ds p := hA0
  rw [Tryz.params7] at hA hval hsz
  obtain ⟨v0, vs0, d0, ds0, p0, q0, hargs, rfl, rfl, h0, r0⟩ := trodAll_cons hA
  obtain ⟨v1, vs1, d1, ds1, p1, q1, rfl, rfl, rfl, h1, r1⟩ := trodAll_cons r0
  obtain ⟨v2, vs2, d2, ds2, p2, q2, rfl, rfl, rfl, h2, r2⟩ := trodAll_cons r1
  obtain ⟨rfl, rfl, rfl⟩ := trodAll_nil r2
  obtain rfl : args = #[v0, v1, v2] := by cases args; simp_all
  obtain ⟨rfl, rfl⟩ := trodVars_none hV
  have k0 := h0
  have lt0 : ∀ x ∈ p0, x.block < W.heap.size := by obtain ⟨m, hm⟩ := k0; exact DataW.trod_lt m _ _ _ hm
  have ok0 := hval 0 36 v0 rfl rfl
  have k1 := h1
  have lt1 : ∀ x ∈ p1, x.block < W.heap.size := by obtain ⟨m, hm⟩ := k1; exact DataW.trod_lt m _ _ _ hm
  have ok1 := hval 1 3 v1 rfl rfl
  have k2 := h2
  have lt2 : ∀ x ∈ p2, x.block < W.heap.size := by obtain ⟨m, hm⟩ := k2; exact DataW.trod_lt m _ _ _ hm
  have ok2 := hval 2 5 v2 rfl rfl
  clear hA0 hval0 hsz0
  obtain ⟨a0, len, cap, b, off, F, rfl, hF, hl⟩ := open_rows Tryz.underlying36 Tryz.underlying54 Tryz.underlying5 (by kernel_rfl) (by kernel_rfl) (of_decide_eq_true (by kernel_rfl)) ok0 h0 (Oct.arg_weights hsz (j := 0) (t := 36) rfl rfl)
  obtain ⟨a1, rfl, rfl, rfl, w1⟩ := open_int Tryz.underlying3 ok1 h1
  obtain ⟨a2, rfl, rfl, rfl, w2⟩ := open_int Tryz.underlying5 ok2 h2
  obtain ⟨y, rfl⟩ := byte_of w2
  refine (walk a0 len cap b off F a1 y W hF hl (Sha.kc_of_laid hL)).mono fun e W' ⟨he, bel⟩ => ?_
  subst he
  exact ⟨_, rfl, _, _, _, [], _, [], hW', trodAll_mk1 (shut_bool Tryz.underlying4 _), (trodAll_cons_mk (Below.trod laidOut (by kernel_rfl) (of_decide_eq_true (by kernel_rfl)) k0 bel lt0) (trodAll_cons_mk (Below.trod laidOut (by kernel_rfl) (of_decide_eq_true (by kernel_rfl)) k1 bel lt1) (trodAll_cons_mk (Below.trod laidOut (by kernel_rfl) (of_decide_eq_true (by kernel_rfl)) k2 bel lt2) trodAll_mk0))), rfl, bel.frame _, fun h => by cases h⟩

/-- the row -/
theorem row_proved : Rows.TrieSpoiltSaid :=
  OpenClaim.holds_of_wide 7 Tryz.f7 rfl rfl rfl rfl rfl rfl rfl ⟨rfl, rfl, rfl, rfl, rfl⟩ rfl rfl rfl rfl rfl (by kernel_rfl) Tryz.func7 (by kernel_rfl)
    (of_decide_eq_true (by kernel_rfl)) (by unfold Func.isWrapper; first | (rw [if_pos (by decide +kernel)]; kernel_rfl) | (rw [if_neg (by decide +kernel)]; exact ⟨rfl, rfl⟩))
    (fun os started H enc _ => lifted os started H enc)
/-- the statement: the tied card -/
theorem proved : Rows.TrieSpoiltCardSaid :=
  Claim7.holds_tied_plain_at .later [] Rows.trieSpoiltCard.laidKinds true Rows.trieSpoiltCard.stood.harness Rows.trieSpoiltCard.stood.looks row_proved (fun _ h => by cases h) (by kernel_rfl) (fun _ h => by cases h) trieSpoilt_row_tie rfl ⟨rfl, rfl⟩ (by kernel_rfl) rfl
    (fun f fn hf hfn => by
      obtain rfl : f = 7 := Option.some.inj ((show Tryz.prog.funcNamed Rows.trieSpoiltRow.func = some 7 by kernel_rfl).symm.trans hf) |>.symm
      obtain rfl : fn = Tryz.f7 := (Option.some.inj (Tryz.func7.symm.trans hfn)).symm
      exact ⟨by kernel_rfl, fun j t ht => by
        rw [Tryz.params7] at ht
        have hm : t ∈ [36, 3, 5] := by simpa using Array.mem_of_getElem? ht
        have hall : ([36, 3, 5].all fun u => !Tryz.prog.wantsStandIn u) = true := by kernel_rfl
        exact (show Tryz.prog.wantsStandIn t = false by simpa using List.all_eq_true.1 hall t hm)⟩)
    (by kernel_rfl)
end Go.Proofs.YtdmpkgdlelagjaaGreatDoor.trieSpoilt
