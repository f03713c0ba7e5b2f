/-
  trie.lacking, trie.unlike and trie.Draw: what is lacking, where to ask on, or what is wrong. Conditions: the digest's constants lie where the program lays them; sets of at most 30000 ids.
-/
import Derived.Test.YtdmpkgdlelagjaaGreatDoorRows
import Derived.Test.YtdmpkgdlelagjaaGreatDoorTrCheck
import Derived.Deep.LoopGhost
import Derived.Deep.RegionLaw
namespace Go.Proofs.YtdmpkgdlelagjaaGreatDoor.Tr
open Go Go.RowKit
open Ident (by_ val dg digit has digits)
open Sh (b_alloc b_drew b_drewN b_next b_then Rises)
open Sh.Key (lt)

theorem Less_calls (a b : ByteArray) (w : World) :
    Calls Tryz.prog 103 #[.string a, .string b] w fun e w' => e = .returned (.bool (lt a b)) ∧ w = w' := by
  have hn := Lib.hid fun n => Cs.isNaN_calls n w
  have hl : Hid (lt a b = Op.bytesLess a.toList b.toList) := Lib.hid rfl
  rw [hl.out]
  generalize hz : Op.bytesLess a.toList b.toList = z
  go_enter Tryz.func103, Tryz.ntmps103
  go_wp2_with (go_at_call 121; refine (hn.out _).mono ?_; rintro e w' ⟨rfl, rfl⟩)
  go_ret
  exact ⟨rfl, rfl⟩
theorem NaN_calls (a : ByteArray) (w : World) : Calls Tryz.prog 104 #[.string a] w fun e w' => e = .returned (.bool false) ∧ w = w' := by
  go_enter Tryz.func104, Tryz.ntmps104
  go_wp2
  go_ret
  exact ⟨rfl, rfl⟩
theorem nth_rise {L : List ByteArray} (hR : Rises L) {i j : Nat} (hij : i < j) (hj : j < L.length) : lt (L[i]'(by omega)) L[j] = true := List.pairwise_iff_getElem.1 hR i j (by omega) hj hij
/-- where a text is, if it is there -/
def Finds (L : List ByteArray) (x : ByteArray) (e : Ending) : Prop := ∃ k z, e = .returned (.tuple #[.int .i64 k, .bool z]) ∧ (z = true ↔ x ∈ L)
theorem Finds.yes {L : List ByteArray} {x : ByteArray} {k : Int} (h : x ∈ L) : Finds L x (.returned (.tuple #[.int .i64 k, .bool true])) := ⟨k, true, rfl, by simp [h]⟩
theorem Finds.no {L : List ByteArray} {x : ByteArray} (k : Int) (h : x ∉ L) : Finds L x (.returned (.tuple #[.int .i64 k, .bool false])) := ⟨k, false, rfl, by simp [h]⟩
set_option maxRecDepth 100000 in
set_option maxHeartbeats 4000000 in
theorem BinarySearch_calls (a : Option Addr) (cap b off : Nat) (L : List ByteArray) (x : ByteArray) (w : World) (hT : TxAt w a b off L) (hM : L.length ≤ 1000000) (hR : Rises L) :
    Calls Tryz.prog 75 #[.slice a L.length cap, .string x] w fun e w' => Finds L x e ∧ w = w' := by
  have hL := Lib.hid fun y => Less_calls y x w
  have hN := Lib.hid fun y => NaN_calls y w
  replace hT := Lib.hid hT
  obtain ⟨n, hn⟩ : ∃ n, Hid (L.length = n) := ⟨_, Lib.hid rfl⟩
  replace hR := Lib.hid hR
  rw [hn.out] at hM ⊢
  go_enter Tryz.func75, Tryz.ntmps75
  go_wp2
  go_loopw [7, 8, 9] (fun s7 s8 _ wr => ∃ (i j : Nat), s7 = .int .i64 (i : Int) ∧ s8 = .int .i64 (j : Int) ∧ i ≤ j ∧ j ≤ n ∧ Hid ((∀ t (h : t < L.length), t < i → lt L[t] x = true) ∧ (∀ t (h : t < L.length), j ≤ t → lt L[t] x = false)) ∧ w = wr) (fun s7 s8 _ _ => (intOf s8).toNat - (intOf s7).toNat)
  case atStart => exact ⟨0, n, rfl, rfl, by omega, by omega, Lib.hid ⟨fun t _ h => by omega, fun t h1 h2 => by have := hn.out; omega⟩, rfl⟩
  case round =>
    obtain ⟨i, j, rfl, rfl, hij, hj, hI, rfl⟩ := hrel
    by_cases hlt : i < j
    · have d0 : (i : Int) < j := by omega
      have u1 : IntKind.i64.wrap ((i : Int) + j) = (i : Int) + j := IntWalk.i64_in _ (by omega)
      have u2 : IntKind.u64.wrap ((i : Int) + j) = (i : Int) + j := by rw [IntKind.wrap_u64]; omega
      obtain ⟨h, hh⟩ : ∃ h, (i + j) / 2 = h := ⟨_, rfl⟩
      have u3 : ((i : Int) + j) / 2 = h := by rw [← hh, half]
      have u4 : IntKind.i64.wrap (h : Int) = h := IntWalk.i64_in _ (by omega)
      have b1 : i ≤ h := by omega
      have b2 : h < j := by omega
      have b3 : (h : Int) < n := by omega
      have b4 : (0 : Int) ≤ h := by omega
      have hkl : h < L.length := by rw [hn.out]; omega
      have ha := hT.out.addr (by omega)
      subst ha
      have c0 := hT.out.cell h _ (List.getElem?_eq_getElem hkl)
      obtain ⟨y, hy⟩ : ∃ y, Hid (L[h] = y) := ⟨_, Lib.hid rfl⟩
      rw [hy.out] at c0
      clear hh
      go_wp2_with fail
      refine (hL.out y).mono ?_
      rintro e w' ⟨rfl, rfl⟩
      clear u1 u2 u3 u4
      cases hz : lt y x with
      | true =>
        have hp : Hid ((∀ t (_ : t < L.length), t < h + 1 → lt L[t] x = true) ∧ (∀ t (_ : t < L.length), j ≤ t → lt L[t] x = false)) := Lib.hid ⟨fun t ht g => by
          by_cases e : t = h
          · subst e; rw [hy.out]; exact hz
          · exact Sh.Key.tra _ _ _ (nth_rise hR.out (i := t) (j := h) (by omega) hkl) (by rw [hy.out]; exact hz), hI.out.2⟩
        clear hz
        go_wp2
        exact ⟨⟨h + 1, j, by go_num, rfl, by omega, hj, hp, by trivial⟩, by simp [intOf]; omega⟩
      | false =>
        have hp : Hid ((∀ t (_ : t < L.length), t < i → lt L[t] x = true) ∧ (∀ t (_ : t < L.length), h ≤ t → lt L[t] x = false)) := Lib.hid ⟨hI.out.1, fun t ht g => by
          by_cases e : t = h
          · subst e; rw [hy.out]; exact hz
          · cases hq : lt L[t] x with
            | false => rfl
            | true =>
              have := Sh.Key.tra _ _ _ (nth_rise hR.out (i := h) (j := t) (by omega) ht) hq
              rw [hy.out, hz] at this; cases this⟩
        clear hz
        go_wp2
        exact ⟨⟨i, h, rfl, rfl, b1, by omega, hp, by trivial⟩, by simp [intOf]; omega⟩
    · have d0 : decide ((i : Int) < j) = false := decide_eq_false (by omega)
      obtain rfl : i = j := by omega
      have d1 : ¬ (i : Int) < i := by omega
      by_cases hin : i < n
      · have b3 : (i : Int) < n := by omega
        have b4 : (0 : Int) ≤ i := by omega
        have hkl : i < L.length := by rw [hn.out]; omega
        have ha := hT.out.addr (by omega)
        subst ha
        have c0 := hT.out.cell i _ (List.getElem?_eq_getElem hkl)
        obtain ⟨y, hy⟩ : ∃ y, Hid (L[i] = y) := ⟨_, Lib.hid rfl⟩
        rw [hy.out] at c0
        by_cases hyx : y = x
        · subst hyx
          have hm : Hid (y ∈ L) := Lib.hid (by rw [← hy.out]; exact List.getElem_mem hkl)
          have e1 : (y.toList == y.toList) = true := by simp
          clear hL hN
          go_wp2
          go_ret2
          exact ⟨.yes hm.out, rfl⟩
        · have e1 : (y.toList == x.toList) = false := str_ne hyx
          have hm : Hid (x ∉ L) := Lib.hid fun hx => by
            obtain ⟨t, ht, e⟩ := List.getElem_of_mem hx
            rcases Nat.lt_trichotomy t i with g | g | g
            · have := hI.out.1 t ht g
              rw [e, Sh.Key.irr] at this; cases this
            · subst g; exact hyx (by rw [← hy.out]; exact e)
            · have := nth_rise hR.out g ht
              rw [e] at this
              rw [hI.out.2 i hkl (Nat.le_refl _)] at this; cases this
          replace hyx := Lib.hid hyx
          have hN1 := Lib.hid (hN.out y)
          clear hL hN
          go_wp2_with fail
          refine hN1.out.mono ?_
          rintro e w' ⟨rfl, rfl⟩
          go_wp2
          go_ret2
          exact ⟨.no _ hm.out, rfl⟩
      · obtain rfl : i = n := by omega
        have hm : Hid (x ∉ L) := Lib.hid fun hx => by
          obtain ⟨t, ht, e⟩ := List.getElem_of_mem hx
          have := hI.out.1 t ht (by rw [← hn.out]; exact ht)
          rw [e, Sh.Key.irr] at this; cases this
        clear hL hN
        go_wp2
        go_ret2
        exact ⟨.no _ hm.out, rfl⟩
/-- those of a list that aren't in another one -/
def notIn (L M : List ByteArray) : List ByteArray := M.filter fun x => !Sh.has x L
theorem has_mem {x : ByteArray} {L : List ByteArray} : Sh.has x L = true ↔ x ∈ L := by
  rw [Sh.has_iff]
  exact ⟨fun ⟨y, hy, e⟩ => by have e' : y = x := e; exact e' ▸ hy, fun h => ⟨x, h, rfl⟩⟩
theorem notIn_snoc_yes {L M : List ByteArray} {x : ByteArray} {k : Nat} (h : k < M.length) (e : M[k] = x) (hx : x ∉ L) : notIn L (M.take k) ++ [x] = notIn L (M.take (k + 1)) := by
  have hf : Sh.has x L = false := by
    cases g : Sh.has x L with
    | false => rfl
    | true => exact absurd (has_mem.1 g) hx
  rw [take_next h, e]; unfold notIn; rw [List.filter_append, List.filter_cons_of_pos (by rw [hf]; rfl), List.filter_nil]
theorem notIn_snoc_no {L M : List ByteArray} {x : ByteArray} {k : Nat} (h : k < M.length) (e : M[k] = x) (hx : x ∈ L) : notIn L (M.take k) = notIn L (M.take (k + 1)) := by
  rw [take_next h, e]; unfold notIn; rw [List.filter_append, List.filter_cons_of_neg (by rw [has_mem.2 hx]; simp), List.filter_nil, List.append_nil]
set_option maxRecDepth 100000 in
set_option maxHeartbeats 2000000 in
theorem lacking_calls (a : Option Addr) (cap b off : Nat) (L : List ByteArray) (a2 : Option Addr) (cap2 b2 off2 : Nat) (M : List ByteArray) (w : World) (hT : TxAt w a b off L) (hR : Rises L) (hL : L.length ≤ 1000000) (hT2 : TxAt w a2 b2 off2 M) (hM : M.length ≤ 1000000) :
    Calls Tryz.prog 43 #[.slice a L.length cap, .slice a2 M.length cap2] w (Gives w (notIn L M)) := by
  have hS := Lib.hid fun x w' (hb : Below w.heap.size w w') => BinarySearch_calls a cap b off L x w' (hT.next hb) hL hR
  replace hT2 := Lib.hid hT2
  obtain ⟨n, hn⟩ : ∃ n, Hid (M.length = n) := ⟨_, Lib.hid rfl⟩
  obtain ⟨m, hm⟩ : ∃ m, Hid (L.length = m) := ⟨_, Lib.hid rfl⟩
  have hO0 : Hid (OwnT w.heap.size w (.slice none 0 0) (notIn L (M.take 0))) := Lib.hid (OwnT.nil _ _)
  have hB0 : Hid (Below w.heap.size w w) := Lib.hid (Below.refl _ _)
  rw [hn.out] at hM ⊢
  rw [hm.out] at hS hL ⊢
  clear hT hR
  go_enter Tryz.func43, Tryz.ntmps43
  go_wp2
  go_loopw [5, 12] (fun v i wr => ∃ k : Nat, k ≤ n ∧ i = .int .i64 k ∧ Hid (OwnT w.heap.size wr v (notIn L (M.take k))) ∧ Hid (Below w.heap.size w wr)) (fun _ i _ => n - (intOf i).toNat)
  case atStart => exact ⟨0, by omega, rfl, hO0, hB0⟩
  case round =>
    clear hO0 hB0
    obtain ⟨k, hk, rfl, hO, hB⟩ := hrel
    by_cases hlt : k < n
    · have i1 : (k : Int) < n := by omega
      have i0 : 0 ≤ (k : Int) := by omega
      have hkl : k < M.length := by rw [hn.out]; exact hlt
      have ha := hT2.out.addr (by omega)
      subst ha
      have c0 := (hT2.out.next hB.out).cell k _ (List.getElem?_eq_getElem hkl)
      obtain ⟨x, hx⟩ : ∃ x, Hid (M[k] = x) := ⟨_, Lib.hid rfl⟩
      rw [hx.out] at c0
      have hS1 := Lib.hid (hS.out x wr hB.out)
      go_wp2_with fail
      refine hS1.out.mono ?_
      rintro e w' ⟨⟨q, z, rfl, hz⟩, rfl⟩
      cases z with
      | false =>
        have hxn : x ∉ L := fun h => by have := hz.2 h; cases this
        have hs := Lib.hid (notIn_snoc_yes hkl hx.out hxn)
        have hl2 : (notIn L (M.take k)).length ≤ 1099511627776 := Nat.le_trans (List.length_filter_le _ _) (by rw [List.length_take]; omega)
        replace hxn := Lib.hid hxn
        clear hz hS1
        go_wp2_with (at_builtin; refine wp_append_tx rfl _ _ rfl w.heap.size u5 (notIn L (M.take k)) x rfl rfl hO.out hB.out.size hl2 ?_)
        intro v' w2 hO2 hB2
        have hO3 := Lib.hid hO2
        have hB3 := Lib.hid (hB2 _ hB.out)
        rw [hs.out] at hO3
        clear hO2 hB2
        go_wp2
        exact ⟨⟨k + 1, by omega, by go_num, hO3, hB3⟩, by simp [intOf]; omega⟩
      | true =>
        have hs := Lib.hid (notIn_snoc_no hkl hx.out (hz.1 rfl))
        have hO3 : Hid (OwnT w.heap.size wr u5 (notIn L (M.take (k + 1)))) := by rw [← hs.out]; exact hO
        clear hz hS1
        go_wp2_with fail
        exact ⟨⟨k + 1, by omega, by go_num, hO3, hB⟩, by simp [intOf]; omega⟩
    · have d0 : decide ((k : Int) < n) = false := decide_eq_false (by omega)
      have d1 : (n : Int) ≤ k := by omega
      have hO3 : Hid (OwnT w.heap.size wr u5 (notIn L M)) := Lib.hid (by have := hO.out; rwa [List.take_of_length_le (by rw [hn.out]; omega)] at this)
      go_wp2
      go_ret
      exact ⟨_, rfl, hO3.out, hB.out⟩
/-- the first so many kids' prefixes at which must be asked -/
def asksTo (L : List ByteArray) (c : Cell) (d : Nat) : List ByteArray := ((List.range d).filter (asked L c)).map (longer c.pre)
theorem asksTo_yes {L : List ByteArray} {c : Cell} {d : Nat} (h : asked L c d = true) : asksTo L c d ++ [longer c.pre d] = asksTo L c (d + 1) := by
  unfold asksTo; rw [List.range_succ, List.filter_append, List.map_append, List.filter_cons_of_pos h]; rfl
theorem asksTo_no {L : List ByteArray} {c : Cell} {d : Nat} (h : asked L c d = false) : asksTo L c d = asksTo L c (d + 1) := by
  unfold asksTo; rw [List.range_succ, List.filter_append, List.map_append, List.filter_cons_of_neg (by rw [h]; simp)]; simp
theorem asksTo_len (L : List ByteArray) (c : Cell) (d : Nat) : (asksTo L c d).length ≤ d := by
  unfold asksTo; rw [List.length_map]; exact Nat.le_trans (List.length_filter_le _ _) (by rw [List.length_range]; exact Nat.le_refl _)
theorem letter_at (d : Nat) (h : d < 16) : (⟨#[48, 49, 50, 51, 52, 53, 54, 55, 56, 57, 97, 98, 99, 100, 101, 102]⟩ : ByteArray).extract d (d + 1) = ⟨#[dg d]⟩ := by
  match d, h with
  | 0, _ => rfl
  | 1, _ => rfl
  | 2, _ => rfl
  | 3, _ => rfl
  | 4, _ => rfl
  | 5, _ => rfl
  | 6, _ => rfl
  | 7, _ => rfl
  | 8, _ => rfl
  | 9, _ => rfl
  | 10, _ => rfl
  | 11, _ => rfl
  | 12, _ => rfl
  | 13, _ => rfl
  | 14, _ => rfl
  | 15, _ => rfl
  | n + 16, h => omega
theorem longer_of (p : ByteArray) (d : Nat) : p ++ ⟨#[dg d]⟩ = longer p d := by
  apply ByteArray.ext
  apply Array.toList_inj.1
  unfold longer
  rw [ByteArray.data_append, Array.toList_append]
set_option maxRecDepth 100000 in
set_option maxHeartbeats 8000000 in
theorem unlike_calls (a : Option Addr) (cap b off : Nat) (L : List ByteArray) (c : Cell) (vi vk : Value) (w : World) (hT : TxAt w a b off L) (hn : L.length ≤ 30000) (hs : IsSet L) (hk : Lst w vk c.kds) (hi : Lst w vi c.ids) (hc : TellsKids c) (hK : Sha.Kc w) :
    Calls Tryz.prog 44 #[.slice a L.length cap, cellV c vi vk] w (Gives w (asksTo L c 16)) := by
  obtain ⟨p, n, s, I, K⟩ := c
  obtain ⟨ai, ci, bi, oi, rfl, -, -⟩ := hi
  obtain ⟨ak, ck, bk, ok, rfl, hck, hTk⟩ := hk
  obtain ⟨-, -, -, hk16, hp64, -⟩ := hc
  unfold cellV
  dsimp only at *
  rw [hk16]
  generalize I.length = ni at *
  have ba := b_alloc w (.cells #[.string p, .int .i64 n, .string s, .slice ai ni ci, .slice ak 16 ck] 25)
  have c0 : (w.alloc (.cells #[.string p, .int .i64 n, .string s, .slice ai ni ci, .slice ak 16 ck] 25)).cell? ⟨w.heap.size, 0, none⟩ = some (.string p) := by simp [go_sem]
  have c4 : (w.alloc (.cells #[.string p, .int .i64 n, .string s, .slice ai ni ci, .slice ak 16 ck] 25)).cell? ⟨w.heap.size, 4, none⟩ = some (.slice ak 16 ck) := by simp [go_sem]
  have szB : w.heap.size < (w.alloc (.cells #[.string p, .int .i64 n, .string s, .slice ai ni ci, .slice ak 16 ck] 25)).heap.size := by simp
  have hSS := Lib.hid fun w' (hb : Below (w.alloc (.cells #[.string p, .int .i64 n, .string s, .slice ai ni ci, .slice ak 16 ck] 25)).heap.size (w.alloc (.cells #[.string p, .int .i64 n, .string s, .slice ai ni ci, .slice ak 16 ck] 25)) w') =>
    (⟨(hb.cell (p := ⟨w.heap.size, 0, none⟩) szB).trans c0, (hb.cell (p := ⟨w.heap.size, 4, none⟩) szB).trans c4⟩ :
      w'.cell? ⟨w.heap.size, 0, none⟩ = some (.string p) ∧ w'.cell? ⟨w.heap.size, 4, none⟩ = some (.slice ak 16 ck))
  have hbl : (below L p).length ≤ 30000 := Nat.le_trans (List.length_filter_le _ _) hn
  have hFe := Lib.hid fun w' (hb : Below w.heap.size w w') => fewSum_calls none 0 0 0 [] w' (.nil _ _ _ _) (Nat.le_refl _) (kc_below hK hb) (by simp) (by simp [jn])
  obtain ⟨z, hz⟩ : ∃ z, Hid (few [] = z) := ⟨_, Lib.hid rfl⟩
  rw [hz.out] at hFe
  have hBe := Lib.hid fun w' (hb : Below w.heap.size w w') => below_calls a cap b off L p w' (hT.next hb) (by omega)
  have hDe := Lib.hid fun (a : Option Addr) (cap b off : Nat) (w : World) (h1 : TxAt w a b off (below L p)) (h2 : (below L p).length ≤ cap) => deal_calls a cap b off (below L p) p.size w h1 h2 (by omega) (below_set hs p) alike_below hp64
  have hSu := Lib.hid fun (a : Option Addr) (cap b off d : Nat) (w : World) (h1 : TxAt w a b off (part (below L p) p.size d)) (h2 : (part (below L p) p.size d).length ≤ cap) (h3 : Sha.Kc w) =>
    sums_calls (63 - p.size) (p.size + 1) a cap b off (part (below L p) p.size d) w (by omega) h1 h2 (Nat.le_trans (List.length_filter_le _ _) hbl) ((below_set hs p).filter _) alike_below.part h3
  replace hTk := Lib.hid hTk
  replace hK := Lib.hid hK
  obtain ⟨m, hm⟩ : ∃ m, Hid (L.length = m) := ⟨_, Lib.hid rfl⟩
  rw [hm.out] at hBe ⊢
  have hk16' := Lib.hid hk16
  clear hT hs hk16 hbl
  go_enter Tryz.func44, Tryz.ntmps44
  go_wp2_with fail
  generalize w.alloc (.cells #[.string p, .int .i64 n, .string s, .slice ai ni ci, .slice ak 16 ck] 25) = W at *
  have bd := b_then ba (b_drew W)
  have hFe1 := Lib.hid (hFe.out _ bd)
  have bW := Lib.hid (b_drew W)
  replace ba := Lib.hid ba
  replace bd := Lib.hid bd
  go_region_held3 (fun w' : World => w'.cell? ⟨w.heap.size, 0, none⟩ = some (.string p) ∧ w'.cell? ⟨w.heap.size, 4, none⟩ = some (.slice ak 16 ck))
    (first | exact hSS.out _ (b_then bW.out b6) | exact hSS.out _ bW.out)
    ((go_at_call 38; refine hFe1.out.mono ?_; rintro e w6 ⟨rfl, b6⟩))
  have hB6 := Lib.hid (b_then bd.out b6)
  have hW6 := Lib.hid (b_then bW.out b6)
  obtain ⟨e0, e4⟩ := hSS.out _ hW6.out
  have hBe1 := Lib.hid (hBe.out _ hB6.out)
  clear hFe1 hFe b6 hBe
  go_wp2_with fail
  refine hBe1.out.mono ?_
  rintro e w7 ⟨v7, rfl, hO7, b7⟩
  obtain ⟨a7, c7, b7', o7, rfl, hT7, hc7, -⟩ := hO7.at_
  have hDe1 := Lib.hid (hDe.out a7 c7 b7' o7 w7 hT7 hc7)
  have hB7 := Lib.hid (b_then hB6.out b7)
  have hW7 := Lib.hid (b_then hW6.out b7)
  clear hBe1 hO7 hT7 hc7 b7 hDe e0 e4
  go_wp2_with fail
  refine hDe1.out.mono ?_
  rintro e w8 ⟨vs, rfl, hsz, hvs, b8⟩
  have hB8 := Lib.hid (b_then hB7.out b8)
  have hW8 := Lib.hid (b_then hW7.out b8)
  have hO8 : Hid (OwnT w8.heap.size w8 (.slice none 0 0) (asksTo L ⟨p, n, s, I, K⟩ 0)) := Lib.hid (OwnT.nil _ _)
  have b88 := Lib.hid (Below.refl w8.heap.size w8)
  replace hvs := Lib.hid fun j v h => (hvs j v h).next b8
  replace hsz := Lib.hid hsz
  clear hDe1 b8
  go_wp2
  go_loopw [5, 23] (fun v i wr => ∃ d : Nat, d ≤ 16 ∧ i = .int .i64 (d : Int) ∧ Hid (OwnT w8.heap.size wr v (asksTo L ⟨p, n, s, I, K⟩ d)) ∧ Hid (Below w8.heap.size w8 wr)) (fun _ i _ => 16 - (intOf i).toNat)
  case atStart => exact ⟨0, by omega, rfl, hO8, b88⟩
  case round =>
    clear hO8 b88
    obtain ⟨d, hd, rfl, hO, hB⟩ := hrel
    by_cases hlt : d < 16
    · have l1 : (d : Int) < 16 := by omega
      have l2 : (0 : Int) ≤ d := by omega
      have hv : vs[d]? = some (vs[d]'(by rw [hsz.out]; omega)) := Array.getElem?_eq_getElem (by rw [hsz.out]; omega)
      obtain ⟨a1, c1, b1, o1, ev, hc1, hT1⟩ := hvs.out d _ hv
      have hix := index_part vs d _ a1 _ c1 hv hlt ev
      have hWr := Lib.hid (b_then hW8.out hB.out)
      have hBr := Lib.hid (b_then hB8.out hB.out)
      have hCall := hSu.out a1 c1 b1 o1 d wr (hT1.next hB.out) hc1 (kc_below hK.out hBr.out)
      rw [show ((p.size + 1 : Nat) : Int) = (p.size : Int) + 1 by omega] at hCall
      replace hCall := Lib.hid hCall
      generalize (part (below L p) p.size d).length = q at *
      clear ev hT1 hc1 hv
      go_wp2_with fail
      refine hCall.out.mono ?_
      rintro e w2 ⟨v2, rfl, -, b2⟩
      have hkd : Hid (sumAt (p.size + 1) (part (below L p) p.size d) = kid p.size (below L p) d) := Lib.hid rfl
      rw [hkd.out]
      have hO2 := Lib.hid (hO.out.next b2)
      have hW2 := Lib.hid (b_then hWr.out b2)
      have hB2 := Lib.hid (b_then hB.out b2)
      have hBB2 := Lib.hid (b_then hBr.out b2)
      obtain ⟨e0, e4⟩ := hSS.out _ hW2.out
      have hkl : d < K.length := by rw [hk16'.out]; omega
      have ha := hTk.out.addr (by omega)
      subst ha
      have ck0 := (hTk.out.next hBB2.out).cell d _ (List.getElem?_eq_getElem hkl)
      obtain ⟨x, hx⟩ : ∃ x, Hid (K[d] = x) := ⟨_, Lib.hid rfl⟩
      rw [hx.out] at ck0
      obtain ⟨y, hy⟩ : ∃ y, Hid (kid p.size (below L p) d = y) := ⟨_, Lib.hid rfl⟩
      rw [hy.out]
      have hask : Hid (asked L ⟨p, n, s, I, K⟩ d = decide (x ≠ y ∧ x ≠ z)) := Lib.hid (by
        unfold asked
        simp only [List.getD_eq_getElem?_getD, List.getElem?_eq_getElem hkl, Option.getD_some]
        rw [hx.out, hy.out, hz.out])
      clear hCall b2 hix
      by_cases hxy : x = y
      · have hno : asked L ⟨p, n, s, I, K⟩ d = false := by rw [hask.out]; simp [hxy]
        have hO3 : Hid (OwnT w8.heap.size w2 u5 (asksTo L ⟨p, n, s, I, K⟩ (d + 1))) := by rw [← asksTo_no hno]; exact hO2
        have f1 := str_eq hxy
        have f2 : (x.toList != y.toList) = false := by rw [bne, f1]; rfl
        clear hno hxy
        go_wp2
        exact ⟨⟨d + 1, by omega, by go_num, hO3, hB2⟩, by simp [intOf]; omega⟩
      · have f1 := str_ne hxy
        have f2 : (x.toList != y.toList) = true := by rw [bne, f1]; rfl
        by_cases hxz : x = z
        · have hno : asked L ⟨p, n, s, I, K⟩ d = false := by rw [hask.out]; simp [hxz]
          have hO3 : Hid (OwnT w8.heap.size w2 u5 (asksTo L ⟨p, n, s, I, K⟩ (d + 1))) := by rw [← asksTo_no hno]; exact hO2
          have f3 := str_eq hxz
          have f4 : (x.toList != z.toList) = false := by rw [bne, f3]; rfl
          clear hno hxy hxz
          go_wp2
          exact ⟨⟨d + 1, by omega, by go_num, hO3, hB2⟩, by simp [intOf]; omega⟩
        · have hyes : asked L ⟨p, n, s, I, K⟩ d = true := by rw [hask.out]; simp [hxy, hxz]
          have hnx := Lib.hid (asksTo_yes hyes)
          have f3 := str_ne hxz
          have f4 : (x.toList != z.toList) = true := by rw [bne, f3]; rfl
          have hle := letter_at d hlt
          have hlo := longer_of p d
          have hl2 : (asksTo L ⟨p, n, s, I, K⟩ d).length ≤ 1000000 := Nat.le_trans (asksTo_len _ _ _) (by omega)
          obtain ⟨q2, hq2⟩ : ∃ q2, longer p d = q2 := ⟨_, rfl⟩
          rw [hq2] at hlo
          have hnx2 : Hid (asksTo L ⟨p, n, s, I, K⟩ d ++ [q2] = asksTo L ⟨p, n, s, I, K⟩ (d + 1)) := by rw [← hq2]; exact hnx
          have u1 : IntKind.i64.wrap ((d : Int) + 1) = (d : Int) + 1 := IntWalk.i64_in _ (by omega)
          have u2 : ((d : Int) + 1).toNat = d + 1 := by omega
          have u3 : (d : Int) + 1 ≤ 16 := by omega
          have u4' : (0 : Int) ≤ (d : Int) + 1 := by omega
          have u6 : (d : Int) ≤ (d : Int) + 1 := by omega
          have g1 : ¬ 9223372036854775807 < p.size + 1 := by omega
          clear hyes hxy hxz hq2 hnx hask hkd
          go_wp2_with fail
          have hba := b_then (b_alloc w2 (.cells #[.string q2] 9)) (b_drew _)
          have hOn := Lib.hid (hO2.out.next hba)
          have hnew : Hid ((w2.alloc (.cells #[.string q2] 9)).drew.cell? ⟨w2.heap.size, 0, none⟩ = some (.string q2)) := Lib.hid (by show (w2.alloc (.cells #[.string q2] 9)).cell? ⟨w2.heap.size, 0, none⟩ = _; simp [go_sem])
          have hBn8 := Lib.hid (b_then hB2.out hba)
          clear hba
          go_region_law (refine step_append_tx (by rfl) _ _ (by rfl) w8.heap.size _ (asksTo L ⟨p, n, s, I, K⟩ d) q2 w2.heap.size (by rfl) (by rfl) hOn.out hnew.out hBn8.out.size hl2 ?_; intro v' w9 hO9 hB9)
          have hO10 := Lib.hid hO9
          rw [hnx2.out] at hO10
          have hB11 := Lib.hid (hB9 _ hBn8.out)
          go_wp2
          exact ⟨⟨d + 1, by omega, by go_num, hO10, hB11⟩, by simp [intOf]; omega⟩
    · obtain rfl : d = 16 := by omega
      have ld : decide (((16 : Nat) : Int) < 16) = false := by decide
      have hE := Lib.hid (b_then hB8.out hB.out)
      go_wp2
      go_ret
      exact ⟨_, rfl, hO.out.mono hB8.out.size, hE.out⟩
/-- what Draw answers: what is lacking, where to ask on, an error's number -/
def DrawIs (w : World) (M A : List ByteArray) (n : Int) (e : Ending) (w' : World) : Prop := ∃ v1 v2, e = .returned (.tuple #[v1, v2, .int .i64 n]) ∧ Lst w' v1 M ∧ Lst w' v2 A ∧ Below w.heap.size w w'
theorem asks_sixteen (L : List ByteArray) {c : Cell} (h : c.kds.length = 16) : asksTo L c 16 = asks L c := by unfold asks asksTo; rw [h]
theorem asks_none (L : List ByteArray) {c : Cell} (h : c.kds.length = 0) : asks L c = [] := by unfold asks; rw [h]; rfl
set_option maxRecDepth 100000 in
set_option maxHeartbeats 4000000 in
theorem Draw_bad (a : Option Addr) (cap b off : Nat) (L : List ByteArray) (c : Cell) (vi vk : Value) (w : World) (hT : TxAt w a b off L) (hn : L.length ≤ 140737488351232) (hi : Lst w vi c.ids) (hk : Lst w vk c.kds) (hs : ¬ IsSet L) :
    Calls Tryz.prog 15 #[.slice a L.length cap, cellV c vi vk] w (DrawIs w [] [] 1) := by
  obtain ⟨p, n, s, I, K⟩ := c
  obtain ⟨ai, ci, bi, oi, rfl, -, -⟩ := hi
  obtain ⟨ak, ck, bk, ok, rfl, -, -⟩ := hk
  unfold cellV
  dsimp only at *
  have ba := b_alloc w (.cells #[.string p, .int .i64 n, .string s, .slice ai I.length ci, .slice ak K.length ck] 25)
  have hS := Lib.hid (tells_false (isSet_calls a cap b off L _ (hT.next ba) hn) hs)
  generalize L.length = m at *
  generalize I.length = ni at *
  generalize K.length = nk at *
  replace ba := Lib.hid ba
  clear hT hs
  go_enter Tryz.func15, Tryz.ntmps15
  go_wp2_with fail
  refine hS.out.mono ?_
  rintro e w' ⟨rfl, hw'⟩
  obtain rfl := hw'.symm
  clear hw' hS
  go_wp2
  exact bodyPost_ret (v := .tuple #[.slice none 0 0, .slice none 0 0, .int .i64 1]) (by simp [results, Tryz.results15]) rfl ⟨_, _, rfl, Lst.nil _, Lst.nil _, ba.out⟩
set_option maxRecDepth 100000 in
set_option maxHeartbeats 4000000 in
theorem Draw_calls (a : Option Addr) (cap b off : Nat) (L : List ByteArray) (c : Cell) (vi vk : Value) (w : World) (hT : TxAt w a b off L) (hn : L.length ≤ 30000) (hi : Lst w vi c.ids) (hk : Lst w vk c.kds) (hs : IsSet L) (hK : Sha.Kc w) (hni : c.ids.length ≤ 30000) (hnk : c.kds.length ≤ 140737488351232) (hz : c.pre.size ≤ 140737488351232) :
    Calls Tryz.prog 15 #[.slice a L.length cap, cellV c vi vk] w fun e w' => (∃ n, IsCheck c n ∧ n ≠ 0 ∧ DrawIs w [] [] n e w') ∨ (IsCheck c 0 ∧ DrawIs w (lacks L c) (asks L c) 0 e w') := by
  have hSt := Lib.hid fun w' (hb : Below w.heap.size w w') => tells_true (isSet_calls a cap b off L w' (hT.next hb) (by omega)) hs
  have hCh := Lib.hid fun w' (hb : Below w.heap.size w w') => Check_calls c vi vk w' (hi.next hb) (hk.next hb) (kc_below hK hb) hni hnk hz
  have hLa := Lib.hid fun w' (hb : Below w.heap.size w w') => (show Calls Tryz.prog 43 #[.slice a L.length cap, vi] w' (Gives w' (lacks L c)) by
    obtain ⟨a2, cap2, b2, off2, rfl, hc, hT2⟩ := hi
    exact lacking_calls a cap b off L a2 cap2 b2 off2 c.ids w' (hT.next hb) hs.2 (by omega) (hT2.next hb) (by omega))
  have hUn := Lib.hid fun w' (hb : Below w.heap.size w w') (hc : TellsKids c) => unlike_calls a cap b off L c vi vk w' (hT.next hb) hn hs (hk.next hb) (hi.next hb) hc (kc_below hK hb)
  have hfit : Hid (IsCheck c 0 → (TellsIds c ∧ c.kds.length = 0) ∨ (TellsKids c ∧ c.kds.length = 16 ∧ c.ids = [])) := Lib.hid fun h => by
    by_cases g : IsPre c.pre ∧ (TellsIds c ∨ TellsKids c)
    · rcases g.2 with g | g
      · exact Or.inl ⟨g, g.2.2.1⟩
      · exact Or.inr ⟨g, g.2.2.2.1, List.length_eq_zero_iff.1 g.2.2.1⟩
    · have := h.form g; omega
  obtain ⟨ai, ci, bi, oi, rfl, -, -⟩ := hi
  obtain ⟨ak, ck, bk, ok, rfl, -, -⟩ := hk
  unfold cellV at *
  have ba := b_alloc w (.cells #[.string c.pre, .int .i64 c.count, .string c.sum, .slice ai c.ids.length ci, .slice ak c.kds.length ck] 25)
  have hSt1 := Lib.hid (hSt.out _ ba)
  have hCh1 := Lib.hid (hCh.out _ ba)
  obtain ⟨p, hp⟩ : ∃ p, Hid (c.pre = p) := ⟨_, Lib.hid rfl⟩
  obtain ⟨n, hn'⟩ : ∃ n, Hid (c.count = n) := ⟨_, Lib.hid rfl⟩
  obtain ⟨s, hs'⟩ : ∃ s, Hid (c.sum = s) := ⟨_, Lib.hid rfl⟩
  obtain ⟨mi, hmi⟩ : ∃ mi, Hid (c.ids.length = mi) := ⟨_, Lib.hid rfl⟩
  obtain ⟨mk, hmk⟩ : ∃ mk, Hid (c.kds.length = mk) := ⟨_, Lib.hid rfl⟩
  obtain ⟨m, hm⟩ : ∃ m, Hid (L.length = m) := ⟨_, Lib.hid rfl⟩
  simp only [hp.out, hn'.out, hs'.out, hmi.out, hmk.out, hm.out] at hUn hLa ba hSt1 hCh1 ⊢
  replace ba := Lib.hid ba
  clear hT hs hK hni hnk hz hSt hCh
  go_enter Tryz.func15, Tryz.ntmps15
  go_wp2_with fail
  refine hSt1.out.mono ?_
  rintro e w' ⟨rfl, hw'⟩
  obtain rfl := hw'.symm
  clear hw' hSt1
  go_wp2_with fail
  refine hCh1.out.mono ?_
  rintro e w1 ⟨⟨k, rfl, hk⟩, b1⟩
  obtain ⟨hc1, hf1⟩ := bcell b1
  have sz1 : w.heap.size + 1 ≤ w1.heap.size := by have := b1.size; simpa using this
  have sz2 : w.heap.size < w1.heap.size := by omega
  have bw1 := b_then ba.out b1
  clear hCh1 b1
  by_cases h0 : k = 0
  · subst h0
    rcases hfit.out hk with ⟨h1, h2⟩ | ⟨h1, h2, h3⟩
    · have hmk0 : mk = 0 := by rw [← hmk.out]; exact h2
      have hLa1 := Lib.hid (hLa.out w1 bw1)
      have hE : Hid (∀ v w', OwnT w1.heap.size w' v (lacks L c) → Below w1.heap.size w1 w' → (∃ n, IsCheck c n ∧ n ≠ 0 ∧ DrawIs w [] [] n (.returned (.tuple #[v, .slice none 0 0, .int .i64 0])) w') ∨ (IsCheck c 0 ∧ DrawIs w (lacks L c) (asks L c) 0 (.returned (.tuple #[v, .slice none 0 0, .int .i64 0])) w')) := Lib.hid fun v w' ho hb =>
        Or.inr ⟨hk, v, _, rfl, ho.lst, by rw [asks_none L h2]; exact Lst.nil _, b_then bw1 hb⟩
      replace bw1 := Lib.hid bw1
      have d0 : ((mk : Int) == 0) = true := by simp [hmk0]
      clear hLa hUn hk h1 h2 hmk0
      go_wp2_with fail
      refine hLa1.out.mono ?_
      rintro e w2 ⟨v2, rfl, hO2, b2⟩
      have hE2 := Lib.hid (hE.out _ _ hO2 b2)
      clear hE hO2 b2 hLa1
      go_wp2
      exact bodyPost_ret (v := .tuple #[v2, .slice none 0 0, .int .i64 0]) (by simp [results, Tryz.results15]) rfl hE2.out
    · have hmk0 : mk = 16 := by rw [← hmk.out]; exact h2
      have hUn1 := Lib.hid (hUn.out w1 bw1 h1)
      have hE : Hid (∀ v w', OwnT w1.heap.size w' v (asksTo L c 16) → Below w1.heap.size w1 w' → (∃ n, IsCheck c n ∧ n ≠ 0 ∧ DrawIs w [] [] n (.returned (.tuple #[.slice none 0 0, v, .int .i64 0])) w') ∨ (IsCheck c 0 ∧ DrawIs w (lacks L c) (asks L c) 0 (.returned (.tuple #[.slice none 0 0, v, .int .i64 0])) w')) := Lib.hid fun v w' ho hb =>
        Or.inr ⟨hk, _, v, rfl, by unfold lacks; rw [h3]; exact Lst.nil _, by rw [← asks_sixteen L h2]; exact ho.lst, b_then bw1 hb⟩
      replace bw1 := Lib.hid bw1
      have d0 : ((mk : Int) == 0) = false := by simp [hmk0]
      clear hLa hUn hk h1 h2 h3 hmk0
      go_wp2_with fail
      refine hUn1.out.mono ?_
      rintro e w2 ⟨v2, rfl, hO2, b2⟩
      have hE2 := Lib.hid (hE.out _ _ hO2 b2)
      clear hE hO2 b2 hUn1
      go_wp2
      exact bodyPost_ret (v := .tuple #[.slice none 0 0, v2, .int .i64 0]) (by simp [results, Tryz.results15]) rfl hE2.out
  · have hE : Hid ((∃ n, IsCheck c n ∧ n ≠ 0 ∧ DrawIs w [] [] n (.returned (.tuple #[.slice none 0 0, .slice none 0 0, .int .i64 k])) w1) ∨ (IsCheck c 0 ∧ DrawIs w (lacks L c) (asks L c) 0 (.returned (.tuple #[.slice none 0 0, .slice none 0 0, .int .i64 k])) w1)) := Lib.hid (Or.inl ⟨k, hk, h0, _, _, rfl, Lst.nil _, Lst.nil _, bw1⟩)
    have d0 : (k == 0) = false := by simpa using h0
    have d1 : (k != 0) = true := by simpa using h0
    clear hLa hUn hk h0 bw1
    go_wp2
    exact bodyPost_ret (v := .tuple #[.slice none 0 0, .slice none 0 0, .int .i64 k]) (by simp [results, Tryz.results15]) rfl hE.out
end Go.Proofs.YtdmpkgdlelagjaaGreatDoor.Tr
