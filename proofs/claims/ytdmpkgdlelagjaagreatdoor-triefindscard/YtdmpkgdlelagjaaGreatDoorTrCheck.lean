/-
  trie.tellsIds, trie.tellsKids, trie.Check: whether a cell can be, and its error. Conditions: the digest's constants lie where the program lays them; lists of a length that the form's numbers bear.
-/
import Derived.Test.YtdmpkgdlelagjaaGreatDoorRows
import Derived.Test.YtdmpkgdlelagjaaGreatDoorTrLook
namespace Go.Proofs.YtdmpkgdlelagjaaGreatDoor.Tr
open Go Go.RowKit
open Ident (by_ val dg digit has digits)
open Sh (b_alloc b_drew b_drewN b_next b_then Rises)

theorem eq_nat (a b : Nat) : ((a : Int) == (b : Int)) = decide (a = b) := by rw [Bool.eq_iff_iff]; simp; omega
theorem tells_true {P : Program} {f : FuncId} {a : Array Value} {w : World} {p : Prop} (h : Calls P f a w fun e w' => (∃ z, e = .returned (.bool z) ∧ (z = true ↔ p)) ∧ w = w') (hp : p) : Calls P f a w fun e w' => e = .returned (.bool true) ∧ w' = w :=
  h.mono fun _ _ ⟨⟨z, h5, h6⟩, h7⟩ => ⟨by rw [h5, h6.2 hp], h7.symm⟩
theorem tells_false {P : Program} {f : FuncId} {a : Array Value} {w : World} {p : Prop} (h : Calls P f a w fun e w' => (∃ z, e = .returned (.bool z) ∧ (z = true ↔ p)) ∧ w = w') (hp : ¬ p) : Calls P f a w fun e w' => e = .returned (.bool false) ∧ w' = w :=
  h.mono fun _ _ ⟨⟨z, h5, h6⟩, h7⟩ => ⟨by
    cases z with
    | false => exact h5
    | true => exact absurd (h6.1 rfl) hp, h7.symm⟩
set_option maxRecDepth 100000 in
set_option maxHeartbeats 4000000 in
theorem tellsIds_calls (c : Cell) (vi vk : Value) (w : World) (hi : Lst w vi c.ids) (hk : Lst w vk c.kds) (hn : c.ids.length ≤ 1000000) :
    Calls Tryz.prog 37 #[cellV c vi vk] w fun e w' => Tells e (TellsIds c) ∧ Below w.heap.size w w' := by
  obtain ⟨p, n, s, I, K⟩ := c
  obtain ⟨ai, ci, bi, oi, rfl, hci, hTi⟩ := hi
  obtain ⟨ak, ck, bk, ok, rfl, hck, hTk⟩ := hk
  unfold cellV TellsIds
  dsimp only at *
  have ba := b_alloc w (.cells #[.string p, .int .i64 n, .string s, .slice ai I.length ci, .slice ak K.length ck] 25)
  have hSet := Lib.hid fun w' (hb : Below w.heap.size w w') => isSet_calls ai ci bi oi I w' (hTi.next hb) (by omega)
  have hBel := Lib.hid fun w' (hb : Below w.heap.size w w') => below_calls ai ci bi oi I p w' (hTi.next hb) hn
  obtain ⟨ni, hni⟩ : ∃ ni, Hid (I.length = ni) := ⟨_, Lib.hid rfl⟩
  obtain ⟨nk, hnk⟩ : ∃ nk, Hid (K.length = nk) := ⟨_, Lib.hid rfl⟩
  rw [hni.out] at hSet hBel ba hn ⊢
  rw [hnk.out] at ba ⊢
  clear hTi hTk hci hck
  have c1 : (w.alloc (.cells #[.string p, .int .i64 n, .string s, .slice ai ni ci, .slice ak nk ck] 25)).cell? ⟨w.heap.size, 1, none⟩ = some (.int .i64 n) := by simp [go_sem]
  have c0 : (w.alloc (.cells #[.string p, .int .i64 n, .string s, .slice ai ni ci, .slice ak nk ck] 25)).cell? ⟨w.heap.size, 0, none⟩ = some (.string p) := by simp [go_sem]
  have c3 : (w.alloc (.cells #[.string p, .int .i64 n, .string s, .slice ai ni ci, .slice ak nk ck] 25)).cell? ⟨w.heap.size, 3, none⟩ = some (.slice ai ni ci) := by simp [go_sem]
  have c4 : (w.alloc (.cells #[.string p, .int .i64 n, .string s, .slice ai ni ci, .slice ak nk ck] 25)).cell? ⟨w.heap.size, 4, none⟩ = some (.slice ak nk ck) := by simp [go_sem]
  by_cases h1 : n ≤ 8
  · have d1 : decide (n ≤ 8) = true := decide_eq_true h1
    by_cases h2 : (ni : Int) = n
    · have d2 : ((ni : Int) == n) = true := by simp [h2]
      by_cases h3 : nk = 0
      · have d3 : ((nk : Int) == 0) = true := by simp [h3]
        by_cases h4 : IsSet I
        · have hSt := Lib.hid fun w' hb => tells_true (hSet.out w' hb) h4
          obtain ⟨m, hm⟩ : ∃ m, Hid ((below I p).length = m) := ⟨_, Lib.hid rfl⟩
          have hE : Hid (∀ w', Below w.heap.size w w' → Tells (.returned (.bool (decide (m = ni)))) (n ≤ 8 ∧ (ni : Int) = n ∧ nk = 0 ∧ IsSet I ∧ (below I p).length = ni) ∧ Below w.heap.size w w') := Lib.hid fun w' hb =>
            ⟨⟨_, rfl, by rw [decide_eq_true_iff, ← hm.out]; exact ⟨fun h => ⟨h1, h2, h3, h4, h⟩, fun h => h.2.2.2.2⟩⟩, hb⟩
          have d4 : ((m : Int) == n) = decide (m = ni) := by rw [← h2, eq_nat]
          replace hm := Lib.hid hm
          replace h4 := Lib.hid h4
          clear hSet h3 h2
          go_enter Tryz.func37, Tryz.ntmps37
          go_wp2_with fail
          have hSS := Lib.hid fun w' (hb : Below (w.alloc (.cells #[.string p, .int .i64 n, .string s, .slice ai ni ci, .slice ak nk ck] 25)).heap.size (w.alloc (.cells #[.string p, .int .i64 n, .string s, .slice ai ni ci, .slice ak nk ck] 25)) w') =>
            (⟨(hb.cell (p := ⟨w.heap.size, 0, none⟩) (by simp)).trans c0, (hb.cell (p := ⟨w.heap.size, 1, none⟩) (by simp)).trans c1, (hb.cell (p := ⟨w.heap.size, 3, none⟩) (by simp)).trans c3, (hb.cell (p := ⟨w.heap.size, 4, none⟩) (by simp)).trans c4⟩ :
              w'.cell? ⟨w.heap.size, 0, none⟩ = some (.string p) ∧ w'.cell? ⟨w.heap.size, 1, none⟩ = some (.int .i64 n) ∧ w'.cell? ⟨w.heap.size, 3, none⟩ = some (.slice ai ni ci) ∧ w'.cell? ⟨w.heap.size, 4, none⟩ = some (.slice ak nk ck))
          generalize w.alloc (.cells #[.string p, .int .i64 n, .string s, .slice ai ni ci, .slice ak nk ck] 25) = W at *
          have bd := b_then ba (b_drew W)
          replace ba := Lib.hid ba
          have hSt2 := Lib.hid (hSt.out _ bd)
          have hBel2 := Lib.hid (hBel.out _ bd)
          have bW := Lib.hid (b_drew W)
          replace bd := Lib.hid bd
          clear hSt hBel
          go_region_held3 (fun w' : World => w'.cell? ⟨w.heap.size, 0, none⟩ = some (.string p) ∧ w'.cell? ⟨w.heap.size, 1, none⟩ = some (.int .i64 n) ∧ w'.cell? ⟨w.heap.size, 3, none⟩ = some (.slice ai ni ci) ∧ w'.cell? ⟨w.heap.size, 4, none⟩ = some (.slice ak nk ck))
            (first | exact hSS.out _ (b_then bW.out b6) | exact hSS.out _ bW.out)
            (first
              | (go_at_call 28; refine hSt2.out.mono ?_; rintro e w' ⟨rfl, hw'⟩; obtain rfl := hw'.symm; clear hw')
              | (go_at_call 30; refine hBel2.out.mono ?_; rintro e w6 ⟨v6, rfl, hO6, b6⟩; obtain ⟨a6, c6, rfl⟩ := hO6.box; rw [hm.out.out]))
          have hE2 := Lib.hid (hE.out _ (b_then bd.out b6))
          clear hE
          go_wp2
          go_ret
          exact hE2.out
        · have hE : Hid (∀ w', Below w.heap.size w w' → Tells (.returned (.bool false)) (n ≤ 8 ∧ (ni : Int) = n ∧ nk = 0 ∧ IsSet I ∧ (below I p).length = ni) ∧ Below w.heap.size w w') := Lib.hid fun w' hb => ⟨.no fun h => h4 h.2.2.2.1, hb⟩
          have hSf := Lib.hid fun w' hb => tells_false (hSet.out w' hb) h4
          clear hSet hBel h4 h3
          go_enter Tryz.func37, Tryz.ntmps37
          go_wp2_with fail
          generalize w.alloc (.cells #[.string p, .int .i64 n, .string s, .slice ai ni ci, .slice ak nk ck] 25) = W at *
          have hSf2 := Lib.hid fun k => hSf.out (W.drewN k) (b_then ba (b_drewN W k))
          replace ba := Lib.hid ba
          clear hSf
          go_quiet ((go_at_call 28; exact Calls.quiet_of_same (hSf2.out _)))
          have hE2 := Lib.hid (hE.out _ (b_then ba.out (b_drewN W nq)))
          clear hE
          go_wp2
          go_ret
          exact hE2.out
      · have d3 : ((nk : Int) == 0) = false := by simp [h3]
        have hE : Hid (∀ w', Below w.heap.size w w' → Tells (.returned (.bool false)) (n ≤ 8 ∧ (ni : Int) = n ∧ nk = 0 ∧ IsSet I ∧ (below I p).length = ni) ∧ Below w.heap.size w w') := Lib.hid fun w' hb => ⟨.no fun h => h3 h.2.2.1, hb⟩
        clear hSet hBel h3
        go_enter Tryz.func37, Tryz.ntmps37
        go_wp2_with fail
        generalize w.alloc (.cells #[.string p, .int .i64 n, .string s, .slice ai ni ci, .slice ak nk ck] 25) = W at *
        replace ba := Lib.hid ba
        go_quiet (fail)
        have hE2 := Lib.hid (hE.out _ (b_then ba.out (b_drewN W nq)))
        clear hE
        go_wp2
        go_ret
        exact hE2.out
    · have d2 : ((ni : Int) == n) = false := by simp [h2]
      have hE : Hid (∀ w', Below w.heap.size w w' → Tells (.returned (.bool false)) (n ≤ 8 ∧ (ni : Int) = n ∧ nk = 0 ∧ IsSet I ∧ (below I p).length = ni) ∧ Below w.heap.size w w') := Lib.hid fun w' hb => ⟨.no fun h => h2 h.2.1, hb⟩
      clear hSet hBel h2
      go_enter Tryz.func37, Tryz.ntmps37
      go_wp2_with fail
      generalize w.alloc (.cells #[.string p, .int .i64 n, .string s, .slice ai ni ci, .slice ak nk ck] 25) = W at *
      replace ba := Lib.hid ba
      go_quiet (fail)
      have hE2 := Lib.hid (hE.out _ (b_then ba.out (b_drewN W nq)))
      clear hE
      go_wp2
      go_ret
      exact hE2.out
  · have d1 : decide (n ≤ 8) = false := decide_eq_false h1
    have hE : Hid (∀ w', Below w.heap.size w w' → Tells (.returned (.bool false)) (n ≤ 8 ∧ (ni : Int) = n ∧ nk = 0 ∧ IsSet I ∧ (below I p).length = ni) ∧ Below w.heap.size w w') := Lib.hid fun w' hb => ⟨.no fun h => h1 h.1, hb⟩
    clear hSet hBel
    go_enter Tryz.func37, Tryz.ntmps37
    go_wp2_with fail
    generalize w.alloc (.cells #[.string p, .int .i64 n, .string s, .slice ai ni ci, .slice ak nk ck] 25) = W at *
    replace ba := Lib.hid ba
    go_quiet (fail)
    have hE2 := Lib.hid (hE.out _ (b_then ba.out (b_drewN W nq)))
    clear hE
    go_wp2
    go_ret
    exact hE2.out
theorem bad1_calls (x : ByteArray) (w : World) :
    Calls Tryz.prog 71 #[.string x] w fun e w' => e = .returned (.bool (!decide (x.size = 32))) ∧ w = w' := by
  obtain ⟨z, hz⟩ : ∃ z, decide (x.size = 32) = z := ⟨_, rfl⟩
  have hG := Ident.Good_calls x w
  rw [hz] at hG ⊢
  replace hG := Lib.hid hG
  clear hz
  go_enter Tryz.func71, Tryz.ntmps71
  go_wp2_with fail
  refine hG.out.mono ?_
  rintro e w' ⟨rfl, rfl⟩
  go_wp2
  go_ret
  exact ⟨rfl, rfl⟩
set_option maxRecDepth 100000 in
theorem IndexFunc_calls (a : Option Addr) (cap b off : Nat) (L : List ByteArray) (w : World) (hT : TxAt w a b off L) (hl : L.length ≤ 140737488351232) :
    Calls Tryz.prog 87 #[.slice a L.length cap, .func (.func 71) #[] #[]] w fun e w' => (∃ k : Int, e = .returned (.int .i64 k) ∧ (0 ≤ k ↔ ¬ ∀ x ∈ L, x.size = 32)) ∧ w = w' := by
  replace hT := Lib.hid hT
  obtain ⟨n, hn⟩ : ∃ n, Hid (L.length = n) := ⟨_, Lib.hid rfl⟩
  rw [hn.out] at hl ⊢
  go_enter Tryz.func87, Tryz.ntmps87
  go_wp2
  go_loopw [5, 8] (fun _ i wr => ∃ k : Nat, k ≤ n ∧ i = .int .i64 k ∧ Hid (∀ x ∈ L.take k, x.size = 32) ∧ wr = w) (fun _ i _ => n - (intOf i).toNat)
  case atStart => exact ⟨0, by omega, rfl, Lib.hid (fun x hx => by simp at hx), rfl⟩
  case round =>
    obtain ⟨k, hk, rfl, hp, rfl⟩ := hrel
    by_cases hlt : k < n
    · have i1 : (k : Int) < n := by omega
      have i0 : 0 ≤ (k : Int) := by omega
      have hkl : k < L.length := by rw [hn.out]; exact hlt
      have ha := hT.out.addr (by omega)
      subst ha
      have c0 := hT.out.cell k _ (List.getElem?_eq_getElem hkl)
      obtain ⟨x, hx⟩ : ∃ x, Hid (L[k] = x) := ⟨_, Lib.hid rfl⟩
      rw [hx.out] at c0
      have hB := Lib.hid (bad1_calls x wr)
      by_cases hs : x.size = 32
      · rw [decide_eq_true hs] at hB
        have hp2 : Hid (∀ x ∈ L.take (k + 1), x.size = 32) := Lib.hid fun y hy => by
          rw [take_next hkl] at hy
          rcases List.mem_append.1 hy with hy | hy
          · exact hp.out y hy
          · simp only [List.mem_singleton] at hy; rw [hy, hx.out]; exact hs
        clear hs
        go_wp2_with fail
        refine hB.out.mono ?_
        rintro e w' ⟨rfl, rfl⟩
        go_wp2
        exact ⟨⟨k + 1, by omega, by go_num, hp2, by trivial⟩, by simp [intOf]; omega⟩
      · rw [decide_eq_false hs] at hB
        have hno : Hid (¬ ∀ x ∈ L, x.size = 32) := Lib.hid fun h => hs (by rw [← hx.out]; exact h _ (List.getElem_mem hkl))
        clear hs
        go_wp2_with fail
        refine hB.out.mono ?_
        rintro e w' ⟨rfl, rfl⟩
        go_wp2
        go_ret
        exact ⟨⟨k, rfl, ⟨fun _ => hno.out, fun _ => by omega⟩⟩, rfl⟩
    · have d0 : decide ((k : Int) < n) = false := decide_eq_false (by omega)
      have d1 : (n : Int) ≤ k := by omega
      have hyes : Hid (∀ x ∈ L, x.size = 32) := Lib.hid (by have := hp.out; rwa [List.take_of_length_le (by rw [hn.out]; omega)] at this)
      go_wp2
      go_ret
      exact ⟨⟨-1, rfl, ⟨fun h => by omega, fun h => absurd hyes.out h⟩⟩, rfl⟩
theorem ContainsFunc_calls (a : Option Addr) (cap b off : Nat) (L : List ByteArray) (w : World) (hT : TxAt w a b off L) (hl : L.length ≤ 140737488351232) :
    Calls Tryz.prog 70 #[.slice a L.length cap, .func (.func 71) #[] #[]] w fun e w' => (∃ z, e = .returned (.bool z) ∧ (z = true ↔ ¬ ∀ x ∈ L, x.size = 32)) ∧ w = w' := by
  have hI := Lib.hid (IndexFunc_calls a cap b off L w hT hl)
  clear hT
  go_enter Tryz.func70, Tryz.ntmps70
  go_wp2_with fail
  refine hI.out.mono ?_
  rintro e w' ⟨⟨k, rfl, hk⟩, rfl⟩
  replace hk := Lib.hid hk
  clear hI
  go_wp2
  go_ret
  exact ⟨⟨_, rfl, by rw [decide_eq_true_iff]; exact hk.out⟩, rfl⟩
set_option maxRecDepth 100000 in
set_option maxHeartbeats 4000000 in
theorem tellsKids_calls (c : Cell) (vi vk : Value) (w : World) (hi : Lst w vi c.ids) (hk : Lst w vk c.kds) (hn : c.kds.length ≤ 140737488351232) (hz : c.pre.size ≤ 140737488351232) :
    Calls Tryz.prog 39 #[cellV c vi vk] w fun e w' => Tells e (TellsKids c) ∧ Below w.heap.size w w' := by
  obtain ⟨p, n, s, I, K⟩ := c
  obtain ⟨ai, ci, bi, oi, rfl, -, -⟩ := hi
  obtain ⟨ak, ck, bk, ok, rfl, -, hTk⟩ := hk
  unfold cellV TellsKids
  dsimp only at *
  have ba := b_alloc w (.cells #[.string p, .int .i64 n, .string s, .slice ai I.length ci, .slice ak K.length ck] 25)
  have hC := Lib.hid fun w' (hb : Below w.heap.size w w') => ContainsFunc_calls ak ck bk ok K w' (hTk.next hb) hn
  obtain ⟨ni, hni⟩ : ∃ ni, Hid (I.length = ni) := ⟨_, Lib.hid rfl⟩
  obtain ⟨nk, hnk⟩ : ∃ nk, Hid (K.length = nk) := ⟨_, Lib.hid rfl⟩
  rw [hni.out] at ba ⊢
  rw [hnk.out] at ba hC hn ⊢
  clear hTk
  by_cases h1 : 8 < n
  · have d1 : decide ((8 : Int) < n) = true := decide_eq_true (by omega)
    by_cases h2 : n ≤ 1073741824
    · have d2 : decide (n ≤ 1073741824) = true := decide_eq_true (by omega)
      by_cases h3 : ni = 0
      · have d3 : ((ni : Int) == 0) = true := by simp; omega
        by_cases h4 : nk = 16
        · have d4 : ((nk : Int) == 16) = true := by simp; omega
          by_cases h5 : p.size < 64
          · have d5 : decide ((p.size : Int) < 64) = true := decide_eq_true (by omega)
            have hE := Lib.hid fun z (hz : z = true ↔ ¬ ∀ x ∈ K, x.size = 32) => (⟨⟨_, rfl, by rw [Bool.not_eq_true', Bool.eq_false_iff, ne_eq, hz, Classical.not_not]; exact ⟨fun h => ⟨h1, h2, h3, h4, h5, h⟩, fun h => h.2.2.2.2.2⟩⟩, ba⟩ : Tells (.returned (.bool (!z))) (8 < n ∧ n ≤ 1073741824 ∧ ni = 0 ∧ nk = 16 ∧ p.size < 64 ∧ ∀ x ∈ K, x.size = 32) ∧ Below w.heap.size w (w.alloc (.cells #[.string p, .int .i64 n, .string s, .slice ai ni ci, .slice ak nk ck] 25)))
            have hC2 := Lib.hid (hC.out _ ba)
            clear hC h1 h2 h3 h4 h5
            go_enter Tryz.func39, Tryz.ntmps39
            go_wp2_with fail
            refine hC2.out.mono ?_
            rintro e w' ⟨⟨z, rfl, hz⟩, rfl⟩
            have hE2 := Lib.hid (hE.out z hz)
            clear hz hE hC2
            go_wp2
            go_ret
            exact hE2.out
          · have d5 : decide ((p.size : Int) < 64) = false := decide_eq_false (by omega)
            have g5 : (64 : Int) ≤ p.size := by omega
            have hE : Hid (Tells (.returned (.bool false)) (8 < n ∧ n ≤ 1073741824 ∧ ni = 0 ∧ nk = 16 ∧ p.size < 64 ∧ ∀ x ∈ K, x.size = 32) ∧ Below w.heap.size w (w.alloc (.cells #[.string p, .int .i64 n, .string s, .slice ai ni ci, .slice ak nk ck] 25))) := Lib.hid ⟨.no fun h => h5 (h.2.2.2.2.1), ba⟩
            clear h1 h2 h3 h4 h5
            clear hC
            go_enter Tryz.func39, Tryz.ntmps39
            go_wp2
            go_ret
            exact hE.out
        · have d4 : ((nk : Int) == 16) = false := by simp; omega
          have hE : Hid (Tells (.returned (.bool false)) (8 < n ∧ n ≤ 1073741824 ∧ ni = 0 ∧ nk = 16 ∧ p.size < 64 ∧ ∀ x ∈ K, x.size = 32) ∧ Below w.heap.size w (w.alloc (.cells #[.string p, .int .i64 n, .string s, .slice ai ni ci, .slice ak nk ck] 25))) := Lib.hid ⟨.no fun h => h4 (h.2.2.2.1), ba⟩
          clear h1 h2 h3 h4
          clear hC
          go_enter Tryz.func39, Tryz.ntmps39
          go_wp2
          go_ret
          exact hE.out
      · have d3 : ((ni : Int) == 0) = false := by simp; omega
        have hE : Hid (Tells (.returned (.bool false)) (8 < n ∧ n ≤ 1073741824 ∧ ni = 0 ∧ nk = 16 ∧ p.size < 64 ∧ ∀ x ∈ K, x.size = 32) ∧ Below w.heap.size w (w.alloc (.cells #[.string p, .int .i64 n, .string s, .slice ai ni ci, .slice ak nk ck] 25))) := Lib.hid ⟨.no fun h => h3 (h.2.2.1), ba⟩
        clear h1 h2 h3
        clear hC
        go_enter Tryz.func39, Tryz.ntmps39
        go_wp2
        go_ret
        exact hE.out
    · have d2 : decide (n ≤ 1073741824) = false := decide_eq_false (by omega)
      have g2 : 1073741824 < n := by omega
      have hE : Hid (Tells (.returned (.bool false)) (8 < n ∧ n ≤ 1073741824 ∧ ni = 0 ∧ nk = 16 ∧ p.size < 64 ∧ ∀ x ∈ K, x.size = 32) ∧ Below w.heap.size w (w.alloc (.cells #[.string p, .int .i64 n, .string s, .slice ai ni ci, .slice ak nk ck] 25))) := Lib.hid ⟨.no fun h => h2 (h.2.1), ba⟩
      clear h1 h2
      clear hC
      go_enter Tryz.func39, Tryz.ntmps39
      go_wp2
      go_ret
      exact hE.out
  · have d1 : decide ((8 : Int) < n) = false := decide_eq_false (by omega)
    have g1 : n ≤ 8 := by omega
    have hE : Hid (Tells (.returned (.bool false)) (8 < n ∧ n ≤ 1073741824 ∧ ni = 0 ∧ nk = 16 ∧ p.size < 64 ∧ ∀ x ∈ K, x.size = 32) ∧ Below w.heap.size w (w.alloc (.cells #[.string p, .int .i64 n, .string s, .slice ai ni ci, .slice ak nk ck] 25))) := Lib.hid ⟨.no fun h => h1 (h.1), ba⟩
    clear h1
    clear hC
    go_enter Tryz.func39, Tryz.ntmps39
    go_wp2
    go_ret
    exact hE.out
def CheckIs (c : Cell) (e : Ending) : Prop := ∃ n, e = .returned (.int .i64 n) ∧ IsCheck c n
set_option maxRecDepth 100000 in
set_option maxHeartbeats 4000000 in
theorem Check_calls (c : Cell) (vi vk : Value) (w : World) (hi : Lst w vi c.ids) (hk : Lst w vk c.kds) (hK : Sha.Kc w) (hni : c.ids.length ≤ 30000) (hnk : c.kds.length ≤ 140737488351232) (hz : c.pre.size ≤ 140737488351232) :
    Calls Tryz.prog 13 #[cellV c vi vk] w fun e w' => CheckIs c e ∧ Below w.heap.size w w' := by
  have hIs := Lib.hid fun w' (hb : Below w.heap.size w w') => tellsIds_calls c vi vk w' (hi.next hb) (hk.next hb) (by omega)
  have hKs := Lib.hid fun w' (hb : Below w.heap.size w w') => tellsKids_calls c vi vk w' (hi.next hb) (hk.next hb) hnk hz
  have hPr := Lib.hid fun w' => isPrefix_calls c.pre w' hz
  have hFe := Lib.hid fun w' (hb : Below w.heap.size w w') (hI : TellsIds c) => (show Calls Tryz.prog 38 #[vi] w' (fun e w2 => e = .returned (.string (few c.ids)) ∧ Below w'.heap.size w' w2) by
    obtain ⟨a, cap, b, off, rfl, hc, hT⟩ := hi
    have h1 := hI.1
    have h2 := hI.2.1
    exact fewSum_calls a cap b off c.ids w' (hT.next hb) hc (kc_below hK hb) (by omega) (by rw [jn_len hI.2.2.2.1.1]; omega))
  have hMa := Lib.hid fun w' (hb : Below w.heap.size w w') (hI : TellsKids c) => (show Calls Tryz.prog 40 #[vk] w' (fun e w2 => e = .returned (.string (many c.kds)) ∧ Below w'.heap.size w' w2) by
    obtain ⟨a, cap, b, off, rfl, hc, hT⟩ := hk
    have h2 := hI.2.2.2.1
    exact manySum_calls a cap b off c.kds w' (hT.next hb) hc (kc_below hK hb) (by omega) (by rw [jn_len hI.2.2.2.2.2]; omega))
  obtain ⟨ai, ci, bi, oi, rfl, -, -⟩ := hi
  obtain ⟨ak, ck, bk, ok, rfl, -, -⟩ := hk
  have ba := b_alloc w (.cells #[.string c.pre, .int .i64 c.count, .string c.sum, .slice ai c.ids.length ci, .slice ak c.kds.length ck] 25)
  have hc := bcell ba
  have hIs1 := Lib.hid (hIs.out _ ba)
  unfold cellV at *
  obtain ⟨p, hp⟩ : ∃ p, Hid (c.pre = p) := ⟨_, Lib.hid rfl⟩
  obtain ⟨n, hn⟩ : ∃ n, Hid (c.count = n) := ⟨_, Lib.hid rfl⟩
  obtain ⟨s, hs⟩ : ∃ s, Hid (c.sum = s) := ⟨_, Lib.hid rfl⟩
  obtain ⟨mi, hmi⟩ : ∃ mi, Hid (c.ids.length = mi) := ⟨_, Lib.hid rfl⟩
  obtain ⟨mk, hmk⟩ : ∃ mk, Hid (c.kds.length = mk) := ⟨_, Lib.hid rfl⟩
  rw [hp.out] at hPr
  simp only [hp.out, hn.out, hs.out, hmi.out, hmk.out] at hIs hKs hFe hMa ba hIs1 ⊢
  replace ba := Lib.hid ba
  clear hc hK hni hnk hz
  by_cases h1 : IsPre p
  · have hPt := Lib.hid fun w' => tells_true (hPr.out w') h1
    clear hPr
    go_enter Tryz.func13, Tryz.ntmps13
    go_wp2_with fail
    refine (hPt.out _).mono ?_
    rintro e w' ⟨rfl, hw'⟩
    obtain rfl := hw'.symm
    clear hw' hPt
    go_wp2_with fail
    refine hIs1.out.mono ?_
    rintro e w1 ⟨⟨z, rfl, hz⟩, b1⟩
    obtain ⟨hc1, hf1⟩ := bcell b1
    have sz1 : w.heap.size + 1 ≤ w1.heap.size := by have := b1.size; simpa using this
    have bw1 := b_then ba.out b1
    replace b1 := Lib.hid b1
    have hKs1 := Lib.hid (hKs.out w1 bw1)
    clear hIs1 hIs
    by_cases h2 : TellsIds c
    · obtain rfl : z = true := hz.2 h2
      have hFe1 := Lib.hid (hFe.out w1 bw1 h2)
      replace bw1 := Lib.hid bw1
      clear hz hKs1 hKs hMa hFe
      have sz2 : w.heap.size < w1.heap.size := by omega
      go_wp2_with fail
      refine hFe1.out.mono ?_
      rintro e w2 ⟨rfl, b2⟩
      obtain ⟨hc2, hf2⟩ := bcell b2
      have bw2 := Lib.hid (b_then bw1.out b2)
      clear hFe1 b2 bw1
      by_cases h3 : s = few c.ids
      · have hE : Hid (CheckIs c (.returned (.int .i64 0))) := Lib.hid ⟨0, rfl, .of_few (by rw [hp.out]; exact h1) h2 (by rw [hs.out, if_pos h3])⟩
        have e1 := str_eq h3
        have e2 : (s.toList != (few c.ids).toList) = false := by simp [h3]
        clear h3 h2 h1
        go_wp2
        go_ret
        exact ⟨hE.out, bw2.out⟩
      · have hE : Hid (CheckIs c (.returned (.int .i64 20))) := Lib.hid ⟨20, rfl, .of_few (by rw [hp.out]; exact h1) h2 (by rw [hs.out, if_neg h3])⟩
        have e1 := str_ne h3
        have e2 : (s.toList != (few c.ids).toList) = true := by rw [bne, e1]; rfl
        clear h3 h2 h1
        go_wp2
        go_ret
        exact ⟨hE.out, bw2.out⟩
    · obtain rfl : z = false := by cases z with | false => rfl | true => exact absurd (hz.1 rfl) h2
      clear hz hFe hKs
      have sz2 : w.heap.size < w1.heap.size := by omega
      replace bw1 := Lib.hid bw1
      go_wp2_with fail
      refine hKs1.out.mono ?_
      rintro e w2 ⟨⟨z, rfl, hz⟩, b2⟩
      obtain ⟨hc2, hf2⟩ := bcell b2
      have bw2 := b_then bw1.out b2
      have sz3 : w.heap.size < w2.heap.size := by have := b2.size; omega
      clear hKs1 b2
      by_cases h3 : TellsKids c
      · obtain rfl : z = true := hz.2 h3
        have hMa1 := Lib.hid (hMa.out w2 bw2 h3)
        replace bw2 := Lib.hid bw2
        clear hz hMa
        go_wp2_with fail
        refine hMa1.out.mono ?_
        rintro e w3 ⟨rfl, b3⟩
        obtain ⟨hc3, hf3⟩ := bcell b3
        have bw3 := Lib.hid (b_then bw2.out b3)
        clear hMa1 b3 bw2
        by_cases h4 : s = many c.kds
        · have hE : Hid (CheckIs c (.returned (.int .i64 0))) := Lib.hid ⟨0, rfl, .of_many (by rw [hp.out]; exact h1) h3 (by rw [hs.out, if_pos h4])⟩
          have e1 := str_eq h4
          have e2 : (s.toList != (many c.kds).toList) = false := by simp [h4]
          clear h3 h2 h1 h4
          go_wp2
          go_ret
          exact ⟨hE.out, bw3.out⟩
        · have hE : Hid (CheckIs c (.returned (.int .i64 20))) := Lib.hid ⟨20, rfl, .of_many (by rw [hp.out]; exact h1) h3 (by rw [hs.out, if_neg h4])⟩
          have e1 := str_ne h4
          have e2 : (s.toList != (many c.kds).toList) = true := by rw [bne, e1]; rfl
          clear h3 h2 h1 h4
          go_wp2
          go_ret
          exact ⟨hE.out, bw3.out⟩
      · obtain rfl : z = false := by cases z with | false => rfl | true => exact absurd (hz.1 rfl) h3
        have hE : Hid (CheckIs c (.returned (.int .i64 4))) := Lib.hid ⟨4, rfl, .of_form fun h => h.2.elim h2 h3⟩
        replace bw2 := Lib.hid bw2
        clear hz hMa h3 h2 h1
        go_wp2
        go_ret
        exact ⟨hE.out, bw2.out⟩
  · have hPf := Lib.hid fun w' => tells_false (hPr.out w') h1
    have hE : Hid (CheckIs c (.returned (.int .i64 4))) := Lib.hid ⟨4, rfl, .of_form fun h => h1 (by rw [← hp.out]; exact h.1)⟩
    clear hPr h1 hIs hIs1 hKs hFe hMa
    go_enter Tryz.func13, Tryz.ntmps13
    go_wp2_with fail
    refine (hPf.out _).mono ?_
    rintro e w' ⟨rfl, hw'⟩
    obtain rfl := hw'.symm
    clear hw' hPf
    go_wp2
    go_ret
    exact ⟨hE.out, ba.out⟩
end Go.Proofs.YtdmpkgdlelagjaaGreatDoor.Tr
