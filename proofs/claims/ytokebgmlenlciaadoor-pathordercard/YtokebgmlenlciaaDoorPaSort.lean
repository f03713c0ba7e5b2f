/-
  path's inOrder lays down the places of paths as these stand in their order (slices.SortFunc by the library's contract). Conditions: texts of the form's reach, all of them paths.
-/
import Derived.Test.YtokebgmlenlciaaDoorRows
import Derived.Test.YtokebgmlenlciaaDoorPaPlain
import Derived.Test.YtokebgmlenlciaaDoorPaLib
import Derived.Test.YtokebgmlenlciaaDoorPaRune
import Derived.Test.YtokebgmlenlciaaDoorPaShelf
import Derived.Test.YtokebgmlenlciaaDoorPaGood
import Derived.Test.YtokebgmlenlciaaDoorPaSplit
import Derived.Test.YtokebgmlenlciaaDoorOctKit
import Derived.WalkKit
import Derived.WalkSpells
import Derived.WalkLawsBesides
import Derived.ProofKit
import Derived.OpenShut
import Derived.Laws.BytesArg
import Derived.Laws.Externs
import Derived.Deep.QuietTactic
import Derived.BigQuiet
import Derived.BigRegion
import Derived.Lib.Hide
import Derived.Lib.Bytealg
import Derived.IntWalk
import Derived.Deep.LoopGhost
import Derived.Laws.OwnMore
import Derived.Deep.OwnRows
import Derived.Deep.Draws
import Derived.Deep.MidRow
namespace Go.Proofs.YtokebgmlenlciaaDoor.Pa
open Go.RowKit
open Oct (TextsAt)

/-- n numbers at the beginning of block b, which may be written -/
structure IRow (w : World) (b n : Nat) (f : Nat → Int) : Prop where
  lt : b < w.heap.size
  cell : ∀ i, i < n → w.cell? ⟨b, i, none⟩ = some (.int .i64 (f i))
  frozen : ∀ i, i < n → w.frozen? ⟨b, i, none⟩ = false
theorem IRow.new (w : World) (n : Nat) (t : TypeId) : IRow (w.alloc (.cells (madeCells #[.int .i64 0] n) t)) w.heap.size n (fun _ => 0) :=
  have hR := World.rowIs_made w (.int .i64 0) n t
  ⟨by simp, fun i hi => hR.cell hi, fun i _ => hR.frozen i⟩
theorem IRow.congr {w : World} {b n : Nat} {g g' : Nat → Int} (h : IRow w b n g) (e : ∀ i, i < n → g i = g' i) : IRow w b n g' :=
  ⟨h.lt, fun i hi => by rw [← e i hi]; exact h.cell i hi, h.frozen⟩
theorem IRow.set {w : World} {b n : Nat} {g : Nat → Int} (h : IRow w b n g) (t : Nat) (ht : t < n) (x : Int) : IRow (w.setCell ⟨b, t, none⟩ (.int .i64 x)) b n (fun i => if i = t then x else g i) :=
  ⟨by simpa [World.setCell] using h.lt,
   fun i hi => by
    by_cases e : i = t
    · subst e; rw [if_pos rfl]; exact World.cell?_setCell_same _ _ _ (h.cell i hi)
    · rw [if_neg e, World.cell?_setCell_other]
      · exact h.cell i hi
      · exact fun g => e (congrArg Addr.off g).symm,
   fun i hi => by rw [World.frozen?_setCell]; exact h.frozen i hi⟩
theorem makeInts (n : Nat) (hn : n ≤ 1000) (w : World) : (Instr.makeSlice 45 (.int .i64 (n : Int)) (.int .i64 (n : Int))).run Tryd.prog w = .ok (.slice (some ⟨w.heap.size, 0, none⟩) n n) (w.alloc (.cells (madeCells #[.int .i64 0] n) 3)) :=
  run_make_row' 45 3 (.int .i64 0) 8 Tryd.underlying45 (by kernel_rfl) rfl .i64 .i64 n (by omega) (by omega) w
/-- behind the sort nothing has turned below its row -/
theorem sorted_below {α : Type} [Inhabited α] (enc : α → Value) (w : World) (blk off m : Nat) (d : Array α) (os : Array Obj) (hb : blk ≤ w.heap.size) : Below blk w (sortWorld enc w blk off m d os) := by
  refine ⟨rfl, rfl, rfl, ?_, fun k hk => ?_⟩
  · unfold sortWorld; rw [Sort.size_grow, Sort.size_putRow]; show w.heap.size ≤ w.heap.size + _; omega
  · unfold sortWorld
    rw [Sort.heap_grow_old _ _ (by rw [Sort.size_putRow]; show k < w.heap.size; omega)]
    simp only [Sort.putRow, Sort.mapBlock, Array.getElem?_modify]
    rw [if_neg (by omega)]
    rfl
set_option maxRecDepth 100000 in
/-- the function value that the sort is handed -/
theorem cmp_calls (a : Option Addr) (len cap b off B : Nat) (T : Nat → ByteArray) (hpath : ∀ i, i < len → isPath (T i).data.toList) (i j : Nat) (hi : i < len) (hj : j < len) (W : World) (hT : TextsAt W a b off len T) (hB : W.cell? ⟨B, 0, none⟩ = some (.slice a len cap)) :
    Calls Tryd.prog 52 #[.int .i64 (i : Int), .int .i64 (j : Int), .pointer (some ⟨B, 0, none⟩)] W fun e w' => e = .returned (.int .i64 (cmpN (pieces (T i).data.toList) (pieces (T j).data.toList))) ∧ ∃ n, w' = W.drewN n := by
  have hO := Lib.hid fun w => order_calls (T i) (T j) w (hpath i hi) (hpath j hj) (hT.size i) (hT.size j)
  have ha := hT.addr (by omega)
  subst ha
  have ci := hT.cell i hi
  have cj := hT.cell j hj
  have i1 : (i : Int) < len := by omega
  have j1 : (j : Int) < len := by omega
  have i0 : (0 : Int) ≤ i := by omega
  have j0 : (0 : Int) ≤ j := by omega
  generalize cmpN (pieces (T i).data.toList) (pieces (T j).data.toList) = r at *
  clear hT hpath
  go_enter Tryd.func52, Tryd.ntmps52
  go_wp2_with fail
  go_quiet ((go_at_call 31; exact Calls.quiet_of (hO.out _)))
  go_wp2
  go_ret
  exact ⟨rfl, _, rfl⟩
/-- the places, as their paths stand -/
structure Placed (w : World) (p : Option Addr) (len : Nat) (T : Nat → ByteArray) (Q : Nat → Nat) : Prop where
  cell : ∃ blk, (0 < len → p = some ⟨blk, 0, none⟩) ∧ ∀ i, i < len → w.cell? ⟨blk, i, none⟩ = some (.int .i64 (Q i))
  lt : ∀ i, i < len → Q i < len
  inj : ∀ i j, i < len → j < len → Q i = Q j → i = j
  onto : ∀ k, k < len → ∃ i, i < len ∧ Q i = k
  sorted : ∀ i j, i < j → j < len → leN (pieces (T (Q i)).data.toList) (pieces (T (Q j)).data.toList)
theorem lt_cmp {n : Nat} (f : Fin n → List Tx) (x y : Fin n) : ltOf (fun x y => cmpN (f x) (f y)) x y = decide (cmpN (f x) (f y) < 0) := rfl
theorem swo_cmp {n : Nat} (f : Fin n → List Tx) : Sort.SWO (ltOf fun x y => cmpN (f x) (f y)) where
  irrefl x := by rw [lt_cmp, cmpN_self]; rfl
  trans x y z h g := by
    rw [lt_cmp, decide_eq_true_eq] at *
    have h1 : cmpN (f x) (f y) = -1 := by rcases cmpN_range (f x) (f y) with e | e | e <;> omega
    have h2 : cmpN (f y) (f z) = -1 := by rcases cmpN_range (f y) (f z) with e | e | e <;> omega
    rw [cmpN_trans h1 h2]; decide
  ntrans x y z h g := by
    rw [lt_cmp, decide_eq_false_iff_not] at *
    have a1 := cmpN_neg (f x) (f y)
    have a2 := cmpN_neg (f y) (f z)
    have a3 := cmpN_neg (f x) (f z)
    have h1 : leN (f y) (f x) := by unfold leN; omega
    have h2 : leN (f z) (f y) := by unfold leN; omega
    have h3 := leN_trans h2 h1
    unfold leN at h3
    omega
theorem perm_places {n : Nat} [Inhabited (Fin n)] (d d' : Array (Fin n)) (hd : d = Array.ofFn (fun i : Fin n => i)) (hp : Sort.PermIn 0 d.size d d') :
    d'.size = n ∧ (∀ i j, i < n → j < n → (d'[i]!).val = (d'[j]!).val → i = j) ∧ ∀ k, k < n → ∃ i, i < n ∧ (d'[i]!).val = k := by
  obtain ⟨h1, _, h3⟩ := hp
  have hs : d.size = n := by rw [hd]; simp
  have e1 : d.extract 0 d.size = d := by simp
  have e2 : d'.extract 0 d.size = d' := by rw [← h1]; simp
  rw [e1, e2] at h3
  rw [hs] at h1
  have hdn : d.toList.Nodup := by
    refine List.pairwise_iff_getElem.2 fun i j hi hj hij => ?_
    subst hd
    intro e
    have := congrArg Fin.val e
    simp at this
    omega
  have hn : d'.toList.Nodup := h3.nodup_iff.2 hdn
  have hl : d'.toList.length = n := by rw [Array.length_toList]; exact h1
  refine ⟨h1, fun i j hi hj e => ?_, fun k hk => ?_⟩
  · rw [getElem!_pos d' i (by omega), getElem!_pos d' j (by omega)] at e
    have e' := Fin.ext e
    have key := List.pairwise_iff_getElem.1 hn
    rcases Nat.lt_trichotomy i j with g | g | g
    · have k1 := key i j (by rw [hl]; exact hi) (by rw [hl]; exact hj) g
      rw [Array.getElem_toList, Array.getElem_toList] at k1
      exact absurd e' k1
    · exact g
    · have k1 := key j i (by rw [hl]; exact hj) (by rw [hl]; exact hi) g
      rw [Array.getElem_toList, Array.getElem_toList] at k1
      exact absurd e'.symm k1
  · have : (⟨k, hk⟩ : Fin n) ∈ d'.toList := by
      rw [h3.mem_iff, hd]
      simp
    obtain ⟨i, hi, e⟩ := List.getElem_of_mem this
    have hi' : i < n := by rw [hl] at hi; exact hi
    refine ⟨i, hi', ?_⟩
    rw [getElem!_pos d' i (by omega)]
    have e' : d'[i]'(by omega) = (⟨k, hk⟩ : Fin n) := by simpa using e
    rw [e']
set_option maxRecDepth 100000 in
set_option maxHeartbeats 1000000 in
theorem inOrder_calls (a : Option Addr) (len cap b off : Nat) (T : Nat → ByteArray) (hpath : ∀ i, i < len → isPath (T i).data.toList) (hlen : len ≤ 1000) (w : World) (hT : TextsAt w a b off len T) :
    Calls Tryd.prog 36 #[.slice a len cap] w fun e w' => (∃ p Q, e = .returned (.slice p len len) ∧ Placed w' p len T Q) ∧ Below w.heap.size w w' := by
  have hm := makeInts len hlen (w.alloc (.cells #[.slice a len cap] 22))
  have hr := Lib.hid (IRow.new (w.alloc (.cells #[.slice a len cap] 22)) len 3)
  have hB0 := Lib.hid (((Below.refl w.heap.size w).alloc (Nat.le_refl _) (.cells #[.slice a len cap] 22)).alloc (by simp) (.cells (madeCells #[.int .i64 0] len) 3))
  have cB : Hid (((w.alloc (.cells #[.slice a len cap] 22)).alloc (.cells (madeCells #[.int .i64 0] len) 3)).cell? ⟨w.heap.size, 0, none⟩ = some (.slice a len cap)) := Lib.hid (Oct.cell_alloc (by rw [World.cell?_alloc_at _ _ _ _ (by simp)]; rfl))
  have eB : (w.alloc (.cells #[.slice a len cap] 22)).heap.size = w.heap.size + 1 := by simp
  rw [eB] at hm hr
  replace hT := Lib.hid hT
  replace hpath := Lib.hid hpath
  go_enter Tryd.func36, Tryd.ntmps36
  go_wp2
  clear hm eB
  generalize (w.alloc (.cells #[.slice a len cap] 22)).alloc (.cells (madeCells #[.int .i64 0] len) 3) = w2 at *
  go_loopw [4, 10] (fun _ i wr => ∃ k : Nat, k ≤ len ∧ i = .int .i64 k ∧ IRow wr (w.heap.size + 1) len (fun i => if i < k then (i : Int) else 0) ∧ Below w.heap.size w wr ∧ Hid (wr.cell? ⟨w.heap.size, 0, none⟩ = some (.slice a len cap))) (fun _ i _ => len - (intOf i).toNat)
  case atStart => exact ⟨0, by omega, rfl, hr.out.congr fun i hi => by simp, hB0.out, cB⟩
  case round =>
    clear hr hB0 cB
    obtain ⟨k, hk, rfl, hR, hB, cB⟩ := hrel
    by_cases hlt : k < len
    · have i1 : (k : Int) < len := by omega
      have i0 : 0 ≤ (k : Int) := by omega
      have c0 := hR.cell k hlt
      have f0 := hR.frozen k hlt
      have hR2 := Lib.hid (hR.set k hlt (k : Int))
      have hB2 := Lib.hid (hB.setCell (p := ⟨w.heap.size + 1, k, none⟩) (by show w.heap.size ≤ w.heap.size + 1; omega) (.int .i64 (k : Int)))
      have cB2 : Hid ((wr.setCell ⟨w.heap.size + 1, k, none⟩ (.int .i64 (k : Int))).cell? ⟨w.heap.size, 0, none⟩ = some (.slice a len cap)) := Lib.hid (by
        rw [World.cell?_setCell_other _ _ _ _ (fun e => by have := congrArg Addr.block e; simp at this)]; exact cB.out)
      clear hR hB
      go_wp2
      exact ⟨⟨k + 1, by omega, by go_num, hR2.out.congr fun i hi => by
          by_cases e : i = k
          · subst e; simp
          · rw [if_neg e]
            by_cases g : i < k
            · rw [if_pos g, if_pos (by omega)]
            · rw [if_neg g, if_neg (by omega)], hB2.out, cB2⟩, by simp [intOf]; omega⟩
    · have d0 : decide ((k : Int) < len) = false := decide_eq_false (by omega)
      have d1 : (len : Int) ≤ k := by omega
      obtain rfl : k = len := by omega
      have hR2 := hR.congr (g' := fun i => (i : Int)) fun i hi => by rw [if_pos hi]
      have hTr := texts_below hT.out hB
      clear hR
      by_cases hz : k = 0
      · subst hz
        have hs := AnyF.slices_SortFunc_none Tryd.sortnone (some ⟨w.heap.size + 1, 0, none⟩) 0 (.func (.func 52) #[] #[.pointer (some ⟨w.heap.size, 0, none⟩)]) wr
        change Calls Tryd.prog 51 _ _ _ at hs
        replace hB := Lib.hid hB
        clear hR2 hTr hpath hT
        go_wp2_with fail
        refine hs.mono ?_
        rintro e w' ⟨rfl, rfl⟩
        go_wp2
        go_ret
        exact ⟨⟨_, fun i => i, rfl, ⟨⟨0, fun h => absurd h (Nat.lt_irrefl _), fun i hi => absurd hi (Nat.not_lt_zero _)⟩, fun i hi => hi, fun i j hi hj h => h, fun k hk => ⟨k, hk, rfl⟩, fun i j hij hj => absurd hj (Nat.not_lt_zero _)⟩⟩, hB.out⟩
      · haveI : Inhabited (Fin k) := ⟨⟨0, by omega⟩⟩
        obtain ⟨d, hd⟩ : ∃ d : Array (Fin k), d = Array.ofFn (fun i : Fin k => i) := ⟨_, rfl⟩
        have hds : d.size = k := by rw [hd]; simp
        have hH : Sort.Holds (fun i : Fin k => Value.int .i64 (i.val : Int)) wr (w.heap.size + 1) 0 d := fun j hj => by
          have hj' : j < k := by omega
          have e : d[j]! = ⟨j, hj'⟩ := by rw [getElem!_pos d j hj]; subst hd; simp
          rw [e, Nat.zero_add]
          exact ⟨hR2.cell j hj', hR2.frozen j hj'⟩
        have hs := Any.slices_SortFunc Tryd.sort6 (fun i : Fin k => Value.int .i64 (i.val : Int)) (fun _ => rfl) (fun x y => cmpN (pieces (T x.val).data.toList) (pieces (T y.val).data.toList)) (swo_cmp fun x => pieces (T x.val).data.toList) 52 #[.pointer (some ⟨w.heap.size, 0, none⟩)] (w.heap.size + 1) 0 k d wr
          (enters_of Tryd.func52 (by kernel_rfl) rfl)
          (CmpReads.lays fun m os dk hsz x y => by
            have hb := sorted_below (fun i : Fin k => Value.int .i64 (i.val : Int)) wr (w.heap.size + 1) 0 m dk os (Nat.le_of_lt hR2.lt)
            have hbT : b < w.heap.size := Oct.lt_of_cell (hT.out.cell 0 (by omega))
            exact cmp_calls a k cap b off w.heap.size T hpath.out x.val y.val x.2 y.2 _
              ⟨hTr.addr, fun i hi => (hb.cell (p := ⟨b, off + i, none⟩) (by show b < _; omega)).trans (hTr.cell i hi), hTr.size⟩
              ((hb.cell (p := ⟨w.heap.size, 0, none⟩) (by show w.heap.size < _; omega)).trans cB.out))
          hH hR2.lt (by omega)
        change Calls Tryd.prog 51 _ _ _ at hs
        rw [hds] at hs
        have post : Hid (∀ d' n os, Sort.PermIn 0 k d d' → Sort.SortedIn (ltOf fun x y => cmpN (pieces (T x.val).data.toList) (pieces (T y.val).data.toList)) 0 k d' → (∃ Q, Placed (sortWorld (fun i : Fin k => Value.int .i64 (i.val : Int)) wr (w.heap.size + 1) 0 n d' os) (some ⟨w.heap.size + 1, 0, none⟩) k T Q) ∧ Below w.heap.size w (sortWorld (fun i : Fin k => Value.int .i64 (i.val : Int)) wr (w.heap.size + 1) 0 n d' os)) := by
          refine Lib.hid fun d' n os hp hs => ?_
          obtain ⟨p1, p2, p3⟩ := perm_places d d' hd (by rw [hds]; exact hp)
          have hol := SW.holds (enc := fun i : Fin k => Value.int .i64 (i.val : Int)) ⟨n, os, rfl⟩ hR2.lt hH (by omega : d'.size = d.size)
          refine ⟨⟨fun i => (d'[i]!).val, ⟨w.heap.size + 1, fun _ => rfl, fun i hi => ?_⟩, fun i hi => (d'[i]!).2, p2, p3, fun i j hij hj => ?_⟩, ?_⟩
          · have := (hol i (by omega)).1
            rw [Nat.zero_add] at this
            exact this
          · have := hs i j (Nat.zero_le _) hij hj
            rw [lt_cmp (fun x => pieces (T x.val).data.toList), decide_eq_false_iff_not] at this
            have a1 := cmpN_neg (pieces (T (d'[j]!).val).data.toList) (pieces (T (d'[i]!).val).data.toList)
            unfold leN
            omega
          · exact hB.trans ((sorted_below _ wr (w.heap.size + 1) 0 n d' os (Nat.le_of_lt hR2.lt)).mono (by omega))
        clear hH hd hds hR2 hTr hpath hT hB
        replace hz := Lib.hid hz
        go_wp2_with fail
        refine hs.mono ?_
        rintro e w' ⟨rfl, d', n, os, hp, hso, rfl⟩
        have fin := Lib.hid (post.out d' n os hp hso)
        clear post hp hso hs
        generalize sortWorld (fun i : Fin k => Value.int .i64 (i.val : Int)) wr (w.heap.size + 1) 0 n d' os = w3 at *
        go_wp2
        go_ret
        obtain ⟨⟨Q, hQ⟩, hb⟩ := fin.out
        exact ⟨⟨_, Q, rfl, hQ⟩, hb⟩
end Go.Proofs.YtokebgmlenlciaaDoor.Pa
