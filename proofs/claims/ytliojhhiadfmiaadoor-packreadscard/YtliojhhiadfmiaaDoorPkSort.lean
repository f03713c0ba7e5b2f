/-
  What Make's parts answer: tooLong over a list, itemsOf (texts under their ids, sorted by these), hasTwice, sizeOf; strings.Clone; old memory stays. Conditions: the tables lie where the program's variables are; lists and texts of a length that the form's numbers bear.
-/
import Derived.Test.YtliojhhiadfmiaaDoorRows
import Derived.Test.YtliojhhiadfmiaaDoorPkOwn
import Derived.Test.YtliojhhiadfmiaaDoorPkShelf
import Derived.Test.YtliojhhiadfmiaaDoorOctKit
import Derived.Shelf.SlSortCmp.NoneTotal
import Derived.WalkKit
import Derived.WalkSpells
import Derived.WalkLawsBesides
import Derived.ProofKit
import Derived.OpenShut
import Derived.Laws.BytesArg
import Derived.Laws.Externs
import Derived.Deep.QuietTactic
import Derived.BigQuiet
import Derived.BigRegion
import Derived.Lib.Hide
import Derived.IntWalk
import Derived.Deep.LoopGhost
namespace Go.Proofs.YtliojhhiadfmiaaDoor.Pk
open Go Go.RowKit
open Oct (empty)
open Go.Sort (HoldsK putRowK get_flatK size_flatK)

/-! ### strings.Clone -/
theorem Clone_calls (s : ByteArray) (w : World) (hs : s.size ≤ 281474976710656) :
    Calls Tryd.prog 61 #[.string s] w fun e w' => e = .returned (.string s) ∧ Below w.heap.size w w' := by
  have hC := Lib.hid (show Calls Tryd.prog 80 #[.string s] w _ from Any.stringslite_Clone Tryd.lays316 s w hs)
  go_enter Tryd.func61, Tryd.ntmps61
  go_wp2_with fail
  refine hC.out.mono ?_
  rintro e w' ⟨rfl, hb⟩
  replace hb := Lib.hid hb
  go_wp2
  go_ret
  exact ⟨rfl, hb.out⟩

/-! ### one that is too long -/
def big (l : List ByteArray) : Bool := l.any fun s => decide (131072 < s.size)
theorem big_iff {l : List ByteArray} : big l = true ↔ ∃ s ∈ l, 131072 < s.size := by simp [big]
theorem tooLong_calls (s : ByteArray) (w : World) : Calls Tryd.prog 21 #[.string s] w fun e w' => e = .returned (.bool (decide (131072 < s.size))) ∧ w = w' := by
  go_enter Tryd.func21, Tryd.ntmps21
  go_wp2
  go_ret
  refine ⟨congrArg (fun x => Ending.returned (.bool x)) ?_, rfl⟩
  rw [decide_eq_decide]
  omega
set_option maxRecDepth 100000 in
theorem IndexFunc_calls (a : Option Addr) (cap b off : Nat) (l : List ByteArray) (w : World) (hT : TxAt w a b off l) (hl : l.length ≤ 140737488351232) :
    Calls Tryd.prog 43 #[.slice a l.length cap, .func (.func 21) #[] #[]] w fun e w' => (∃ k : Int, e = .returned (.int .i64 k) ∧ (0 ≤ k ↔ big l = true)) ∧ w = w' := by
  replace hT := Lib.hid hT
  go_enter Tryd.func43, Tryd.ntmps43
  go_wp2
  go_loopw [5, 8] (fun _ i wr => ∃ k : Nat, k ≤ l.length ∧ i = .int .i64 k ∧ Hid (big (l.take k) = false) ∧ wr = w) (fun _ i _ => l.length - (intOf i).toNat)
  case atStart => exact ⟨0, by omega, rfl, Lib.hid rfl, rfl⟩
  case round =>
    obtain ⟨k, hk, rfl, hp, rfl⟩ := hrel
    by_cases hlt : k < l.length
    · have i1 : (k : Int) < l.length := by omega
      have i0 : 0 ≤ (k : Int) := by omega
      obtain rfl := hT.out.addr (by omega)
      have c0 := hT.out.cell k _ (List.getElem?_eq_getElem hlt)
      have hn : big (l.take (k + 1)) = (big (l.take k) || decide (131072 < l[k].size)) := by
        rw [take_next hlt]; unfold big; rw [List.any_append]; simp only [List.any_cons, List.any_nil, Bool.or_false]
      have hm : l[k] ∈ l := List.getElem_mem hlt
      replace hn := Lib.hid hn
      replace hm := Lib.hid hm
      generalize l[k] = s at *
      go_wp2_with fail
      refine (tooLong_calls s _).mono ?_
      rintro e w' ⟨rfl, rfl⟩
      by_cases hs : 131072 < s.size
      · have hb : Hid (big l = true) := Lib.hid (big_iff.2 ⟨s, hm.out, hs⟩)
        rw [decide_eq_true hs]
        go_wp2
        go_ret
        exact ⟨⟨_, rfl, fun _ => hb.out, fun _ => i0⟩, rfl⟩
      · rw [decide_eq_false hs]
        have hn2 : Hid (big (l.take (k + 1)) = false) := Lib.hid (by rw [hn.out, hp.out, decide_eq_false hs]; rfl)
        go_wp2
        exact ⟨⟨k + 1, by omega, by go_num, hn2, trivial⟩, by simp [intOf]; omega⟩
    · have d0 : decide ((k : Int) < l.length) = false := decide_eq_false (by omega)
      have d1 : (l.length : Int) ≤ k := by omega
      obtain rfl : k = l.length := by omega
      rw [List.take_length] at hp
      go_wp2
      go_ret
      exact ⟨⟨_, rfl, by rw [hp.out]; simp⟩, rfl⟩
theorem Contains_calls (a : Option Addr) (cap b off : Nat) (l : List ByteArray) (w : World) (hT : TxAt w a b off l) (hl : l.length ≤ 140737488351232) :
    Calls Tryd.prog 20 #[.slice a l.length cap, .func (.func 21) #[] #[]] w fun e w' => e = .returned (.bool (big l)) ∧ w = w' := by
  have hI := Lib.hid (IndexFunc_calls a cap b off l w hT hl)
  clear hT
  go_enter Tryd.func20, Tryd.ntmps20
  go_wp2_with fail
  refine hI.out.mono ?_
  rintro e w' ⟨⟨k, rfl, hk⟩, rfl⟩
  replace hk := Lib.hid hk
  go_wp2
  go_ret
  refine ⟨congrArg (fun x => Ending.returned (.bool x)) ?_, rfl⟩
  rw [Bool.eq_iff_iff, decide_eq_true_eq]
  exact hk.out

/-! ### the order of items -/
theorem cmp_lt : ∀ l m : List UInt8, decide (Lib.compareBytes l m < 0) = Op.bytesLess l m
  | [], [] => rfl
  | [], _ :: _ => rfl
  | _ :: _, [] => rfl
  | a :: xs, b :: ys => by
    rw [Lib.compareBytes, Op.bytesLess]
    by_cases h1 : a < b
    · rw [if_pos h1]; simp [h1]
    · rw [if_neg h1]
      by_cases h2 : b < a
      · rw [if_pos h2]
        have : ¬ a = b := fun e => by subst e; exact h1 h2
        simp [h1, this]
      · rw [if_neg h2, cmp_lt xs ys]
        have : a = b := UInt8.le_antisymm (UInt8.not_lt.1 h2) (UInt8.not_lt.1 h1)
        simp [this]
def cmpI (a b : Itm) : Int := Lib.compareBytes a.id.data.toList b.id.data.toList
theorem cmpI_lt (a b : Itm) : decide (cmpI a b < 0) = lt a.id b.id := cmp_lt _ _
theorem swo : Sort.SWO (ltOf cmpI) where
  irrefl x := by show decide (cmpI x x < 0) = false; rw [cmpI_lt, lt_irrefl]
  trans x y z h g := by
    change decide (cmpI x y < 0) = true at h
    change decide (cmpI y z < 0) = true at g
    show decide (cmpI x z < 0) = true
    rw [cmpI_lt] at *
    exact lt_trans h g
  ntrans x y z h g := by
    change decide (cmpI x y < 0) = false at h
    change decide (cmpI y z < 0) = false at g
    show decide (cmpI x z < 0) = false
    rw [cmpI_lt] at *
    cases hx : lt x.id z.id with
    | false => rfl
    | true =>
      rcases lt_tri x.id y.id with e | e | e
      · rw [h] at e; cases e
      · rw [← e, hx] at g; cases g
      · rcases lt_tri y.id z.id with e2 | e2 | e2
        · rw [g] at e2; cases e2
        · rw [e2, hx] at h; cases h
        · have := lt_trans e2 (lt_trans e hx); rw [lt_irrefl] at this; cases this
theorem grown2 (W : World) (o p : Go.Obj) : (W.alloc o).alloc p = Sort.grow (W.drewN 0) #[o, p] := by
  unfold Sort.grow World.alloc World.drewN
  simp only [World.mk.injEq, and_true, true_and]
  refine ⟨?_, by simp⟩
  apply Array.ext'
  simp
theorem Compare_calls (a b : ByteArray) (w : World) : Calls Tryd.prog 47 #[.string a, .string b] w fun e w' => e = .returned (.int .i64 (Lib.compareBytes a.data.toList b.data.toList)) ∧ w' = w :=
  (show Calls Tryd.prog 47 #[.string a, .string b] w _ from Any.strings_Compare Tryd.lays106 a b w)
set_option maxRecDepth 100000 in
theorem cmp_calls (a b : Itm) (W : World) :
    Calls Tryd.prog 46 #[.agg #[.string a.id, .string a.data], .agg #[.string b.id, .string b.data]] W fun e w' => e = .returned (.int .i64 (cmpI a b)) ∧ ∃ q os, w' = Sort.grow (W.drewN q) os := by
  obtain ⟨ai, ad⟩ := a
  obtain ⟨bi, bd⟩ := b
  have hC := Lib.hid fun w => Compare_calls ai bi w
  unfold cmpI
  dsimp only
  generalize Lib.compareBytes ai.data.toList bi.data.toList = r at *
  have hg := Lib.hid (grown2 W (.cells #[.string ai, .string ad] 37) (.cells #[.string bi, .string bd] 37))
  go_enter Tryd.func46, Tryd.ntmps46
  go_wp2_with fail
  refine (hC.out _).mono ?_
  rintro e w' ⟨rfl, rfl⟩
  go_wp2
  go_ret
  exact ⟨rfl, 0, _, hg.out⟩
/-- items in a row that may be written -/
structure IRow (w : World) (b o : Nat) (d : Array Itm) : Prop where
  id : ∀ i, i < d.size → w.cell? ⟨b, o + i * 2, none⟩ = some (.string (d[i]!).id)
  dat : ∀ i, i < d.size → w.cell? ⟨b, o + i * 2 + 1, none⟩ = some (.string (d[i]!).data)
  fi : ∀ i, i < d.size → w.frozen? ⟨b, o + i * 2, none⟩ = false
  fd : ∀ i, i < d.size → w.frozen? ⟨b, o + i * 2 + 1, none⟩ = false
theorem div2 (i : Nat) : (i * 2) / 2 = i ∧ (i * 2) % 2 = 0 ∧ (i * 2 + 1) / 2 = i ∧ (i * 2 + 1) % 2 = 1 := by omega
theorem holds_of_row {w : World} {g o : Nat} {d : Array Itm} (h : IRow w g o d) : HoldsK cellsI 2 w g o d := by
  intro j hj
  rw [size_flatK] at hj
  rw [get_flatK _ _ _ _ hj]
  have hj2 : j = j / 2 * 2 ∧ j % 2 = 0 ∨ j = j / 2 * 2 + 1 ∧ j % 2 = 1 := by omega
  rcases hj2 with ⟨e, m⟩ | ⟨e, m⟩
  · rw [m]
    have k1 := h.id (j / 2) (by omega)
    have k2 := h.fi (j / 2) (by omega)
    rw [← e] at k1 k2
    exact ⟨k1, k2⟩
  · rw [m]
    have k1 := h.dat (j / 2) (by omega)
    have k2 := h.fd (j / 2) (by omega)
    rw [Nat.add_assoc, ← e] at k1 k2
    exact ⟨k1, k2⟩
theorem row_of_holds {w : World} {g o : Nat} {d : Array Itm} (h : HoldsK cellsI 2 w g o d) : IRow w g o d := by
  have key : ∀ t, t < d.size * 2 → w.cell? ⟨g, o + t, none⟩ = some ((cellsI d[t / 2]!)[t % 2]!) ∧ w.frozen? ⟨g, o + t, none⟩ = false := fun t ht => by
    have := h t (by rw [size_flatK]; exact ht)
    rw [get_flatK _ _ _ _ ht] at this
    exact this
  refine ⟨fun i hi => ?_, fun i hi => ?_, fun i hi => ?_, fun i hi => ?_⟩
  · have := (key (i * 2) (by omega)).1; rw [(div2 i).1, (div2 i).2.1] at this; exact this
  · have := (key (i * 2 + 1) (by omega)).1; rw [(div2 i).2.2.1, (div2 i).2.2.2] at this; rw [Nat.add_assoc]; exact this
  · exact (key (i * 2) (by omega)).2
  · have := (key (i * 2 + 1) (by omega)).2; rw [Nat.add_assoc]; exact this
theorem sortedK_below (w : World) (g o m : Nat) (d : Array Itm) (os : Array Go.Obj) (hb : g ≤ w.heap.size) : Below g w (sortWorldK cellsI 2 w g o m d os) := by
  refine ⟨rfl, rfl, rfl, ?_, fun k hk => ?_⟩
  · exact size_sortWorldK_c _ _ _ _ _ _ _ _
  · unfold sortWorldK putRowK
    rw [Sort.heap_grow_old _ _ (by rw [Sort.size_putRow]; show k < w.heap.size; omega)]
    simp only [Sort.putRow, Sort.mapBlock, Array.getElem?_modify]
    rw [if_neg (by omega)]
    rfl
theorem OwnI.row {B : Nat} {w : World} {v : Value} {L : List Itm} (h : OwnI B w v L) (hL : 0 < L.length) : ∃ g cap, v = .slice (some ⟨g, 0, none⟩) L.length cap ∧ L.length ≤ cap ∧ B ≤ g ∧ g < w.heap.size ∧ IRow w g 0 L.toArray := by
  rcases h.2 with ⟨hv, h0⟩ | ⟨g, cap, cur, hv, h1, h2, h3, _⟩
  · omega
  · have hb : v.ownBlock = some g := by rw [hv]; rfl
    have hget : ∀ i, i < L.toArray.size → L[i]? = some (L.toArray[i]!) := fun i hi => by
      have hi' : i < L.length := by simpa using hi
      rw [getElem!_pos L.toArray i hi, List.getElem?_eq_getElem hi']; rfl
    refine ⟨g, cap, hv, h3, h1, (Array.getElem?_eq_some_iff.1 h2).1, fun i hi => ?_, fun i hi => ?_, fun i _ => Lib.frozen_of_heap h2 _, fun i _ => Lib.frozen_of_heap h2 _⟩
    · have := World.ownsRow.cells h hb _ _ (rowI_at L i _ (hget i hi)).1; rw [Addr.add_mid] at this; exact this
    · have := World.ownsRow.cells h hb _ _ (rowI_at L i _ (hget i hi)).2; rw [Addr.add_mid] at this; rw [Nat.add_assoc]; exact this
theorem IRow.at_ {w : World} {g : Nat} {d : Array Itm} (h : IRow w g 0 d) : ItAt w (some ⟨g, 0, none⟩) g 0 d.toList := by
  have hget : ∀ i l, d.toList[i]? = some l → i < d.size ∧ d[i]! = l := fun i l he => by
    have hi : i < d.size := by have := (List.getElem?_eq_some_iff.1 he).1; simpa using this
    refine ⟨hi, ?_⟩
    rw [Array.getElem?_toList, Array.getElem?_eq_getElem hi] at he
    rw [getElem!_pos d i hi]
    exact Option.some.inj he
  refine ⟨fun _ => rfl, fun i l he => ?_, fun i l he => ?_⟩
  · obtain ⟨hi, e⟩ := hget i l he; rw [← e]; exact h.id i hi
  · obtain ⟨hi, e⟩ := hget i l he; rw [← e]; exact h.dat i hi
theorem aggI (w : World) : (isAgg 37).run Tryd.prog w = .ok true w := by go_simp
theorem sizeI (w : World) : (Go.sizeOf 37).run Tryd.prog w = .ok 2 w := by go_simp
/-- sorted by the ids, neighbours may have one id -/
structure Sorted (M L : List Itm) : Prop where
  perm : L.Perm M
  up : ∀ i j (hj : j < L.length) (hij : i < j), lt (L[j]).id (L[i]'(by omega)).id = false
set_option maxRecDepth 100000 in
set_option maxHeartbeats 2000000 in
theorem sorted_calls (g cap : Nat) (d : Array Itm) (w : World) (hR : IRow w g 0 d) (hg : g < w.heap.size) (hd : d.size ≤ 100000) :
    Calls Tryd.prog 45 #[.slice (some ⟨g, 0, none⟩) d.size cap, .func (.func 46) #[] #[]] w fun e w' => e = .returned (.tuple #[]) ∧ (∃ L : List Itm, Sorted d.toList L ∧ ItAt w' (some ⟨g, 0, none⟩) g 0 L) ∧ Below g w w' := by
  have hs := AnyQ.slices_SortFunc Tryd.sortI 2 aggI sizeI cellsI (fun _ => rfl) (fun x v hv => by simp [cellsI] at hv; rcases hv with rfl | rfl <;> rfl) cmpI swo 46 #[] g 0 cap d w
    (enters_of Tryd.func46 (by kernel_rfl) rfl)
    (fun m os dk _ x y => cmp_calls x y _) (holds_of_row hR) hg (by omega)
  change Calls Tryd.prog 45 _ _ _ at hs
  refine hs.mono ?_
  rintro e w' ⟨rfl, d', n, os, hp, hso, rfl⟩
  obtain ⟨h1, _, h3⟩ := hp
  have e1 : d.extract 0 d.size = d := by simp
  have e2 : d'.extract 0 d.size = d' := by rw [← h1]; simp
  rw [e1, e2] at h3
  refine ⟨rfl, ⟨d'.toList, ⟨h3, fun i j hj hij => ?_⟩, (row_of_holds (holdsK_sortWorldK_c cellsI 2 w g 0 d d' n os (holds_of_row hR) hg h1)).at_⟩, sortedK_below w g 0 n d' os (Nat.le_of_lt hg)⟩
  have hj' : j < d'.size := by simpa using hj
  have := hso i j (Nat.zero_le _) hij (by omega)
  change decide (cmpI d'[j]! d'[i]! < 0) = false at this
  rw [cmpI_lt, getElem!_pos d' j hj', getElem!_pos d' i (by omega)] at this
  simpa using this

/-! ### itemsOf -/
theorem map_next {l : List ByteArray} {k : Nat} (h : k < l.length) : (l.take k).map itm ++ [itm l[k]] = (l.take (k + 1)).map itm := by rw [take_next h, List.map_append]; rfl
set_option maxRecDepth 100000 in
set_option maxHeartbeats 2000000 in
theorem itemsOf_calls (a : Option Addr) (cap b off : Nat) (l : List ByteArray) (w : World) (hT : TxAt w a b off l) (he : Ev w) (hl : l.length ≤ 1024) (hl0 : 0 < l.length) (hs : ∀ s ∈ l, s.size ≤ 131072) :
    Calls Tryd.prog 22 #[.slice a l.length cap] w fun e w' => (∃ (L : List Itm) (c g : Nat), e = .returned (.slice (some ⟨g, 0, none⟩) L.length c) ∧ ItAt w' (some ⟨g, 0, none⟩) g 0 L ∧ Sorted (l.map itm) L) ∧ Below w.heap.size w w' := by
  replace hT := Lib.hid hT
  replace he := Lib.hid he
  replace hs := Lib.hid hs
  go_enter Tryd.func22, Tryd.ntmps22
  go_wp2
  go_loopw [3, 5, 8] (fun v _ i wr => ∃ k : Nat, k ≤ l.length ∧ i = .int .i64 k ∧ Hid (OwnI w.heap.size wr v ((l.take k).map itm)) ∧ Hid (Below w.heap.size w wr)) (fun _ _ i _ => l.length - (intOf i).toNat)
  case atStart => exact ⟨0, by omega, rfl, Lib.hid (OwnI.nil _ _), Lib.hid (Below.refl _ _)⟩
  case round =>
    obtain ⟨k, hk, rfl, hO, hB⟩ := hrel
    by_cases hlt : k < l.length
    · have i1 : (k : Int) < l.length := by omega
      have i0 : 0 ≤ (k : Int) := by omega
      have hTr := hT.out.next hB.out
      obtain rfl := hTr.addr (by omega)
      have c0 := hTr.cell k _ (List.getElem?_eq_getElem hlt)
      have hnx := Lib.hid (map_next hlt)
      have hsz := hs.out _ (List.getElem_mem hlt)
      have hlen : ((l.take k).map itm).length ≤ 1099511627776 := by rw [List.length_map, List.length_take]; omega
      generalize l[k] = s at *
      generalize (l.take k).map itm = M at *
      have hev := Lib.hid (he.out.next hB.out)
      have hI := Lib.hid (Id_calls s wr hev.out (by omega))
      clear hTr hev
      go_wp2_with fail
      refine hI.out.mono ?_
      rintro e w2 ⟨rfl, b2⟩
      replace hO := Lib.hid (hO.out.next b2)
      replace hB := Lib.hid (below_next hB.out b2)
      have hsz2 := Lib.hid hB.out.size
      clear b2 c0 hI
      go_wp2_with (at_builtin; refine wp_append_it rfl _ _ rfl w.heap.size u3 M (itm s) rfl rfl hO.out hsz2.out hlen ?_)
      intro v' w5 hO5 hB5
      have hB6 := Lib.hid (hB5 _ hB.out)
      rw [hnx.out] at hO5
      replace hO5 := Lib.hid hO5
      clear hO hB hB5 hlen hsz2
      go_wp2
      exact ⟨⟨k + 1, by omega, by go_num, hO5, hB6⟩, by simp [intOf]; omega⟩
    · have d3 : decide ((k : Int) < l.length) = false := decide_eq_false (by omega)
      have d4 : (l.length : Int) ≤ k := by omega
      obtain rfl : k = l.length := by omega
      rw [List.take_length] at hO
      obtain ⟨g, cp, hv, hcap, hBg, hg, hR⟩ := hO.out.row (by rw [List.length_map]; exact hl0)
      subst hv
      have hn : (l.map itm).length = l.length := List.length_map _
      have hS := Lib.hid (sorted_calls g cp (l.map itm).toArray wr hR hg (by simp; omega))
      rw [List.size_toArray] at hS
      rw [hn] at hS ⊢
      clear hR hO
      go_wp2_with fail
      refine hS.out.mono ?_
      rintro e w2 ⟨rfl, ⟨L, hL, hI⟩, b2⟩
      replace hB := Lib.hid (hB.out.trans (b2.mono hBg))
      replace hI := Lib.hid hI
      have hLl : l.length = L.length := by rw [hL.perm.length_eq]; simp
      replace hL := Lib.hid hL
      clear hS b2
      go_wp2
      go_ret
      exact ⟨⟨L, cp, g, rfl, hI.out, hL.out⟩, hB.out⟩
end Go.Proofs.YtliojhhiadfmiaaDoor.Pk
