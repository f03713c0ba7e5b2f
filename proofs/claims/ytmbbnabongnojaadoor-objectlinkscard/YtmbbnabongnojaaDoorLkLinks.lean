/-
  object's Links answers what an object names, strictly rising; old memory stays. Conditions: none but that the object lies in memory.
-/
import Derived.Test.YtmbbnabongnojaaDoorRows
import Derived.Test.YtmbbnabongnojaaDoorObPlain
import Derived.Test.YtmbbnabongnojaaDoorLkPlain
import Derived.Test.YtmbbnabongnojaaDoorLkNamed
import Derived.Test.YtmbbnabongnojaaDoorLkCmp
import Derived.Test.YtmbbnabongnojaaDoorLkComp
import Derived.Test.YtmbbnabongnojaaDoorObShelf
import Derived.Test.YtmbbnabongnojaaDoorObGood
import Derived.Test.YtmbbnabongnojaaDoorObWrite
import Derived.Test.YtmbbnabongnojaaDoorObHave
import Derived.Test.YtmbbnabongnojaaDoorOctKit
import Derived.Shelf.SlSortCmp.NoneTotal
import Derived.WalkKit
import Derived.WalkSpells
import Derived.WalkLawsBesides
import Derived.ProofKit
import Derived.OpenShut
import Derived.Lib.Hide
namespace Go.Proofs.YtmbbnabongnojaaDoor.Lk
open Go Go.RowKit Ob
open Oct (empty Only)
open Go.Sort (HoldsK putRowK get_flatK size_flatK)

theorem div2 (i : Nat) : (i * 2) / 2 = i ∧ (i * 2) % 2 = 0 ∧ (i * 2 + 1) / 2 = i ∧ (i * 2 + 1) % 2 = 1 := by omega
theorem holds_of_row {w : World} {g o : Nat} {d : Array Lnk} (h : LRow w g o d) : HoldsK cellsL 2 w g o d := by
  intro j hj
  rw [size_flatK] at hj
  rw [get_flatK _ _ _ _ hj]
  have hj2 : j = j / 2 * 2 ∧ j % 2 = 0 ∨ j = j / 2 * 2 + 1 ∧ j % 2 = 1 := by omega
  rcases hj2 with ⟨e, m⟩ | ⟨e, m⟩
  · rw [m]
    have k1 := h.kind (j / 2) (by omega)
    have k2 := h.fk (j / 2) (by omega)
    rw [← e] at k1 k2
    exact ⟨k1, k2⟩
  · rw [m]
    have k1 := h.id (j / 2) (by omega)
    have k2 := h.fi (j / 2) (by omega)
    rw [Nat.add_assoc, ← e] at k1 k2
    exact ⟨k1, k2⟩
theorem row_of_holds {w : World} {g o : Nat} {d : Array Lnk} (h : HoldsK cellsL 2 w g o d) : LRow w g o d := by
  have key : ∀ t, t < d.size * 2 → w.cell? ⟨g, o + t, none⟩ = some ((cellsL d[t / 2]!)[t % 2]!) ∧ w.frozen? ⟨g, o + t, none⟩ = false := fun t ht => by
    have := h t (by rw [size_flatK]; exact ht)
    rw [get_flatK _ _ _ _ ht] at this
    exact this
  refine ⟨fun i hi => ?_, fun i hi => ?_, fun i hi => ?_, fun i hi => ?_⟩
  · have := (key (i * 2) (by omega)).1; rw [(div2 i).1, (div2 i).2.1] at this; exact this
  · have := (key (i * 2 + 1) (by omega)).1; rw [(div2 i).2.2.1, (div2 i).2.2.2] at this; rw [Nat.add_assoc]; exact this
  · exact (key (i * 2) (by omega)).2
  · have := (key (i * 2 + 1) (by omega)).2; rw [Nat.add_assoc]; exact this
/-- behind the sort nothing has turned but its row -/
theorem sortedK_below (w : World) (g o m : Nat) (d : Array Lnk) (os : Array Go.Obj) (hb : g ≤ w.heap.size) : Below g w (sortWorldK cellsL 2 w g o m d os) := by
  refine ⟨rfl, rfl, rfl, ?_, fun k hk => ?_⟩
  · exact size_sortWorldK_c _ _ _ _ _ _ _ _
  · unfold sortWorldK putRowK
    rw [Sort.heap_grow_old _ _ (by rw [Sort.size_putRow]; show k < w.heap.size; omega)]
    simp only [Sort.putRow, Sort.mapBlock, Array.getElem?_modify]
    rw [if_neg (by omega)]
    rfl
theorem OwnK.row {B : Nat} {w : World} {v : Value} {L : List Lnk} (h : OwnK B w v L) (hL : 0 < L.length) : ∃ g cap, v = .slice (some ⟨g, 0, none⟩) L.length cap ∧ L.length ≤ cap ∧ B ≤ g ∧ g < w.heap.size ∧ LRow w g 0 L.toArray := by
  rcases h.2 with ⟨hv, h0⟩ | ⟨g, cap, cur, hv, h1, h2, h3, _⟩
  · omega
  · have hb : v.ownBlock = some g := by rw [hv]; rfl
    have hget : ∀ i, i < L.toArray.size → L[i]? = some (L.toArray[i]!) := fun i hi => by
      have hi' : i < L.length := by simpa using hi
      rw [getElem!_pos L.toArray i hi, List.getElem?_eq_getElem hi']; rfl
    refine ⟨g, cap, hv, h3, h1, (Array.getElem?_eq_some_iff.1 h2).1, fun i hi => ?_, fun i hi => ?_, fun i _ => Lib.frozen_of_heap h2 _, fun i _ => Lib.frozen_of_heap h2 _⟩
    · have := World.ownsRow.cells h hb _ _ (rowL_at L i _ (hget i hi)).1; rw [Addr.add_mid] at this; exact this
    · have := World.ownsRow.cells h hb _ _ (rowL_at L i _ (hget i hi)).2; rw [Addr.add_mid] at this; rw [Nat.add_assoc]; exact this
theorem aggL (w : World) : (isAgg 45).run Tryd.prog w = .ok true w := by go_simp
theorem sizeL (w : World) : (Go.sizeOf 45).run Tryd.prog w = .ok 2 w := by go_simp
theorem of_len {x : Ob.Obj} (h : good x = true) : (x.kind = 2 → x.ents.length ≤ 100000) ∧ (x.kind = 3 → x.pars.length ≤ 100000) ∧ (ofObj x).length ≤ 1000 := by
  have hk := good_kind h
  unfold good at h
  unfold ofObj
  by_cases k1 : x.kind = 1
  · refine ⟨fun e => by omega, fun e => by omega, ?_⟩
    rw [if_neg (by omega), if_neg (by omega)]; exact Nat.zero_le _
  · rw [if_neg k1] at h
    by_cases k2 : x.kind = 2
    · rw [if_pos k2, Bool.and_eq_true, decide_eq_true_eq] at h
      refine ⟨fun _ => by omega, fun e => by omega, ?_⟩
      rw [if_pos k2, List.length_map]; omega
    · rw [if_neg k2, if_pos (by omega)] at h
      have := (goodCommit_iff.1 h).2.1
      refine ⟨fun e => absurd e k2, fun _ => by omega, ?_⟩
      rw [if_neg k2, if_pos (by omega), List.length_cons, List.length_map]; omega
/-- what Links answers -/
def Answers (x : Ob.Obj) (e : Ending) (w' : World) : Prop := ∃ (D : List Lnk) (a : Option Addr) (cap b off : Nat), e = .returned (.slice a D.length cap) ∧ LinksAt w' a b off D ∧ IsLinks (names x) D
set_option maxRecDepth 100000 in
set_option maxHeartbeats 2000000 in
/-- sorted and made compact -/
theorem sorted_calls (g cap : Nat) (d : Array Lnk) (w : World) (hR : LRow w g 0 d) (hg : g < w.heap.size) (hd : d.size ≤ 100000) :
    Calls Tryd.prog 38 #[.slice (some ⟨g, 0, none⟩) d.size cap, .func (.func 39) #[] #[]] w fun e w' => e = .returned (.tuple #[]) ∧ (∃ d' : Array Lnk, d'.size = d.size ∧ LRow w' g 0 d' ∧ IsLinks d.toList (Go.Lib.compactUpTo d' d'.size)) ∧ Below g w w' := by
  have hs := AnyQ.slices_SortFunc Tryd.sortL 2 aggL sizeL cellsL (fun _ => rfl) (fun x v hv => by simp [cellsL] at hv; rcases hv with rfl | rfl <;> rfl) cmpL swo 39 #[] g 0 cap d w
    (enters_of Tryd.func39 (by kernel_rfl) rfl)
    (fun m os dk _ x y => cmp_calls x y _) (holds_of_row hR) hg (by omega)
  change Calls Tryd.prog 38 _ _ _ at hs
  refine hs.mono ?_
  rintro e w' ⟨rfl, d', n, os, hp, hso, rfl⟩
  obtain ⟨h1, _, h3⟩ := hp
  have e1 : d.extract 0 d.size = d := by simp
  have e2 : d'.extract 0 d.size = d' := by rw [← h1]; simp
  rw [e1, e2] at h3
  refine ⟨rfl, ⟨d', h1, row_of_holds (holdsK_sortWorldK_c cellsL 2 w g 0 d d' n os (holds_of_row hR) hg h1), ?_⟩, sortedK_below w g 0 n d' os (Nat.le_of_lt hg)⟩
  have hc := compact_is (d := d') (fun i j hij hj => by
    have := hso i j (Nat.zero_le _) hij (by omega)
    change decide (cmpL d'[j]! d'[i]! < 0) = false at this
    rw [cmpL_lt] at this
    exact this)
  exact ⟨hc.up, fun l => (hc.mem l).trans h3.mem_iff⟩
set_option maxRecDepth 100000 in
set_option maxHeartbeats 2000000 in
theorem Links_calls (x : Ob.Obj) (ea : Option Addr) (ec : Nat) (pa : Option Addr) (pc : Nat) (w : World) (hO : ObAt w x ea ec pa pc) :
    Calls Tryd.prog 17 #[val x ea ec pa pc] w fun e w' => Answers x e w' ∧ Below w.heap.size w w' := by
  have hX := Lib.hid (Have.new hO)
  have hB := Lib.hid (b_alloc w (.cells (cellsOf x ea ec pa pc) 25))
  clear hO
  go_enter Tryd.func17, Tryd.ntmps17
  go_upto_region 1 with (fail)
  generalize w.alloc (.cells (cellsOf x ea ec pa pc) 25) = w1 at *
  obtain ⟨c0, c1, c2, c3, c4, c5, c6⟩ := hX.out.cells
  go_wp2_with fail
  refine (Good_calls x ea ec pa pc w1 hX.out.at_).mono ?_
  rintro e w2 ⟨rfl, b2⟩
  replace hX := Lib.hid (hX.out.next b2)
  replace hB := Lib.hid (below_next hB.out b2)
  clear b2 c0 c1 c2 c3 c4 c5 c6
  cases hg : good x with
  | false =>
    have hn : Hid (names x = []) := Lib.hid (by unfold names; rw [hg]; rfl)
    go_wp2
    go_ret
    exact ⟨⟨[], none, 0, 0, 0, rfl, LinksAt.nil _ _, by rw [hn.out]; exact IsLinks.nil⟩, hB.out⟩
  | true =>
    have hn : Hid (names x = ofObj x) := Lib.hid (by unfold names; rw [hg]; rfl)
    obtain ⟨hl1, hl2, hl3⟩ := of_len hg
    obtain ⟨c0, c1, c2, c3, c4, c5, c6⟩ := hX.out.cells
    have hN := Lib.hid (named_calls x ea ec pa pc w2 hX.out.at_ hl1 hl2)
    clear hl1 hl2
    go_wp2_with fail
    refine hN.out.mono ?_
    rintro e w3 ⟨⟨v, rfl, hown⟩, b3⟩
    replace hB := Lib.hid (below_next hB.out b3)
    have hs2 : Hid (w.heap.size ≤ w2.heap.size + 1) := Lib.hid (by have := hX.out.blk.lt; omega)
    clear b3 hN hX c0 c1 c2 c3 c4 c5 c6
    generalize ofObj x = L at *
    by_cases h0 : L.length = 0
    · obtain rfl : L = [] := List.length_eq_zero_iff.1 h0
      obtain ⟨a, cap, b, off, rfl, _, _⟩ := hown.links
      have hS := Lib.hid (AnyF.slices_SortFunc_none Tryd.sortL a cap (.func (.func 39) #[] #[]) w3)
      have hC := Lib.hid (Compact_none a cap w3)
      clear hown
      go_wp2_with fail
      refine (show Calls Tryd.prog 38 _ _ _ from hS.out).mono ?_
      rintro e w' ⟨rfl, rfl⟩
      go_wp2_with fail
      refine hC.out.mono ?_
      rintro e w' ⟨rfl, rfl⟩
      go_wp2
      go_ret
      exact ⟨⟨[], a, cap, 0, 0, rfl, LinksAt.nil _ _, by rw [hn.out]; exact IsLinks.nil⟩, hB.out⟩
    · obtain ⟨g, cap, rfl, hcap, hBg, hg3, hR⟩ := hown.row (by omega)
      have hsz : L.toArray.size = L.length := by simp
      have hS := Lib.hid (sorted_calls g cap L.toArray w3 hR hg3 (by omega))
      rw [hsz] at hS
      clear hown hR
      go_wp2_with fail
      refine hS.out.mono ?_
      rintro e w4 ⟨rfl, ⟨d, hd, hR4, hI⟩, b4⟩
      have hC := Lib.hid (Compact_calls g 0 cap d w4 hR4 (by omega) (by omega))
      have hd2 : d.size = L.length := hd
      rw [hd2] at hC
      replace hB := Lib.hid (hB.out.trans (b4.mono (by have := hs2.out; omega)))
      replace hI : Hid (IsLinks L (Go.Lib.compactUpTo d L.length)) := Lib.hid (by rw [hd2] at hI; exact hI)
      generalize Go.Lib.compactUpTo d L.length = D at *
      clear hS hR4 b4 hd hd2 hsz
      go_wp2_with fail
      refine hC.out.mono ?_
      rintro e w5 ⟨rfl, hK, ho⟩
      replace hB := Lib.hid (hB.out.trans (ho.below (by have := hs2.out; omega)))
      replace hK := Lib.hid hK
      clear hC ho
      go_wp2
      go_ret
      exact ⟨⟨D, _, cap, g, 0, rfl, hK.out, by rw [hn.out]; exact hI.out⟩, hB.out⟩
end Go.Proofs.YtmbbnabongnojaaDoor.Lk
