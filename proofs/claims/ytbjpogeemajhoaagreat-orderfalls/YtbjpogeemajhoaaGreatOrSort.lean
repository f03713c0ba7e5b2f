/-
  order's falling: the Ids of a map's facts, falling by how they stand; old memory stays. Conditions: the map has no more than a hundred thousand facts.
-/
import Derived.Test.YtbjpogeemajhoaaGreatRows
import Derived.Test.YtbjpogeemajhoaaGreatOrMap
import Derived.Test.YtbjpogeemajhoaaGreatOrFall
import Derived.Test.YtbjpogeemajhoaaGreatOrShelf
import Derived.Shelf.SlSortCmp.NoneTotal
import Derived.Deep.Cut
namespace Go.Proofs.YtbjpogeemajhoaaGreat.Or
open Go Go.RowKit
open Go.Sort (HoldsK putRowK get_flatK size_flatK)

/-- falling -/
def cfx (x y : Fx) : Int := cmp y.f x.f
theorem swoF : Sort.SWO (ltOf cfx) where
  irrefl x := by show decide (cmp x.f x.f < 0) = false; simp [cmp_neg, under_irr]
  trans x y z h g := by
    change decide (cmp y.f x.f < 0) = true at h
    change decide (cmp z.f y.f < 0) = true at g
    show decide (cmp z.f x.f < 0) = true
    simp only [decide_eq_true_eq, cmp_neg] at *
    exact under_tra g h
  ntrans x y z h g := by
    change decide (cmp y.f x.f < 0) = false at h
    change decide (cmp z.f y.f < 0) = false at g
    show decide (cmp z.f x.f < 0) = false
    simp only [decide_eq_false_iff_not, cmp_neg] at *
    intro k
    rcases under_tri y.f x.f with q | q | q
    · exact h q
    · exact g ((like_under q.1 q.2).2 k)
    · exact g (under_tra k q)
theorem div3 (i : Nat) : (i * 3) / 3 = i ∧ (i * 3) % 3 = 0 ∧ (i * 3 + 1) / 3 = i ∧ (i * 3 + 1) % 3 = 1 ∧ (i * 3 + 2) / 3 = i ∧ (i * 3 + 2) % 3 = 2 := by omega
/-- facts in a row from a block's beginning on -/
structure FRow (w : World) (g : Nat) (d : Array Fx) : Prop where
  at_ : ∀ i, i < d.size → w.cell? ⟨g, i * 3, none⟩ = some (.string d[i]!.f.id) ∧ w.cell? ⟨g, i * 3 + 1, none⟩ = some (.int .i64 d[i]!.f.high) ∧ w.cell? ⟨g, i * 3 + 2, none⟩ = some (.slice d[i]!.pa d[i]!.f.pars.length d[i]!.pc)
  free : ∀ i, i < d.size * 3 → w.frozen? ⟨g, i, none⟩ = false
theorem holds_of_row {w : World} {g : Nat} {d : Array Fx} (h : FRow w g d) : HoldsK Fx.cells 3 w g 0 d := by
  intro j hj
  rw [size_flatK] at hj
  rw [get_flatK _ _ _ _ hj]
  have hq := h.at_ (j / 3) (by omega)
  have hfr := h.free j hj
  rw [Nat.zero_add]
  have hj3 : j = j / 3 * 3 ∧ j % 3 = 0 ∨ j = j / 3 * 3 + 1 ∧ j % 3 = 1 ∨ j = j / 3 * 3 + 2 ∧ j % 3 = 2 := by omega
  rcases hj3 with ⟨e, m⟩ | ⟨e, m⟩ | ⟨e, m⟩
  · rw [m]; have k := hq.1; rw [← e] at k; exact ⟨k, hfr⟩
  · rw [m]; have k := hq.2.1; rw [← e] at k; exact ⟨k, hfr⟩
  · rw [m]; have k := hq.2.2; rw [← e] at k; exact ⟨k, hfr⟩
theorem row_of_holds {w : World} {g : Nat} {d : Array Fx} (h : HoldsK Fx.cells 3 w g 0 d) : FRow w g d := by
  have key : ∀ t, t < d.size * 3 → w.cell? ⟨g, t, none⟩ = some ((Fx.cells d[t / 3]!)[t % 3]!) ∧ w.frozen? ⟨g, t, none⟩ = false := fun t ht => by
    have := h t (by rw [size_flatK]; exact ht)
    rw [get_flatK _ _ _ _ ht, Nat.zero_add] at this
    exact this
  refine ⟨fun i hi => ⟨?_, ?_, ?_⟩, fun i hi => (key i hi).2⟩
  · have := (key (i * 3) (by omega)).1; rw [(div3 i).1, (div3 i).2.1] at this; exact this
  · have := (key (i * 3 + 1) (by omega)).1; rw [(div3 i).2.2.1, (div3 i).2.2.2.1] at this; exact this
  · have := (key (i * 3 + 2) (by omega)).1; rw [(div3 i).2.2.2.2.1, (div3 i).2.2.2.2.2] at this; exact this
theorem sortedK_below (w : World) (g m : Nat) (d : Array Fx) (os : Array Go.Obj) (hb : g ≤ w.heap.size) : Below g w (sortWorldK Fx.cells 3 w g 0 m d os) := by
  refine ⟨rfl, rfl, rfl, ?_, fun k hk => ?_⟩
  · exact size_sortWorldK_c _ _ _ _ _ _ _ _
  · unfold sortWorldK putRowK
    rw [Sort.heap_grow_old _ _ (by rw [Sort.size_putRow]; show k < w.heap.size; omega)]
    simp only [Sort.putRow, Sort.mapBlock, Array.getElem?_modify]
    rw [if_neg (by omega)]
    rfl
theorem aggF (w : World) : (isAgg 28).run Tryz.prog w = .ok true w := by go_simp
theorem sizeF (w : World) : (Go.sizeOf 28).run Tryz.prog w = .ok 3 w := by go_simp
set_option maxRecDepth 100000 in
set_option maxHeartbeats 2000000 in
/-- sorted falling -/
theorem sort_calls (g cap : Nat) (d : Array Fx) (w : World) (hR : FRow w g d) (hg : g < w.heap.size) (hd : d.size ≤ 1000000) :
    Calls Tryz.prog 69 #[.slice (some ⟨g, 0, none⟩) d.size cap, .func (.func 52) #[] #[]] w fun e w' => e = .returned (.tuple #[]) ∧ (∃ d' : Array Fx, d'.size = d.size ∧ FRow w' g d' ∧ d'.toList.Perm d.toList ∧ ∀ i j, i < j → j < d'.size → ¬ under d'[i]!.f d'[j]!.f) ∧ Below g w w' := by
  have hs := AnyQ.slices_SortFunc Tryz.sortF 3 aggF sizeF Fx.cells (fun _ => rfl) (fun x v hv => by simp [Fx.cells] at hv; rcases hv with rfl | rfl | rfl <;> rfl) cfx swoF 52 #[] g 0 cap d w
    (enters_of Tryz.func52 (by kernel_rfl) rfl)
    (fun m os dk _ x y => turned_calls x y _) (holds_of_row hR) hg (by omega)
  change Calls Tryz.prog 69 _ _ _ at hs
  refine hs.mono ?_
  rintro e w' ⟨rfl, d', n, os, hp, hso, rfl⟩
  obtain ⟨h1, _, h3⟩ := hp
  have e1 : d.extract 0 d.size = d := by simp
  have e2 : d'.extract 0 d.size = d' := by rw [← h1]; simp
  rw [e1, e2] at h3
  refine ⟨rfl, ⟨d', h1, row_of_holds (holdsK_sortWorldK_c Fx.cells 3 w g 0 d d' n os (holds_of_row hR) hg h1), h3, fun i j hij hj => ?_⟩, sortedK_below w g n d' os (Nat.le_of_lt hg)⟩
  have := hso i j (Nat.zero_le _) hij (by omega)
  change decide (cmp d'[i]!.f d'[j]!.f < 0) = false at this
  simpa only [decide_eq_false_iff_not, cmp_neg] using this
theorem sort_none (a : Option Addr) (cap : Nat) (f : Value) (w : World) : Calls Tryz.prog 69 #[.slice a 0 cap, f] w fun e w' => e = .returned (.tuple #[]) ∧ w' = w :=
  AnyF.slices_SortFunc_none Tryz.sortF a cap f w
/-- sorted facts fall -/
theorem falls_of {d : Array Fx} {F : List Fx} (hn : (F.map fun y => y.f.id).Nodup) (hp : d.toList.Perm F) (h : ∀ i j, i < j → j < d.size → ¬ under d[i]!.f d[j]!.f) : d.toList.Pairwise fun a b => under b.f a.f := by
  rw [List.pairwise_iff_getElem]
  intro i j hi hj hij
  have hid : (d.toList.map fun y => y.f.id).Nodup := (hp.map fun y => y.f.id).nodup_iff.2 hn
  have hij' := h i j hij (by simpa using hj)
  rw [getElem!_pos d i (by simpa using hi), getElem!_pos d j (by simpa using hj)] at hij'
  simp only [Array.getElem_toList]
  rcases under_tri d[i].f d[j].f with q | q | q
  · exact absurd q hij'
  · have := List.pairwise_iff_getElem.1 hid i j (by simpa using hi) (by simpa using hj) hij
    simp at this
    exact absurd q.2 this
  · exact q
set_option maxRecDepth 100000 in
set_option maxHeartbeats 2000000 in
theorem SortedFunc_calls (w : World) (B : Nat) (m : Option Nat) (F : List Fx) (hB : w.cell? ⟨B, 0, none⟩ = some (.map m)) (hM : IsMap w m F) (hF : F.length ≤ 1000000) :
    Calls Tryz.prog 50 #[.func (.func 70) #[] #[.pointer (some ⟨B, 0, none⟩)], .func (.func 52) #[] #[]] w fun e w' =>
      ∃ a cap b G, e = .returned (.slice a G.length cap) ∧ FxsAt w' a b 0 G ∧ G.Perm F ∧ G.Pairwise (fun a b => under b.f a.f) ∧ Below w.heap.size w w' := by
  have hA := Lib.hid (AppendSeq_calls w B m F hF hB hM)
  have hnod := Lib.hid hM.nodup
  clear hB hM
  have hC : Hid (Calls Tryz.prog 68 #[.func (.func 70) #[] #[.pointer (some ⟨B, 0, none⟩)]] w fun e w' => ∃ u G, e = .returned u ∧ OwnX w.heap.size w' u G ∧ G.Perm F ∧ Below w.heap.size w w') := Lib.hid (by
    go_enter Tryz.func68, Tryz.ntmps68
    go_wp2_with fail
    refine hA.out.mono ?_
    rintro e w' ⟨u, G, rfl, h1, h2, h3⟩
    go_wp2
    go_ret
    exact ⟨u, G, rfl, h1, h2, h3⟩)
  clear hA
  go_enter Tryz.func50, Tryz.ntmps50
  go_wp2_with fail
  refine hC.out.mono ?_
  rintro e w1 ⟨u, G, rfl, hO, hP, b1⟩
  have hGl : G.length ≤ 1000000 := by rw [hP.length_eq]; exact hF
  by_cases h0 : G.length = 0
  · obtain rfl : G = [] := List.length_eq_zero_iff.1 h0
    obtain ⟨a, cap, b, off, rfl, _⟩ := hO.at_
    have hS := Lib.hid (sort_none a cap (.func (.func 52) #[] #[]) w1)
    replace hP := Lib.hid hP
    replace b1 := Lib.hid b1
    clear hO hC
    go_wp2_with fail
    refine hS.out.mono ?_
    rintro e w' ⟨rfl, rfl⟩
    go_wp2
    go_ret
    exact ⟨a, cap, 0, [], rfl, FxsAt.nil _ _ _ _, hP.out, List.Pairwise.nil, b1.out⟩
  · obtain ⟨g, cap, rfl, hcap, hBg, hg1, hR, hfr⟩ := hO.row (by omega)
    have hsz : G.toArray.size = G.length := by simp
    have hrow : FRow w1 g G.toArray := ⟨fun i hi => hR i _ (by
      rw [hsz] at hi
      rw [getElem!_pos G.toArray i (by rw [hsz]; exact hi), List.getElem?_eq_getElem hi]; rfl), fun i _ => hfr i⟩
    have hS := Lib.hid (sort_calls g cap G.toArray w1 hrow hg1 (by omega))
    rw [hsz] at hS
    have hBg' := Lib.hid hBg
    replace hP := Lib.hid hP
    replace b1 := Lib.hid b1
    clear hO hR hfr hrow hC h0
    go_wp2_with fail
    refine hS.out.mono ?_
    rintro e w2 ⟨rfl, ⟨d, hd, hR2, hp2, hs2⟩, b2⟩
    have hp3 := Lib.hid (hp2.trans (by simpa using hP.out))
    have hf3 := Lib.hid (falls_of hnod.out hp3.out hs2)
    have hl3 : Hid (G.length = d.toList.length) := Lib.hid (by simp [hd])
    have hat : Hid (FxsAt w2 (some ⟨g, 0, none⟩) g 0 d.toList) := Lib.hid ⟨fun _ => rfl, fun i x hx => by
      have hi := (List.getElem?_eq_some_iff.1 hx).1
      have hi' : i < d.size := by simpa using hi
      have := (hR2.at_ i hi').1
      rw [getElem!_pos d i hi'] at this
      rw [List.getElem?_eq_getElem hi] at hx
      simp at hx; subst hx; rw [Nat.zero_add]; exact this, fun i x hx => by
      have hi := (List.getElem?_eq_some_iff.1 hx).1
      have hi' : i < d.size := by simpa using hi
      have := (hR2.at_ i hi').2.1
      rw [getElem!_pos d i hi'] at this
      rw [List.getElem?_eq_getElem hi] at hx
      simp at hx; subst hx; rw [Nat.zero_add]; exact this, fun i x hx => by
      have hi := (List.getElem?_eq_some_iff.1 hx).1
      have hi' : i < d.size := by simpa using hi
      have := (hR2.at_ i hi').2.2
      rw [getElem!_pos d i hi'] at this
      rw [List.getElem?_eq_getElem hi] at hx
      simp at hx; subst hx; rw [Nat.zero_add]; exact this⟩
    replace b2 := Lib.hid (b1.out.trans (b2.mono hBg'.out))
    clear hS hR2 hp2 hs2
    go_wp2
    go_ret
    exact ⟨_, cap, g, d.toList, by rw [← hl3.out]; rfl, hat.out, hp3.out, hf3.out, b2.out⟩
theorem ids_snoc {G : List Fx} {k : Nat} {y : Fx} (h : G[k]? = some y) : (G.take (k + 1)).map (fun y => y.f.id) = (G.take k).map (fun y => y.f.id) ++ [y.f.id] := by rw [List.take_add_one, h]; simp
set_option maxRecDepth 100000 in
set_option maxHeartbeats 2000000 in
/-- falling -/
theorem falling_calls (w : World) (m : Option Nat) (F : List Fx) (hM : IsMap w m F) (hF : F.length ≤ 1000000) :
    Calls Tryz.prog 22 #[.map m] w fun e w' => ∃ v, e = .returned v ∧ ∃ G : List Fx, OwnT w.heap.size w' v (G.map fun y => y.f.id) ∧ G.Perm F ∧ G.Pairwise (fun a b => under b.f a.f) ∧ Below w.heap.size w w' := by
  have hV := Lib.hid (Values_calls w m)
  have hA := Lib.hid (b_alloc w (.cells #[.map m] 58))
  have hS := Lib.hid (SortedFunc_calls (w.alloc (.cells #[.map m] 58)) w.heap.size m F (Boxed.new w _ _).cell (hM.next hA.out) hF)
  clear hM
  go_enter Tryz.func22, Tryz.ntmps22
  go_wp2_with fail
  refine hV.out.mono ?_
  rintro e w1 ⟨rfl, rfl⟩
  generalize w.alloc (.cells #[.map m] 58) = w1 at *
  clear hV
  go_wp2_with fail
  refine hS.out.mono ?_
  rintro e w2 ⟨a, cap, b, G, rfl, hat, hP, hfl, b2⟩
  replace hP := Lib.hid hP
  replace hfl := Lib.hid hfl
  replace hat := Lib.hid hat
  have hb := Lib.hid (b_then hA.out b2)
  have hGl : G.length ≤ 1000000 := by rw [hP.out.length_eq]; exact hF
  obtain ⟨n, hn⟩ : ∃ n : Nat, n = G.length := ⟨_, rfl⟩
  rw [← hn] at hGl ⊢
  replace hn := Lib.hid hn
  have hcell : Hid (∀ k, k < n → ∃ y, G[k]? = some y) := Lib.hid fun k hk => by
    have := hn.out
    exact ⟨G[k], List.getElem?_eq_getElem (by omega)⟩
  have hend : Hid ((G.take n).map (fun y => y.f.id) = G.map fun y => y.f.id) := Lib.hid (by rw [hn.out, List.take_length])
  have hlen : Hid (∀ k, k ≤ n → ((G.take k).map fun y => y.f.id).length ≤ 1099511627776) := Lib.hid fun k hk => by rw [List.length_map, List.length_take]; have := hn.out; omega
  clear hS b2 hA hF
  go_upto_region 3 with (fail)
  go_loopw [3, 10] (fun v i wr => ∃ k : Nat, k ≤ n ∧ i = .int .i64 k ∧ OwnT w2.heap.size wr v ((G.take k).map fun y => y.f.id) ∧ Below w2.heap.size w2 wr) (fun _ i _ => n - (intOf i).toNat)
  case atStart => exact ⟨0, Nat.zero_le _, rfl, OwnT.nil _ _, Below.refl _ _⟩
  case round =>
    obtain ⟨k, hk, rfl, hown, hb2⟩ := hrel
    by_cases hlt : k < n
    · obtain ⟨y, hy⟩ := hcell.out k hlt
      have hat2 := hat.out.below hb2 (fun h0 => hat.out.where_ h0)
      have c0 := hat2.id k y hy
      have c1 := hat2.high k y hy
      have c2 := hat2.pars k y hy
      rw [Nat.zero_add] at c0 c1 c2
      obtain rfl := hat.out.addr (by have := hn.out; omega)
      have hlt1 : (k : Int) < n := by omega
      have hlt0 : 0 ≤ (k : Int) := by omega
      have hwk : wrap64 ((k : Int) + 1) = ((k + 1 : Nat) : Int) := wrap_next k (by omega)
      have hms : Hid (n - (k + 1) < n - k) := Lib.hid (by omega)
      have hkl : Hid (k + 1 ≤ n) := Lib.hid hlt
      have hns := Lib.hid (ids_snoc hy)
      have hX := FxBlk.new wr y
      have hA := b_alloc wr (.cells #[.string y.f.id, .int .i64 y.f.high, .slice y.pa y.f.pars.length y.pc] 28)
      have hl2 := hlen.out k (Nat.le_of_lt hlt)
      have hown2 := hown.next hA
      have hbs : Hid (w2.heap.size ≤ (wr.alloc (.cells #[.string y.f.id, .int .i64 y.f.high, .slice y.pa y.f.pars.length y.pc] 28)).heap.size) := Lib.hid (Nat.le_trans hb2.size hA.size)
      have hb22 := Lib.hid (b_next hb2 hA (Nat.le_refl _))
      generalize (G.take k).map (fun y => y.f.id) = T at *
      obtain ⟨ga, gc, rfl⟩ := hown2.box
      clear hat2 hlt hk hy hA hown hb2
      go_upto_region 5 with (fail)
      generalize wr.alloc (.cells #[.string y.f.id, .int .i64 y.f.high, .slice y.pa y.f.pars.length y.pc] 28) = w3 at *
      clear c0 c1 c2
      obtain ⟨d0, d1, d2⟩ := hX.cell
      go_wp2_with (first
        | (at_builtin; refine wp_append_tx rfl _ _ rfl w2.heap.size (.slice ga T.length gc) T y.f.id rfl rfl hown2 hbs.out hl2 ?_; intro v' w' ho' hg')
        | go_in)
      go_roundw
      case measure => simp [intOf]; exact hms.out
      case rel => exact ⟨k + 1, hkl.out, by simp, by rw [hns.out]; exact ho', hg' _ hb22.out⟩
    · obtain rfl : k = n := by omega
      have d0 : ¬ (k : Int) < k := by omega
      rw [hend.out] at hown
      clear hlt
      go_wp2
      go_ret
      exact ⟨_, rfl, G, hown.mono hb.out.size, hP.out, hfl.out, b_next hb.out hb2 (Nat.le_refl _)⟩
end Go.Proofs.YtbjpogeemajhoaaGreat.Or
