/-
  The statements' first look answers true; 'great' tells a list that is more than is asked; the tables are what the rows list; an argument of texts opened. Conditions: none.
-/
import Derived.Test.YtliojhhiadfmiaaDoorRows
import Derived.Test.YtliojhhiadfmiaaDoorPkOwn
import Derived.Test.YtliojhhiadfmiaaDoorPkBack
import Derived.Test.YtliojhhiadfmiaaDoorPkMake
import Derived.Test.YtliojhhiadfmiaaDoorPkItems
import Derived.Test.YtliojhhiadfmiaaDoorPkFind
import Derived.Test.YtliojhhiadfmiaaDoorOctKit
import Derived.WalkKit
import Derived.WalkSpells
import Derived.WalkLawsBesides
import Derived.ProofKit
import Derived.OpenShut
import Derived.Laws.BytesArg
import Derived.Laws.Externs
import Derived.Deep.QuietTactic
import Derived.BigQuiet
import Derived.BigRegion
import Derived.Lib.Hide
import Derived.IntWalk
import Derived.Deep.LoopGhost
import Derived.LaidMore
import Derived.Stop.Joined
import Derived.MakeChecks
import Derived.Handy
namespace Go.Proofs.YtliojhhiadfmiaaDoor.Pk
open Go Go.RowKit Go.ChangeShapes Go.WideShapes Go.ChangeAt
open Oct (empty num4 num4_size)

/-! ### the tables -/
theorem g0 : Tryd.prog.globalNamed ((Rows.packMakesRow.laid.map Prod.fst).headD Rows.packMakesRow.func) = some 2 := by kernel_rfl
theorem g1 : Tryd.prog.globalNamed ((Rows.packMakesRow.laid.map Prod.fst).getD 1 Rows.packMakesRow.func) = some 3 := by kernel_rfl
theorem g2 : Tryd.prog.globalNamed ((Rows.packMakesRow.laid.map Prod.fst).getD 2 Rows.packMakesRow.func) = some 0 := by kernel_rfl
theorem t0 : (Tryd.prog.globals[2]?).map (·.type) = some 140 := by kernel_rfl
theorem t1 : (Tryd.prog.globals[3]?).map (·.type) = some 140 := by kernel_rfl
theorem t2 : (Tryd.prog.globals[0]?).map (·.type) = some 86 := by kernel_rfl
theorem cells32 : Tryd.prog.cellsOf 58 = 1 := by kernel_rfl
theorem laid0 : (Rows.laid_reliquary_crc_lower : DataW Unit) = .agg (Crc.lower.map fun x => .lit (.int .u32 (Sha.u x))) := by kernel_rfl
theorem laid1 : (Rows.laid_reliquary_crc_upper : DataW Unit) = .agg (Crc.upper.map fun x => .lit (.int .u32 (Sha.u x))) := by kernel_rfl
theorem laid2 : (Rows.laid_reliquary_sha_constants : DataW Unit) = .agg (Sha.ks.map fun x => .lit (.int .u32 (Sha.u x))) := by kernel_rfl
/-- a variable of words, read off what the rows list -/
theorem arr_cells {W : World} {g m : Nat} {ty : TypeId} {cs : Array Value} {fuel : Nat} {pl : List MemPlace} {D : DataW Unit} (hty : Tryd.prog.underlying ty = some (.array m 58)) (l : List UInt32) (hl : l.length = m) (hD : D = .agg (l.map fun x => .lit (.int .u32 (Sha.u x))))
    (hc : ∀ t, W.cell? ⟨g, t, none⟩ = cs[t]?) (hd : DataW.trod (fun _ => ()) Tryd.prog W 0 (fun _ => true) false fuel ty cs.toList = some (D, pl)) (t : Nat) (ht : t < m) :
    W.cell? ⟨g, t, none⟩ = some (.int .u32 (Sha.u (l.getD t 0))) := by
  obtain ⟨xs, m1, rfl, hx1, hlen, hn, hel⟩ := DataW.trod_array hty hd
  rw [hD] at hx1
  simp only [Prod.mk.injEq, DataW.agg.injEq] at hx1
  have hx := hx1.1
  have he := hel t ht
  rw [cells32, Nat.mul_one] at he
  have hxt : xs[t]? = some (xs[t]'(by omega)) := List.getElem?_eq_getElem (by omega)
  rw [hxt] at he
  obtain ⟨n, e1, e2, _⟩ := DataW.trod_int Tryd.underlying58 he
  rw [hc t]
  have e3 : cs.toList[t]? = some (.int .u32 n) := by
    have := congrArg List.head? e1
    rw [List.head?_take, if_neg (by decide), List.head?_drop] at this
    exact this
  have e4 : cs[t]? = some (.int .u32 n) := by rw [← Array.getElem?_toList]; exact e3
  rw [e4]
  have e5 := congrArg (fun l => l[t]?) hx
  simp only [List.getElem?_map, hxt, Option.map_some, e2] at e5
  have hkl : t < l.length := by omega
  rw [List.getElem?_eq_getElem hkl] at e5
  simp only [Option.map_some, Option.some.injEq, DataW.lit.injEq, Lit.int.injEq, true_and] at e5
  rw [List.getD_eq_getElem?_getD, List.getElem?_eq_getElem hkl, Option.getD_some, ← e5]
theorem ev_of_laid {W : World} (h : laidMetH Tryd.prog Rows.packMakesRow.laid W) : Ev W := by
  rw [MakeChecks.laidMetH_plain _ _ _ (by kernel_rfl)] at h
  obtain ⟨ps, ⟨n0, ty0, cs0, f0, p0, q0, hg0, ht0, hv0, hd0, ⟨n1, ty1, cs1, f1, p1, q1, hg1, ht1, hv1, hd1, ⟨n2, ty2, cs2, f2, p2, q2, hg2, ht2, hv2, hd2, _⟩, _⟩, _⟩, _, _⟩ := h
  obtain rfl := Option.some.inj (g0.symm.trans hg0)
  obtain rfl := Option.some.inj (t0.symm.trans ht0)
  obtain rfl := Option.some.inj (g1.symm.trans hg1)
  obtain rfl := Option.some.inj (t1.symm.trans ht1)
  obtain rfl := Option.some.inj (g2.symm.trans hg2)
  obtain rfl := Option.some.inj (t2.symm.trans ht2)
  have c0 := World.var?_cell hg0 hv0
  have c1 := World.var?_cell hg1 hv1
  have c2 := World.var?_cell hg2 hv2
  exact ⟨⟨arr_cells Tryd.underlying86 Sha.ks rfl laid2 c2 hd2⟩, ⟨arr_cells Tryd.underlying140 Crc.lower rfl laid0 c0 hd0, arr_cells Tryd.underlying140 Crc.upper rfl laid1 c1 hd1⟩⟩

/-! ### an argument of texts -/
def txs (len : Nat) (T : Nat → ByteArray) : List ByteArray := (List.range len).map T
theorem txs_length (len : Nat) (T : Nat → ByteArray) : (txs len T).length = len := by simp [txs]
theorem txs_at {w : World} {a : Option Addr} {b off len : Nat} {T : Nat → ByteArray} (h : Oct.TextsAt w a b off len T) : TxAt w a b off (txs len T) := by
  refine ⟨fun h0 => h.addr (by rw [txs_length] at h0; exact h0), fun i s he => ?_⟩
  have hi : i < len := by have := (List.getElem?_eq_some_iff.1 he).1; rw [txs_length] at this; exact this
  have : s = T i := by
    simp [txs, hi] at he
    exact he.symm
  rw [this]
  exact h.cell i hi
theorem txs_size {w : World} {a : Option Addr} {b off len : Nat} {T : Nat → ByteArray} (h : Oct.TextsAt w a b off len T) : ∀ s ∈ txs len T, s.size ≤ 140737488351232 := fun s hs => by
  obtain ⟨i, _, rfl⟩ := List.mem_map.1 hs
  exact h.size i

/-! ### great -/
def Says (l : List ByteArray) (e : Ending) : Prop := ∃ g : Bool, e = .returned (.bool g) ∧ (g = false → l.length ≤ 60 ∧ sumB l ≤ 262144)
theorem Says.yes (l : List ByteArray) : Says l (.returned (.bool true)) := ⟨true, rfl, fun h => by cases h⟩
theorem Says.of {l : List ByteArray} {g : Bool} (h : g = false → l.length ≤ 60 ∧ sumB l ≤ 262144) : Says l (.returned (.bool g)) := ⟨g, rfl, h⟩
theorem sumB_next {l : List ByteArray} {k : Nat} (h : k < l.length) : sumB (l.take (k + 1)) = sumB (l.take k) + l[k].size := by
  rw [take_next h, sumB_append]
  simp [sumB]
set_option maxRecDepth 100000 in
set_option maxHeartbeats 1000000 in
theorem great_calls (a : Option Addr) (cap b off : Nat) (l : List ByteArray) (w : World) (hT : TxAt w a b off l) (hl : l.length ≤ 140737488351232) (hs : ∀ s ∈ l, s.size ≤ 140737488351232) :
    Calls Tryd.prog 11 #[.slice a l.length cap] w fun e w' => Says l e ∧ w = w' := by
  replace hT := Lib.hid hT
  replace hs := Lib.hid hs
  by_cases h60 : 60 < l.length
  · have j0 : (60 : Int) < l.length := by omega
    go_enter Tryd.func11, Tryd.ntmps11
    go_wp2
    go_ret
    exact ⟨Says.yes _, rfl⟩
  · have j0 : decide ((60 : Int) < l.length) = false := decide_eq_false (by omega)
    have j1 : (l.length : Int) ≤ 60 := by omega
    go_enter Tryd.func11, Tryd.ntmps11
    go_wp2
    go_loopw [3, 4] (fun v i wr => ∃ k n : Nat, k ≤ l.length ∧ i = .int .i64 k ∧ v = .int .i64 n ∧ Hid (n = sumB (l.take k)) ∧ n ≤ 1048576 ∧ wr = w) (fun _ i _ => l.length - (intOf i).toNat)
    case atStart => exact ⟨0, 0, by omega, rfl, rfl, Lib.hid rfl, by omega, rfl⟩
    case round =>
      obtain ⟨k, n, hk, rfl, rfl, hn, hnb, rfl⟩ := hrel
      by_cases hlt : k < l.length
      · have i1 : (k : Int) < l.length := by omega
        have i0 : 0 ≤ (k : Int) := by omega
        obtain rfl := hT.out.addr (by omega)
        have c0 := hT.out.cell k _ (List.getElem?_eq_getElem hlt)
        have hnx : Hid (n + l[k].size = sumB (l.take (k + 1))) := Lib.hid (by rw [sumB_next hlt, ← hn.out])
        have hsz := hs.out _ (List.getElem_mem hlt)
        generalize l[k] = s at *
        by_cases hb : 1048576 < n + s.size
        · have q0 : (1048576 : Int) < n + s.size := by omega
          go_wp2
          go_ret
          exact ⟨Says.yes _, rfl⟩
        · have q0 : decide ((1048576 : Int) < n + s.size) = false := decide_eq_false (by omega)
          have q1 : (n : Int) + s.size ≤ 1048576 := by omega
          have q2 : decide (1048576 < n + s.size) = false := decide_eq_false hb
          go_wp2
          exact ⟨⟨k + 1, n + s.size, by omega, by go_num, by go_num, hnx, by omega, trivial⟩, by simp [intOf]; omega⟩
      · have d0 : decide ((k : Int) < l.length) = false := decide_eq_false (by omega)
        have d1 : (l.length : Int) ≤ k := by omega
        obtain rfl : k = l.length := by omega
        rw [List.take_length] at hn
        go_wp2
        go_ret
        refine ⟨Says.of fun h => ⟨by omega, ?_⟩, rfl⟩
        rw [← hn.out]
        have := of_decide_eq_false h
        omega

/-! ### the first look -/
def hi3 : ByteArray := ⟨#[1, 104, 105]⟩
theorem mk_hi : mk [hi3] = (pack [itm hi3], 0) := mk_one [hi3] (by decide) (by intro s hs; rw [List.mem_singleton] at hs; subst hs; decide) (by simp [One])
theorem good_hi : Good [itm hi3] := made_good (l := [hi3]) (by rw [mk_hi]) (by decide) (by decide)
theorem pack_hi_size : (pack [itm hi3]).size = 1115 := by
  rw [pack_size _ good_hi.id32]; rfl
theorem pack_hi_head : (pack [itm hi3]).extract 0 12 = ⟨#[114, 101, 108, 105, 99, 48, 48, 49, 1, 0, 0, 0]⟩ := by
  have e : pack [itm hi3] = (title ++ num4 (1 : Nat)) ++ (fanB (ids [itm hi3]) 256 ++ (idxB 0 [itm hi3] ++ (dataB [itm hi3] ++ dig (body [itm hi3])))) := pack_four _
  have := Oct.extract_append_left (title ++ num4 (1 : Nat)) (fanB (ids [itm hi3]) 256 ++ (idxB 0 [itm hi3] ++ (dataB [itm hi3] ++ dig (body [itm hi3]))))
  rw [← e] at this
  exact this.trans (by kernel_rfl)
theorem rd_hi : rd (pack [itm hi3]) = ([itm hi3], 0) := rd_pack good_hi
theorem fnd_hi : fnd (pack [itm hi3]) (dig hi3) = (hi3, true, 0) := fnd_there good_hi (itm hi3) (by simp)
theorem rd_x : rd ⟨#[120]⟩ = ([], 3) := rd_short (by decide)
theorem Tx_one (w : World) (s : ByteArray) : TxAt (w.alloc (.cells #[.string s] 9)) (some ⟨w.heap.size, 0, none⟩) w.heap.size 0 [s] :=
  ⟨fun _ => rfl, fun i x he => by
    match i, he with
    | 0, he => simp at he; subst he; simp
    | i + 1, he => simp at he⟩
set_option maxRecDepth 100000 in
set_option maxHeartbeats 2000000 in
theorem awake_calls (w : World) (he : Ev w) : Calls Tryd.prog 10 #[] w fun e w' => e = .returned (.bool true) ∧ Below w.heap.size w w' := by
  have hB := Lib.hid (b_alloc w (.cells #[.string hi3] 9))
  have hM := Lib.hid fun he => Make_calls (some ⟨w.heap.size, 0, none⟩) 1 w.heap.size 0 [hi3] (w.alloc (.cells #[.string hi3] 9)) (Tx_one w hi3) he (by decide) (by decide)
  rw [mk_hi] at hM
  have hM0 := Lib.hid fun w he => Make_calls none 0 0 0 [] w (TxAt.nil w none) he (by decide) (by decide)
  rw [mk_none] at hM0
  have hR := Lib.hid fun w he => Read_calls (pack [itm hi3]) w (by rw [pack_hi_size]; decide) he
  rw [rd_hi] at hR
  have hRx := Lib.hid fun w he => Read_calls ⟨#[120]⟩ w (by decide) he
  rw [rd_x] at hRx
  have hF := Lib.hid fun w he => Find_calls (pack [itm hi3]) (dig hi3) w he (by rw [pack_hi_size]; decide)
  rw [fnd_hi] at hF
  have hz := pack_hi_size
  have hh := pack_hi_head
  generalize pack [itm hi3] = P at *
  replace he := Lib.hid he
  have hz1 : ((P.size : Int) != 1115) = false := by rw [hz]; rfl
  have hz2 : (12 : Int) ≤ P.size := by rw [hz]; decide
  replace hz := Lib.hid hz
  have hl3 : hi3.toList = [1, 104, 105] := by rw [ByteArray.toList_eq]; rfl
  go_enter Tryd.func10, Tryd.ntmps10
  go_wp2_with fail
  refine (hM.out (he.out.next hB.out)).mono ?_
  rintro e w2 ⟨rfl, bb⟩
  replace hB := Lib.hid (below_next hB.out bb)
  clear bb hM
  go_wp2_with fail
  refine (hR.out _ (he.out.next hB.out)).mono ?_
  rintro e w3 ⟨⟨a, cap, b, off, rfl, hI⟩, bb⟩
  replace hB := Lib.hid (below_next hB.out bb)
  replace hI := Lib.hid hI
  clear bb hR
  go_wp2_with fail
  refine (hM0.out _ (he.out.next hB.out)).mono ?_
  rintro e w4 ⟨rfl, bb⟩
  replace hB := Lib.hid (below_next hB.out bb)
  replace hI := Lib.hid (hI.out.next bb)
  clear bb hM0
  go_wp2_with fail
  refine (hRx.out _ (he.out.next hB.out)).mono ?_
  rintro e w5 ⟨⟨a2, cap2, b2, off2, rfl, _⟩, bb⟩
  replace hB := Lib.hid (below_next hB.out bb)
  replace hI := Lib.hid (hI.out.next bb)
  clear bb hRx
  obtain rfl := hI.out.addr (by decide)
  have c0 : w5.cell? ⟨b, off, none⟩ = some (.string (dig hi3)) := hI.out.id 0 (itm hi3) rfl
  have c1 : w5.cell? ⟨b, off + 1, none⟩ = some (.string hi3) := hI.out.dat 0 (itm hi3) rfl
  go_wp2_with fail
  refine (hF.out _ (he.out.next hB.out)).mono ?_
  rintro e w6 ⟨rfl, bb⟩
  replace hB := Lib.hid (below_next hB.out bb)
  clear bb hF c0 c1
  go_wp2
  go_ret
  exact ⟨rfl, hB.out⟩
end Go.Proofs.YtliojhhiadfmiaaDoor.Pk
