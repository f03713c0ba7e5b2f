/-
  The statements' own first look (awake) answers true: checks that the document fixes, reckoned by the kernel; what the rows list of the two tables is what the walks ask, and the heap that the program's own initialisers leave meets it. Conditions: the tables lie where the program's text lays them.
-/
import Derived.Test.YtcjfphpieehhlaaDoorRows
import Derived.Test.YtcjfphpieehhlaaDoorCrcCalls
import Derived.WalkKit
import Derived.WalkSpells
import Derived.WalkLawsBesides
import Derived.ProofKit
import Derived.OpenShut
import Derived.Laws.BytesArg
import Derived.Deep.QuietTactic
import Derived.BigQuiet
import Derived.BigRegion
import Derived.Lib.Hide
import Derived.Deep.MidRow
import Derived.IntWalk
import Derived.LaidMore
import Derived.Stop.Joined
import Derived.MakeChecks
namespace Go.Proofs.YtcjfphpieehhlaaDoor.Crc
open Go.RowKit
open Sha (u)
set_option maxRecDepth 100000 in
theorem awake_none : sum (⟨#[]⟩ : ByteArray).data.toList = 0 := by kernel_rfl
set_option maxRecDepth 100000 in
theorem awake_nine : sum (⟨#[49, 50, 51, 52, 53, 54, 55, 56, 57]⟩ : ByteArray).data.toList = 3808858755 := by kernel_rfl
set_option maxRecDepth 100000 in
theorem awake_cut : more (sum (⟨#[49, 50, 51, 52]⟩ : ByteArray).data.toList) (⟨#[53, 54, 55, 56, 57]⟩ : ByteArray).data.toList = 3808858755 := by kernel_rfl
theorem lower_length : lower.length = 16 := rfl
theorem upper_length : upper.length = 16 := rfl
theorem laid0 : (Rows.laid_reliquary_crc_lower : DataW Unit) = .agg (lower.map fun x => .lit (.int .u32 (u x))) := by kernel_rfl
theorem laid1 : (Rows.laid_reliquary_crc_upper : DataW Unit) = .agg (upper.map fun x => .lit (.int .u32 (u x))) := by kernel_rfl
attribute [local irreducible] lower upper Tn feed run sum more
theorem awake_calls (w : World) (hk : Tb w) :
    Calls Tryd.prog 7 #[] w fun e w' => e = .returned (.bool true) ∧ ∃ m, w' = w.drewN m := by
  have e0 := Lib.hid (show u 0 = 0 from rfl)
  have e1 := Lib.hid (show u 3808858755 = 3808858755 from rfl)
  replace hk := Lib.hid hk
  go_enter Tryd.func7, Tryd.ntmps7
  go_wp2_with fail
  refine (Sum_calls ⟨#[]⟩ w hk.out (by decide)).mono ?_
  rw [awake_none, e0.out]
  rintro e w1 ⟨rfl, m1, rfl⟩
  go_wp2_with fail
  refine (Sum_calls ⟨#[49, 50, 51, 52, 53, 54, 55, 56, 57]⟩ _ (hk.out.drewN _) (by decide)).mono ?_
  rw [awake_nine, e1.out]
  rintro e w1 ⟨rfl, m2, rfl⟩
  go_wp2_with fail
  refine (Sum_calls ⟨#[49, 50, 51, 52]⟩ _ (hk.out.drewN _) (by decide)).mono ?_
  rintro e w1 ⟨rfl, m3, rfl⟩
  go_wp2_with fail
  refine (More_calls _ ⟨#[53, 54, 55, 56, 57]⟩ _ (hk.out.drewN _) (by decide)).mono ?_
  rw [awake_cut, e1.out]
  rintro e w1 ⟨rfl, m4, rfl⟩
  go_wp2
  go_ret
  exact ⟨rfl, _, rfl⟩
/-! ### what the rows list -/
theorem g0 : Tryd.prog.globalNamed ((Rows.crcSumsRow.laid.map Prod.fst).headD Rows.crcSumsRow.func) = some 0 := by kernel_rfl
theorem g1 : Tryd.prog.globalNamed ((Rows.crcSumsRow.laid.map Prod.fst).getD 1 Rows.crcSumsRow.func) = some 1 := by kernel_rfl
theorem t0 : (Tryd.prog.globals[0]?).map (·.type) = some 34 := by kernel_rfl
theorem t1 : (Tryd.prog.globals[1]?).map (·.type) = some 34 := by kernel_rfl
theorem cells32 : Tryd.prog.cellsOf 22 = 1 := by kernel_rfl
/-- a variable of 16 words, read off what the rows list -/
theorem arr_cells {W : World} {g : Nat} {cs : Array Value} {fuel : Nat} {pl : List MemPlace} {D : DataW Unit} (l : List UInt32) (hl : l.length = 16) (hD : D = .agg (l.map fun x => .lit (.int .u32 (u x))))
    (hc : ∀ t, W.cell? ⟨g, t, none⟩ = cs[t]?) (hd : DataW.trod (fun _ => ()) Tryd.prog W 0 (fun _ => true) false fuel 34 cs.toList = some (D, pl)) (t : Nat) (ht : t < 16) :
    W.cell? ⟨g, t, none⟩ = some (.int .u32 (u (l.getD t 0))) := by
  obtain ⟨xs, m1, rfl, hx1, hlen, hn, hel⟩ := DataW.trod_array Tryd.underlying34 hd
  rw [hD] at hx1
  simp only [Prod.mk.injEq, DataW.agg.injEq] at hx1
  have hx := hx1.1
  have he := hel t ht
  rw [cells32, Nat.mul_one] at he
  have hxt : xs[t]? = some (xs[t]'(by omega)) := List.getElem?_eq_getElem (by omega)
  rw [hxt] at he
  obtain ⟨n, e1, e2, _⟩ := DataW.trod_int Tryd.underlying22 he
  rw [hc t]
  have e3 : cs.toList[t]? = some (.int .u32 n) := by
    have := congrArg List.head? e1
    rw [List.head?_take, if_neg (by decide), List.head?_drop] at this
    exact this
  have e4 : cs[t]? = some (.int .u32 n) := by rw [← Array.getElem?_toList]; exact e3
  rw [e4]
  have e5 := congrArg (fun l => l[t]?) hx
  simp only [List.getElem?_map, hxt, Option.map_some, e2] at e5
  have hkl : t < l.length := by omega
  rw [List.getElem?_eq_getElem hkl] at e5
  simp only [Option.map_some, Option.some.injEq, DataW.lit.injEq, Lit.int.injEq, true_and] at e5
  rw [List.getD_eq_getElem?_getD, List.getElem?_eq_getElem hkl, Option.getD_some, ← e5]
theorem tb_of_laid {W : World} (h : laidMetH Tryd.prog Rows.crcSumsRow.laid W) : Tb W := by
  rw [MakeChecks.laidMetH_plain _ _ _ (by kernel_rfl)] at h
  obtain ⟨ps, ⟨n0, ty0, cs0, f0, p0, q0, hg0, ht0, hv0, hd0, ⟨n1, ty1, cs1, f1, p1, q1, hg1, ht1, hv1, hd1, _⟩, _⟩, _, _⟩ := h
  obtain rfl := Option.some.inj (g0.symm.trans hg0)
  obtain rfl := Option.some.inj (t0.symm.trans ht0)
  obtain rfl := Option.some.inj (g1.symm.trans hg1)
  obtain rfl := Option.some.inj (t1.symm.trans ht1)
  have c0 := World.var?_cell hg0 hv0
  have c1 := World.var?_cell hg1 hv1
  exact ⟨arr_cells lower lower_length laid0 c0 hd0, arr_cells upper upper_length laid1 c1 hd1⟩
theorem door_met (os : Os) (args : Array Value) : laidMetH Tryd.prog Rows.crcSumsRow.laid ((World.doorLaid Tryd.prog 19 os).forCall (fun _ _ => 0) ⟨#[], args, []⟩).memory :=
  laidMetH_of_parts3 (fuel := 8) (laidMet_of_run' 8 (by kernel_rfl) (by kernel_rfl)) (by kernel_rfl) (by kernel_rfl)
end Go.Proofs.YtcjfphpieehhlaaDoor.Crc
