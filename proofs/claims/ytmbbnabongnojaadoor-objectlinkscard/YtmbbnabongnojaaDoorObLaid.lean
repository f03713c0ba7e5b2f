/-
  What the rows list of the constants is what the walks ask; the heap that the program's own initialisers leave meets it. Conditions: none.
-/
import Derived.Test.YtmbbnabongnojaaDoorRows
import Derived.Test.YtmbbnabongnojaaDoorObAwake
import Derived.WalkKit
import Derived.WalkSpells
import Derived.WalkLawsBesides
import Derived.ProofKit
import Derived.OpenShut
import Derived.Laws.BytesArg
import Derived.Deep.QuietTactic
import Derived.BigQuiet
import Derived.BigRegion
import Derived.Lib.Hide
import Derived.LaidMore
import Derived.Stop.Joined
import Derived.MakeChecks
import Derived.Lib.Builder
import Derived.Lib.UnsafeStr
import Derived.Lib.AppendStr
import Derived.Laws.Externs
import Derived.Deep.OwnRows
import Derived.Lib.SlBuf
import Derived.Lib.LazyBuf
import Derived.Deep.Cut
import Derived.Deep.MidRow
import Derived.IntWalk
import Derived.StillTailTactics
namespace Go.Proofs.YtmbbnabongnojaaDoor.Sha
open Go.RowKit
/-- what the rows list of the constants: where the first variable lies, its type -/
theorem gK : Tryd.prog.globalNamed ((Rows.objectWritesRow.laid.map Prod.fst).headD Rows.objectWritesRow.func) = some 0 := by kernel_rfl
theorem tK : (Tryd.prog.globals[0]?).map (·.type) = some 96 := by kernel_rfl
theorem laidKs : (Rows.laid_reliquary_sha_constants : DataW Unit) = .agg (ks.map fun x => .lit (.int .u32 (u x))) := by kernel_rfl
theorem cells32 : Tryd.prog.cellsOf 62 = 1 := by kernel_rfl
theorem kc_of_laid {W : World} (h : laidMetH Tryd.prog Rows.objectWritesRow.laid W) : Kc W := by
  rw [MakeChecks.laidMetH_plain _ _ _ (by kernel_rfl)] at h
  obtain ⟨ps, ⟨g0, t0, cs0, f0, p0, q0, hg0, ht0, hv0, hd0, _⟩, _, _⟩ := h
  obtain rfl := Option.some.inj (gK.symm.trans hg0)
  obtain rfl := Option.some.inj (tK.symm.trans ht0)
  obtain ⟨xs, m1, rfl, hx1, hlen, hn, hel⟩ := DataW.trod_array Tryd.underlying96 hd0
  rw [laidKs] at hx1
  simp only [Prod.mk.injEq, DataW.agg.injEq] at hx1
  have hx := hx1.1
  refine ⟨fun t ht => ?_⟩
  have he := hel t ht
  rw [cells32, Nat.mul_one] at he
  have hxt : xs[t]? = some (xs[t]'(by omega)) := List.getElem?_eq_getElem (by omega)
  rw [hxt] at he
  obtain ⟨n, e1, e2, _⟩ := DataW.trod_int Tryd.underlying62 he
  have hc := World.var?_cell hg0 hv0 t
  rw [hc]
  have e3 : cs0.toList[t]? = some (.int .u32 n) := by
    have := congrArg List.head? e1
    rw [List.head?_take, if_neg (by decide), List.head?_drop] at this
    exact this
  have e4 : cs0[t]? = some (.int .u32 n) := by rw [← Array.getElem?_toList]; exact e3
  rw [e4]
  have e5 := congrArg (fun l => l[t]?) hx
  simp only [List.getElem?_map, hxt, Option.map_some, e2] at e5
  have hkl : t < ks.length := by show t < 64; exact ht
  rw [List.getElem?_eq_getElem hkl] at e5
  simp only [Option.map_some, Option.some.injEq, DataW.lit.injEq, Lit.int.injEq, true_and] at e5
  rw [List.getD_eq_getElem?_getD, List.getElem?_eq_getElem hkl, Option.getD_some, ← e5]
theorem door_met (os : Os) (args : Array Value) : laidMetH Tryd.prog Rows.objectWritesRow.laid ((World.doorLaid Tryd.prog 14 os).forCall (fun _ _ => 0) ⟨#[], args, []⟩).memory :=
  laidMetH_of_parts3 (fuel := 8) (laidMet_of_run' 8 (by kernel_rfl) (by kernel_rfl)) (by kernel_rfl) (by kernel_rfl)
end Go.Proofs.YtmbbnabongnojaaDoor.Sha
