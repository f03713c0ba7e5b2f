/-
  The function by which object's Links sorts tells two links apart as cmpL does; it makes memory and turns none. Conditions: none.
-/
import Derived.Test.YtmbbnabongnojaaDoorRows
import Derived.Test.YtmbbnabongnojaaDoorObPlain
import Derived.Test.YtmbbnabongnojaaDoorLkPlain
import Derived.Test.YtmbbnabongnojaaDoorPaLib
import Derived.Test.YtmbbnabongnojaaDoorObHave
import Derived.Test.YtmbbnabongnojaaDoorObSame
import Derived.Test.YtmbbnabongnojaaDoorOctKit
import Derived.WalkKit
import Derived.WalkSpells
import Derived.WalkLawsBesides
import Derived.ProofKit
import Derived.OpenShut
import Derived.Laws.BytesArg
import Derived.Laws.Externs
import Derived.Deep.QuietTactic
import Derived.BigQuiet
import Derived.BigRegion
import Derived.Lib.Hide
import Derived.IntWalk
import Derived.Deep.LoopGhost
import Derived.Deep.RegionHeld3
namespace Go.Proofs.YtmbbnabongnojaaDoor.Lk
open Go Go.RowKit Pa

set_option maxRecDepth 100000 in
theorem Or_calls (a c r : Int) (b : Nat) (w : World) (hr : (if a = 0 then c else a) = r) (h0 : w.cell? ⟨b, 0, none⟩ = some (.int .i64 a)) (h1 : w.cell? ⟨b, 1, none⟩ = some (.int .i64 c)) :
    Calls Tryd.prog 40 #[.slice (some ⟨b, 0, none⟩) 2 2] w fun e w' => e = .returned (.int .i64 r) ∧ w = w' := by
  subst hr
  by_cases ha : a = 0
  · subst ha
    rw [if_pos rfl]
    by_cases hc : c = 0
    · subst hc
      go_enter Tryd.func40, Tryd.ntmps40
      go_wp2
      go_loopw [5, 8] (fun _ i wr => ∃ k : Nat, k ≤ 2 ∧ i = .int .i64 k ∧ wr = w) (fun _ i _ => 2 - (intOf i).toNat)
      case atStart => exact ⟨0, by omega, rfl, rfl⟩
      case round =>
        obtain ⟨k, hk, rfl, rfl⟩ := hrel
        match k, hk with
        | 0, _ => go_wp2; exact ⟨⟨1, by omega, by go_num, trivial⟩, by simp [intOf]⟩
        | 1, _ => go_wp2; exact ⟨⟨2, by omega, by go_num, trivial⟩, by simp [intOf]⟩
        | 2, _ => go_wp2; go_ret; exact ⟨rfl, rfl⟩
    · have q1 : (c != 0) = true := by simpa using hc
      replace hc := Lib.hid hc
      go_enter Tryd.func40, Tryd.ntmps40
      go_wp2
      go_loopw [5, 8] (fun _ i wr => ∃ k : Nat, k ≤ 1 ∧ i = .int .i64 k ∧ wr = w) (fun _ i _ => 2 - (intOf i).toNat)
      case atStart => exact ⟨0, by omega, rfl, rfl⟩
      case round =>
        obtain ⟨k, hk, rfl, rfl⟩ := hrel
        match k, hk with
        | 0, _ => go_wp2; exact ⟨⟨1, by omega, by go_num, trivial⟩, by simp [intOf]⟩
        | 1, _ => go_wp2; go_ret; exact ⟨rfl, rfl⟩
  · rw [if_neg ha]
    have q1 : (a != 0) = true := by simpa using ha
    replace ha := Lib.hid ha
    go_enter Tryd.func40, Tryd.ntmps40
    go_wp2
    go_loopw [5, 8] (fun _ i wr => i = .int .i64 0 ∧ wr = w) (fun _ i _ => 2 - (intOf i).toNat)
    case atStart => exact ⟨rfl, rfl⟩
    case round =>
      obtain ⟨rfl, rfl⟩ := hrel
      go_wp2
      go_ret
      exact ⟨rfl, rfl⟩
theorem grown3 (W : World) (o p q : Go.Obj) : (((W.alloc o).alloc p).drew).alloc q = Sort.grow (W.drewN 1) #[o, p, q] := by
  unfold Sort.grow World.alloc World.drew World.drewN
  simp only [World.mk.injEq, and_true, true_and]
  apply Array.ext'
  simp
set_option maxRecDepth 100000 in
set_option maxHeartbeats 1000000 in
theorem cmp_calls (a b : Lnk) (W : World) :
    Calls Tryd.prog 39 #[.agg #[.int .i64 a.kind, .string a.id], .agg #[.int .i64 b.kind, .string b.id]] W fun e w' => e = .returned (.int .i64 (cmpL a b)) ∧ ∃ q os, w' = Sort.grow (W.drewN q) os := by
  obtain ⟨ak, ai⟩ := a
  obtain ⟨bk, bi⟩ := b
  unfold cmpL
  dsimp only
  obtain ⟨r, hr⟩ : ∃ r, r = (if cmpB ai.data.toList bi.data.toList = 0 then cmpI ak bk else cmpB ai.data.toList bi.data.toList) := ⟨_, rfl⟩
  rw [← hr]
  replace hr := Lib.hid hr
  have hI := Lib.hid fun w => CompareI_calls ak bk w
  have hS := Lib.hid fun w => CompareS_calls ai bi w
  generalize cmpI ak bk = ci at *
  generalize cmpB ai.data.toList bi.data.toList = cs at *
  go_enter Tryd.func39, Tryd.ntmps39
  go_wp2_with fail
  have hX := Lib.hid (((Ob.Blk.new W #[.int .i64 ak, .string ai] 45).alloc (.cells #[.int .i64 bk, .string bi] 45)))
  have hY := Lib.hid (Ob.new_two W (.cells #[.int .i64 ak, .string ai] 45) #[.int .i64 bk, .string bi] 45)
  have hg3 := Lib.hid fun q => grown3 W (.cells #[.int .i64 ak, .string ai] 45) (.cells #[.int .i64 bk, .string bi] 45) q
  generalize (W.alloc (.cells #[.int .i64 ak, .string ai] 45)).alloc (.cells #[.int .i64 bk, .string bi] 45) = w2 at *
  have hb8 : Hid (Below w2.heap.size w2 w2.drew) := Lib.hid ⟨rfl, rfl, rfl, Nat.le_refl _, fun _ _ => rfl⟩
  have hkeep : Hid (∀ w', Below w2.heap.size w2 w' → (w'.cell? ⟨W.heap.size, 0, none⟩ = some (.int .i64 ak) ∧ w'.cell? ⟨W.heap.size, 1, none⟩ = some (.string ai) ∧ w'.cell? ⟨W.heap.size + 1, 0, none⟩ = some (.int .i64 bk) ∧ w'.cell? ⟨W.heap.size + 1, 1, none⟩ = some (.string bi))) :=
    Lib.hid fun w' b => ⟨(hX.out.below b hX.out.lt).cell 0 rfl, (hX.out.below b hX.out.lt).cell 1 rfl, (hY.out.below b hY.out.lt).cell 0 rfl, (hY.out.below b hY.out.lt).cell 1 rfl⟩
  have hk0 := hkeep.out _ hb8.out
  go_region_held3 (fun w' => w'.cell? ⟨W.heap.size, 0, none⟩ = some (.int .i64 ak) ∧ w'.cell? ⟨W.heap.size, 1, none⟩ = some (.string ai) ∧ w'.cell? ⟨W.heap.size + 1, 0, none⟩ = some (.int .i64 bk) ∧ w'.cell? ⟨W.heap.size + 1, 1, none⟩ = some (.string bi))
    (first | exact hkeep.out _ hb8.out | exact hkeep.out _ (Ob.below_next hb8.out (Ob.b_alloc _ _)))
    (first
      | (go_at_call 41; refine (hS.out _).mono ?_; rintro e w' ⟨rfl, rfl⟩)
      | (go_at_call 42; refine (hI.out _).mono ?_; rintro e w' ⟨rfl, rfl⟩)
      | (go_at_call 40; refine (Or_calls cs ci r _ _ hr.out.symm (by simp) (by simp)).mono ?_; rintro e w' ⟨rfl, rfl⟩))
  all_goals
    go_wp2
    go_ret
    exact ⟨rfl, 1, _, hg3.out _⟩
end Go.Proofs.YtmbbnabongnojaaDoor.Lk
