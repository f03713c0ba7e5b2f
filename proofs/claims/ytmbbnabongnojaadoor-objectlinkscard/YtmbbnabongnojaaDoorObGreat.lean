/-
  The statements' own bound (great) answers true or false, and turns nothing. Conditions: lists of the form's reach.
-/
import Derived.Test.YtmbbnabongnojaaDoorRows
import Derived.Test.YtmbbnabongnojaaDoorObPlain
import Derived.Test.YtmbbnabongnojaaDoorObGood
import Derived.Test.YtmbbnabongnojaaDoorObWrite
import Derived.Test.YtmbbnabongnojaaDoorObOwn
import Derived.Test.YtmbbnabongnojaaDoorOctKit
import Derived.WalkKit
import Derived.WalkSpells
import Derived.WalkLawsBesides
import Derived.ProofKit
import Derived.OpenShut
import Derived.Laws.BytesArg
import Derived.Laws.Externs
import Derived.Deep.QuietTactic
import Derived.BigQuiet
import Derived.BigRegion
import Derived.Lib.Hide
import Derived.IntWalk
import Derived.Deep.LoopGhost
namespace Go.Proofs.YtmbbnabongnojaaDoor.Ob
open Go Go.RowKit
open Oct (empty)

/-- it answers something -/
def Says (e : Ending) : Prop := ∃ g, e = .returned (.bool g)
theorem Says.of (g : Bool) : Says (.returned (.bool g)) := ⟨g, rfl⟩
set_option maxRecDepth 100000 in
set_option maxHeartbeats 2000000 in
theorem great_calls (x : Obj) (ea : Option Addr) (ec : Nat) (pa : Option Addr) (pc : Nat) (w : World) (hO : ObAt w x ea ec pa pc) :
    Calls Tryd.prog 11 #[val x ea ec pa pc] w fun r w' => Says r ∧ Below w.heap.size w w' := by
  obtain ⟨⟨eb, eo, hE⟩, ⟨pb, po, hP⟩, _, _⟩ := hO
  obtain ⟨kind, data, L, tree, M, height, note⟩ := x
  dsimp only at hE hP ⊢
  have hb0 := Lib.hid (b_alloc w (.cells #[.int .i64 kind, .string data, .slice ea L.length ec, .string tree, .slice pa M.length pc, .int .i64 height, .string note] 25))
  have hx0 := Lib.hid (Blk.new w #[.int .i64 kind, .string data, .slice ea L.length ec, .string tree, .slice pa M.length pc, .int .i64 height, .string note] 25)
  replace hE := Lib.hid (hE.below hb0.out)
  replace hP := Lib.hid (hP.below hb0.out)
  by_cases l0 : (400 : Int) < L.length
  · go_enter Tryd.func11, Tryd.ntmps11
    go_wp2
    go_ret
    exact ⟨.of _, hb0.out⟩
  · by_cases m0 : (400 : Int) < M.length
    · go_enter Tryd.func11, Tryd.ntmps11
      go_wp2
      go_ret
      exact ⟨.of _, hb0.out⟩
    · go_enter Tryd.func11, Tryd.ntmps11
      go_wp2
      generalize w.alloc (.cells #[.int .i64 kind, .string data, .slice ea L.length ec, .string tree, .slice pa M.length pc, .int .i64 height, .string note] 25) = w1 at *
      have cx2 := hx0.out.cell 2 (v := .slice ea L.length ec) rfl
      have cx4 := hx0.out.cell 4 (v := .slice pa M.length pc) rfl
      go_loopw [3, 4] (fun z i wr => ∃ (k : Nat) (s : Int) (n : Nat), k ≤ L.length ∧ i = .int .i64 k ∧ z = .int .i64 s ∧ wr = w1.drewN n) (fun _ i _ => L.length - (intOf i).toNat)
      case atStart => exact ⟨0, _, 0, by omega, rfl, rfl, rfl⟩
      case round =>
        obtain ⟨k, s, n, hk, rfl, rfl, rfl⟩ := hrel
        by_cases hlt : k < L.length
        · have i1 : (k : Int) < L.length := by omega
          have i0 : 0 ≤ (k : Int) := by omega
          obtain rfl := hE.out.addr (by omega)
          have hg : L[k]? = some L[k] := List.getElem?_eq_getElem hlt
          have c0 := hE.out.name k _ hg
          have c2 := hE.out.id k _ hg
          generalize L[k] = e at *
          clear hg
          go_wp2
          go_quiet (fail)
          go_wp2
          · go_ret
            exact ⟨.of _, Pa.below_drewN hb0.out _⟩
          · exact ⟨⟨k + 1, _, _, by omega, rfl, rfl, rfl⟩, by simp [intOf]; omega⟩
        · have d0 : decide ((k : Int) < L.length) = false := decide_eq_false (by omega)
          have d1 : (L.length : Int) ≤ k := by omega
          clear hE
          go_wp2
          go_loopw [3, 5] (fun z i wr => ∃ (j : Nat) (s : Int), j ≤ M.length ∧ i = .int .i64 j ∧ z = .int .i64 s ∧ wr = w1.drewN n) (fun _ i _ => M.length - (intOf i).toNat)
          case atStart => exact ⟨0, _, by omega, rfl, rfl, rfl⟩
          case round =>
            obtain ⟨j, s, hj, rfl, rfl, rfl⟩ := hrel
            by_cases hlt2 : j < M.length
            · have i1 : (j : Int) < M.length := by omega
              have i0 : 0 ≤ (j : Int) := by omega
              obtain rfl := hP.out.addr (by omega)
              have c0 := hP.out.cell j _ (List.getElem?_eq_getElem hlt2)
              generalize M[j] = e at *
              go_wp2
              · go_ret
                exact ⟨.of _, Pa.below_drewN hb0.out _⟩
              · exact ⟨⟨j + 1, _, by omega, rfl, rfl, trivial⟩, by simp [intOf]; omega⟩
            · have d2 : decide ((j : Int) < M.length) = false := decide_eq_false (by omega)
              have d3 : (M.length : Int) ≤ j := by omega
              go_wp2
              go_ret
              exact ⟨.of _, Pa.below_drewN hb0.out _⟩
end Go.Proofs.YtmbbnabongnojaaDoor.Ob
