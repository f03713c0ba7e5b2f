/-
  Facts in memory, and how two of them stand: order's Compare, its turned twin, and the document's Compare; they make memory and turn none. Conditions: none.
-/
import Derived.Test.YtbjpogeemajhoaaGreatRows
import Derived.Test.YtbjpogeemajhoaaGreatOrPlain
import Derived.Test.YtbjpogeemajhoaaGreatOrOwn
import Derived.Test.YtbjpogeemajhoaaGreatPaLib
import Derived.Test.YtbjpogeemajhoaaGreatOctKit
import Derived.WalkKit
import Derived.WalkSpells
import Derived.WalkLawsBesides
import Derived.ProofKit
import Derived.OpenShut
import Derived.Laws.BytesArg
import Derived.Laws.Externs
import Derived.Deep.QuietTactic
import Derived.BigQuiet
import Derived.BigRegion
import Derived.Lib.Hide
import Derived.IntWalk
import Derived.Deep.LoopGhost
import Derived.Deep.RegionHeld3
import Derived.Sort.Grow
import Derived.Deep.Cut
namespace Go.Proofs.YtbjpogeemajhoaaGreat.Or
open Go Go.RowKit Pa
open Sh (Key)

/-- a fact as it lies in memory: where its parents' texts are -/
structure Fx where
  f : Fct
  pa : Option Addr
  pc : Nat
instance : Inhabited Fx := ⟨⟨default, none, 0⟩⟩
def Fx.sl (x : Fx) : Value := .slice x.pa x.f.pars.length x.pc
def Fx.cells (x : Fx) : List Value := [.string x.f.id, .int .i64 x.f.high, .slice x.pa x.f.pars.length x.pc]
abbrev Fx.val (x : Fx) : Value := .agg #[.string x.f.id, .int .i64 x.f.high, .slice x.pa x.f.pars.length x.pc]
/-- a block that holds a fact -/
structure FxBlk (w : World) (g : Nat) (x : Fx) : Prop where
  all : ∃ z, w.heap[g]? = some (.cells #[.string x.f.id, .int .i64 x.f.high, .slice x.pa x.f.pars.length x.pc] 28 z)
theorem FxBlk.lt {w : World} {g : Nat} {x : Fx} (h : FxBlk w g x) : g < w.heap.size := by obtain ⟨z, h⟩ := h.all; exact (Array.getElem?_eq_some_iff.1 h).1
theorem FxBlk.cell {w : World} {g : Nat} {x : Fx} (h : FxBlk w g x) : w.cell? ⟨g, 0, none⟩ = some (.string x.f.id) ∧ w.cell? ⟨g, 1, none⟩ = some (.int .i64 x.f.high) ∧ w.cell? ⟨g, 2, none⟩ = some (.slice x.pa x.f.pars.length x.pc) := by
  obtain ⟨z, h⟩ := h.all
  refine ⟨?_, ?_, ?_⟩ <;> simp [World.cell?, h]
theorem FxBlk.next {w w' : World} {g : Nat} {x : Fx} (h : FxBlk w g x) (b : Below w.heap.size w w') : FxBlk w' g x := ⟨by obtain ⟨z, e⟩ := h.all; exact ⟨z, (b.block g h.lt).trans e⟩⟩
theorem FxBlk.below {w w' : World} {g n : Nat} {x : Fx} (h : FxBlk w g x) (b : Below n w w') (hn : g < n) : FxBlk w' g x := ⟨by obtain ⟨z, e⟩ := h.all; exact ⟨z, (b.block g hn).trans e⟩⟩
theorem FxBlk.new (w : World) (x : Fx) : FxBlk (w.alloc (.cells #[.string x.f.id, .int .i64 x.f.high, .slice x.pa x.f.pars.length x.pc] 28)) w.heap.size x := ⟨⟨_, heap_new w _⟩⟩

theorem less_lt (a b : ByteArray) : Op.bytesLess a.data.toList b.data.toList = Key.lt a b := by
  show _ = Op.bytesLess a.toList b.toList
  rw [ByteArray.toList_eq, ByteArray.toList_eq]
theorem cmpB_lt (a b : ByteArray) : cmpB a.data.toList b.data.toList = if a = b then 0 else if Key.lt a b = true then -1 else 1 := by
  unfold cmpB
  rw [less_lt]
  by_cases h : a = b
  · subst h; rw [if_pos rfl, if_pos rfl]
  · rw [if_neg h, if_neg fun e => h (data_inj e)]
theorem cmp_lo {a b : Fct} (h : under a b) : cmp a b = -1 := by unfold cmp; rw [if_pos h]
theorem cmp_hi {a b : Fct} (h : under b a) : cmp a b = 1 := by unfold cmp; rw [if_neg (under_asym h), if_pos h]
theorem cmp_or (a b : Fct) : (if cmpI a.high b.high = 0 then cmpB a.id.data.toList b.id.data.toList else cmpI a.high b.high) = cmp a b := by
  unfold cmpI
  rw [cmpB_lt]
  by_cases h1 : a.high < b.high
  · rw [if_pos h1, if_neg (by omega), cmp_lo (Or.inl h1)]
  · by_cases h2 : b.high < a.high
    · rw [if_neg h1, if_pos h2, if_neg (by omega), cmp_hi (Or.inl h2)]
    · have he : a.high = b.high := by omega
      rw [if_neg h1, if_neg h2, if_pos rfl]
      by_cases e : a.id = b.id
      · rw [if_pos e, cmp_zero.2 ⟨he, e⟩]
      · rw [if_neg e]
        rcases Key.tri a.id b.id with g | g | g
        · rw [if_pos g, cmp_lo (Or.inr ⟨he, g⟩)]
        · exact absurd g e
        · have h3 : ¬ Key.lt a.id b.id = true := fun q => by rw [Sh.lt_asym g] at q; cases q
          rw [if_neg h3, cmp_hi (Or.inr ⟨he.symm, g⟩)]
set_option maxRecDepth 100000 in
theorem Or_calls (a c r : Int) (b : Nat) (w : World) (hr : (if a = 0 then c else a) = r) (h0 : w.cell? ⟨b, 0, none⟩ = some (.int .i64 a)) (h1 : w.cell? ⟨b, 1, none⟩ = some (.int .i64 c)) :
    Calls Tryz.prog 29 #[.slice (some ⟨b, 0, none⟩) 2 2] w fun e w' => e = .returned (.int .i64 r) ∧ w = w' := by
  subst hr
  by_cases ha : a = 0
  · subst ha
    rw [if_pos rfl]
    by_cases hc : c = 0
    · subst hc
      go_enter Tryz.func29, Tryz.ntmps29
      go_wp2
      go_loopw [5, 8] (fun _ i wr => ∃ k : Nat, k ≤ 2 ∧ i = .int .i64 k ∧ wr = w) (fun _ i _ => 2 - (intOf i).toNat)
      case atStart => exact ⟨0, by omega, rfl, rfl⟩
      case round =>
        obtain ⟨k, hk, rfl, rfl⟩ := hrel
        match k, hk with
        | 0, _ => go_wp2; exact ⟨⟨1, by omega, by go_num, trivial⟩, by simp [intOf]⟩
        | 1, _ => go_wp2; exact ⟨⟨2, by omega, by go_num, trivial⟩, by simp [intOf]⟩
        | 2, _ => go_wp2; go_ret; exact ⟨rfl, rfl⟩
    · have q1 : (c != 0) = true := by simpa using hc
      replace hc := Lib.hid hc
      go_enter Tryz.func29, Tryz.ntmps29
      go_wp2
      go_loopw [5, 8] (fun _ i wr => ∃ k : Nat, k ≤ 1 ∧ i = .int .i64 k ∧ wr = w) (fun _ i _ => 2 - (intOf i).toNat)
      case atStart => exact ⟨0, by omega, rfl, rfl⟩
      case round =>
        obtain ⟨k, hk, rfl, rfl⟩ := hrel
        match k, hk with
        | 0, _ => go_wp2; exact ⟨⟨1, by omega, by go_num, trivial⟩, by simp [intOf]⟩
        | 1, _ => go_wp2; go_ret; exact ⟨rfl, rfl⟩
  · rw [if_neg ha]
    have q1 : (a != 0) = true := by simpa using ha
    replace ha := Lib.hid ha
    go_enter Tryz.func29, Tryz.ntmps29
    go_wp2
    go_loopw [5, 8] (fun _ i wr => i = .int .i64 0 ∧ wr = w) (fun _ i _ => 2 - (intOf i).toNat)
    case atStart => exact ⟨rfl, rfl⟩
    case round =>
      obtain ⟨rfl, rfl⟩ := hrel
      go_wp2
      go_ret
      exact ⟨rfl, rfl⟩
theorem grown3 (W : World) (o p q : Go.Obj) : (((W.alloc o).alloc p).drew).alloc q = Sort.grow (W.drewN 1) #[o, p, q] := by
  unfold Sort.grow World.alloc World.drew World.drewN
  simp only [World.mk.injEq, and_true, true_and]
  apply Array.ext'
  simp
theorem grown2 (W : World) (o p : Go.Obj) : (W.alloc o).alloc p = Sort.grow (W.drewN 0) #[o, p] := by
  unfold Sort.grow World.alloc World.drewN
  simp only [World.mk.injEq, and_true, true_and, Nat.add_zero]
  apply Array.ext'
  simp
theorem below_grow (W : World) (q : Nat) (os : Array Go.Obj) : Below W.heap.size W (Sort.grow (W.drewN q) os) := by
  refine ⟨rfl, rfl, rfl, ?_, fun k hk => ?_⟩
  · rw [Sort.size_grow]; show W.heap.size ≤ W.heap.size + _; omega
  · show (W.heap ++ os)[k]? = _
    rw [Array.getElem?_append_left hk]
theorem grow_then (W : World) (p q : Nat) (o o' : Array Go.Obj) : Sort.grow ((Sort.grow (W.drewN p) o).drewN q) o' = Sort.grow (W.drewN (p + q)) (o ++ o') := by
  unfold Sort.grow World.drewN
  simp only [World.mk.injEq, and_true, true_and, Array.append_assoc]
  omega
set_option maxRecDepth 100000 in
set_option maxHeartbeats 1000000 in
theorem Compare_calls (x y : Fx) (W : World) :
    Calls Tryz.prog 12 #[x.val, y.val] W fun e w' => e = .returned (.int .i64 (cmp x.f y.f)) ∧ ∃ q os, w' = Sort.grow (W.drewN q) os := by
  obtain ⟨⟨ai, ah, ap⟩, aa, ac⟩ := x
  obtain ⟨⟨bi, bh, bp⟩, ba, bc⟩ := y
  rw [← cmp_or]
  dsimp only
  obtain ⟨r, hr⟩ : ∃ r, r = (if cmpI ah bh = 0 then cmpB ai.data.toList bi.data.toList else cmpI ah bh) := ⟨_, rfl⟩
  rw [← hr]
  replace hr := Lib.hid hr
  have hI := Lib.hid fun w => CompareI_calls ah bh w
  have hS := Lib.hid fun w => CompareS_calls ai bi w
  generalize cmpI ah bh = ci at *
  generalize cmpB ai.data.toList bi.data.toList = cs at *
  dsimp only [Fx.val]
  generalize hp1 : ap.length = n1
  generalize hp2 : bp.length = n2
  have hX := Lib.hid (FxBlk.new W ⟨⟨ai, ah, ap⟩, aa, ac⟩)
  have hY := Lib.hid (FxBlk.new (W.alloc (.cells #[.string ai, .int .i64 ah, .slice aa n1 ac] 28)) ⟨⟨bi, bh, bp⟩, ba, bc⟩)
  dsimp only at hX hY
  rw [hp1] at hX
  rw [hp2] at hY
  have hsz : Hid ((W.alloc (.cells #[.string ai, .int .i64 ah, .slice aa n1 ac] 28)).heap.size = W.heap.size + 1) := Lib.hid (by simp)
  rw [hsz.out] at hY
  replace hX := Lib.hid (hX.out.next (b_alloc _ (.cells #[.string bi, .int .i64 bh, .slice ba n2 bc] 28)))
  go_enter Tryz.func12, Tryz.ntmps12
  go_wp2_with fail
  have hg3 := Lib.hid fun q => grown3 W (.cells #[.string ai, .int .i64 ah, .slice aa n1 ac] 28) (.cells #[.string bi, .int .i64 bh, .slice ba n2 bc] 28) q
  generalize (W.alloc (.cells #[.string ai, .int .i64 ah, .slice aa n1 ac] 28)).alloc (.cells #[.string bi, .int .i64 bh, .slice ba n2 bc] 28) = w2 at *
  have hb8 : Hid (Below w2.heap.size w2 w2.drew) := Lib.hid ⟨rfl, rfl, rfl, Nat.le_refl _, fun _ _ => rfl⟩
  have hkeep : Hid (∀ w', Below w2.heap.size w2 w' → (w'.cell? ⟨W.heap.size, 0, none⟩ = some (.string ai) ∧ w'.cell? ⟨W.heap.size, 1, none⟩ = some (.int .i64 ah) ∧ w'.cell? ⟨W.heap.size + 1, 0, none⟩ = some (.string bi) ∧ w'.cell? ⟨W.heap.size + 1, 1, none⟩ = some (.int .i64 bh))) :=
    Lib.hid fun w' b => ⟨(hX.out.next b).cell.1, (hX.out.next b).cell.2.1, (hY.out.next b).cell.1, (hY.out.next b).cell.2.1⟩
  have hk0 := hkeep.out _ hb8.out
  go_region_held3 (fun w' => w'.cell? ⟨W.heap.size, 0, none⟩ = some (.string ai) ∧ w'.cell? ⟨W.heap.size, 1, none⟩ = some (.int .i64 ah) ∧ w'.cell? ⟨W.heap.size + 1, 0, none⟩ = some (.string bi) ∧ w'.cell? ⟨W.heap.size + 1, 1, none⟩ = some (.int .i64 bh))
    (first | exact hkeep.out _ hb8.out | exact hkeep.out _ (b_then hb8.out (b_alloc _ _)))
    (first
      | (go_at_call 31; refine (hS.out _).mono ?_; rintro e w' ⟨rfl, rfl⟩)
      | (go_at_call 30; refine (hI.out _).mono ?_; rintro e w' ⟨rfl, rfl⟩)
      | (go_at_call 29; refine (Or_calls ci cs r _ _ hr.out.symm (by simp) (by simp)).mono ?_; rintro e w' ⟨rfl, rfl⟩))
  all_goals
    go_wp2
    go_ret
    exact ⟨rfl, 1, _, hg3.out _⟩
set_option maxRecDepth 100000 in
set_option maxHeartbeats 1000000 in
theorem turned_calls (x y : Fx) (W : World) :
    Calls Tryz.prog 52 #[x.val, y.val] W fun e w' => e = .returned (.int .i64 (cmp y.f x.f)) ∧ ∃ q os, w' = Sort.grow (W.drewN q) os := by
  have hC := Lib.hid fun w => Compare_calls y x w
  generalize cmp y.f x.f = r at *
  have hY := Lib.hid (FxBlk.new (W.alloc (.cells #[.string x.f.id, .int .i64 x.f.high, .slice x.pa x.f.pars.length x.pc] 28)) y)
  have hX := Lib.hid ((FxBlk.new W x).next (b_alloc _ (.cells #[.string y.f.id, .int .i64 y.f.high, .slice y.pa y.f.pars.length y.pc] 28)))
  have hsz : (W.alloc (.cells #[.string x.f.id, .int .i64 x.f.high, .slice x.pa x.f.pars.length x.pc] 28)).heap.size = W.heap.size + 1 := by simp
  rw [hsz] at hY
  have hg2 := Lib.hid (grown2 W (.cells #[.string x.f.id, .int .i64 x.f.high, .slice x.pa x.f.pars.length x.pc] 28) (.cells #[.string y.f.id, .int .i64 y.f.high, .slice y.pa y.f.pars.length y.pc] 28))
  dsimp only [Fx.val] at hC ⊢
  go_enter Tryz.func52, Tryz.ntmps52
  go_upto_region 1 with (fail)
  generalize (W.alloc (.cells #[.string x.f.id, .int .i64 x.f.high, .slice x.pa x.f.pars.length x.pc] 28)).alloc (.cells #[.string y.f.id, .int .i64 y.f.high, .slice y.pa y.f.pars.length y.pc] 28) = w2 at *
  obtain ⟨c0, c1, c2⟩ := hX.out.cell
  obtain ⟨d0, d1, d2⟩ := hY.out.cell
  clear hX hY hsz
  go_wp2_with fail
  refine (hC.out _).mono ?_
  rintro e w' ⟨rfl, q, os, rfl⟩
  rw [hg2.out]
  go_wp2
  go_ret
  exact ⟨rfl, _, _, grow_then _ _ _ _ _⟩
end Go.Proofs.YtbjpogeemajhoaaGreat.Or
