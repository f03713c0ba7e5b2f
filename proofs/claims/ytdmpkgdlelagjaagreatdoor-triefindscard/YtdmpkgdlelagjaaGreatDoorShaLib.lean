/-
  What the contracts of package sha lean on: the turning of a word (sha.turn), arrays of words and bytes in memory, the schedule as a list. Conditions: none.
-/
import Derived.Test.YtdmpkgdlelagjaaGreatDoorRows
import Derived.Test.YtdmpkgdlelagjaaGreatDoorShaPlain
import Derived.WalkKit
import Derived.WalkSpells
import Derived.WalkLawsBesides
import Derived.ProofKit
import Derived.OpenShut
import Derived.Laws.BytesArg
import Derived.Deep.QuietTactic
import Derived.BigQuiet
import Derived.BigRegion
import Derived.Lib.Hide
import Derived.Deep.Cut
import Derived.Deep.MidRow
import Derived.IntWalk
import Derived.StillTailTactics
namespace Go.Proofs.YtdmpkgdlelagjaaGreatDoor.Sha
open Go.RowKit
theorem rotr_read (x : UInt32) (n : Nat) (M N : Int) (h : n < 32) (h0 : 0 < n) (hM : M = 2 ^ (32 - n)) (hN : N = 2 ^ n) :
    bits .or .u32 (u x * M % 4294967296) (u x / N) = u (rotr x n) := by
  rw [hM, hN, u_shl x (32 - n) (by omega), u_shr x n h, u_or]; rfl
def turnOk (n : Int) : Prop := n = 2 ∨ n = 6 ∨ n = 7 ∨ n = 11 ∨ n = 13 ∨ n = 17 ∨ n = 18 ∨ n = 19 ∨ n = 22 ∨ n = 25
theorem turn_calls (x : UInt32) (n : Int) (h : turnOk n) (w : World) :
    Calls Tryz.prog 112 #[.int .u32 (u x), .int .i64 n] w fun e w' => e = .returned (.int .u32 (u (rotr x n.toNat))) ∧ w = w' := by
  have e2 : bits BinOp.and IntKind.u64 (IntKind.u64.wrap (-2)) 31 = 30 := by decide
  have e6 : bits BinOp.and IntKind.u64 (IntKind.u64.wrap (-6)) 31 = 26 := by decide
  have e7 : bits BinOp.and IntKind.u64 (IntKind.u64.wrap (-7)) 31 = 25 := by decide
  have e11 : bits BinOp.and IntKind.u64 (IntKind.u64.wrap (-11)) 31 = 21 := by decide
  have e13 : bits BinOp.and IntKind.u64 (IntKind.u64.wrap (-13)) 31 = 19 := by decide
  have e17 : bits BinOp.and IntKind.u64 (IntKind.u64.wrap (-17)) 31 = 15 := by decide
  have e18 : bits BinOp.and IntKind.u64 (IntKind.u64.wrap (-18)) 31 = 14 := by decide
  have e19 : bits BinOp.and IntKind.u64 (IntKind.u64.wrap (-19)) 31 = 13 := by decide
  have e22 : bits BinOp.and IntKind.u64 (IntKind.u64.wrap (-22)) 31 = 10 := by decide
  have e25 : bits BinOp.and IntKind.u64 (IntKind.u64.wrap (-25)) 31 = 7 := by decide
  rcases h with rfl | rfl | rfl | rfl | rfl | rfl | rfl | rfl | rfl | rfl
  all_goals
    go_enter Tryz.func112, Tryz.ntmps112
    go_wp2
    go_ret
    exact ⟨congrArg (fun z => Ending.returned (Value.int .u32 z)) (rotr_read x _ _ _ (by decide) (by decide) (by decide) (by decide)), rfl⟩
structure Bytes (w : World) (b o : Nat) (f : Nat → UInt8) : Prop where
  cell : ∀ i, i < 64 → w.cell? ⟨b, o + i, none⟩ = some (.int .u8 ((f i).toNat : Int))
structure Arr (w : World) (b : Nat) (g : Nat → UInt32) : Prop where
  cell : ∀ i, i < 64 → w.cell? ⟨b, i, none⟩ = some (.int .u32 (u (g i)))
  frozen : ∀ i, i < 64 → w.frozen? ⟨b, i, none⟩ = false
theorem Arr.new (w : World) (t : TypeId) : Arr (w.alloc (.cells (Array.replicate 64 (.int .u32 0)) t)) w.heap.size (fun _ => 0) :=
  ⟨fun i hi => by simp [go_sem, hi, u], fun i hi => by simp [go_sem]⟩
theorem Arr.congr {w : World} {b : Nat} {g g' : Nat → UInt32} (h : Arr w b g) (e : ∀ i, i < 64 → g i = g' i) : Arr w b g' :=
  ⟨fun i hi => by rw [← e i hi]; exact h.cell i hi, h.frozen⟩
theorem Arr.set {w : World} {b : Nat} {g : Nat → UInt32} (h : Arr w b g) (t : Nat) (ht : t < 64) (x : UInt32) : Arr (w.setCell ⟨b, t, none⟩ (.int .u32 (u x))) b (fun i => if i = t then x else g i) :=
  ⟨fun i hi => by
    by_cases e : i = t
    · subst e; rw [if_pos rfl]; exact World.cell?_setCell_same _ _ _ (h.cell i hi)
    · rw [if_neg e, World.cell?_setCell_other]
      · exact h.cell i hi
      · exact fun g => e (congrArg Addr.off g).symm,
   fun i hi => by rw [World.frozen?_setCell]; exact h.frozen i hi⟩
theorem lt_of_cell {w : World} {p : Addr} {v : Value} (h : w.cell? p = some v) : p.block < w.heap.size := by
  rcases Nat.lt_or_ge p.block w.heap.size with g | g
  · exact g
  · simp [World.cell?, Array.getElem?_eq_none g] at h
theorem Arr.drew {w : World} {b : Nat} {g : Nat → UInt32} (h : Arr w b g) : Arr w.drew b g := ⟨h.cell, h.frozen⟩
theorem Arr.drewN {w : World} {b : Nat} {g : Nat → UInt32} (h : Arr w b g) (n : Nat) : Arr (w.drewN n) b g := ⟨h.cell, h.frozen⟩
theorem below_drew {B : Nat} {w w' : World} (h : Below B w w') : Below B w w'.drew := ⟨h.os, h.tape, h.output, h.size, h.block⟩
theorem below_drewN {B : Nat} {w w' : World} (h : Below B w w') (n : Nat) : Below B w (w'.drewN n) := ⟨h.os, h.tape, h.output, h.size, h.block⟩
theorem below_setCells {B : Nat} {w : World} (b : Nat) (hb : B ≤ b) : ∀ (vs : List Value) (o : Nat) (w' : World), Below B w w' → Below B w (w'.setCells b o vs)
  | [], _, _, h => h
  | v :: vs, o, _, h => below_setCells b hb vs (o + 1) _ (h.setCell (p := ⟨b, o, none⟩) hb v)
theorem results_cell {P : Program} {fn : Func} {a : Nat} {t : TypeId} {tmps : Array Value} {w : World} {b o : Nat} {cs : List Value} {d : TypeDesc} (h : fn.results = #[.cell a t])
    (hx : tmps.getD a undef = .pointer (some ⟨b, o, none⟩)) (hc : w.rangeAt b o cs) (hu : P.underlying t = some d) (hd : d.isRow = true) (hi : (P.info? t).map (·.size) = some cs.length) :
    (results fn tmps).run P w = .ok (.agg cs.toArray) w := by
  have e : (loadVar t ⟨b, o, none⟩).run P w = _ := run_loadVar_mid w b o t cs d hc hu hd hi
  simp only [results, h]
  simp [asAddr, -Array.getD_eq_getD_getElem?, hx, e]
/-- a word as the model's value -/
def uv (x : UInt32) : Value := .int .u32 (u x)
theorem uv_one (l : List UInt32) : ∀ v ∈ l.map uv, v.oneCell' = true := fun v hv => by
  obtain ⟨x, _, rfl⟩ := List.mem_map.1 hv; rfl
theorem Arr.range {w : World} {b : Nat} {g : Nat → UInt32} (h : Arr w b g) (l : List UInt32) (hl : l.length ≤ 64) (e : ∀ i, i < l.length → l.getD i 0 = g i) : w.rangeAt b 0 (l.map uv) := fun j v hv => by
  rw [List.getElem?_map] at hv
  cases hj : l[j]? with
  | none => rw [hj] at hv; cases hv
  | some x =>
    rw [hj] at hv
    have hlt : j < l.length := by
      rcases Nat.lt_or_ge j l.length with g | g
      · exact g
      · rw [List.getElem?_eq_none g] at hj; cases hj
    have := e j hlt
    rw [List.getD_eq_getElem?_getD, hj] at this
    simp only [Option.map_some, Option.some.injEq] at hv
    rw [Nat.zero_add, h.cell j (by omega), ← this, ← hv]; rfl
theorem Arr.there {w : World} {b : Nat} {g : Nat → UInt32} (h : Arr w b g) (n : Nat) (hn : n ≤ 64) : w.there b 0 n := fun j hj => by
  rw [Nat.zero_add, h.cell j (by omega), h.frozen j (by omega)]; exact ⟨rfl, rfl⟩
theorem sched_length (f : Nat → UInt8) : ∀ n, (sched f n).length = 16 + n
  | 0 => by simp [sched]
  | n + 1 => by simp [sched, more, sched_length f n]; omega
theorem sched_first (f : Nat → UInt8) (i : Nat) (h : i < 64) : (if i < 16 then word f i else 0) = (sched f 0).getD i 0 := by
  by_cases g : i < 16
  · simp [sched, g]
  · rw [if_neg g, List.getD_eq_getElem?_getD, List.getElem?_eq_none (by simp [sched]; omega)]; rfl
theorem sched_next (f : Nat → UInt8) (t i : Nat) (h : 16 ≤ t) (x : UInt32)
    (e : x = (sched f (t - 16)).getD (t - 16) 0 + s0 ((sched f (t - 16)).getD (t - 15) 0) + (sched f (t - 16)).getD (t - 7) 0 + s1 ((sched f (t - 16)).getD (t - 2) 0)) :
    (if i = t then x else (sched f (t - 16)).getD i 0) = (sched f (t + 1 - 16)).getD i 0 := by
  have hl := sched_length f (t - 16)
  have e1 : t + 1 - 16 = t - 16 + 1 := by omega
  rw [e1, sched, more, hl, show 16 + (t - 16) = t by omega, ← e]
  rw [List.getD_eq_getElem?_getD, List.getD_eq_getElem?_getD]
  by_cases g : i = t
  · subst g
    rw [if_pos rfl, List.getElem?_append_right (by omega), hl, show i - (16 + (i - 16)) = 0 by omega]; rfl
  · rw [if_neg g]
    by_cases g2 : i < t
    · rw [List.getElem?_append_left (by omega)]
    · rw [List.getElem?_eq_none (by omega), List.getElem?_eq_none (by simp; omega)]
theorem word_next (f : Nat → UInt8) (t i : Nat) : (if i = t then word f t else if i < t then word f i else 0) = (if i < t + 1 then word f i else 0) := by
  by_cases g : i = t
  · subst g; simp
  · rw [if_neg g]
    by_cases g2 : i < t
    · rw [if_pos g2, if_pos (by omega)]
    · rw [if_neg g2, if_neg (by omega)]
end Go.Proofs.YtdmpkgdlelagjaaGreatDoor.Sha
