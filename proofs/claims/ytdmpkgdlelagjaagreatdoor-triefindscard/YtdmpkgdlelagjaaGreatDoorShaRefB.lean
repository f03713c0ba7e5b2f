/-
  The document's answer for one block (reliquaryref02.block): the words behind one block more; nothing that was there turns. Conditions: the 64 bytes lie there.
-/
import Derived.Test.YtdmpkgdlelagjaaGreatDoorRows
import Derived.Test.YtdmpkgdlelagjaaGreatDoorShaRefA
import Derived.WalkKit
import Derived.WalkSpells
import Derived.WalkLawsBesides
import Derived.ProofKit
import Derived.OpenShut
import Derived.Laws.BytesArg
import Derived.Deep.QuietTactic
import Derived.BigQuiet
import Derived.BigRegion
import Derived.Lib.Hide
import Derived.Deep.RegionHeld3
import Derived.Lib.Builder
import Derived.Lib.UnsafeStr
import Derived.Lib.AppendStr
import Derived.Laws.Externs
import Derived.Deep.OwnRows
import Derived.Lib.SlBuf
import Derived.Lib.LazyBuf
import Derived.Deep.Cut
import Derived.Deep.MidRow
import Derived.IntWalk
import Derived.StillTailTactics
namespace Go.Proofs.YtdmpkgdlelagjaaGreatDoor.Sha
open Go.RowKit
attribute [local go_sem] u_xor u_or u_and u_not u_not2 u_add w_add w_byte m_byte m_shl24 m_shl16 m_shl8 w_shl24 w_shl16 w_shl8 m_shr3 m_shr10
/-- the eight words as a value's cells -/
def vList (v : V) : List Value := [.int .u32 (u v.a), .int .u32 (u v.b), .int .u32 (u v.c), .int .u32 (u v.d), .int .u32 (u v.e), .int .u32 (u v.f), .int .u32 (u v.g), .int .u32 (u v.h)]
/-- at block b lies an array of eight words -/
structure Ar8 (w : World) (b : Nat) (v : V) : Prop where
  cell : ∀ i, i < 8 → w.cell? ⟨b, i, none⟩ = some (.int .u32 (u (v.at i)))
  frozen : ∀ i, i < 8 → w.frozen? ⟨b, i, none⟩ = false
theorem Ar8.drewN {w : World} {b : Nat} {v : V} (h : Ar8 w b v) (n : Nat) : Ar8 (w.drewN n) b v := ⟨h.cell, h.frozen⟩
theorem Ar8.other {w : World} {b : Nat} {v : V} (h : Ar8 w b v) {p : Addr} (hp : p.block ≠ b) (x : Value) : Ar8 (w.setCell p x) b v :=
  ⟨fun i hi => by rw [World.cell?_setCell_other _ _ _ _ (fun g => hp (by rw [g]))]; exact h.cell i hi, fun i hi => by rw [World.frozen?_setCell]; exact h.frozen i hi⟩
theorem Arr.other {w : World} {b : Nat} {g : Nat → UInt32} (h : Arr w b g) {p : Addr} (hp : p.block ≠ b) (x : Value) : Arr (w.setCell p x) b g :=
  ⟨fun i hi => by rw [World.cell?_setCell_other _ _ _ _ (fun g => hp (by rw [g]))]; exact h.cell i hi, fun i hi => by rw [World.frozen?_setCell]; exact h.frozen i hi⟩
theorem Ar8.below {w w' : World} {b B : Nat} {v : V} (h : Ar8 w b v) (t : Below B w w') (hb : b < B) : Ar8 w' b v :=
  ⟨fun i hi => (t.cell (p := ⟨b, i, none⟩) hb).trans (h.cell i hi), fun i hi => (t.frozen (p := ⟨b, i, none⟩) hb).trans (h.frozen i hi)⟩
theorem Arr.below {w w' : World} {b B : Nat} {g : Nat → UInt32} (h : Arr w b g) (t : Below B w w') (hb : b < B) : Arr w' b g :=
  ⟨fun i hi => (t.cell (p := ⟨b, i, none⟩) hb).trans (h.cell i hi), fun i hi => (t.frozen (p := ⟨b, i, none⟩) hb).trans (h.frozen i hi)⟩
theorem Ar8.new (w : World) (v : V) (t : TypeId) : Ar8 (w.alloc (.cells (vList v).toArray t)) w.heap.size v :=
  ⟨letters_new w v t, fun i _ => by simp [go_sem]⟩
theorem Arr.ofKs (w : World) (t : TypeId) : Arr (w.alloc (.cells (ks.map uv).toArray t)) w.heap.size (fun i => ks.getD i 0) :=
  ⟨fun i hi => by
    have hl : i < ks.length := hi
    have e : (ks.map uv)[i]? = some (.int .u32 (u (ks.getD i 0))) := by rw [List.getElem?_map, List.getD_eq_getElem?_getD, List.getElem?_eq_getElem hl]; rfl
    simp only [go_sem, List.getElem?_toArray, e],
   fun i _ => by simp [go_sem]⟩
def V0 : V := ⟨0, 0, 0, 0, 0, 0, 0, 0⟩
/-- the memory of a call of block: its words, the constants, its result, the schedule as it stands -/
structure RB (v : V) (g : Nat → UInt32) (w w' : World) : Prop where
  h : Ar8 w' w.heap.size v
  k : Arr w' (w.heap.size + 1) (fun i => ks.getD i 0)
  r : Ar8 w' (w.heap.size + 2) V0
  a : Arr w' (w.heap.size + 3) g
  bel : Below w.heap.size w w'
  z : w.heap.size + 3 < w'.heap.size
theorem RB.drewN {v : V} {g : Nat → UInt32} {w w' : World} (h : RB v g w w') (n : Nat) : RB v g w (w'.drewN n) :=
  ⟨h.h.drewN n, h.k.drewN n, h.r.drewN n, h.a.drewN n, below_drewN h.bel n, h.z⟩
theorem RB.congr {v : V} {g g' : Nat → UInt32} {w w' : World} (h : RB v g w w') (e : ∀ i, i < 64 → g i = g' i) : RB v g' w w' := ⟨h.h, h.k, h.r, h.a.congr e, h.bel, h.z⟩
theorem RB.set {v : V} {g : Nat → UInt32} {w w' : World} (h : RB v g w w') (t : Nat) (ht : t < 64) (x : UInt32) : RB v (fun i => if i = t then x else g i) w (w'.setCell ⟨w.heap.size + 3, t, none⟩ (.int .u32 (u x))) :=
  ⟨h.h.other (by show w.heap.size + 3 ≠ _; omega) _, h.k.other (by show w.heap.size + 3 ≠ _; omega) _, h.r.other (by show w.heap.size + 3 ≠ _; omega) _, h.a.set t ht x, h.bel.setCell (p := ⟨w.heap.size + 3, t, none⟩) (by show w.heap.size ≤ w.heap.size + 3; omega) _, by simpa using h.z⟩
def RB0 (v : V) (w w' : World) : Prop := Ar8 w' w.heap.size v ∧ Arr w' (w.heap.size + 1) (fun i => ks.getD i 0) ∧ Ar8 w' (w.heap.size + 2) V0 ∧ Below w.heap.size w w' ∧ w'.heap.size = w.heap.size + 3
theorem RB0.new (v : V) (w : World) : RB0 v w (((w.alloc (.cells (vList v).toArray 95)).alloc (.cells (ks.map uv).toArray 96)).alloc (.cells (vList V0).toArray 95)) := by
  have a1 := Ar8.new w v 95
  have b1 := (Below.refl w.heap.size w).alloc (Nat.le_refl _) (.cells (vList v).toArray 95)
  have s1 : (w.alloc (.cells (vList v).toArray 95)).heap.size = w.heap.size + 1 := by simp
  generalize w.alloc (.cells (vList v).toArray 95) = w1 at *
  have a2 := Arr.ofKs w1 96
  have c2 := (Below.refl w1.heap.size w1).alloc (Nat.le_refl _) (.cells (ks.map uv).toArray 96)
  have s2 : (w1.alloc (.cells (ks.map uv).toArray 96)).heap.size = w1.heap.size + 1 := by simp
  generalize w1.alloc (.cells (ks.map uv).toArray 96) = w2 at *
  have a3 := Ar8.new w2 V0 95
  have c3 := (Below.refl w2.heap.size w2).alloc (Nat.le_refl _) (.cells (vList V0).toArray 95)
  have s3 : (w2.alloc (.cells (vList V0).toArray 95)).heap.size = w2.heap.size + 1 := by simp
  generalize w2.alloc (.cells (vList V0).toArray 95) = w3 at *
  rw [s1] at a2
  rw [s2, s1] at a3
  exact ⟨(a1.below c2 (by omega)).below c3 (by omega), a2.below c3 (by omega), a3, (b1.trans (c2.mono (by omega))).trans (c3.mono (by omega)), by omega⟩
theorem RB.new {v : V} {w w' : World} (h : RB0 v w w') : RB v (fun _ => 0) w ((w'.alloc (.cells (Array.replicate 64 (.int .u32 0)) 96)).setCells w'.heap.size 0 (Array.replicate 64 (Value.int .u32 0)).toList) := by
  obtain ⟨h1, h2, h3, h4, h5⟩ := h
  have c := below_setCells w'.heap.size (Nat.le_refl _) (Array.replicate 64 (Value.int .u32 0)).toList 0 _ ((Below.refl w'.heap.size w').alloc (Nat.le_refl _) (.cells (Array.replicate 64 (.int .u32 0)) 96))
  have a := (Arr.new w' 96).setCells (List.replicate 64 0) (by simp)
  refine ⟨h1.below c (by omega), h2.below c (by omega), h3.below c (by omega), ?_, h4.trans (c.mono (by omega)), by rw [size_setCells]; simp; omega⟩
  rw [← h5]
  have e : (Array.replicate 64 (Value.int .u32 0)).toList = (List.replicate 64 (0 : UInt32)).map uv := by rfl
  rw [e]
  exact a.congr fun i hi => by rw [List.getD_eq_getElem?_getD, List.getElem?_replicate, if_pos hi]; rfl
theorem RB.below {v : V} {g : Nat → UInt32} {w w' w'' : World} (h : RB v g w w') (t : Below w'.heap.size w' w'') : RB v g w w'' :=
  have z := h.z
  ⟨h.h.below t (by omega), h.k.below t (by omega), h.r.below t (by omega), h.a.below t (by omega), h.bel.trans (t.mono (by omega)), Nat.lt_of_lt_of_le h.z t.size⟩
theorem RB.setFar {v : V} {g : Nat → UInt32} {w w' : World} (h : RB v g w w') (b o : Nat) (x : Value) (hb : w.heap.size + 3 < b) : RB v g w (w'.setCell ⟨b, o, none⟩ x) :=
  ⟨h.h.other (p := ⟨b, o, none⟩) (by show b ≠ _; omega) _, h.k.other (p := ⟨b, o, none⟩) (by show b ≠ _; omega) _, h.r.other (p := ⟨b, o, none⟩) (by show b ≠ _; omega) _, h.a.other (p := ⟨b, o, none⟩) (by show b ≠ _; omega) _, h.bel.setCell (p := ⟨b, o, none⟩) (by show w.heap.size ≤ b; omega) _, by simpa using h.z⟩
theorem RB.setCells {v : V} {g : Nat → UInt32} {w : World} (b : Nat) (hb : w.heap.size + 3 < b) : ∀ (l : List Value) (o : Nat) (w' : World), RB v g w w' → RB v g w (w'.setCells b o l)
  | [], _, _, h => h
  | x :: l, o, _, h => RB.setCells b hb l (o + 1) _ (h.setFar b o x hb)
theorem vList_length (x : V) : (vList x).length = 8 := rfl
theorem vList_at (x : V) (i : Nat) (h : i < 8) : (vList x)[i]? = some (.int .u32 (u (x.at i))) := by
  match i, h with
  | 0, _ => rfl
  | 1, _ => rfl
  | 2, _ => rfl
  | 3, _ => rfl
  | 4, _ => rfl
  | 5, _ => rfl
  | 6, _ => rfl
  | 7, _ => rfl
theorem Ar8.setCells {w : World} {b : Nat} {v : V} (h : Ar8 w b v) (x : V) : Ar8 (w.setCells b 0 (vList x)) b x := by
  have hr := World.rangeAt_setCells_same w b 0 (vList x) (fun j hj => by
    rw [vList_length] at hj
    rw [Nat.zero_add, h.cell j hj, h.frozen j hj]; exact ⟨rfl, rfl⟩)
  refine ⟨fun i hi => ?_, fun i hi => ?_⟩
  · have := hr i _ (vList_at x i hi)
    rwa [Nat.zero_add] at this
  · rw [World.frozen?_setCells]; exact h.frozen i hi
theorem Ar8.there {w : World} {b : Nat} {v : V} (h : Ar8 w b v) : w.there b 0 8 := fun j hj => by
  rw [Nat.zero_add, h.cell j hj, h.frozen j hj]; exact ⟨rfl, rfl⟩
theorem Ar8.range {w : World} {b : Nat} {v : V} (h : Ar8 w b v) : w.rangeAt b 0 (vList v) := fun j x hx => by
  rw [Nat.zero_add]
  match j, hx with
  | 0, hx => rw [← hx]; exact h.cell 0 (by decide)
  | 1, hx => rw [← hx]; exact h.cell 1 (by decide)
  | 2, hx => rw [← hx]; exact h.cell 2 (by decide)
  | 3, hx => rw [← hx]; exact h.cell 3 (by decide)
  | 4, hx => rw [← hx]; exact h.cell 4 (by decide)
  | 5, hx => rw [← hx]; exact h.cell 5 (by decide)
  | 6, hx => rw [← hx]; exact h.cell 6 (by decide)
  | 7, hx => rw [← hx]; exact h.cell 7 (by decide)
  | j + 8, hx => simp [vList] at hx
theorem vList_one (v : V) : ∀ x ∈ vList v, x.oneCell' = true := fun x hx => by
  simp only [vList, List.mem_cons, List.not_mem_nil, or_false] at hx
  rcases hx with rfl | rfl | rfl | rfl | rfl | rfl | rfl | rfl <;> rfl
/-- .. and the letters' array -/
structure RC (v X : V) (g : Nat → UInt32) (L : Nat) (w w' : World) : Prop where
  rb : RB v g w w'
  x : Ar8 w' L X
  far : w.heap.size + 3 < L
theorem RC.new {v : V} {g : Nat → UInt32} {w w' : World} (h : RB v g w w') : RC v v g w'.heap.size w (w'.alloc (.cells (vList v).toArray 95)) :=
  ⟨h.below ((Below.refl _ _).alloc (Nat.le_refl _) _), Ar8.new w' v _, h.z⟩
theorem RC.drewN {v X : V} {g : Nat → UInt32} {L : Nat} {w w' : World} (h : RC v X g L w w') (n : Nat) : RC v X g L w (w'.drewN n) := ⟨h.rb.drewN n, h.x.drewN n, h.far⟩
theorem RC.setCells {v X : V} {g : Nat → UInt32} {L : Nat} {w w' : World} (h : RC v X g L w w') (y : V) : RC v y g L w (w'.setCells L 0 (vList y)) := ⟨RB.setCells L h.far _ _ _ h.rb, h.x.setCells y, h.far⟩
theorem Ar8.set {w : World} {b : Nat} {v : V} (h : Ar8 w b v) (k : Nat) (hk : k < 8) (x : UInt32) : Ar8 (w.setCell ⟨b, k, none⟩ (.int .u32 (u x))) b (V.ofFn fun i => if i = k then x else v.at i) :=
  ⟨fun i hi => by
    rw [V.at_ofFn _ i hi]
    by_cases e : i = k
    · subst e; rw [if_pos rfl]; exact World.cell?_setCell_same _ _ _ (h.cell i hi)
    · rw [if_neg e, World.cell?_setCell_other]
      · exact h.cell i hi
      · exact fun g => e (congrArg Addr.off g).symm,
   fun i hi => by rw [World.frozen?_setCell]; exact h.frozen i hi⟩
theorem RC.set {v X : V} {g : Nat → UInt32} {L : Nat} {w w' : World} (h : RC v X g L w w') (k : Nat) (hk : k < 8) (x : UInt32) : RC v (V.ofFn fun i => if i = k then x else X.at i) g L w (w'.setCell ⟨L, k, none⟩ (.int .u32 (u x))) :=
  ⟨h.rb.setFar L k _ h.far, h.x.set k hk x, h.far⟩
theorem plus_comm (v w : V) : v.plus w = w.plus v := by
  simp only [V.plus, V.mk.injEq]
  exact ⟨UInt32.add_comm _ _, UInt32.add_comm _ _, UInt32.add_comm _ _, UInt32.add_comm _ _, UInt32.add_comm _ _, UInt32.add_comm _ _, UInt32.add_comm _ _, UInt32.add_comm _ _⟩
theorem wp_gen {P : Program} {Q : Exit → Act → World → Prop} {c : Code} {a : Act} {w : World} (S : World → Prop) (h : S w) (k : ∀ w', S w' → c.wp P Q a w') : c.wp P Q a w := k w h
theorem wpList_of_run' {P : Program} {ops : Array Oper} {Q : Exit → Act → World → Prop} {o : Oper} {l : List Oper} {a : Act} {w w' : World} {v : Value} (hg : o.guard = none) (h : (execOp a.eval o).run P w = .ok (.value v) w') (k : wpList P ops Q l (a.put o.dst v) w') : wpList P ops Q (o :: l) a w :=
  wpList_plain hg fun K hK => by unfold Oper.wp; rw [h]; exact hK _ _ k
attribute [local irreducible] sched rounds ks grown
set_option maxRecDepth 100000 in
set_option maxHeartbeats 1000000 in
theorem rblock_calls (v : V) (pb po c : Nat) (f : Nat → UInt8) (w : World) (hb : ∀ i, i < 64 → w.cell? ⟨pb, po + i, none⟩ = some (.int .u8 ((f i).toNat : Int))) :
    Calls Tryz.prog 74 #[.agg (vList v).toArray, .slice (some ⟨pb, po, none⟩) 64 c, .agg (ks.map uv).toArray] w fun e w' => e = .returned (.agg (vList (block v f)).toArray) ∧ Below w.heap.size w w' := by
  replace hb := Lib.hid hb
  go_enter Tryz.func74, Tryz.ntmps74
  go_upto_region 1 with (fail)
  refine wp_gen (RB0 v w) (RB0.new v w) (fun w3 h3 => ?_)
  have z3 := h3.2.2.2.2
  have hR := RB.new h3
  have hth := (Arr.new w3 96).there (Array.replicate 64 (Value.int .u32 0)).size (by decide)
  clear h3
  refine wp_region_lit ?_
  refine wpList_of_run' (w' := w3) (v := .agg (Array.replicate 64 (.int .u32 0))) rfl (by kernel_rfl) ?_
  refine wpList_of_run' (w' := w3.alloc (.cells (Array.replicate 64 (.int .u32 0)) 96)) (v := .pointer (some ⟨w3.heap.size, 0, none⟩)) rfl (by kernel_rfl) ?_
  refine wpList_store_mid rfl 96 (.tmp 7) (.tmp 19) rfl w3.heap.size 0 (Array.replicate 64 (.int .u32 0)) rfl rfl hth (by kernel_rfl) (by kernel_rfl) ?_
  refine wpList_gen (RB v (fun _ => 0) w) hR (fun w4 hR => ?_)
  rw [z3]
  clear hth z3
  go_wp2_with fail
  go_loopw [8] (fun i wr => ∃ t : Nat, t ≤ 16 ∧ i = .int .i64 t ∧ RB v (fun k => if k < t then word f k else 0) w wr) (fun i _ => 16 - (intOf i).toNat)
  case atStart => exact ⟨0, by omega, rfl, hR⟩
  case round =>
    clear hR
    obtain ⟨t, ht, rfl, hR⟩ := hrel
    by_cases hlt : t < 16
    · have it : (t : Int) < 64 := by omega
      have jt : 0 ≤ (t : Int) := by omega
      have hbw : ∀ i, i < 64 → wr.cell? ⟨pb, po + i, none⟩ = some (.int .u8 ((f i).toNat : Int)) := fun i hi => by
        have h0 := hb.out i hi
        exact (hR.bel.cell (p := ⟨pb, po + i, none⟩) (lt_of_cell h0)).trans h0
      have c0 := hbw (4 * t) (by omega)
      have c1 := hbw (4 * t + 1) (by omega)
      have c2 := hbw (4 * t + 2) (by omega)
      have c3 := hbw (4 * t + 3) (by omega)
      have ct := hR.a.cell t (by omega)
      have cf := hR.a.frozen t (by omega)
      clear hbw
      have i0 : (4 * (t : Int)) < 64 := by omega
      have i1 : (4 * (t : Int) + 1) < 64 := by omega
      have i2 : (4 * (t : Int) + 2) < 64 := by omega
      have i3 : (4 * (t : Int) + 3) < 64 := by omega
      have j0 : 0 ≤ (4 * (t : Int)) := by omega
      have j1 : 0 ≤ (4 * (t : Int) + 1) := by omega
      have j2 : 0 ≤ (4 * (t : Int) + 2) := by omega
      have j3 : 0 ≤ (4 * (t : Int) + 3) := by omega
      have n0 : (4 * (t : Int)).toNat = 4 * t := by omega
      have n1 : (4 * (t : Int) + 1).toNat = 4 * t + 1 := by omega
      have n2 : (4 * (t : Int) + 2).toNat = 4 * t + 2 := by omega
      have n3 : (4 * (t : Int) + 3).toNat = 4 * t + 3 := by omega
      have w0 : IntKind.i64.wrap (4 * (t : Int)) = 4 * (t : Int) := IntWalk.i64_in _ (by omega)
      have w1 : IntKind.i64.wrap (4 * (t : Int) + 1) = 4 * (t : Int) + 1 := IntWalk.i64_in _ (by omega)
      have w2 : IntKind.i64.wrap (4 * (t : Int) + 2) = 4 * (t : Int) + 2 := IntWalk.i64_in _ (by omega)
      have w3 : IntKind.i64.wrap (4 * (t : Int) + 3) = 4 * (t : Int) + 3 := IntWalk.i64_in _ (by omega)
      go_wp2_with fail
      go_still_tail 35, (by kernel_rfl)
      change wpList _ _ _ _ _ wr.drew
      clear n0 n1 n2 n3 w0 w1 w2 w3 i0 i1 i2 i3 j0 j1 j2 j3 c0 c1 c2 c3
      go_wp2
      go_roundw
      case rel => exact ⟨t + 1, by omega, by go_num, ((hR.set t (by omega) (word f t)).congr fun i _ => word_next f t i).drewN 1⟩
      case measure => simp [intOf]; omega
    · have h16 := Lib.hid (show t = 16 by omega)
      have hd : decide ((t : Int) < 16) = false := decide_eq_false (by omega)
      replace hR : RB v (fun k => (sched f 0).getD k 0) w wr := hR.congr (fun i hi => by rw [h16.out]; exact sched_first f i hi)
      clear hlt ht
      go_wp2_with fail
      clear hd h16
      go_loopw [9] (fun i wr => ∃ n : Nat, 16 ≤ n ∧ n ≤ 64 ∧ i = .int .i64 n ∧ RB v (fun k => (sched f (n - 16)).getD k 0) w wr) (fun i _ => 64 - (intOf i).toNat)
      case atStart => exact ⟨16, by omega, by omega, rfl, hR⟩
      case round =>
        clear hR
        obtain ⟨n, h16, hn, rfl, hR⟩ := hrel
        by_cases hlt : n < 64
        · have e15 := hR.a.cell (n - 15) (by omega)
          have e2 := hR.a.cell (n - 2) (by omega)
          have e16 := hR.a.cell (n - 16) (by omega)
          have e7 := hR.a.cell (n - 7) (by omega)
          have en := hR.a.cell n (by omega)
          have fn := hR.a.frozen n (by omega)
          have hl : (n : Int) < 64 := by omega
          have hl0 : 0 ≤ (n : Int) := by omega
          have l15 : (n : Int) - 15 < 64 := by omega
          have l2 : (n : Int) - 2 < 64 := by omega
          have l16 : (n : Int) - 16 < 64 := by omega
          have l7 : (n : Int) - 7 < 64 := by omega
          have g15 : 0 ≤ (n : Int) - 15 := by omega
          have g2 : 0 ≤ (n : Int) - 2 := by omega
          have g16 : 0 ≤ (n : Int) - 16 := by omega
          have g7 : 0 ≤ (n : Int) - 7 := by omega
          have k16 : 16 ≤ (n : Int) := by omega
          have k7 : 7 ≤ (n : Int) := by omega
          have k15 : 15 ≤ (n : Int) := by omega
          have k2 : 2 ≤ (n : Int) := by omega
          have n15 : ((n : Int) - 15).toNat = n - 15 := by omega
          have n2 : ((n : Int) - 2).toNat = n - 2 := by omega
          have n16 : ((n : Int) - 16).toNat = n - 16 := by omega
          have n7 : ((n : Int) - 7).toNat = n - 7 := by omega
          have w15 : IntKind.i64.wrap ((n : Int) - 15) = (n : Int) - 15 := IntWalk.i64_in _ (by omega)
          have w2 : IntKind.i64.wrap ((n : Int) - 2) = (n : Int) - 2 := IntWalk.i64_in _ (by omega)
          have w16 : IntKind.i64.wrap ((n : Int) - 16) = (n : Int) - 16 := IntWalk.i64_in _ (by omega)
          have w7 : IntKind.i64.wrap ((n : Int) - 7) = (n : Int) - 7 := IntWalk.i64_in _ (by omega)
          have hx := Lib.hid (fun i => sched_next f n i h16 _ rfl)
          generalize (sched f (n - 16)).getD (n - 15) 0 = x15 at *
          generalize (sched f (n - 16)).getD (n - 2) 0 = x2 at *
          generalize (sched f (n - 16)).getD (n - 16) 0 = x16 at *
          generalize (sched f (n - 16)).getD (n - 7) 0 = x7 at *
          generalize (sched f (n - 16)).getD n 0 = xn at *
          go_wp2_with fail
          have q16 : (⟨w.heap.size + 3, n, none⟩ : Addr) ≠ ⟨w.heap.size + 3, n - 16, none⟩ := fun g => by have := congrArg Addr.off g; simp only at this; omega
          have q7 : (⟨w.heap.size + 3, n, none⟩ : Addr) ≠ ⟨w.heap.size + 3, n - 7, none⟩ := fun g => by have := congrArg Addr.off g; simp only at this; omega
          go_region_held3 (fun w' => w'.cell? ⟨w.heap.size + 3, n - 16, none⟩ = some (.int .u32 (u x16)) ∧ w'.cell? ⟨w.heap.size + 3, n - 7, none⟩ = some (.int .u32 (u x7)))
            (first | exact ⟨e16, e7⟩ | exact ⟨(World.cell?_setCell_other _ _ _ _ q16).trans e16, (World.cell?_setCell_other _ _ _ _ q7).trans e7⟩)
            (first | (go_at_call 102; refine (rturn_calls _ _ (by simp [turnOk]) _).mono ?_; rintro e w' ⟨rfl, m, rfl⟩))
          clear n15 n2 n16 n7 w15 w2 w16 w7 l15 l2 l16 l7 g15 g2 g16 g7 e16 e7 e15 e2 q16 q7
          go_wp2_with fail
          exact ⟨⟨n + 1, by omega, by omega, by go_num, ((hR.drewN _).set n hlt (x16 + s0 x15 + x7 + s1 x2)).congr (fun i _ => hx.out i)⟩, by simp [intOf]; omega⟩
        · have hd : decide ((n : Int) < 64) = false := decide_eq_false (by omega)
          have h64 := Lib.hid (show n = 64 by omega)
          replace hR : RB v (fun k => (sched f 48).getD k 0) w wr := hR.congr (fun i _ => by rw [h64.out])
          clear h64
          have v0 := hR.h.cell 0 (by decide)
          have v1 := hR.h.cell 1 (by decide)
          have v2 := hR.h.cell 2 (by decide)
          have v3 := hR.h.cell 3 (by decide)
          have v4 := hR.h.cell 4 (by decide)
          have v5 := hR.h.cell 5 (by decide)
          have v6 := hR.h.cell 6 (by decide)
          have v7 := hR.h.cell 7 (by decide)
          simp only [V.at] at v0 v1 v2 v3 v4 v5 v6 v7
          go_wp2_with fail
          clear v0 v1 v2 v3 v4 v5 v6 v7 hd hlt hn h16
          have hC := RC.new hR
          clear hR
          replace hC : RC v v (fun k => (sched f 48).getD k 0) wr.heap.size w (wr.alloc (.cells #[.int .u32 (u v.a), .int .u32 (u v.b), .int .u32 (u v.c), .int .u32 (u v.d), .int .u32 (u v.e), .int .u32 (u v.f), .int .u32 (u v.g), .int .u32 (u v.h)] 95)) := hC
          generalize wr.alloc (.cells #[.int .u32 (u v.a), .int .u32 (u v.b), .int .u32 (u v.c), .int .u32 (u v.d), .int .u32 (u v.e), .int .u32 (u v.f), .int .u32 (u v.g), .int .u32 (u v.h)] 95) = w5 at *
          generalize wr.heap.size = L at *
          go_loopw [13] (fun i wr => ∃ t : Nat, t ≤ 64 ∧ i = .int .i64 t ∧ RC v (rounds (sched f 48) v t) (fun k => (sched f 48).getD k 0) L w wr) (fun i _ => 64 - (intOf i).toNat)
          case atStart => exact ⟨0, by omega, rfl, by rw [rounds_zero]; exact hC⟩
          case round =>
            clear hC
            obtain ⟨t, ht, rfl, hC⟩ := hrel
            by_cases hlt : t < 64
            · have it : (t : Int) < 64 := by omega
              have jt : 0 ≤ (t : Int) := by omega
              have kt := hC.rb.k.cell t hlt
              have st := hC.rb.a.cell t hlt
              have hx := Lib.hid (rounds_succ (sched f 48) v t)
              generalize rounds (sched f 48) v t = X at *
              generalize ks.getD t 0 = k at *
              generalize (sched f 48).getD t 0 = s at *
              have x0 := hC.x.cell 0 (by decide)
              have x1 := hC.x.cell 1 (by decide)
              have x2 := hC.x.cell 2 (by decide)
              have x3 := hC.x.cell 3 (by decide)
              have x4 := hC.x.cell 4 (by decide)
              have x5 := hC.x.cell 5 (by decide)
              have x6 := hC.x.cell 6 (by decide)
              have x7 := hC.x.cell 7 (by decide)
              simp only [V.at] at x0 x1 x2 x3 x4 x5 x6 x7
              go_wp2_with fail
              go_quiet ((go_at_call 102; exact Calls.quiet_of (rturn_calls _ _ (by simp [turnOk]) _)))
              replace hC := hC.drewN nq
              replace x0 : (wr.drewN nq).cell? _ = _ := x0
              replace x1 : (wr.drewN nq).cell? _ = _ := x1
              replace x2 : (wr.drewN nq).cell? _ = _ := x2
              replace x3 : (wr.drewN nq).cell? _ = _ := x3
              replace x5 : (wr.drewN nq).cell? _ = _ := x5
              replace x6 : (wr.drewN nq).cell? _ = _ := x6
              clear x4 x7 kt st
              generalize wr.drewN nq = wr at *
              go_wp2_with fail
              go_quiet ((go_at_call 102; exact Calls.quiet_of (rturn_calls _ _ (by simp [turnOk]) _)))
              replace hC := hC.drewN nq
              replace x1 : (wr.drewN nq).cell? _ = _ := x1
              replace x2 : (wr.drewN nq).cell? _ = _ := x2
              replace x3 : (wr.drewN nq).cell? _ = _ := x3
              replace x5 : (wr.drewN nq).cell? _ = _ := x5
              replace x6 : (wr.drewN nq).cell? _ = _ := x6
              clear x0
              generalize wr.drewN nq = wr at *
              have hth := hC.x.there
              have hS := hC.setCells (round X k s)
              clear hC
              go_wp2_with (refine wpList_store_mid (op := ⟨Option.none, .store 95 (.tmp 12) (.tmp 180), _, _, _, _⟩) (by rfl) 95 (.tmp 12) (.tmp 180) (by rfl) L 0 (vList (round X k s)).toArray (by rfl) (by rfl) hth (by kernel_rfl) (all_oneCell_toArray (vList_one _)) (wpList_gen (RC v (round X k s) (fun k => (sched f 48).getD k 0) L w) hS ?_))
              intro w6 hC6
              have hC : RC v (round X k s) (fun k => (sched f 48).getD k 0) L w w6 := by simpa only [List.getD_eq_getElem?_getD] using hC6
              clear hC6 hS hth x1 x2 x3 x5 x6
              go_wp2_with fail
              exact ⟨⟨t + 1, by omega, by go_num, by rw [hx.out]; exact hC⟩, by simp [intOf]; omega⟩
            · have hd : decide ((t : Int) < 64) = false := decide_eq_false (by omega)
              have h64 := Lib.hid (show t = 64 by omega)
              have hX : ∃ X, rounds (sched f 48) v t = X := ⟨_, rfl⟩
              obtain ⟨X, hX⟩ := hX
              rw [hX] at hC
              replace hX : block v f = X.plus v := by rw [h64.out] at hX; rw [block, hX, plus_comm]
              replace hX := Lib.hid hX
              clear h64 ht hlt
              replace hC := Lib.hid hC
              go_wp2_with fail
              clear hd
              go_loopw [18] (fun i wr => ∃ k : Nat, k ≤ 8 ∧ i = .int .i64 k ∧ RC v (grown X v k) (fun k => (sched f 48).getD k 0) L w wr) (fun i _ => 8 - (intOf i).toNat)
              case atStart => exact ⟨0, by omega, rfl, by rw [grown_zero]; exact hC.out⟩
              case round =>
                clear hC
                obtain ⟨k, hk, rfl, hC⟩ := hrel
                by_cases hlt : k < 8
                · have ik : (k : Int) < 8 := by omega
                  have jk : 0 ≤ (k : Int) := by omega
                  have c1 := hC.x.cell k hlt
                  rw [grown_at X v k hlt] at c1
                  have c2 := hC.rb.h.cell k hlt
                  have fk := hC.x.frozen k hlt
                  have hS := hC.set k hlt (X.at k + v.at k)
                  rw [grown_next X v k hlt] at hS
                  replace hS := Lib.hid hS
                  clear hC
                  generalize hvk : v.at k = vk at *
                  generalize hXk : X.at k = Xk at *
                  clear hvk hXk
                  go_wp2_with fail
                  go_still_tail 9, (by kernel_rfl)
                  change wpList _ _ _ _ _ wr.drew
                  go_wp2
                  exact ⟨⟨k + 1, by omega, by go_num, hS.out.drewN 1⟩, by simp [intOf]; omega⟩
                · have hd : decide ((k : Int) < 8) = false := decide_eq_false (by omega)
                  obtain rfl : k = 8 := by omega
                  rw [grown_all, ← hX.out] at hC
                  have hr := hC.x.range
                  have hth := hC.rb.r.there
                  have hB := hC.rb.bel
                  clear hC
                  go_upto_region 25 with (fail)
                  refine wp_region_lit ?_
                  refine wpList_load_mid rfl 95 (.tmp 12) rfl L 0 rfl (vList (block v f)) _ hr Tryz.underlying95 rfl (by kernel_rfl) ?_
                  refine wpList_store_mid rfl 95 (.tmp 6) (.tmp 194) rfl (w.heap.size + 2) 0 (vList (block v f)).toArray rfl rfl hth (by kernel_rfl) (all_oneCell_toArray (vList_one _)) ?_
                  go_wp2_with fail
                  exact bodyPost_ret (results_cell Tryz.results74 rfl (World.rangeAt_setCells_same wr (w.heap.size + 2) 0 (vList (block v f)) hth) Tryz.underlying95 rfl (by kernel_rfl)) rfl ⟨rfl, below_setCells _ (by omega) _ _ _ hB⟩
end Go.Proofs.YtdmpkgdlelagjaaGreatDoor.Sha
