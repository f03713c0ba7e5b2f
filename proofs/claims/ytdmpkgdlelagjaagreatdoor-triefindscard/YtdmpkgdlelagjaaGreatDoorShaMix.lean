/-
  (*sha.words).mix, called at a Hash's words and block: the words become those behind one block more; nothing else that was there turns. Conditions: the constants lie where the program's text lays them, the Hash lies in memory that may be written.
-/
import Derived.Test.YtdmpkgdlelagjaaGreatDoorRows
import Derived.Test.YtdmpkgdlelagjaaGreatDoorShaSched
import Derived.WalkKit
import Derived.WalkSpells
import Derived.WalkLawsBesides
import Derived.ProofKit
import Derived.OpenShut
import Derived.Laws.BytesArg
import Derived.Deep.QuietTactic
import Derived.BigQuiet
import Derived.BigRegion
import Derived.Lib.Hide
import Derived.Deep.Cut
import Derived.Deep.MidRow
import Derived.IntWalk
import Derived.StillTailTactics
namespace Go.Proofs.YtdmpkgdlelagjaaGreatDoor.Sha
open Go.RowKit
attribute [local go_sem] u_xor u_or u_and u_not u_not2 u_add w_add w_byte m_byte m_shl24 m_shl16 m_shl8 w_shl24 w_shl16 w_shl8 m_shr3 m_shr10
/-- only block b may have turned, and new blocks may be there -/
structure Turned (b : Nat) (w w' : World) : Prop where
  os : w'.os = w.os
  tape : w'.tape = w.tape
  output : w'.output = w.output
  size : w.heap.size ≤ w'.heap.size
  block : ∀ k, k < w.heap.size → k ≠ b → w'.heap[k]? = w.heap[k]?
theorem Turned.refl (b : Nat) (w : World) : Turned b w w := ⟨rfl, rfl, rfl, Nat.le_refl _, fun _ _ _ => rfl⟩
theorem Turned.trans {b : Nat} {x y z : World} (h : Turned b x y) (k : Turned b y z) : Turned b x z :=
  ⟨k.os.trans h.os, k.tape.trans h.tape, k.output.trans h.output, Nat.le_trans h.size k.size, fun i hi hb => (k.block i (Nat.lt_of_lt_of_le hi h.size) hb).trans (h.block i hi hb)⟩
theorem Turned.of_below {b : Nat} {w w' : World} (h : Below w.heap.size w w') : Turned b w w' := ⟨h.os, h.tape, h.output, h.size, fun k hk _ => h.block k hk⟩
theorem Turned.below {b B : Nat} {w w' : World} (h : Turned b w w') (hB : B ≤ b) (hs : B ≤ w.heap.size) : Below B w w' :=
  ⟨h.os, h.tape, h.output, h.size, fun k hk => h.block k (by omega) (by omega)⟩
theorem Turned.cell {b : Nat} {w w' : World} (h : Turned b w w') {p : Addr} (hp : p.block ≠ b) (hs : p.block < w.heap.size) : w'.cell? p = w.cell? p := World.cell?_of_block (w := w) (h.block p.block hs hp)
theorem Turned.frozen {b : Nat} {w w' : World} (h : Turned b w w') {p : Addr} (hp : p.block ≠ b) (hs : p.block < w.heap.size) : w'.frozen? p = w.frozen? p := World.frozen?_of_block (w := w) (h.block p.block hs hp)
theorem Turned.setCell {b : Nat} {w w' : World} (h : Turned b w w') (o : Nat) (v : Value) : Turned b w (w'.setCell ⟨b, o, none⟩ v) :=
  h.trans ⟨rfl, rfl, rfl, by simp [World.setCell], fun k _ hk => Below.heap_setCell _ _ _ _ hk⟩
theorem Turned.drew {b : Nat} {w w' : World} (h : Turned b w w') : Turned b w w'.drew := ⟨h.os, h.tape, h.output, h.size, h.block⟩
theorem Turned.drewN {b : Nat} {w w' : World} (h : Turned b w w') (n : Nat) : Turned b w (w'.drewN n) := ⟨h.os, h.tape, h.output, h.size, h.block⟩
theorem Turned.alloc {b : Nat} {w w' : World} (h : Turned b w w') (o : Obj) : Turned b w (w'.alloc o) :=
  h.trans (Turned.of_below ((Below.refl _ _).alloc (Nat.le_refl _) o))

/-- the constants lie where the program's first variable is -/
structure Kc (w : World) : Prop where
  cell : ∀ t, t < 64 → w.cell? ⟨0, t, none⟩ = some (.int .u32 (u (ks.getD t 0)))
theorem Kc.pos {w : World} (h : Kc w) : 0 < w.heap.size := lt_of_cell (h.cell 0 (by decide))
theorem Kc.turned {w w' : World} {b : Nat} (h : Kc w) (t : Turned b w w') (hb : 0 < b) : Kc w' :=
  ⟨fun i hi => (t.cell (p := ⟨0, i, none⟩) (by show 0 ≠ b; omega) h.pos).trans (h.cell i hi)⟩
/-- at block b lies a Hash: its words, its bytes, its size -/
structure Hs (w : World) (b : Nat) (v : V) (f : Nat → UInt8) (n : Int) : Prop where
  st : ∀ i, i < 8 → w.cell? ⟨b, i, none⟩ = some (.int .u32 (u (v.at i)))
  bl : ∀ i, i < 64 → w.cell? ⟨b, 8 + i, none⟩ = some (.int .u8 ((f i).toNat : Int))
  sz : w.cell? ⟨b, 72, none⟩ = some (.int .u64 n)
  fr : ∀ i, i < 73 → w.frozen? ⟨b, i, none⟩ = false
theorem Hs.lt {w : World} {b : Nat} {v : V} {f : Nat → UInt8} {n : Int} (h : Hs w b v f n) : b < w.heap.size := lt_of_cell h.sz
theorem Hs.turned {w w' : World} {b b' : Nat} {v : V} {f : Nat → UInt8} {n : Int} (h : Hs w b v f n) (t : Turned b' w w') (hb : b ≠ b') : Hs w' b v f n :=
  ⟨fun i hi => (t.cell (p := ⟨b, i, none⟩) hb h.lt).trans (h.st i hi), fun i hi => (t.cell (p := ⟨b, 8 + i, none⟩) hb h.lt).trans (h.bl i hi),
   (t.cell (p := ⟨b, 72, none⟩) hb h.lt).trans h.sz, fun i hi => (t.frozen (p := ⟨b, i, none⟩) hb h.lt).trans (h.fr i hi)⟩
theorem Hs.below {w w' : World} {b B : Nat} {v : V} {f : Nat → UInt8} {n : Int} (h : Hs w b v f n) (t : Below B w w') (hb : b < B) : Hs w' b v f n :=
  ⟨fun i hi => (t.cell (p := ⟨b, i, none⟩) hb).trans (h.st i hi), fun i hi => (t.cell (p := ⟨b, 8 + i, none⟩) hb).trans (h.bl i hi),
   (t.cell (p := ⟨b, 72, none⟩) hb).trans h.sz, fun i hi => (t.frozen (p := ⟨b, i, none⟩) hb).trans (h.fr i hi)⟩
theorem wpList_gen {P : Program} {ops : Array Oper} {Q : Exit → Act → World → Prop} {l : List Oper} {a : Act} {w : World} (S : World → Prop) (h : S w) (k : ∀ w', S w' → wpList P ops Q l a w') : wpList P ops Q l a w := k w h
theorem size_setCells (b : Nat) : ∀ (vs : List Value) (o : Nat) (w : World), (w.setCells b o vs).heap.size = w.heap.size
  | [], _, _ => rfl
  | v :: vs, o, w => (size_setCells b vs (o + 1) _).trans (by simp [World.setCell])
theorem Arr.setCells {w : World} {b : Nat} {g : Nat → UInt32} (h : Arr w b g) (l : List UInt32) (hl : l.length = 64) : Arr (w.setCells b 0 (l.map uv)) b (fun i => l.getD i 0) :=
  ⟨fun i hi => by
    have e := World.cell?_setCells_in b (l.map uv) 0 w (fun j hj => by rw [Nat.zero_add, h.cell j (by simp at hj; omega)]; rfl) i (by simp; omega)
    rw [Nat.zero_add] at e
    rw [e]
    simp [uv, List.getD_eq_getElem?_getD, List.getElem?_eq_getElem (show i < l.length by omega)],
   fun i hi => by rw [World.frozen?_setCells]; exact h.frozen i hi⟩
def MixS (f : Nat → UInt8) (w : World) (B : Nat) (w3 : World) : Prop := Arr w3 B (fun i => (sched f 48).getD i 0) ∧ Below w.heap.size w w3 ∧ B < w3.heap.size
structure MixW (b B : Nat) (v : V) (f : Nat → UInt8) (n : Int) (w wr : World) : Prop where
  arr : Arr wr B (fun i => (sched f 48).getD i 0)
  hs : Hs wr b v f n
  kc : Kc wr
  bel : Below w.heap.size w wr
  z : B < wr.heap.size
theorem MixW.drewN {b B : Nat} {v : V} {f : Nat → UInt8} {n : Int} {w wr : World} (h : MixW b B v f n w wr) (m : Nat) : MixW b B v f n w (wr.drewN m) :=
  ⟨h.arr.drewN m, ⟨h.hs.st, h.hs.bl, h.hs.sz, h.hs.fr⟩, ⟨h.kc.cell⟩, below_drewN h.bel m, h.z⟩
theorem quiet_same {P : Program} {f : FuncId} {args : Array Value} {w : World} {n : Nat} {v : Value}
    (h : Calls P f args (w.drewN n) fun e w' => e = .returned v ∧ w.drewN n = w') :
    Calls P f args (w.drewN n) fun e w'' => e = .returned v ∧ ∃ m, w'' = w.drewN m := Calls.quiet_of_same (h.mono fun _ _ ⟨x, y⟩ => ⟨x, y.symm⟩)
theorem rounds_succ (W : List UInt32) (v : V) (t : Nat) : rounds W v (t + 1) = round (rounds W v t) (ks.getD t 0) (W.getD t 0) := rfl
theorem uval {x y : UInt32} (h : x = y) : Value.int .u32 (u x) = Value.int .u32 (u y) := by rw [h]
theorem rounds_zero (W : List UInt32) (v : V) : rounds W v 0 = v := rfl
theorem Hs.set {w : World} {b : Nat} {v : V} {f : Nat → UInt8} {n : Int} (h : Hs w b v f n) (k : Nat) (hk : k < 8) (x : UInt32) : Hs (w.setCell ⟨b, k, none⟩ (.int .u32 (u x))) b (V.ofFn fun i => if i = k then x else v.at i) f n :=
  ⟨fun i hi => by
    rw [V.at_ofFn _ i hi]
    by_cases e : i = k
    · subst e; rw [if_pos rfl]; exact World.cell?_setCell_same _ _ _ (h.st i hi)
    · rw [if_neg e, World.cell?_setCell_other]
      · exact h.st i hi
      · exact fun g => e (congrArg Addr.off g).symm,
   fun i hi => by
    rw [World.cell?_setCell_other]
    · exact h.bl i hi
    · exact fun g => by have := congrArg Addr.off g; simp only at this; omega,
   by
    rw [World.cell?_setCell_other]
    · exact h.sz
    · exact fun g => by have := congrArg Addr.off g; simp only at this; omega,
   fun i hi => by rw [World.frozen?_setCell]; exact h.fr i hi⟩
theorem letters_new (w : World) (X : V) (t : TypeId) : ∀ i, i < 8 → (w.alloc (.cells #[.int .u32 (u X.a), .int .u32 (u X.b), .int .u32 (u X.c), .int .u32 (u X.d), .int .u32 (u X.e), .int .u32 (u X.f), .int .u32 (u X.g), .int .u32 (u X.h)] t)).cell? ⟨w.heap.size, i, none⟩ = some (.int .u32 (u (X.at i))) := fun i hi => by
  match i, hi with
  | 0, _ => simp [go_sem, V.at]
  | 1, _ => simp [go_sem, V.at]
  | 2, _ => simp [go_sem, V.at]
  | 3, _ => simp [go_sem, V.at]
  | 4, _ => simp [go_sem, V.at]
  | 5, _ => simp [go_sem, V.at]
  | 6, _ => simp [go_sem, V.at]
  | 7, _ => simp [go_sem, V.at]
/-- the words of which the first k have grown by X's -/
def grown (v X : V) (k : Nat) : V := V.ofFn fun i => if i < k then v.at i + X.at i else v.at i
theorem grown_zero (v X : V) : grown v X 0 = v := rfl
theorem grown_all (v X : V) : grown v X 8 = v.plus X := rfl
theorem grown_at (v X : V) (k : Nat) (h : k < 8) : (grown v X k).at k = v.at k := by
  rw [grown, V.at_ofFn _ k h, if_neg (Nat.lt_irrefl k)]
theorem grown_next (v X : V) (k : Nat) (h : k < 8) : (V.ofFn fun i => if i = k then v.at k + X.at k else (grown v X k).at i) = grown v X (k + 1) := by
  have e : ∀ i, i < 8 → (if i = k then v.at k + X.at k else (grown v X k).at i) = (if i < k + 1 then v.at i + X.at i else v.at i) := fun i hi => by
    by_cases g : i = k
    · subst g; simp
    · rw [if_neg g, grown, V.at_ofFn _ i hi]
      by_cases g2 : i < k
      · rw [if_pos g2, if_pos (by omega)]
      · rw [if_neg g2, if_neg (by omega)]
  simp only [grown, V.ofFn, V.mk.injEq]
  exact ⟨e 0 (by omega), e 1 (by omega), e 2 (by omega), e 3 (by omega), e 4 (by omega), e 5 (by omega), e 6 (by omega), e 7 (by omega)⟩
attribute [local irreducible] sched rounds ks grown
set_option maxRecDepth 100000 in
set_option maxHeartbeats 1000000 in
theorem mix_calls (b : Nat) (v : V) (f : Nat → UInt8) (n : Int) (w : World) (hk : Kc w) (hb : 0 < b) (h : Hs w b v f n) :
    Calls Tryz.prog 83 #[.pointer (some ⟨b, 0, none⟩), .pointer (some ⟨b, 8, none⟩)] w fun e w' => e = .returned (.tuple #[]) ∧ Hs w' b (block v f) f n ∧ Turned b w w' := by
  have hbs := h.lt
  go_enter Tryz.func83, Tryz.ntmps83
  go_wp2_with fail
  refine (schedule_calls b 8 f w ⟨h.bl⟩).mono ?_
  rintro e w1 ⟨rfl, t1⟩
  have z1 := t1.size
  have hl := Lib.hid (sched_length f 48)
  have hA0 := Arr.new w1 96
  have hth := hA0.there ((sched f 48).map uv).toArray.size (by simp [hl.out])
  have hi := Lib.hid (show (Tryz.prog.info? 96).map (·.size) = some ((sched f 48).map uv).toArray.size by simp only [List.size_toArray, List.length_map, hl.out]; kernel_rfl)
  have hS : MixS f w w1.heap.size ((w1.alloc (.cells (Array.replicate 64 (.int .u32 0)) 96)).setCells w1.heap.size 0 ((sched f 48).map uv)) :=
    ⟨hA0.setCells (sched f 48) hl.out, below_setCells _ z1 _ _ _ (t1.alloc z1 _), by rw [size_setCells]; simp⟩
  clear hA0
  go_wp2_with (refine wpList_store_mid (op := ⟨Option.none, .store 96 (.tmp 4) (.tmp 19), _, _, _, _⟩) (by rfl) 96 (.tmp 4) (.tmp 19) (by rfl) w1.heap.size 0 ((sched f 48).map uv).toArray (by rfl) (by rfl) hth hi.out (all_oneCell_toArray (uv_one _)) (wpList_gen (MixS f w w1.heap.size) hS ?_))
  clear hS hth hi
  rintro w3 ⟨hA, t3, z3⟩
  generalize w1.heap.size = B at *
  clear t1
  replace h := h.below t3 hbs
  replace hk := hk.turned (Turned.of_below (b := b) t3) hb
  have v0 := h.st 0 (by decide)
  have v1 := h.st 1 (by decide)
  have v2 := h.st 2 (by decide)
  have v3 := h.st 3 (by decide)
  have v4 := h.st 4 (by decide)
  have v5 := h.st 5 (by decide)
  have v6 := h.st 6 (by decide)
  have v7 := h.st 7 (by decide)
  simp only [V.at] at v0 v1 v2 v3 v4 v5 v6 v7
  go_wp2_with fail
  go_quiet (fail)
  have hW : MixW b B v f n w w3 := ⟨hA, h, hk, t3, z3⟩
  replace hW := hW.drewN nq
  clear v0 v1 v2 v3 v4 v5 v6 v7 hA h hk t3 z3
  generalize w3.drewN nq = w4 at *
  go_wp2_with fail
  go_loopw [5, 6, 7, 8, 9, 10, 11, 12, 52] (fun xa xb xc xd xe xf xg xh i wr => ∃ t : Nat, t ≤ 64 ∧ i = .int .i64 t ∧ xa = .int .u32 (u (rounds (sched f 48) v t).a) ∧ xb = .int .u32 (u (rounds (sched f 48) v t).b) ∧ xc = .int .u32 (u (rounds (sched f 48) v t).c) ∧ xd = .int .u32 (u (rounds (sched f 48) v t).d) ∧ xe = .int .u32 (u (rounds (sched f 48) v t).e) ∧ xf = .int .u32 (u (rounds (sched f 48) v t).f) ∧ xg = .int .u32 (u (rounds (sched f 48) v t).g) ∧ xh = .int .u32 (u (rounds (sched f 48) v t).h) ∧ MixW b B v f n w wr) (fun _ _ _ _ _ _ _ _ i _ => 64 - (intOf i).toNat)
  case atStart => exact ⟨0, by omega, rfl, by rw [rounds_zero], by rw [rounds_zero], by rw [rounds_zero], by rw [rounds_zero], by rw [rounds_zero], by rw [rounds_zero], by rw [rounds_zero], by rw [rounds_zero], hW⟩
  case round =>
    clear hW
    obtain ⟨t, ht, rfl, rfl, rfl, rfl, rfl, rfl, rfl, rfl, rfl, hW⟩ := hrel
    by_cases hlt : t < 64
    · have it : (t : Int) < 64 := by omega
      have jt : 0 ≤ (t : Int) := by omega
      have kt := hW.kc.cell t hlt
      have st := hW.arr.cell t hlt
      have hx := Lib.hid (rounds_succ (sched f 48) v t)
      generalize rounds (sched f 48) v t = X at *
      generalize ks.getD t 0 = k at *
      generalize (sched f 48).getD t 0 = s at *
      go_wp2_with fail
      go_quiet ((go_at_call 112; exact quiet_same (turn_calls _ _ (by simp [turnOk]) _)))
      go_wp2_with (go_at_call 112; refine (turn_calls _ _ (by simp [turnOk]) _).mono ?_; rintro e w' ⟨rfl, rfl⟩)
      refine ⟨⟨t + 1, by omega, by go_num, ?_, ?_, ?_, ?_, ?_, ?_, ?_, ?_, hW.drewN nq⟩, by simp [intOf]; omega⟩
      all_goals (rw [hx.out]; rfl)
    · have hd : decide ((t : Int) < 64) = false := decide_eq_false (by omega)
      have h64 := Lib.hid (show t = 64 by omega)
      have hX : ∃ X, rounds (sched f 48) v t = X := ⟨_, rfl⟩
      obtain ⟨X, hX⟩ := hX
      rw [hX]
      replace hX : block v f = v.plus X := by rw [h64.out] at hX; rw [block, hX]
      replace hX := Lib.hid hX
      have hH := hW.hs
      have hT : Turned b w wr := Turned.of_below hW.bel
      clear hW h64
      go_wp2_with fail
      have hL := letters_new wr X 110
      have hbL : b < wr.heap.size := hH.lt
      have hH1 := hH.below ((Below.refl wr.heap.size wr).alloc (Nat.le_refl _) (.cells #[.int .u32 (u X.a), .int .u32 (u X.b), .int .u32 (u X.c), .int .u32 (u X.d), .int .u32 (u X.e), .int .u32 (u X.f), .int .u32 (u X.g), .int .u32 (u X.h)] 110)) hbL
      have hT1 := hT.alloc (.cells #[.int .u32 (u X.a), .int .u32 (u X.b), .int .u32 (u X.c), .int .u32 (u X.d), .int .u32 (u X.e), .int .u32 (u X.f), .int .u32 (u X.g), .int .u32 (u X.h)] 110)
      generalize wr.alloc (.cells #[.int .u32 (u X.a), .int .u32 (u X.b), .int .u32 (u X.c), .int .u32 (u X.d), .int .u32 (u X.e), .int .u32 (u X.f), .int .u32 (u X.g), .int .u32 (u X.h)] 110) = w5 at *
      clear hH hT hd ht hlt
      generalize wr.heap.size = L at *
      go_loopw [124] (fun i wr => ∃ k : Nat, k ≤ 8 ∧ i = .int .i64 k ∧ Hs wr b (grown v X k) f n ∧ (∀ i, i < 8 → wr.cell? ⟨L, i, none⟩ = some (.int .u32 (u (X.at i)))) ∧ Turned b w wr) (fun i _ => 8 - (intOf i).toNat)
      case atStart => exact ⟨0, by omega, rfl, by rw [grown_zero]; exact hH1, hL, hT1⟩
      case round =>
        clear hH1 hL hT1
        obtain ⟨k, hk, rfl, hH, hL, hT⟩ := hrel
        by_cases hlt : k < 8
        · have ik : (k : Int) < 8 := by omega
          have jk : 0 ≤ (k : Int) := by omega
          have c1 := hH.st k hlt
          rw [grown_at v X k hlt] at c1
          have c2 := hL k hlt
          have fk := hH.fr k (by omega)
          have hS := hH.set k hlt (v.at k + X.at k)
          rw [grown_next v X k hlt] at hS
          have hL' : ∀ i, i < 8 → (wr.setCell ⟨b, k, none⟩ (.int .u32 (u (v.at k + X.at k)))).cell? ⟨L, i, none⟩ = some (.int .u32 (u (X.at i))) := fun i hi => by
            rw [World.cell?_setCell_other]
            · exact hL i hi
            · exact fun g => by have := congrArg Addr.block g; simp only at this; omega
          have hL2 := Lib.hid hL'
          clear hL hL'
          generalize hvk : v.at k = vk at *
          generalize hXk : X.at k = Xk at *
          clear hvk hXk
          go_wp2_with fail
          go_still_tail 11, (by kernel_rfl)
          change wpList _ _ _ _ _ wr.drew
          go_wp2
          go_roundw
          case rel => exact ⟨k + 1, by omega, by go_num, ⟨hS.st, hS.bl, hS.sz, hS.fr⟩, hL2.out, (hT.setCell _ _).drew⟩
          case measure => simp [intOf]; omega
        · have hd : decide ((k : Int) < 8) = false := decide_eq_false (by omega)
          obtain rfl : k = 8 := by omega
          rw [grown_all, ← hX.out] at hH
          clear hL
          go_wp2
          go_end0
          exact ⟨rfl, hH, hT⟩
end Go.Proofs.YtdmpkgdlelagjaaGreatDoor.Sha
