/-
  What the statements of layer 10 share: ids of arrays sorted; answers that the document fixes by number (awake); what the rows list of the digest's constants. Conditions: the constants lie where the program lays them.
-/
import Derived.Test.YtdmpkgdlelagjaaGreatDoorRows
import Derived.Test.YtdmpkgdlelagjaaGreatDoorTrDraw
import Derived.Test.YtdmpkgdlelagjaaGreatDoorTrHunt
import Derived.Test.YtdmpkgdlelagjaaGreatDoorShOf
import Derived.Test.YtdmpkgdlelagjaaGreatDoorIdOpen
import Derived.LaidMore
import Derived.MakeChecks
import Derived.Laws.IdiomStrings
import Derived.Lib.ConvBytes
namespace Go.Proofs.YtdmpkgdlelagjaaGreatDoor.Sha
open Go.RowKit
/-- what the rows list of the constants: where the first variable lies, its type -/
theorem gK : Tryz.prog.globalNamed ((Rows.trieLooksRow.laid.map Prod.fst).headD Rows.trieLooksRow.func) = some 0 := by kernel_rfl
theorem tK : (Tryz.prog.globals[0]?).map (·.type) = some 96 := by kernel_rfl
theorem laidKs : (Rows.laid_reliquary_sha_constants : DataW Unit) = .agg (ks.map fun x => .lit (.int .u32 (u x))) := by kernel_rfl
theorem cells32 : Tryz.prog.cellsOf 94 = 1 := by kernel_rfl
theorem kc_of_laid {W : World} (h : laidMetH Tryz.prog Rows.trieLooksRow.laid W) : Kc W := by
  rw [MakeChecks.laidMetH_plain _ _ _ (by kernel_rfl)] at h
  obtain ⟨ps, ⟨g0, t0, cs0, f0, p0, q0, hg0, ht0, hv0, hd0, _⟩, _, _⟩ := h
  obtain rfl := Option.some.inj (gK.symm.trans hg0)
  obtain rfl := Option.some.inj (tK.symm.trans ht0)
  obtain ⟨xs, m1, rfl, hx1, hlen, hn, hel⟩ := DataW.trod_array Tryz.underlying96 hd0
  rw [laidKs] at hx1
  simp only [Prod.mk.injEq, DataW.agg.injEq] at hx1
  have hx := hx1.1
  refine ⟨fun t ht => ?_⟩
  have he := hel t ht
  rw [cells32, Nat.mul_one] at he
  have hxt : xs[t]? = some (xs[t]'(by omega)) := List.getElem?_eq_getElem (by omega)
  rw [hxt] at he
  obtain ⟨n, e1, e2, _⟩ := DataW.trod_int Tryz.underlying94 he
  have hc := World.var?_cell hg0 hv0 t
  rw [hc]
  have e3 : cs0.toList[t]? = some (.int .u32 n) := by
    have := congrArg List.head? e1
    rw [List.head?_take, if_neg (by decide), List.head?_drop] at this
    exact this
  have e4 : cs0[t]? = some (.int .u32 n) := by rw [← Array.getElem?_toList]; exact e3
  rw [e4]
  have e5 := congrArg (fun l => l[t]?) hx
  simp only [List.getElem?_map, hxt, Option.map_some, e2] at e5
  have hkl : t < ks.length := by show t < 64; exact ht
  rw [List.getElem?_eq_getElem hkl] at e5
  simp only [Option.map_some, Option.some.injEq, DataW.lit.injEq, Lit.int.injEq, true_and] at e5
  rw [List.getD_eq_getElem?_getD, List.getElem?_eq_getElem hkl, Option.getD_some, ← e5]
theorem door_met (os : Os) (args : Array Value) : laidMetH Tryz.prog Rows.trieLooksRow.laid ((World.doorLaid Tryz.prog 14 os).forCall (fun _ _ => 0) ⟨#[], args, []⟩).memory :=
  laidMetH_of_parts3 (fuel := 8) (laidMet_of_run' 8 (by kernel_rfl) (by kernel_rfl)) (by kernel_rfl) (by kernel_rfl)
end Go.Proofs.YtdmpkgdlelagjaaGreatDoor.Sha
namespace Go.Proofs.YtdmpkgdlelagjaaGreatDoor.Tr
open Go Go.RowKit
open Ident (by_ val dg digit has digits RowsAt)
open Sh (b_alloc b_drew b_drewN b_next b_then Rises)
open Ts (SetAt)

theorem rows_next {w w' : World} {a : Option Addr} {b off len : Nat} {F : Nat → Nat → UInt8} (h : RowsAt w a b off len F) (t : Below w.heap.size w w') : RowsAt w' a b off len F :=
  ⟨h.addr, fun i hi j hj => (t.cell (p := ⟨b, off + (i * 32 + j), none⟩) (Oct.lt_of_cell (h.cell i hi j hj))).trans (h.cell i hi j hj)⟩
theorem conv_at {w : World} {b o : Nat} {f : Nat → UInt8} (h : ∀ j, j < 32 → w.cell? ⟨b, o + j, none⟩ = some (.int .u8 ((f j).toNat : Int))) (cap : Nat) : (convert 42 9 (.slice (some ⟨b, o, none⟩) 32 cap)).run Tryz.prog w = .ok (.string (txt f)) w := by
  have := run_convert_bytes_back (P := Tryz.prog) w 42 9 5 ⟨b, o, none⟩ cap ((List.range 32).map f) Tryz.underlying42 Tryz.underlying5 Tryz.underlying9 (fun j hj => by
    simp only [List.length_map, List.length_range] at hj
    rw [Addr.add_mid, h j hj]
    simp)
  simp only [List.length_map, List.length_range] at this
  exact this
/-- ids of arrays, as they come -/
def raws (F : Nat → Nat → UInt8) (n : Nat) : List ByteArray := (List.range n).map fun i => txt (F i)
theorem raws_next (F : Nat → Nat → UInt8) (n : Nat) : raws F (n + 1) = raws F n ++ [txt (F n)] := by unfold raws; rw [List.range_succ, List.map_append]; rfl
theorem raws_len (F : Nat → Nat → UInt8) (n : Nat) : (raws F n).length = n := by simp [raws]
/-- ids of arrays, rising, each once -/
def ids (F : Nat → Nat → UInt8) (n : Nat) : List ByteArray := srt (raws F n)
theorem ids_set (F : Nat → Nat → UInt8) (n : Nat) : IsSet (ids F n) := ⟨fun x hx => by
  unfold ids at hx
  rw [mem_srt] at hx
  obtain ⟨i, _, rfl⟩ := List.mem_map.1 hx
  exact txt_size _, srt_rises _⟩
theorem ids_len (F : Nat → Nat → UInt8) (n : Nat) : (ids F n).length ≤ n := by have := srt_len (raws F n); rw [raws_len] at this; exact this
theorem ids_next (F : Nat → Nat → UInt8) (n : Nat) : Sh.ins (txt (F n)) (ids F n) = ids F (n + 1) := by unfold ids; rw [raws_next, srt_snoc]
theorem Of_nil (w : World) : Calls Tryz.prog 19 #[.slice none 0 0] w (Ts.Makes w []) := by
  have h := Ts.Of_calls w none 0 [] (by simp) ⟨none, 0, rfl, fun h => by simp at h⟩
  refine h.mono ?_
  rintro e w' ⟨L, hL, hM⟩
  obtain rfl : L = [] := List.length_eq_zero_iff.1 (by have := hL.2.2; simpa using this)
  exact hM
theorem turns_below {w0 w w' : World} {t : TypeId} {b : Nat} {L : List ByteArray} (h : Ts.Turns w t b L w') (hb : Below w0.heap.size w0 w) (hl : w0.heap.size ≤ b) : Below w0.heap.size w0 w' := hb.grown h.2 hb.size (fun k e => by cases e; exact hl)
set_option maxRecDepth 100000 in
set_option maxHeartbeats 2000000 in
theorem sorted_calls (a : Option Addr) (cap b off n : Nat) (F : Nat → Nat → UInt8) (w : World) (hR : RowsAt w a b off n F) (hn : n ≤ 100000) :
    Calls Tryz.prog 18 #[.slice a n cap] w (Gives w (ids F n)) := by
  have hO := Lib.hid (Of_nil w)
  replace hR := Lib.hid hR
  go_enter Tryz.func18, Tryz.ntmps18
  go_wp2_with fail
  refine hO.out.mono ?_
  rintro e w1 ⟨q, rfl, hq, hS1, b1⟩
  have hS1' : Hid (SetAt w1 (some ⟨q, 0, none⟩) (ids F 0)) := Lib.hid hS1
  replace hq := Lib.hid hq
  replace b1 := Lib.hid b1
  clear hS1 hO
  go_wp2
  go_loopw [4] (fun i wr => ∃ k : Nat, k ≤ n ∧ i = .int .i64 (k : Int) ∧ Hid (SetAt wr (some ⟨q, 0, none⟩) (ids F k)) ∧ Hid (Below w.heap.size w wr)) (fun i _ => n - (intOf i).toNat)
  case atStart => exact ⟨0, by omega, rfl, hS1', b1⟩
  case round =>
    clear hS1' b1
    obtain ⟨k, hk, rfl, hS, hB⟩ := hrel
    by_cases hlt : k < n
    · have i1 : (k : Int) < n := by omega
      have i0 : 0 ≤ (k : Int) := by omega
      have ha := hR.out.addr (by omega)
      subst ha
      have hc := conv_at (w := wr) (b := b) (o := off + k * 32) (f := F k) (fun j hj => by rw [Nat.add_assoc]; exact (rows_next hR.out hB.out).cell k hlt j hj) 32
      have hle := ids_len F k
      have hAdd := Lib.hid (Ts.Add_calls wr q (ids F k) (txt (F k)) hS.out (ids_set F k).2 (by omega))
      have hnx := Lib.hid (ids_next F k)
      generalize txt (F k) = x at *
      go_wp2_with fail
      refine hAdd.out.mono ?_
      rintro e w2 ⟨rfl, hT2⟩
      have hS2 : Hid (SetAt w2 (some ⟨q, 0, none⟩) (ids F (k + 1))) := Lib.hid (by rw [← hnx.out]; exact hT2.1)
      have hB2 := Lib.hid (turns_below hT2 hB.out hq.out)
      clear hAdd hT2 hc
      go_wp2
      exact ⟨⟨k + 1, by omega, by go_num, hS2, hB2⟩, by simp [intOf]; omega⟩
    · obtain rfl : k = n := by omega
      have d0 : decide ((k : Int) < k) = false := decide_eq_false (by omega)
      have d1 : ¬ (k : Int) < k := by omega
      have hle := ids_len F k
      have hL := Lib.hid (Ts.SetList_calls wr _ _ hS.out (by omega))
      go_wp2_with fail
      refine hL.out.mono ?_
      rintro e w2 ⟨v, rfl, ⟨h1, -⟩, h2⟩
      have hE : Hid (Gives w (ids F k) (.returned v) w2) := Lib.hid ⟨v, rfl, by
        have h3 : OwnT wr.heap.size w2 v (ids F k) := by unfold OwnT; unfold Ts.keysV at h1; rw [List.length_map] at h1; exact h1
        exact h3.mono hB.out.size, b_then hB.out h2⟩
      clear h1 h2 hL
      go_wp2
      go_ret
      exact hE.out
end Go.Proofs.YtdmpkgdlelagjaaGreatDoor.Tr
