/-
  Look's answer, its lists in memory of its own. Conditions: sets of at most 30000 ids, the digest's constants as laid.
-/
import Derived.Test.YtdmpkgdlelagjaaGreatDoorRows
import Derived.Test.YtdmpkgdlelagjaaGreatDoorTrAwk
import Derived.Test.YtdmpkgdlelagjaaGreatDoorShWithin
namespace Go.Proofs.YtdmpkgdlelagjaaGreatDoor.Tr
open Go Go.RowKit
open Ident (by_ val dg digit has digits)
open Sh (b_alloc b_drew b_drewN b_next b_then Rises)

def LookOwn (w : World) (c : Cell) (n : Int) (e : Ending) (w' : World) : Prop := ∃ vi vk, e = .returned (.tuple #[cellV c vi vk, .int .i64 n]) ∧ OwnT w.heap.size w' vi c.ids ∧ OwnT w.heap.size w' vk c.kds ∧ Below w.heap.size w w'
theorem look_own {w w2 w3 W : World} {c : Cell} {n : Int} {v1 v3 : Value} {L1 L3 : List ByteArray} {o : Go.Obj} (b2 : Below (w.heap.size + 1) (w.alloc o) w2) (hO : OwnT (w.heap.size + 1) w2 v1 L1) {o3 : Go.Obj} (b3 : Below (w2.heap.size + 1) (w2.alloc o3) w3) (hO3 : OwnT (w2.heap.size + 1) w3 v3 L3)
    (hW : Off w.heap.size w2.heap.size w3 W) (hb : Below w.heap.size w3 W) (h1 : L1 = c.ids) (h3 : L3 = c.kds) : LookOwn w c n (.returned (.tuple #[cellV c v1 v3, .int .i64 n])) W := by
  have s2 := b2.size
  have s3 := b3.size
  rw [World.size_alloc] at s2 s3
  refine ⟨v1, v3, rfl, h1 ▸ (hO.keep (w' := W) fun g h1 h2 => ?_).mono (by omega), h3 ▸ (hO3.keep (w' := W) fun g h1 _ => hW.block g (by omega) (by omega)).mono (by omega), ?_⟩
  · rw [hW.block g (by omega) (by omega), b3.block g (by omega)]
    exact Below.heap_alloc _ _ _ (by omega)
  · have e1 : Below w.heap.size w w2 := (b_alloc w o).trans (b2.mono (by omega))
    have e2 : Below w.heap.size w w3 := (e1.alloc (by omega) o3).trans (b3.mono (by omega))
    exact e2.trans hb
set_option maxRecDepth 100000 in
set_option maxHeartbeats 4000000 in
theorem Look_own (a : Option Addr) (cap b off : Nat) (L : List ByteArray) (p : ByteArray) (w : World) (hT : TxAt w a b off L) (hn : L.length ≤ 30000) (hs : IsSet L) (hp : IsPre p) (hK : Sha.Kc w) :
    Calls Tryz.prog 10 #[.slice a L.length cap, .string p] w (LookOwn w (cellOf L p) 0) := by
  have ba := b_alloc w (.cells #[.string ⟨#[]⟩, .int .i64 0, .string ⟨#[]⟩, .slice none 0 0, .slice none 0 0] 25)
  have hS := Lib.hid (isSet_calls a cap b off L _ (hT.next ba) (by omega))
  have hP := Lib.hid fun w => isPrefix_calls p w (by have := hp.1; omega)
  have hBe := Lib.hid (below_calls a cap b off L p _ (hT.next ba) (by omega))
  have hbl : (below L p).length ≤ 30000 := Nat.le_trans (List.length_filter_le _ _) hn
  have hSu := Lib.hid fun (a : Option Addr) (cap b off : Nat) (w : World) (h1 : TxAt w a b off (below L p)) (h2 : (below L p).length ≤ cap) (h3 : Sha.Kc w) => sums_calls (64 - p.size) p.size a cap b off (below L p) w (by have := hp.1; omega) h1 h2 hbl (below_set hs p) alike_below h3
  generalize L.length = n at *
  have hp64 : p.size ≤ 64 := hp.1
  replace hs := Lib.hid hs
  replace hp := Lib.hid hp
  have hK0 := Lib.hid (kc_below hK ba)
  replace ba := Lib.hid ba
  clear hT hK
  go_enter Tryz.func10, Tryz.ntmps10
  go_wp2_with fail
  refine hS.out.mono ?_
  rintro e w1 ⟨⟨z, rfl, hz⟩, rfl⟩
  obtain rfl : z = true := hz.2 hs.out
  clear hz hS
  go_wp2_with fail
  refine (hP.out _).mono ?_
  rintro e w1 ⟨⟨z, rfl, hz⟩, rfl⟩
  obtain rfl : z = true := hz.2 hp.out
  clear hz hP
  go_wp2_with fail
  refine hBe.out.mono ?_
  rintro e w2 ⟨v, rfl, hO, b2⟩
  obtain ⟨hc2, hf2⟩ := bcell b2
  have sz2 : w.heap.size < w2.heap.size := by have := b2.size; simp at this; omega
  have hK2 := Lib.hid (kc_below hK0.out b2)
  replace b2 := Lib.hid b2
  obtain ⟨a1, c1, b1, o1, rfl, hT1, hc1, -⟩ := hO.at_
  have hO0 := Lib.hid hO
  have bb := b_alloc w2 (.cells #[.string p, .int .i64 ((below L p).length : Int), .string ⟨#[]⟩, .slice none 0 0, .slice none 0 0] 25)
  have hSu1 := Lib.hid (hSu.out a1 c1 b1 o1 _ (hT1.next bb) hc1 (kc_below hK2.out bb))
  replace bb := Lib.hid bb
  obtain ⟨m, hm⟩ : ∃ m, Hid ((below L p).length = m) := ⟨_, Lib.hid rfl⟩
  rw [hm.out] at hSu1 hbl bb ⊢
  clear hBe hO hT1 hc1 hSu
  go_wp2_with fail
  refine hSu1.out.mono ?_
  rintro e w3 ⟨v3, rfl, hO3, b3⟩
  obtain ⟨hc3, hf3⟩ := bcell b3
  have sz3 : w2.heap.size + 1 ≤ w3.heap.size := by have := b3.size; simpa using this
  have sz4 : w.heap.size < w3.heap.size := by omega
  have sz5 : w2.heap.size < w3.heap.size := by omega
  replace b3 := Lib.hid b3
  generalize hR : sumAt p.size (below L p) = R at *
  replace hR := Lib.hid hR
  rw [hm.out] at hO3
  by_cases h8 : m ≤ 8
  · rw [if_pos h8] at hO3
    obtain ⟨a3, c3, b3', o3, rfl, hT3, -, -⟩ := hO3.at_
    simp only [List.length_nil] at *
    have hE := Lib.hid fun W (hW : Off w.heap.size w2.heap.size w3 W) (hb : Below w.heap.size w3 W) => look_own (c := cellOf L p) (n := 0) (by have := b2.out; rwa [World.size_alloc] at this) (by have := hO0.out; rwa [World.size_alloc] at this) (by have := b3.out; rwa [World.size_alloc] at this) (by rwa [World.size_alloc] at hO3) hW hb (by rw [cell_ids', hm.out, if_pos h8]) (by rw [cell_kds', hm.out, if_pos h8])
    rw [cellV_of, hR.out, hm.out] at hE
    clear hSu1 hT3 hO3
    go_wp2
    exact bodyPost_ret (results_cell2 Tryz.results10 rfl (five_range (Off.five ((((Off.refl _ _ _).sety _ _).sety _ _).sety _ _) (Nat.ne_of_lt sz2) (cell5 w _ _ _ _ _ _) (((b3.out.block _ (by simp; omega)).trans (Below.heap_alloc _ _ _ sz2)).trans (b2.out.block _ (by simp)))) _ _ _ _ _) Tryz.underlying25 rfl infoCell rfl) rfl
      (hE.out _ (((((((((Off.refl _ _ _).sety _ _).sety _ _).sety _ _).setx _ _).setx _ _).setx _ _).setx _ _).setx _ _)
        (((((((((Below.refl _ _).setCell (p := ⟨w2.heap.size, 2, none⟩) (Nat.le_of_lt sz2) _).setCell (p := ⟨w2.heap.size, 4, none⟩) (Nat.le_of_lt sz2) _).setCell (p := ⟨w2.heap.size, 3, none⟩) (Nat.le_of_lt sz2) _).setCell (p := ⟨w.heap.size, 0, none⟩) (Nat.le_refl _) _).setCell (p := ⟨w.heap.size, 1, none⟩) (Nat.le_refl _) _).setCell (p := ⟨w.heap.size, 2, none⟩) (Nat.le_refl _) _).setCell (p := ⟨w.heap.size, 3, none⟩) (Nat.le_refl _) _).setCell (p := ⟨w.heap.size, 4, none⟩) (Nat.le_refl _) _))
  · rw [if_neg h8] at hO3
    obtain ⟨a3, c3, b3', o3, rfl, hT3, -, -⟩ := hO3.at_
    rw [kids_length] at *
    have hE := Lib.hid fun W (hW : Off w.heap.size w2.heap.size w3 W) (hb : Below w.heap.size w3 W) => look_own (c := cellOf L p) (n := 0) (L1 := []) (v1 := .slice none 0 0) (by have := b2.out; rwa [World.size_alloc] at this) (OwnT.nil _ _) (by have := b3.out; rwa [World.size_alloc] at this) (by rwa [World.size_alloc] at hO3) hW hb (by rw [cell_ids', hm.out, if_neg h8]) (by rw [cell_kds', hm.out, if_neg h8])
    rw [cellV_of, hR.out, hm.out] at hE
    clear hSu1 hT3 hO3
    go_wp2
    exact bodyPost_ret (results_cell2 Tryz.results10 rfl (five_range (Off.five (((Off.refl _ _ _).sety _ _).sety _ _) (Nat.ne_of_lt sz2) (cell5 w _ _ _ _ _ _) (((b3.out.block _ (by simp; omega)).trans (Below.heap_alloc _ _ _ sz2)).trans (b2.out.block _ (by simp)))) _ _ _ _ _) Tryz.underlying25 rfl infoCell rfl) rfl
      (hE.out _ ((((((((Off.refl _ _ _).sety _ _).sety _ _).setx _ _).setx _ _).setx _ _).setx _ _).setx _ _)
        ((((((((Below.refl _ _).setCell (p := ⟨w2.heap.size, 2, none⟩) (Nat.le_of_lt sz2) _).setCell (p := ⟨w2.heap.size, 4, none⟩) (Nat.le_of_lt sz2) _).setCell (p := ⟨w.heap.size, 0, none⟩) (Nat.le_refl _) _).setCell (p := ⟨w.heap.size, 1, none⟩) (Nat.le_refl _) _).setCell (p := ⟨w.heap.size, 2, none⟩) (Nat.le_refl _) _).setCell (p := ⟨w.heap.size, 3, none⟩) (Nat.le_refl _) _).setCell (p := ⟨w.heap.size, 4, none⟩) (Nat.le_refl _) _))

/-- memory but for a block as it was: what lies behind it stays -/
theorem OwnT.past {B d : Nat} {w w' : World} {v : Value} {L : List ByteArray} (h : OwnT B w v L) (hd : d < B) (t : ∀ g, g ≠ d → w'.heap[g]? = w.heap[g]?) : OwnT B w' v L := h.keep fun g h1 _ => t g (by omega)

/-! ### sets of the shelf made of rising lists of ids; a set's own cell lacks nothing and asks nothing -/
theorem OfSet_calls (a : Option Addr) (cap b off : Nat) (L : List ByteArray) (w : World) (hT : TxAt w a b off L) (hR : Rises L) (hn : L.length < 900000) :
    Calls Tryz.prog 19 #[.slice a L.length cap] w (Ts.Makes w L) :=
  (Ts.Of_calls w a cap L hn (reads_tx hT)).mono fun e w' ⟨M, hM, h⟩ => by
    have : M = L := Sh.rises_one hM.1 hR hM.2.1
    rwa [this] at h
theorem lacks_self (L : List ByteArray) (p : ByteArray) : lacks L (cellOf L p) = [] := by
  apply List.eq_nil_iff_forall_not_mem.2
  intro x hx
  obtain ⟨h1, h2⟩ := mem_lacks.1 hx
  rw [cell_ids'] at h1
  split at h1
  · exact h2 (List.mem_filter.1 h1).1
  · simp at h1
theorem asks_self (L : List ByteArray) (p : ByteArray) : asks L (cellOf L p) = [] := by
  apply List.eq_nil_iff_forall_not_mem.2
  intro x hx
  obtain ⟨_, d, _, _, h, _⟩ := mem_asks.1 hx
  exact h rfl
theorem all_own (L : List ByteArray) : (L.all fun x => Sh.has x L) = true := by
  rw [List.all_eq_true]
  intro x hx
  exact Sh.has_iff.2 ⟨x, hx, rfl⟩
theorem cell_own_few {L : List ByteArray} (hs : IsSet L) (h : L.length ≤ 8) : cellOf L ⟨#[]⟩ = fewCell L := cell_few hs.1 h
end Go.Proofs.YtdmpkgdlelagjaaGreatDoor.Tr
