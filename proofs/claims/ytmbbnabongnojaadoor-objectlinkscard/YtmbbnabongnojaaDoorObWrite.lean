/-
  object's Encode, with writeTree and writeCommit: the bytes of an object, or ErrArg; old memory stays. Conditions: none.
-/
import Derived.Test.YtmbbnabongnojaaDoorRows
import Derived.Test.YtmbbnabongnojaaDoorObPlain
import Derived.Test.YtmbbnabongnojaaDoorObGood
import Derived.Test.YtmbbnabongnojaaDoorObBuf
import Derived.Test.YtmbbnabongnojaaDoorOctCalls
import Derived.Test.YtmbbnabongnojaaDoorOctKit
import Derived.WalkKit
import Derived.WalkSpells
import Derived.WalkLawsBesides
import Derived.ProofKit
import Derived.OpenShut
import Derived.Laws.BytesArg
import Derived.Laws.Externs
import Derived.Deep.QuietTactic
import Derived.BigQuiet
import Derived.BigRegion
import Derived.Lib.Hide
import Derived.Lib.Bytealg
import Derived.IntWalk
import Derived.Deep.LoopGhost
namespace Go.Proofs.YtmbbnabongnojaaDoor.Ob
open Go.RowKit
open Oct (empty num4)

theorem encEnts_size : ∀ (l : List Ent), (∀ e ∈ l, goodEnt e = true) → (encEnts l).size ≤ l.length * 292
  | [], _ => by show (0 : Nat) ≤ _; omega
  | e :: l, h => by
    have ih := encEnts_size l fun e he => h e (List.mem_cons_of_mem _ he)
    obtain ⟨_, hn, hi⟩ := goodEnt_iff.1 (h e (by simp))
    have hz := name_size hn
    have : (encEnts (e :: l)).size = 1 + (4 + e.name.size) + e.id.size + (encEnts l).size := by
      rw [encEnts, encEnt, txt]
      simp only [ByteArray.size_append, b1_size, Oct.num4_size]
    rw [List.length_cons]; omega
theorem encPars_size : ∀ (l : List ByteArray), (∀ e ∈ l, e.size = 32) → (encPars l).size = l.length * 32
  | [], _ => rfl
  | e :: l, h => by
    have ih := encPars_size l fun e he => h e (List.mem_cons_of_mem _ he)
    have := h e (by simp)
    rw [encPars, ByteArray.size_append, List.length_cons]; omega
theorem enc_size_pos (x : Obj) : (enc x).size ≠ 0 := by
  unfold enc; rw [ByteArray.size_append, b1_size]; omega
theorem below_allocs {B : Nat} {u w : World} (o : Go.Obj) (h : Below B u w) (hB : B ≤ w.heap.size) : Below B u (w.alloc o) := h.alloc hB o
theorem heap_new (w : World) (o : Go.Obj) : (w.alloc o).heap[w.heap.size]? = some o := by show (w.heap.push _)[w.heap.size]? = _; simp
theorem mod_small (n : Nat) (h : n ≤ 1000) : ((n : Int) % 4294967296) = n := by omega
theorem EntsAt.keep {B : Nat} {w w' : World} {a : Option Addr} {b off : Nat} {L : List Ent} (h : EntsAt w a b off L) (t : Below B w w') (hb : 0 < L.length → b < B) : EntsAt w' a b off L :=
  have hl : ∀ {i : Nat} {e : Ent}, L[i]? = some e → b < B := fun he => hb (by have := (List.getElem?_eq_some_iff.1 he).1; omega)
  ⟨h.addr, fun i e he => (t.cell (p := ⟨b, _, none⟩) (hl he)).trans (h.name i e he), fun i e he => (t.cell (p := ⟨b, _, none⟩) (hl he)).trans (h.kind i e he), fun i e he => (t.cell (p := ⟨b, _, none⟩) (hl he)).trans (h.id i e he)⟩
theorem ParsAt.keep {B : Nat} {w w' : World} {a : Option Addr} {b off : Nat} {L : List ByteArray} (h : ParsAt w a b off L) (t : Below B w w') (hb : 0 < L.length → b < B) : ParsAt w' a b off L :=
  have hl : ∀ {i : Nat} {e : ByteArray}, L[i]? = some e → b < B := fun he => hb (by have := (List.getElem?_eq_some_iff.1 he).1; omega)
  ⟨h.addr, fun i e he => (t.cell (p := ⟨b, _, none⟩) (hl he)).trans (h.cell i e he)⟩
theorem Text_small (s : ByteArray) (hs : s.size ≤ 1000) (w : World) :
    Calls Tryd.prog 61 #[.string s] w fun e w' => e = .returned (.string (txt s)) ∧ ∃ c, w.alloc (.cells c 5) = w' := by
  have h := Oct.Text_calls s (by omega) w
  rw [mod_small s.size hs] at h
  exact h
theorem take_next {α : Type} {L : List α} {k : Nat} (h : k < L.length) : L.take (k + 1) = L.take k ++ [L[k]] := by rw [List.take_append_getElem]
theorem b_alloc (w : World) (o : Go.Obj) : Below w.heap.size w (w.alloc o) := (Below.refl _ w).alloc (Nat.le_refl _) o
set_option maxRecDepth 100000 in
set_option maxHeartbeats 2000000 in
theorem writeTree_calls (B b : Nat) (s : ByteArray) (x : Obj) (ea : Option Addr) (ec : Nat) (pa : Option Addr) (pc eb eo : Nat) (w : World) (hE : EntsAt w ea eb eo x.ents) (hl : x.ents.length ≤ 256) (hg : ∀ e ∈ x.ents, goodEnt e = true) (hs : s.size ≤ 1000)
    (hd : Bd B b s w) (hB : B ≤ w.heap.size) (hKE : 0 < x.ents.length → eb < B) :
    Calls Tryd.prog 29 #[.pointer (some ⟨b, 0, none⟩), val x ea ec pa pc] w fun r w' => r = .returned (.tuple #[]) ∧ Bd B b (s ++ (num4 x.ents.length ++ encEnts x.ents)) w' ∧ Below B w w' := by
  obtain ⟨kind, data, L, tree, pars, height, note⟩ := x
  dsimp only at hE hl hg hKE ⊢
  have hw0 := Lib.hid (b_alloc w (.cells #[.int .i64 kind, .string data, .slice ea L.length ec, .string tree, .slice pa pars.length pc, .int .i64 height, .string note] 25))
  have hx0 := Lib.hid (heap_new w (.cells #[.int .i64 kind, .string data, .slice ea L.length ec, .string tree, .slice pa pars.length pc, .int .i64 height, .string note] 25))
  have hbw := hd.lt
  have hm := mod_small L.length (by omega)
  have hN := Lib.hid fun w => Oct.Num_calls (L.length : Int) (by omega) (by omega) w
  replace hE := Lib.hid hE
  replace hKE := Lib.hid hKE
  replace hd := Lib.hid (hd.after hw0.out)
  replace hg := Lib.hid hg
  have hB0 := Lib.hid (hw0.out.mono hB)
  have hBb := hd.out.base
  go_enter Tryd.func29, Tryd.ntmps29
  go_wp2_with fail
  generalize w.alloc (.cells #[.int .i64 kind, .string data, .slice ea L.length ec, .string tree, .slice pa pars.length pc, .int .i64 height, .string note] 25) = w0 at *
  refine (hN.out _).mono ?_
  rintro r w1 ⟨rfl, c, rfl⟩
  have hz0 := hw0.out.size
  have h1 := Lib.hid (b_alloc w0 (.cells c 5))
  have hd1 := Lib.hid (hd.out.after h1.out)
  have hB1 := Lib.hid (hB0.out.trans (h1.out.mono (by omega)))
  have hx1 := Lib.hid ((h1.out.block w.heap.size (Array.getElem?_eq_some_iff.1 hx0.out).1).trans hx0.out)
  generalize w0.alloc (.cells c 5) = w1 at *
  go_wp2_with fail
  refine (hd1.out.text (num4 L.length) (by rw [Oct.num4_size]; omega) (by have := hB1.out.size; omega)).mono ?_
  rintro r w2 ⟨rfl, hd2, hb2, hk2⟩
  replace hd2 := Lib.hid hd2
  have hB2 := Lib.hid (hB1.out.trans hb2)
  have hx2 := hk2 _ _ _ _ (by omega) (by decide) hx1.out
  have c2 : w2.cell? ⟨w.heap.size, 2, none⟩ = some (.slice ea L.length ec) := by rw [Lib.cell_of_heap hx2]; rfl
  clear hx1 hx0 hw0 hx2 hd hd1 hB0 hB1 hk2 hb2 h1 hN hm
  go_wp2
  clear c2
  go_loopw [5, 16] (fun _ i wr => ∃ k : Nat, k ≤ L.length ∧ i = .int .i64 k ∧ Hid (Bd B b (s ++ num4 L.length ++ encEnts (L.take k)) wr) ∧ Below B w wr) (fun _ i _ => L.length - (intOf i).toNat)
  case atStart => exact ⟨0, by omega, rfl, Lib.hid (by rw [List.take_zero, encEnts, append_empty]; exact hd2.out), hB2.out⟩
  case round =>
    clear hd2 hB2
    obtain ⟨k, hk, rfl, hd, hBr⟩ := hrel
    have hbr := hd.out.lt
    have hsr := hBr.size
    by_cases hlt : k < L.length
    · have i1 : (k : Int) < L.length := by omega
      have i0 : 0 ≤ (k : Int) := by omega
      obtain rfl := hE.out.addr (by omega)
      have hgk : L[k]? = some L[k] := List.getElem?_eq_getElem hlt
      have hE' := hE.out.keep hBr hKE.out
      have c0 := hE'.name k _ hgk
      have c1 := hE'.kind k _ hgk
      have c2 := hE'.id k _ hgk
      have hnext : encEnts (L.take (k + 1)) = encEnts (L.take k) ++ (encEnt L[k] ++ empty) := by rw [take_next hlt, encEnts_append]; rfl
      rw [append_empty] at hnext
      have hge := goodEnt_iff.1 (hg.out _ (List.getElem_mem hlt))
      have hsz := encEnts_size (L.take k) fun e he => hg.out e (List.mem_of_mem_take he)
      rw [List.length_take] at hsz
      generalize L[k] = e at *
      obtain ⟨n, kd, i⟩ := e
      dsimp only at c0 c1 c2 hge
      obtain ⟨g1, g2, g3⟩ := hge
      have hnz := name_size g2
      have hsz1 : (s ++ num4 L.length ++ encEnts (L.take k)).size ≤ 100000 := by rw [ByteArray.size_append, ByteArray.size_append, Oct.num4_size]; omega
      have hk8 : kd % 256 = kd := by omega
      have hkr : 0 ≤ kd ∧ kd < 256 := by omega
      have hT := Lib.hid fun w => Text_small n (by omega) w
      have hw3 := Lib.hid (b_alloc wr (.cells #[.string n, .int .i64 kd, .string i] 47))
      have hx3 := Lib.hid (heap_new wr (.cells #[.string n, .int .i64 kd, .string i] 47))
      replace hd := Lib.hid (hd.out.after hw3.out)
      have hB3 := Lib.hid (hBr.trans (hw3.out.mono (by omega)))
      have hbs := Lib.hid (show B ≤ (wr.alloc (.cells #[.string n, .int .i64 kd, .string i] 47)).heap.size by have := hw3.out.size; omega)
      replace hnext := Lib.hid hnext
      clear hE' hgk g1 g2 hBr hw3 hsz
      replace hkr := Lib.hid hkr
      generalize hacc : s ++ num4 L.length ++ encEnts (L.take k) = acc at *
      go_wp2_with fail
      generalize wr.alloc (.cells #[.string n, .int .i64 kd, .string i] 47) = w3 at *
      refine (hd.out.byte kd hkr.out.1 hkr.out.2 (by omega) hbs.out).mono ?_
      rintro r w4 ⟨rfl, hd4, hb4, hk4⟩
      have hx4 := Lib.hid (hk4 _ _ _ _ (by omega) (by decide) hx3.out)
      have hB4 := Lib.hid (hB3.out.trans hb4)
      have hs4 := hb4.size
      replace hd4 := Lib.hid hd4
      replace hbs := Lib.hid (Nat.le_trans hbs.out hs4)
      have c4 : w4.cell? ⟨wr.heap.size, 0, none⟩ = some (.string n) := by rw [Lib.cell_of_heap hx4.out]; rfl
      clear hB3 hx3 hd hb4 hk4 c0 c1 c2
      go_wp2_with fail
      refine (hT.out _).mono ?_
      rintro r w5 ⟨rfl, c, rfl⟩
      have h5 := Lib.hid (b_alloc w4 (.cells c 5))
      have hd5 := Lib.hid (hd4.out.after h5.out)
      have hB5 := Lib.hid (hB4.out.trans (h5.out.mono hbs.out))
      have hx5 := Lib.hid ((h5.out.block wr.heap.size (Array.getElem?_eq_some_iff.1 hx4.out).1).trans hx4.out)
      have hs5 := h5.out.size
      replace hbs := Lib.hid (Nat.le_trans hbs.out hs5)
      generalize w4.alloc (.cells c 5) = w5 at *
      clear h5 hd4 hB4 hx4 hs4 hs5 c4 hT
      have hts : (txt n).size = 4 + n.size := by unfold txt; rw [ByteArray.size_append, Oct.num4_size]
      go_wp2_with fail
      refine (hd5.out.text (txt n) (by rw [ByteArray.size_append, b1_size]; omega) hbs.out).mono ?_
      rintro r w6 ⟨rfl, hd6, hb6, hk6⟩
      have hx6 := Lib.hid (hk6 _ _ _ _ (by omega) (by decide) hx5.out)
      have hB6 := Lib.hid (hB5.out.trans hb6)
      replace hd6 := Lib.hid hd6
      replace hbs := Lib.hid (Nat.le_trans hbs.out hb6.size)
      have c6 : w6.cell? ⟨wr.heap.size, 2, none⟩ = some (.string i) := by rw [Lib.cell_of_heap hx6.out]; rfl
      clear hB5 hx5 hd5 hb6 hk6 hx6
      go_wp2_with fail
      refine (hd6.out.text i (by rw [ByteArray.size_append, ByteArray.size_append, b1_size]; omega) hbs.out).mono ?_
      rintro r w7 ⟨rfl, hd7, hb7, hk7⟩
      have hB7 := Lib.hid (hB6.out.trans hb7)
      replace hd7 : Hid (Bd B b (s ++ num4 L.length ++ encEnts (L.take (k + 1))) w7) := Lib.hid (by
        rw [hnext.out, ← ByteArray.append_assoc, hacc]
        have : acc ++ b1 kd ++ txt n ++ i = acc ++ encEnt ⟨n, kd, i⟩ := by unfold encEnt; simp only [ByteArray.append_assoc]
        rw [← this]; exact hd7)
      clear hB6 hd6 hb7 hk7 c6 hbs hts hacc hnext
      go_wp2
      exact ⟨⟨k + 1, by omega, by go_num, hd7, hB7.out⟩, by simp [intOf]; omega⟩
    · have d0 : decide ((k : Int) < L.length) = false := decide_eq_false (by omega)
      have d1 : (L.length : Int) ≤ k := by omega
      obtain rfl : k = L.length := by omega
      replace hd : Hid (Bd B b (s ++ (num4 L.length ++ encEnts L)) wr) := Lib.hid (by
        have := hd.out
        rw [List.take_length, ByteArray.append_assoc] at this
        exact this)
      replace hBr := Lib.hid hBr
      go_wp2
      go_end0
      exact ⟨rfl, hd.out, hBr.out⟩
set_option maxRecDepth 100000 in
set_option maxHeartbeats 2000000 in
theorem writeCommit_calls (B b : Nat) (s : ByteArray) (x : Obj) (ea : Option Addr) (ec : Nat) (pa : Option Addr) (pc pb po : Nat) (w : World) (hE : ParsAt w pa pb po x.pars) (hg : goodCommit x = true) (hs : s.size ≤ 1000)
    (hd : Bd B b s w) (hB : B ≤ w.heap.size) (hKE : 0 < x.pars.length → pb < B) :
    Calls Tryd.prog 30 #[.pointer (some ⟨b, 0, none⟩), val x ea ec pa pc] w fun r w' => r = .returned (.tuple #[]) ∧ Bd B b (s ++ (x.tree ++ num4 x.pars.length ++ encPars x.pars ++ num4 x.height ++ txt x.note)) w' ∧ Below B w w' := by
  obtain ⟨ht, hl, hp, hh0, hh1, _, hn⟩ := goodCommit_iff.1 hg
  replace hp := Lib.hid (goodPars_mem hp)
  obtain ⟨kind, data, ents, tree, L, height, note⟩ := x
  dsimp only at hE hl hp ht hh0 hh1 hn hKE ⊢
  clear hg
  have hw0 := Lib.hid (b_alloc w (.cells #[.int .i64 kind, .string data, .slice ea ents.length ec, .string tree, .slice pa L.length pc, .int .i64 height, .string note] 25))
  have hx0 := Lib.hid (heap_new w (.cells #[.int .i64 kind, .string data, .slice ea ents.length ec, .string tree, .slice pa L.length pc, .int .i64 height, .string note] 25))
  have hbw := hd.lt
  have hm := mod_small L.length (by omega)
  have hm2 : height % 4294967296 = height := by omega
  have hN := Lib.hid fun w => Oct.Num_calls (L.length : Int) (by omega) (by omega) w
  have hH := Lib.hid fun w => Oct.Num_calls height (by omega) (by omega) w
  have hT := Lib.hid fun w => Text_small note (by omega) w
  replace hE := Lib.hid hE
  replace hKE := Lib.hid hKE
  replace hd := Lib.hid (hd.after hw0.out)
  have hB0 := Lib.hid (hw0.out.mono hB)
  have hBb := hd.out.base
  have hbs := Lib.hid (show B ≤ (w.alloc (.cells #[.int .i64 kind, .string data, .slice ea ents.length ec, .string tree, .slice pa L.length pc, .int .i64 height, .string note] 25)).heap.size by have := hw0.out.size; omega)
  go_enter Tryd.func30, Tryd.ntmps30
  go_wp2_with fail
  generalize w.alloc (.cells #[.int .i64 kind, .string data, .slice ea ents.length ec, .string tree, .slice pa L.length pc, .int .i64 height, .string note] 25) = w0 at *
  refine (hd.out.text tree (by omega) hbs.out).mono ?_
  rintro r w1 ⟨rfl, hd1, hb1, hk1⟩
  replace hx0 := Lib.hid (hk1 _ _ _ _ (by omega) (by decide) hx0.out)
  replace hB0 := Lib.hid (hB0.out.trans hb1)
  replace hbs := Lib.hid (Nat.le_trans hbs.out hb1.size)
  replace hd := Lib.hid hd1
  have c4 : w1.cell? ⟨w.heap.size, 4, none⟩ = some (.slice pa L.length pc) := by rw [Lib.cell_of_heap hx0.out]; rfl
  clear hd1 hb1 hk1 hw0
  go_wp2_with fail
  refine (hN.out _).mono ?_
  rintro r w2 ⟨rfl, c, rfl⟩
  have h2 := Lib.hid (b_alloc w1 (.cells c 5))
  replace hd := Lib.hid (hd.out.after h2.out)
  replace hB0 := Lib.hid (hB0.out.trans (h2.out.mono hbs.out))
  replace hx0 := Lib.hid ((h2.out.block w.heap.size (Array.getElem?_eq_some_iff.1 hx0.out).1).trans hx0.out)
  replace hbs := Lib.hid (Nat.le_trans hbs.out h2.out.size)
  generalize w1.alloc (.cells c 5) = w2 at *
  clear h2 c4 hN
  go_wp2_with fail
  refine (hd.out.text (num4 L.length) (by rw [Oct.num4_size, ByteArray.size_append]; omega) hbs.out).mono ?_
  rintro r w3 ⟨rfl, hd1, hb1, hk1⟩
  replace hx0 := Lib.hid (hk1 _ _ _ _ (by omega) (by decide) hx0.out)
  replace hB0 := Lib.hid (hB0.out.trans hb1)
  replace hbs := Lib.hid (Nat.le_trans hbs.out hb1.size)
  replace hd := Lib.hid hd1
  have c4 : w3.cell? ⟨w.heap.size, 4, none⟩ = some (.slice pa L.length pc) := by rw [Lib.cell_of_heap hx0.out]; rfl
  clear hd1 hb1 hk1
  go_wp2
  clear c4
  go_loopw [5, 20] (fun _ i wr => ∃ k : Nat, k ≤ L.length ∧ i = .int .i64 k ∧ Hid (Bd B b (s ++ tree ++ num4 L.length ++ encPars (L.take k)) wr) ∧ Below B w wr ∧ Hid (wr.heap[w.heap.size]? = some (.cells #[.int .i64 kind, .string data, .slice ea ents.length ec, .string tree, .slice pa L.length pc, .int .i64 height, .string note] 25))) (fun _ i _ => L.length - (intOf i).toNat)
  case atStart => exact ⟨0, by omega, rfl, Lib.hid (by rw [List.take_zero, encPars, append_empty]; exact hd.out), hB0.out, hx0⟩
  case round =>
    clear hd hB0 hx0 hbs
    obtain ⟨k, hk, rfl, hd, hBr, hx0⟩ := hrel
    have hbr := hd.out.lt
    have hsr := hBr.size
    have hsz := encPars_size (L.take k) fun e he => hp.out e (List.mem_of_mem_take he)
    rw [List.length_take] at hsz
    have hsz1 : (s ++ tree ++ num4 L.length ++ encPars (L.take k)).size ≤ 100000 := by simp only [ByteArray.size_append, Oct.num4_size]; omega
    clear hsz
    by_cases hlt : k < L.length
    · have i1 : (k : Int) < L.length := by omega
      have i0 : 0 ≤ (k : Int) := by omega
      obtain rfl := hE.out.addr (by omega)
      have hgk : L[k]? = some L[k] := List.getElem?_eq_getElem hlt
      have c0 := (hE.out.keep hBr hKE.out).cell k _ hgk
      have hnext : encPars (L.take (k + 1)) = encPars (L.take k) ++ (L[k] ++ empty) := by rw [take_next hlt, encPars_append]; rfl
      rw [append_empty] at hnext
      have hge := hp.out _ (List.getElem_mem hlt)
      generalize L[k] = e at *
      replace hnext := Lib.hid hnext
      replace hBr := Lib.hid hBr
      clear hgk
      generalize hacc : s ++ tree ++ num4 L.length ++ encPars (L.take k) = acc at *
      go_wp2_with fail
      refine (hd.out.text e (by omega) (by omega)).mono ?_
      rintro r w4 ⟨rfl, hd7, hb7, hk7⟩
      have hB7 := Lib.hid (hBr.out.trans hb7)
      replace hx0 := Lib.hid (hk7 _ _ _ _ (by omega) (by decide) hx0.out)
      replace hd7 : Hid (Bd B b (s ++ tree ++ num4 L.length ++ encPars (L.take (k + 1))) w4) := Lib.hid (by
        rw [hnext.out, ← ByteArray.append_assoc, hacc]; exact hd7)
      clear hb7 hk7 hacc hnext hd
      go_wp2
      exact ⟨⟨k + 1, by omega, by go_num, hd7, hB7.out, hx0⟩, by simp [intOf]; omega⟩
    · have d0 : decide ((k : Int) < L.length) = false := decide_eq_false (by omega)
      have d1 : (L.length : Int) ≤ k := by omega
      obtain rfl : k = L.length := by omega
      rw [List.take_length] at hd hsz1
      replace hBr := Lib.hid hBr
      generalize hacc : s ++ tree ++ num4 L.length ++ encPars L = acc at *
      have c5 : wr.cell? ⟨w.heap.size, 5, none⟩ = some (.int .i64 height) := by rw [Lib.cell_of_heap hx0.out]; rfl
      go_wp2_with fail
      refine (hH.out _).mono ?_
      rintro r w2 ⟨rfl, c, rfl⟩
      have h2 := Lib.hid (b_alloc wr (.cells c 5))
      replace hd := Lib.hid (hd.out.after h2.out)
      replace hBr := Lib.hid (hBr.out.trans (h2.out.mono (by omega)))
      replace hx0 := Lib.hid ((h2.out.block w.heap.size (Array.getElem?_eq_some_iff.1 hx0.out).1).trans hx0.out)
      have hbs := Lib.hid (show B ≤ (wr.alloc (.cells c 5)).heap.size by have := h2.out.size; omega)
      generalize wr.alloc (.cells c 5) = w5 at *
      clear h2 c5 hH
      go_wp2_with fail
      refine (hd.out.text (num4 height) (by rw [Oct.num4_size]; omega) hbs.out).mono ?_
      rintro r w6 ⟨rfl, hd1, hb1, hk1⟩
      replace hx0 := Lib.hid (hk1 _ _ _ _ (by omega) (by decide) hx0.out)
      replace hBr := Lib.hid (hBr.out.trans hb1)
      replace hbs := Lib.hid (Nat.le_trans hbs.out hb1.size)
      replace hd := Lib.hid hd1
      have c6 : w6.cell? ⟨w.heap.size, 6, none⟩ = some (.string note) := by rw [Lib.cell_of_heap hx0.out]; rfl
      clear hd1 hb1 hk1
      go_wp2_with fail
      refine (hT.out _).mono ?_
      rintro r w7 ⟨rfl, c, rfl⟩
      have h2 := Lib.hid (b_alloc w6 (.cells c 5))
      replace hd := Lib.hid (hd.out.after h2.out)
      replace hBr := Lib.hid (hBr.out.trans (h2.out.mono hbs.out))
      replace hbs := Lib.hid (Nat.le_trans hbs.out h2.out.size)
      generalize w6.alloc (.cells c 5) = w8 at *
      clear h2 c6 hT hx0
      have hts : (txt note).size = 4 + note.size := by unfold txt; rw [ByteArray.size_append, Oct.num4_size]
      go_wp2_with fail
      refine (hd.out.text (txt note) (by rw [ByteArray.size_append, Oct.num4_size]; omega) hbs.out).mono ?_
      rintro r w9 ⟨rfl, hd1, hb1, hk1⟩
      replace hBr := Lib.hid (hBr.out.trans hb1)
      replace hd : Hid (Bd B b (s ++ (tree ++ num4 L.length ++ encPars L ++ num4 height ++ txt note)) w9) := Lib.hid (by
        have : s ++ (tree ++ num4 L.length ++ encPars L ++ num4 height ++ txt note) = acc ++ num4 height ++ txt note := by rw [← hacc]; simp only [ByteArray.append_assoc]
        rw [this]; exact hd1)
      clear hd1 hb1 hk1
      go_wp2
      go_end0
      exact ⟨rfl, hd.out, hBr.out⟩
theorem EntsAt.where_ {w : World} {a : Option Addr} {b off : Nat} {L : List Ent} (h : EntsAt w a b off L) (h0 : 0 < L.length) : b < w.heap.size := Oct.lt_of_cell (h.name 0 _ (List.getElem?_eq_getElem h0))
theorem ParsAt.where_ {w : World} {a : Option Addr} {b off : Nat} {L : List ByteArray} (h : ParsAt w a b off L) (h0 : 0 < L.length) : b < w.heap.size := Oct.lt_of_cell (h.cell 0 _ (List.getElem?_eq_getElem h0))
/-- what Encode answers -/
def wrote (x : Obj) : Value := if good x = true then .tuple #[.string (enc x), .int .i64 0] else .tuple #[.string empty, .int .i64 1]
set_option maxRecDepth 100000 in
set_option maxHeartbeats 2000000 in
theorem Encode_calls (x : Obj) (ea : Option Addr) (ec : Nat) (pa : Option Addr) (pc : Nat) (w : World) (hO : ObAt w x ea ec pa pc) :
    Calls Tryd.prog 12 #[val x ea ec pa pc] w fun r w' => r = .returned (wrote x) ∧ Below w.heap.size w w' := by
  have hG := Lib.hid fun w hO => Good_calls x ea ec pa pc w hO
  have hb0 := Lib.hid (b_alloc w (.cells #[.int .i64 x.kind, .string x.data, .slice ea x.ents.length ec, .string x.tree, .slice pa x.pars.length pc, .int .i64 x.height, .string x.note] 25))
  have hx0 := Lib.hid (heap_new w (.cells #[.int .i64 x.kind, .string x.data, .slice ea x.ents.length ec, .string x.tree, .slice pa x.pars.length pc, .int .i64 x.height, .string x.note] 25))
  have hO1 := Lib.hid (hO.below hb0.out)
  cases hgx : good x with
  | false =>
    have hr : wrote x = .tuple #[.string empty, .int .i64 1] := by unfold wrote; rw [hgx]; rfl
    rw [hr]
    rw [hgx] at hG
    go_enter Tryd.func12, Tryd.ntmps12
    go_wp2_with fail
    refine (hG.out _ hO1.out).mono ?_
    rintro r w1 ⟨rfl, b1⟩
    replace hb0 := Lib.hid (hb0.out.trans (b1.mono hb0.out.size))
    clear b1
    go_wp2
    go_ret2
    exact ⟨rfl, hb0.out⟩
  | true =>
    have hr : wrote x = .tuple #[.string (enc x), .int .i64 0] := by unfold wrote; rw [hgx]; rfl
    rw [hr]
    rw [hgx] at hG
    have hkd := good_kind hgx
    have hgood : Hid (good x = true) := Lib.hid hgx
    have henc : Hid (enc x = b1 x.kind ++ encRest x) := Lib.hid rfl
    have hpos := enc_size_pos x
    have hk8 : x.kind % 256 = x.kind := by omega
    clear hgx hr
    go_enter Tryd.func12, Tryd.ntmps12
    go_wp2_with fail
    refine (hG.out _ hO1.out).mono ?_
    rintro r w1 ⟨rfl, b1⟩
    have hz := hb0.out.size
    have hlt : w.heap.size < w1.heap.size := by
      have a1 := (Array.getElem?_eq_some_iff.1 hx0.out).1
      have a2 := b1.size
      omega
    replace hx0 := Lib.hid ((b1.block w.heap.size (Array.getElem?_eq_some_iff.1 hx0.out).1).trans hx0.out)
    replace hO1 := Lib.hid (hO1.out.below b1)
    replace hb0 := Lib.hid (hb0.out.trans (b1.mono hb0.out.size))
    clear b1 hG hz hO
    have hd := Lib.hid (Bd.new w1)
    have h2 := Lib.hid (b_alloc w1 (.cells #[.pointer none, .slice none 0 0] 53))
    have hx2 := Lib.hid ((h2.out.block w.heap.size hlt).trans hx0.out)
    have hO2 := Lib.hid (hO1.out.below h2.out)
    have c0 : (w1.alloc (.cells #[.pointer none, .slice none 0 0] 53)).cell? ⟨w.heap.size, 0, none⟩ = some (.int .i64 x.kind) := by rw [Lib.cell_of_heap hx2.out]; rfl
    have hz2 := h2.out.size
    have hE : Hid (∃ b off, EntsAt (w1.alloc (.cells #[.pointer none, .slice none 0 0] 53)) ea b off x.ents ∧ (0 < x.ents.length → b < w1.heap.size)) := Lib.hid (by
      obtain ⟨b, o, g⟩ := hO1.out.ents
      exact ⟨b, o, g.below h2.out, g.where_⟩)
    have hP : Hid (∃ b off, ParsAt (w1.alloc (.cells #[.pointer none, .slice none 0 0] 53)) pa b off x.pars ∧ (0 < x.pars.length → b < w1.heap.size)) := Lib.hid (by
      obtain ⟨b, o, g⟩ := hO1.out.pars
      exact ⟨b, o, g.below h2.out, g.where_⟩)
    clear hO1 hO2 hx0
    go_wp2_with fail
    generalize w1.alloc (.cells #[.pointer none, .slice none 0 0] 53) = w2 at *
    refine (hd.out.byte x.kind (by omega) (by omega) (by show 0 + 1 ≤ _; omega) (by omega)).mono ?_
    rintro r w3 ⟨rfl, hd3, hb3, hk3⟩
    rw [empty_append] at hd3
    have hB3 := Lib.hid (hb0.out.trans ((h2.out.trans hb3).mono (Nat.le_of_lt hlt)))
    have hs3 := hb3.size
    have hx3 := Lib.hid (hk3 _ _ _ _ (by omega) (by decide) hx2.out)
    have c3 : w3.cell? ⟨w.heap.size, 0, none⟩ = some (.int .i64 x.kind) := by rw [Lib.cell_of_heap hx3.out]; rfl
    have c31 : w3.cell? ⟨w.heap.size, 1, none⟩ = some (.string x.data) := by rw [Lib.cell_of_heap hx3.out]; rfl
    have c32 : w3.cell? ⟨w.heap.size, 2, none⟩ = some (.slice ea x.ents.length ec) := by rw [Lib.cell_of_heap hx3.out]; rfl
    have c33 : w3.cell? ⟨w.heap.size, 3, none⟩ = some (.string x.tree) := by rw [Lib.cell_of_heap hx3.out]; rfl
    have c34 : w3.cell? ⟨w.heap.size, 4, none⟩ = some (.slice pa x.pars.length pc) := by rw [Lib.cell_of_heap hx3.out]; rfl
    have c35 : w3.cell? ⟨w.heap.size, 5, none⟩ = some (.int .i64 x.height) := by rw [Lib.cell_of_heap hx3.out]; rfl
    have c36 : w3.cell? ⟨w.heap.size, 6, none⟩ = some (.string x.note) := by rw [Lib.cell_of_heap hx3.out]; rfl
    replace hE : Hid (∃ b off, EntsAt w3 ea b off x.ents ∧ (0 < x.ents.length → b < w1.heap.size)) := Lib.hid (by
      obtain ⟨b, o, g, g'⟩ := hE.out
      exact ⟨b, o, g.keep hb3 g', g'⟩)
    replace hP : Hid (∃ b off, ParsAt w3 pa b off x.pars ∧ (0 < x.pars.length → b < w1.heap.size)) := Lib.hid (by
      obtain ⟨b, o, g, g'⟩ := hP.out
      exact ⟨b, o, g.keep hb3 g', g'⟩)
    replace hd3 := Lib.hid hd3
    clear hd h2 hx2 c0 hb3 hk3 hx3 hb0
    by_cases k1 : x.kind = 1
    · have d1 : (x.kind == 1) = true := by rw [k1]; rfl
      have hsz : x.data.size ≤ 65536 := by have := hgood.out; unfold good at this; rw [if_pos k1] at this; exact of_decide_eq_true this
      replace henc : Hid (enc x = b1 x.kind ++ x.data) := Lib.hid (by rw [henc.out, encRest, if_pos k1])
      clear hE hP
      replace k1 := Lib.hid k1
      go_wp2_with fail
      refine (hd3.out.text x.data (by rw [b1_size]; omega) (by omega)).mono ?_
      rintro r w4 ⟨rfl, hd4, hb4, hk4⟩
      rw [← henc.out] at hd4
      replace hB3 := Lib.hid (hB3.out.trans (hb4.mono (Nat.le_of_lt hlt)))
      replace hd4 := Lib.hid hd4
      clear hb4 hk4 hd3
      go_wp2_with fail
      refine (hd4.out.string hpos).mono ?_
      rintro r w5 ⟨rfl, hb5⟩
      replace hB3 := Lib.hid (hB3.out.trans (hb5.mono (Nat.le_of_lt hlt)))
      clear hb5
      go_wp2
      go_ret2
      exact ⟨rfl, hB3.out⟩
    · have d1 : (x.kind == 1) = false := by simpa using k1
      by_cases k2 : x.kind = 2
      · have d2 : (x.kind == 2) = true := by rw [k2]; rfl
        have hgt : x.ents.length ≤ 256 ∧ ∀ e ∈ x.ents, goodEnt e = true := by
          have := hgood.out; unfold good at this; rw [if_neg k1, if_pos k2, Bool.and_eq_true, decide_eq_true_eq] at this
          exact ⟨this.1, goodEnts_mem this.2⟩
        replace hgt := Lib.hid hgt
        replace henc : Hid (enc x = b1 x.kind ++ (num4 x.ents.length ++ encEnts x.ents)) := Lib.hid (by rw [henc.out, encRest, if_neg k1, if_pos k2])
        have hT := Lib.hid fun eb eo hE hKE => writeTree_calls w1.heap.size w1.heap.size (b1 x.kind) x ea ec pa pc eb eo w3 hE hgt.out.1 hgt.out.2 (by rw [b1_size]; omega) hd3.out (by omega) hKE
        clear hP
        replace k1 := Lib.hid k1
        replace k2 := Lib.hid k2
        go_wp2_with fail
        obtain ⟨b, o, g, g'⟩ := hE.out
        refine (hT.out b o g g').mono ?_
        rintro r w4 ⟨rfl, hd4, hb4⟩
        rw [← henc.out] at hd4
        replace hB3 := Lib.hid (hB3.out.trans (hb4.mono (Nat.le_of_lt hlt)))
        replace hd4 := Lib.hid hd4
        clear hb4 hd3 hT g g'
        go_wp2_with fail
        refine (hd4.out.string hpos).mono ?_
        rintro r w5 ⟨rfl, hb5⟩
        replace hB3 := Lib.hid (hB3.out.trans (hb5.mono (Nat.le_of_lt hlt)))
        clear hb5
        go_wp2
        go_ret2
        exact ⟨rfl, hB3.out⟩
      · have d2 : (x.kind == 2) = false := by simpa using k2
        have k3 : x.kind = 3 := by omega
        have d3 : (x.kind == 3) = true := by rw [k3]; rfl
        have hgt : goodCommit x = true := by
          have := hgood.out; unfold good at this; rw [if_neg k1, if_neg k2, if_pos k3] at this
          exact this
        replace hgt := Lib.hid hgt
        replace henc : Hid (enc x = b1 x.kind ++ (x.tree ++ num4 x.pars.length ++ encPars x.pars ++ num4 x.height ++ txt x.note)) := Lib.hid (by rw [henc.out, encRest, if_neg k1, if_neg k2])
        have hT := Lib.hid fun eb eo hE hKE => writeCommit_calls w1.heap.size w1.heap.size (b1 x.kind) x ea ec pa pc eb eo w3 hE hgt.out (by rw [b1_size]; omega) hd3.out (by omega) hKE
        clear hE
        replace k1 := Lib.hid k1
        replace k2 := Lib.hid k2
        replace k3 := Lib.hid k3
        go_wp2_with fail
        obtain ⟨b, o, g, g'⟩ := hP.out
        refine (hT.out b o g g').mono ?_
        rintro r w4 ⟨rfl, hd4, hb4⟩
        rw [← henc.out] at hd4
        replace hB3 := Lib.hid (hB3.out.trans (hb4.mono (Nat.le_of_lt hlt)))
        replace hd4 := Lib.hid hd4
        clear hb4 hd3 hT g g'
        go_wp2_with fail
        refine (hd4.out.string hpos).mono ?_
        rintro r w5 ⟨rfl, hb5⟩
        replace hB3 := Lib.hid (hB3.out.trans (hb5.mono (Nat.le_of_lt hlt)))
        clear hb5
        go_wp2
        go_ret2
        exact ⟨rfl, hB3.out⟩
end Go.Proofs.YtmbbnabongnojaaDoor.Ob
