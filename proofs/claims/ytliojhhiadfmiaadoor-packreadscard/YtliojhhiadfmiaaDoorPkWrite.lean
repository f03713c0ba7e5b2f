/-
  pack's write makes the bytes of a pack; old memory stays. Conditions: items that rise by ids of 32 bytes, of sizes that a pack can have; the tables lie where the program's variables are.
-/
import Derived.Test.YtliojhhiadfmiaaDoorRows
import Derived.Test.YtliojhhiadfmiaaDoorPkOwn
import Derived.Test.YtliojhhiadfmiaaDoorPkBuf
import Derived.Test.YtliojhhiadfmiaaDoorPkFan
import Derived.Test.YtliojhhiadfmiaaDoorOctCalls
import Derived.Test.YtliojhhiadfmiaaDoorOctKit
import Derived.WalkKit
import Derived.WalkSpells
import Derived.WalkLawsBesides
import Derived.ProofKit
import Derived.OpenShut
import Derived.Laws.BytesArg
import Derived.Laws.Externs
import Derived.Deep.QuietTactic
import Derived.BigQuiet
import Derived.BigRegion
import Derived.Lib.Hide
import Derived.IntWalk
import Derived.Deep.LoopGhost
namespace Go.Proofs.YtliojhhiadfmiaaDoor.Pk
open Go Go.RowKit
open Oct (empty num4 num4_size)

theorem Bv.mono {B C b : Nat} {p v : Value} {s : ByteArray} {w : World} (h : Bv B b p v s w) (hC : C ≤ B) : Bv C b p v s w := by
  refine ⟨Nat.le_trans hC h.base, h.blk, h.ptr, ⟨h.own.1, ?_⟩, h.ne, h.nil⟩
  rcases h.own.2 with g | ⟨g, cap, cur, e1, e2, e3⟩
  · exact Or.inl g
  · exact Or.inr ⟨g, cap, cur, e1, Nat.le_trans hC e2, e3⟩
/-- blocks that are neither a builder's own nor bytes stay -/
def Keep (b : Nat) (w w' : World) : Prop := ∀ k cs T fr, k ≠ b → T ≠ 5 → w.heap[k]? = some (.cells cs T fr) → w'.heap[k]? = some (.cells cs T fr)
/-- two builders side by side -/
def Two (B b c : Nat) (s t : ByteArray) (w : World) : Prop :=
  ∃ p v q u, Bv B b p v s w ∧ Bv B c q u t w ∧ b ≠ c ∧ v.ownBlock ≠ some c ∧ u.ownBlock ≠ some b ∧ ∀ k, v.ownBlock = some k → u.ownBlock ≠ some k
theorem Two.swap {B b c : Nat} {s t : ByteArray} {w : World} (h : Two B b c s t w) : Two B c b t s w := by
  obtain ⟨p, v, q, u, h1, h2, h3, h4, h5, h6⟩ := h
  exact ⟨q, u, p, v, h2, h1, Ne.symm h3, h5, h4, fun k hk g => h6 k g hk⟩
theorem Two.next {B b c : Nat} {s t : ByteArray} {w w' : World} (h : Two B b c s t w) (g : Below w.heap.size w w') : Two B b c s t w' := by
  obtain ⟨p, v, q, u, h1, h2, h3⟩ := h
  exact ⟨p, v, q, u, h1.next g, h2.next g, h3⟩
theorem Two.lt {B b c : Nat} {s t : ByteArray} {w : World} (h : Two B b c s t w) : b < w.heap.size ∧ c < w.heap.size ∧ B ≤ b ∧ B ≤ c := by
  obtain ⟨p, v, q, u, h1, h2, h3⟩ := h
  exact ⟨h1.lt, h2.lt, h1.base, h2.base⟩
theorem Two.fresh {B b c R : Nat} {w w' : World} (h : Two B b c empty empty w) (g : Below R w w') (hb : b < R) (hc : c < R) : Two B b c empty empty w' := by
  obtain ⟨p, v, q, u, h1, h2, h3⟩ := h
  have e1 := h1.nil rfl
  have e2 := h2.nil rfl
  exact ⟨p, v, q, u, h1.turn (g.block b hb) (fun k hk => by rw [e1] at hk; cases hk), h2.turn (g.block c hc) (fun k hk => by rw [e2] at hk; cases hk), h3⟩
theorem Two.new (w : World) : Two w.heap.size w.heap.size (w.heap.size + 1) empty empty ((w.alloc (.cells #[.pointer none, .slice none 0 0] 78)).alloc (.cells #[.pointer none, .slice none 0 0] 78)) := by
  have h1 := (Bv.new w).next (b_alloc _ (.cells #[.pointer none, .slice none 0 0] 78))
  have h2 := Bv.new (w.alloc (.cells #[.pointer none, .slice none 0 0] 78))
  have hs : (w.alloc (.cells #[.pointer none, .slice none 0 0] 78)).heap.size = w.heap.size + 1 := by simp
  rw [hs] at h2
  exact ⟨_, _, _, _, h1, h2.mono (Nat.le_succ _), by omega, (fun h => by cases h), (fun h => by cases h), fun k h => by cases h⟩
theorem Two.write {B b c : Nat} {s t : ByteArray} {w : World} (h : Two B b c s t w) (x : ByteArray) (hlen : s.size + x.size ≤ 140737488355328) :
    Calls Tryd.prog 48 #[.pointer (some ⟨b, 0, none⟩), .string x] w fun e w' => e = .returned (.tuple #[.int .i64 x.size, .nilIface]) ∧ Two B b c (s ++ x) t w' ∧ Below B w w' ∧ Keep b w w' := by
  obtain ⟨p, v, q, u, h1, h2, h3, h4, h5, h6⟩ := h
  refine (Write_v B b p v s x w h1 hlen).mono ?_
  rintro e w' ⟨rfl, p', v', g1, hw⟩
  have ublk : ∀ k, u.ownBlock = some k → k < w.heap.size := fun k hk => (h2.own.lt k hk).2
  refine ⟨rfl, ⟨p', v', q, u, g1, h2.turn (hw.block c h2.lt (Ne.symm h3) h4) (fun k hk => hw.block k (ublk k hk) (fun e => h5 (by rw [hk, e])) (fun e => h6 k e hk)), h3, ?_, h5, ?_⟩, hw.below h1, fun k cs T fr hk hT he => hw.keep h1 hk hT he⟩
  · rcases hw.place with e | e
    · rw [e]; exact h4
    · intro g; have := e c g; have := h2.lt; omega
  · intro k hk g
    rcases hw.place with e | e
    · rw [e] at hk; exact h6 k hk g
    · have := e k hk; have := ublk k g; omega
theorem Two.len {B b c : Nat} {s t : ByteArray} {w : World} (h : Two B b c s t w) :
    Calls Tryd.prog 51 #[.pointer (some ⟨c, 0, none⟩)] w fun e w' => e = .returned (.int .i64 t.size) ∧ w = w' := by
  obtain ⟨p, v, q, u, h1, h2, h3⟩ := h
  exact Len_v B c q u t w h2
theorem Two.text {B b c : Nat} {s t : ByteArray} {w : World} (h : Two B b c s t w) :
    Calls Tryd.prog 53 #[.pointer (some ⟨c, 0, none⟩)] w fun e w' => e = .returned (.string t) ∧ (∃ p v, Bv B b p v s w') ∧ Below B w w' := by
  obtain ⟨p, v, q, u, h1, h2, h3, h4, h5, h6⟩ := h
  refine h2.text.mono ?_
  rintro e w' ⟨rfl, _, hst⟩
  exact ⟨rfl, ⟨p, v, h1.turn (hst.block b h5) (fun k hk => hst.block k (h6 k hk))⟩, hst.below fun k hk => (h2.own.lt k hk).1⟩
theorem OwnT.keep {R b : Nat} {w w' : World} {v : Value} {L : List ByteArray} (h : OwnT R w v L) (k : Keep b w w') (hb : b < R) : OwnT R w' v L := by
  refine ⟨h.1, ?_⟩
  rcases h.2 with g | ⟨g, cap, cur, e1, e2, e3, e4⟩
  · exact Or.inl g
  · exact Or.inr ⟨g, cap, cur, e1, e2, k g _ _ _ (by omega) (by decide) e3, e4⟩
theorem Keep.blk {b k : Nat} {w w' : World} {cs : Array Value} (h : Keep b w w') (hb : Blk w k cs 37) (hk : k ≠ b) : Blk w' k cs 37 := h k _ _ _ hk (by decide) hb
theorem ids_next {L : List Itm} {k : Nat} (h : k < L.length) : ids (L.take k) ++ [L[k].id] = ids (L.take (k + 1)) := by rw [take_next h]; unfold ids; rw [List.map_append]; rfl
theorem entB_parts (x : Itm) (a : Nat) (s : ByteArray) : s ++ entB x a = s ++ x.id ++ num4 a ++ num4 x.data.size ++ num4 (chk x.data) := by unfold entB; simp only [ByteArray.append_assoc]
attribute [local irreducible] fanN fanB idxB dataB entB
set_option maxRecDepth 100000 in
set_option maxHeartbeats 4000000 in
theorem write_calls (a : Option Addr) (cap b off : Nat) (L : List Itm) (w : World) (hI : ItAt w a b off L) (he : Ev w) (hg : Good L) :
    Calls Tryd.prog 25 #[.slice a L.length cap] w fun e w' => e = .returned (.string (pack L)) ∧ Below w.heap.size w w' := by
  have hlen := hg.len
  have hsum := hg.sum
  have hpos := hg.pos
  have h32 := Lib.hid hg.id32
  have hsz := Lib.hid hg.sz
  have hup := Lib.hid (up_ids hg.up)
  have hi32 : Hid (∀ i ∈ ids L, i.size = 32) := Lib.hid fun i hi => by
    obtain ⟨x, hx, rfl⟩ := List.mem_map.1 hi
    exact hg.id32 x hx
  have hidl : Hid ((ids L).length = L.length) := Lib.hid (List.length_map _)
  have htw := Lib.hid (Two.new w)
  have hB1 := Lib.hid (below_next (b_alloc w (.cells #[.pointer none, .slice none 0 0] 78)) (b_alloc (w.alloc (.cells #[.pointer none, .slice none 0 0] 78)) (.cells #[.pointer none, .slice none 0 0] 78)))
  have hs1 : Hid (((w.alloc (.cells #[.pointer none, .slice none 0 0] 78)).alloc (.cells #[.pointer none, .slice none 0 0] 78)).heap.size = w.heap.size + 2) := Lib.hid (by simp)
  have hp3 := Lib.hid he.pos
  replace hI := Lib.hid hI
  replace he := Lib.hid he
  have hbody := Lib.hid (body_size L hg.id32)
  have hidx := Lib.hid fun k => idxB_size (L.take k) 0 fun x hx => hg.id32 x (List.mem_of_mem_take hx)
  clear hg
  go_enter Tryd.func25, Tryd.ntmps25
  go_wp2
  generalize (w.alloc (.cells #[.pointer none, .slice none 0 0] 78)).alloc (.cells #[.pointer none, .slice none 0 0] 78) = w1 at *
  go_loopw [5, 7, 12] (fun v _ i wr => ∃ k : Nat, k ≤ L.length ∧ i = .int .i64 k ∧ Hid (OwnT (w.heap.size + 2) wr v (ids (L.take k))) ∧ Hid (Below (w.heap.size + 2) w1 wr)) (fun _ _ i _ => L.length - (intOf i).toNat)
  case atStart => exact ⟨0, by omega, rfl, Lib.hid (OwnT.nil _ _), Lib.hid (Below.refl _ _)⟩
  case round =>
    obtain ⟨k, hk, rfl, hO, hB⟩ := hrel
    have hszr : Hid (w.heap.size + 2 ≤ wr.heap.size) := Lib.hid (by have := hB.out.size; have := hs1.out; omega)
    have hIr := Lib.hid (hI.out.turn fun h0 => (hB.out.block b (by have := hI.out.where_ h0; omega)).trans (hB1.out.block b (hI.out.where_ h0)))
    by_cases hlt : k < L.length
    · have i1 : (k : Int) < L.length := by omega
      have i0 : 0 ≤ (k : Int) := by omega
      obtain rfl := hIr.out.addr (by omega)
      have c0 := hIr.out.id k _ (List.getElem?_eq_getElem hlt)
      have c1 := hIr.out.dat k _ (List.getElem?_eq_getElem hlt)
      have hnx := Lib.hid (ids_next hlt)
      have hlenM : (ids (L.take k)).length ≤ 1099511627776 := by rw [ids, List.length_map, List.length_take]; omega
      generalize L[k] = x at *
      obtain ⟨xi, xd⟩ := x
      dsimp only at c0 c1 hnx
      generalize ids (L.take k) = M at *
      have ho2 := Lib.hid (hO.out.next (b_alloc wr (.cells #[.string xi, .string xd] 37)))
      have hB2 := Lib.hid (hB.out.trans ((b_alloc wr (.cells #[.string xi, .string xd] 37)).mono hszr.out))
      have hsz2 : Hid (w.heap.size + 2 ≤ (wr.alloc (.cells #[.string xi, .string xd] 37)).heap.size) := Lib.hid (by have := hszr.out; simp; omega)
      have hx3 := Lib.hid (Blk.new wr #[.string xi, .string xd] 37)
      clear hO hB hIr hszr
      go_upto_region 6 with (fail)
      generalize wr.alloc (.cells #[.string xi, .string xd] 37) = w3 at *
      clear c0 c1
      have c0 := hx3.out.cell 0 (v := .string xi) rfl
      go_wp2_with (at_builtin; refine wp_append_tx rfl _ _ rfl (w.heap.size + 2) u5 M xi rfl rfl ho2.out hsz2.out hlenM ?_)
      intro v' w5 hO5 hB5
      have hB6 := Lib.hid (hB5 _ hB2.out)
      rw [hnx.out] at hO5
      replace hO5 := Lib.hid hO5
      clear ho2 hB2 hB5 hlenM c0 hx3
      go_wp2
      exact ⟨⟨k + 1, by omega, by go_num, hO5, hB6⟩, by simp [intOf]; omega⟩
    · have d3 : decide ((k : Int) < L.length) = false := decide_eq_false (by omega)
      have d4 : (L.length : Int) ≤ k := by omega
      obtain rfl : k = L.length := by omega
      rw [List.take_length] at hO
      obtain ⟨ia, icap, ib0, ioff0, hv, _, _, _⟩ := hO.out.at_
      subst hv
      replace htw := Lib.hid (htw.out.fresh hB.out (by omega) (by omega))
      replace hB1 := Lib.hid (hB1.out.trans (hB.out.mono (by omega)))
      have hm := mod_u32 L.length (by omega)
      have hN := Lib.hid fun w => Num_b (L.length : Int) (by omega) (by omega) w
      have hnb : w.heap.size < w.heap.size + 2 := by omega
      clear hB hs1 hIr hszr
      rw [hidl.out] at hO ⊢
      go_wp2_with fail
      refine (htw.out.write title (by rw [title_size]; show 0 + 8 ≤ _; omega)).mono ?_
      rintro e w2 ⟨rfl, tw2, b2, k2⟩
      rw [empty_append] at tw2
      replace hO := Lib.hid (hO.out.keep k2 hnb)
      replace hB1 := Lib.hid (hB1.out.trans b2)
      replace htw := Lib.hid tw2
      clear b2 k2 tw2
      go_wp2_with fail
      refine (hN.out _).mono ?_
      rintro e w3 ⟨rfl, b3⟩
      replace htw := Lib.hid (htw.out.next b3)
      replace hB1 := Lib.hid (below_next hB1.out b3)
      replace hO := Lib.hid (hO.out.next b3)
      clear b3
      go_wp2_with fail
      refine (htw.out.write (num4 L.length) (by rw [title_size, num4_size]; omega)).mono ?_
      rintro e w4 ⟨rfl, tw4, b4, k4⟩
      replace hO := Lib.hid (hO.out.keep k4 hnb)
      replace hB1 := Lib.hid (hB1.out.trans b4)
      replace htw := Lib.hid tw4
      clear b4 k4 tw4
      obtain ⟨ia', icap', ib, ioff, hv, hTx, _, _⟩ := hO.out.at_
      have hv2 : ia' = ia ∧ icap' = icap := by
        simp only [Value.slice.injEq] at hv
        exact ⟨hv.1.symm, hv.2.2.symm⟩
      obtain ⟨rfl, rfl⟩ := hv2
      have hF := Lib.hid (fanOf_calls ia' icap' ib ioff (ids L) w4 hTx hup.out hi32.out (by have := hidl.out; omega))
      rw [hidl.out] at hF
      clear hv hTx hO
      go_wp2_with fail
      refine hF.out.mono ?_
      rintro e w5 ⟨rfl, b5⟩
      replace htw := Lib.hid (htw.out.next b5)
      replace hB1 := Lib.hid (below_next hB1.out b5)
      clear b5 hF
      go_wp2_with fail
      refine (htw.out.write (fanB (ids L) 256) (by rw [ByteArray.size_append, title_size, num4_size, fanB_size]; omega)).mono ?_
      rintro e w6 ⟨rfl, tw6, b6, k6⟩
      replace hB1 := Lib.hid (hB1.out.trans b6)
      replace htw := Lib.hid tw6
      clear b6 k6 tw6
      obtain ⟨H, hH⟩ : ∃ H, H = title ++ num4 L.length ++ fanB (ids L) 256 := ⟨_, rfl⟩
      rw [← hH] at htw
      have hHs : Hid (H.size = 1036) := Lib.hid (by rw [hH, ByteArray.size_append, ByteArray.size_append, title_size, num4_size, fanB_size])
      replace hH := Lib.hid hH
      have hz2 := Lib.hid htw.out.lt
      go_wp2
      go_loopw [9, 33] (fun _ i wr => ∃ k : Nat, k ≤ L.length ∧ i = .int .i64 k ∧ Hid (Two w.heap.size w.heap.size (w.heap.size + 1) (H ++ idxB 0 (L.take k)) (dataB (L.take k)) wr) ∧ Hid (Below w.heap.size w wr)) (fun _ i _ => L.length - (intOf i).toNat)
      case atStart => exact ⟨0, by omega, rfl, Lib.hid (by
        have e1 : idxB 0 (L.take 0) = empty := by unfold idxB; rfl
        have e2 : dataB (L.take 0) = empty := by unfold dataB; rfl
        rw [e1, e2, append_empty]; exact htw.out), hB1⟩
      case round =>
        clear htw hB1 hz2
        obtain ⟨k, hk, rfl, htw, hB⟩ := hrel
        have hsk := hidx.out k
        rw [List.length_take, Nat.min_eq_left hk] at hsk
        have hdk := dataB_size (L.take k)
        have hdk2 := sumD_take_le L k
        have hltb := htw.out.lt.1
        have hltc := htw.out.lt.2.1
        have hacc : (H ++ idxB 0 (L.take k)).size ≤ 50000 := by rw [ByteArray.size_append]; have := hHs.out; omega
        have hDle : (dataB (L.take k)).size ≤ 4000000 := by omega
        replace hdk := Lib.hid hdk
        clear hsk hdk2
        by_cases hlt : k < L.length
        · have i1 : (k : Int) < L.length := by omega
          have i0 : 0 ≤ (k : Int) := by omega
          have hIr := Lib.hid (hI.out.next hB.out)
          obtain rfl := hIr.out.addr (by omega)
          have c0 := hIr.out.id k _ (List.getElem?_eq_getElem hlt)
          have c1 := hIr.out.dat k _ (List.getElem?_eq_getElem hlt)
          have hx32 : L[k].id.size ≤ 32 := Nat.le_of_eq (h32.out _ (List.getElem_mem hlt))
          have hxsz := hsz.out _ (List.getElem_mem hlt)
          have hi2 := Lib.hid (idxB_next hlt)
          have hd2 := Lib.hid (dataB_next hlt)
          have hep := Lib.hid (entB_parts L[k] (sumD (L.take k)) (H ++ idxB 0 (L.take k)))
          have hcr := Lib.hid (chk_range L[k].data)
          generalize L[k] = x at *
          obtain ⟨xi, xd⟩ := x
          dsimp only at c0 c1 hx32 hxsz hep hd2 hcr
          have hm1 := mod_u32 (dataB (L.take k)).size (by omega)
          have hm2 := mod_u32 xd.size (by omega)
          have hN1 := Lib.hid fun w => Num_b ((dataB (L.take k)).size : Int) (by omega) (by omega) w
          have hN2 := Lib.hid fun w => Num_b (xd.size : Int) (by omega) (by omega) w
          have hN3 := Lib.hid fun w => Num_b (chk xd) hcr.out.1 hcr.out.2 w
          rw [← hdk.out] at hi2 hep
          clear hdk
          generalize hA : H ++ idxB 0 (L.take k) = A at *
          replace hA := Lib.hid hA
          generalize dataB (L.take k) = D at *
          have hx3 := Lib.hid (Blk.new wr #[.string xi, .string xd] 37)
          have hB2 := Lib.hid (below_next hB.out (b_alloc wr (.cells #[.string xi, .string xd] 37)))
          have htw2 := Lib.hid (htw.out.next (b_alloc wr (.cells #[.string xi, .string xd] 37)))
          clear hB htw hIr
          go_upto_region 14 with (fail)
          generalize wr.alloc (.cells #[.string xi, .string xd] 37) = w3 at *
          clear c0 c1
          generalize wr.heap.size = r at *
          have hrb : r ≠ w.heap.size := by omega
          have hrc : r ≠ w.heap.size + 1 := by omega
          have c0 := hx3.out.cell 0 (v := .string xi) rfl
          have c1 := hx3.out.cell 1 (v := .string xd) rfl
          go_wp2_with fail
          refine (htw2.out.write xi (by omega)).mono ?_
          rintro e w4 ⟨rfl, tw, bb, kk⟩
          replace hx3 := Lib.hid (kk.blk hx3.out hrb)
          replace hB2 := Lib.hid (hB2.out.trans bb)
          replace htw2 := Lib.hid tw
          clear tw bb kk c0 c1
          have c1 := hx3.out.cell 1 (v := .string xd) rfl
          go_wp2_with fail
          refine (htw2.out.len).mono ?_
          rintro e w5 ⟨rfl, rfl⟩
          go_wp2_with fail
          refine (hN1.out _).mono ?_
          rintro e w6 ⟨rfl, bb⟩
          replace htw2 := Lib.hid (htw2.out.next bb)
          replace hB2 := Lib.hid (below_next hB2.out bb)
          replace hx3 := Lib.hid (hx3.out.next bb)
          clear bb c1
          go_wp2_with fail
          refine (htw2.out.write (num4 (D.size : Int)) (by rw [ByteArray.size_append, num4_size]; omega)).mono ?_
          rintro e w7 ⟨rfl, tw, bb, kk⟩
          replace hx3 := Lib.hid (kk.blk hx3.out hrb)
          replace hB2 := Lib.hid (hB2.out.trans bb)
          replace htw2 := Lib.hid tw
          clear tw bb kk
          have c1 := hx3.out.cell 1 (v := .string xd) rfl
          go_wp2_with fail
          refine (hN2.out _).mono ?_
          rintro e w8 ⟨rfl, bb⟩
          replace htw2 := Lib.hid (htw2.out.next bb)
          replace hB2 := Lib.hid (below_next hB2.out bb)
          replace hx3 := Lib.hid (hx3.out.next bb)
          clear bb c1
          go_wp2_with fail
          refine (htw2.out.write (num4 (xd.size : Int)) (by rw [ByteArray.size_append, ByteArray.size_append, num4_size, num4_size]; omega)).mono ?_
          rintro e w9 ⟨rfl, tw, bb, kk⟩
          replace hx3 := Lib.hid (kk.blk hx3.out hrb)
          replace hB2 := Lib.hid (hB2.out.trans bb)
          replace htw2 := Lib.hid tw
          clear tw bb kk
          have c1 := hx3.out.cell 1 (v := .string xd) rfl
          have hev := Lib.hid (he.out.next hB2.out)
          go_wp2_with fail
          refine (Chk_calls xd w9 hev.out (by omega)).mono ?_
          rintro e w10 ⟨rfl, m, rfl⟩
          have bb := b_drewN w9 m
          replace htw2 := Lib.hid (htw2.out.next bb)
          replace hB2 := Lib.hid (below_next hB2.out bb)
          replace hx3 := Lib.hid (hx3.out.next bb)
          clear bb c1 hev
          generalize w9.drewN m = w10 at *
          go_wp2_with fail
          refine (hN3.out _).mono ?_
          rintro e w11 ⟨rfl, bb⟩
          replace htw2 := Lib.hid (htw2.out.next bb)
          replace hB2 := Lib.hid (below_next hB2.out bb)
          replace hx3 := Lib.hid (hx3.out.next bb)
          clear bb
          go_wp2_with fail
          refine (htw2.out.write (num4 (chk xd)) (by rw [ByteArray.size_append, ByteArray.size_append, ByteArray.size_append, num4_size, num4_size, num4_size]; omega)).mono ?_
          rintro e w12 ⟨rfl, tw, bb, kk⟩
          replace hx3 := Lib.hid (kk.blk hx3.out hrb)
          replace hB2 := Lib.hid (hB2.out.trans bb)
          rw [← hep.out] at tw
          replace htw2 := Lib.hid tw.swap
          clear tw bb kk
          have c1 := hx3.out.cell 1 (v := .string xd) rfl
          go_wp2_with fail
          refine (htw2.out.write xd (by omega)).mono ?_
          rintro e w13 ⟨rfl, tw, bb, kk⟩
          replace hB2 := Lib.hid (hB2.out.trans bb)
          have hend : Hid (Two w.heap.size w.heap.size (w.heap.size + 1) (H ++ idxB 0 (L.take (k + 1))) (dataB (L.take (k + 1))) w13) := Lib.hid (by
            rw [hd2.out, hi2.out, ← ByteArray.append_assoc, hA.out]; exact tw.swap)
          clear tw bb kk c1 htw2 hx3
          go_wp2
          exact ⟨⟨k + 1, by omega, by go_num, hend, hB2⟩, by simp [intOf]; omega⟩
        · have d3 : decide ((k : Int) < L.length) = false := decide_eq_false (by omega)
          have d4 : (L.length : Int) ≤ k := by omega
          obtain rfl : k = L.length := by omega
          rw [List.take_length] at htw hacc hDle
          have hbd : Hid (H ++ idxB 0 L ++ dataB L = body L) := Lib.hid (by rw [hH.out]; rfl)
          go_wp2_with fail
          refine (htw.out.text).mono ?_
          rintro e w2 ⟨rfl, ⟨p, v, hd⟩, bb⟩
          replace hB := Lib.hid (hB.out.trans bb)
          replace hd := Lib.hid hd
          clear bb htw
          go_wp2_with fail
          refine (Write_v _ _ _ _ _ (dataB L) w2 hd.out (by omega)).mono ?_
          rintro e w3 ⟨rfl, p', v', hd3, hw3⟩
          replace hB := Lib.hid (hB.out.trans (hw3.below hd.out))
          rw [hbd.out] at hd3
          replace hd := Lib.hid hd3
          clear hd3 hw3
          have hbs : (body L).size ≤ 4100000 := by have := hbody.out; omega
          have hbp : (body L).size ≠ 0 := by have := hbody.out; omega
          have hv3 := hd.out.own.lt
          go_wp2_with fail
          refine (hd.out.text).mono ?_
          rintro e w4 ⟨rfl, hrow, hst⟩
          have c1 : w4.cell? ⟨w.heap.size, 1, none⟩ = some v' := by
            have := hst.block w.heap.size hd.out.ne
            exact Blk.cell (this.trans hd.out.blk) 1 rfl
          replace hB := Lib.hid (hB.out.trans (hst.below fun k hk => (hv3 k hk).1))
          replace hrow := Lib.hid hrow
          clear hst hd
          go_wp2_with fail
          refine (String_v w.heap.size v' (body L) w4 c1 hrow.out hbp).mono ?_
          rintro e w5 ⟨rfl, _, hst⟩
          replace hB := Lib.hid (hB.out.trans (hst.below fun k hk => (hv3 k hk).1))
          clear hst c1 hv3
          have hev := Lib.hid (he.out.next hB.out)
          have hds : (dig (body L)).size ≤ 32 := Nat.le_of_eq (dig_size (body L))
          clear hbp
          go_wp2_with fail
          refine (Sum_calls (body L) w5 hev.out (by omega)).mono ?_
          rintro e w6 ⟨rfl, bb⟩
          replace hB := Lib.hid (below_next hB.out bb)
          clear bb hev
          go_wp2
          go_ret
          exact ⟨rfl, hB.out⟩
end Go.Proofs.YtliojhhiadfmiaaDoor.Pk
