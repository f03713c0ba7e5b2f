/-
  The reference's with, fan, Bytes and Make, and Same: old memory stays. Conditions: lists and texts of a length that the form's numbers bear.
-/
import Derived.Test.YtliojhhiadfmiaaDoorRows
import Derived.Test.YtliojhhiadfmiaaDoorPkOwn
import Derived.Test.YtliojhhiadfmiaaDoorPkFan
import Derived.Test.YtliojhhiadfmiaaDoorPkSort
import Derived.Test.YtliojhhiadfmiaaDoorOctRefW
import Derived.Test.YtliojhhiadfmiaaDoorShaRefS
import Derived.Test.YtliojhhiadfmiaaDoorCrcRef
import Derived.Test.YtliojhhiadfmiaaDoorOctKit
import Derived.WalkKit
import Derived.WalkSpells
import Derived.WalkLawsBesides
import Derived.ProofKit
import Derived.OpenShut
import Derived.Laws.BytesArg
import Derived.Laws.Externs
import Derived.Deep.QuietTactic
import Derived.BigQuiet
import Derived.BigRegion
import Derived.Lib.Hide
import Derived.IntWalk
import Derived.Deep.LoopGhost
import Derived.Handy
import Derived.Deep.RegionHeld3
namespace Go.Proofs.YtliojhhiadfmiaaDoor.Pk
open Go Go.RowKit
open Oct (empty num4 num4_size)

/-! ### the reference's small calls -/
theorem RNum_b (n : Int) (h0 : 0 ≤ n) (h1 : n < 4294967296) (w : World) :
    Calls Tryd.prog 57 #[.int .u32 n] w fun e w' => e = .returned (.string (num4 n)) ∧ Below w.heap.size w w' := by
  refine (Oct.RefNum_calls n h0 h1 w).mono ?_
  rintro e w' ⟨rfl, c, rfl⟩
  exact ⟨rfl, b_alloc w _⟩
theorem RSum_b (s : ByteArray) (w : World) (hn : s.size ≤ 140737488351232) :
    Calls Tryd.prog 27 #[.string s] w fun e w' => e = .returned (.string (dig s)) ∧ Below w.heap.size w w' := by
  rw [dig_is]
  exact Sha.RSum_calls s hn w
theorem RChk_b (s : ByteArray) (w : World) (hn : s.size ≤ 140737488351232) :
    Calls Tryd.prog 33 #[.string s] w fun e w' => e = .returned (.int .u32 (chk s)) ∧ Below w.heap.size w w' := by
  rw [chk_is]
  refine (Crc.RSum_calls s w (by omega)).mono ?_
  rintro e w' ⟨rfl, rfl⟩
  exact ⟨rfl, Below.refl _ _⟩

/-! ### with -/
structure WInv (x : Itm) (L : List Itm) (k : Nat) (dn : Bool) (out : List Itm) : Prop where
  no : ∀ l ∈ L.take k, l.id ≠ x.id
  out : out = if dn = true then ins x (L.take k) else L.take k
  yes : dn = true → ∃ l ∈ L.take k, lt x.id l.id = true
  none : dn = false → ∀ l ∈ L.take k, lt x.id l.id = false
theorem WInv.start (x : Itm) (L : List Itm) : WInv x L 0 false [] := ⟨fun l hl => by simp at hl, by simp, fun h => (by cases h), fun _ l hl => by simp at hl⟩
theorem WInv.no_next {x : Itm} {L : List Itm} {k : Nat} {dn : Bool} {out : List Itm} (w : WInv x L k dn out) (h : k < L.length) (e : L[k].id ≠ x.id) : ∀ l ∈ L.take (k + 1), l.id ≠ x.id := fun l hl => by
  rw [take_next h, List.mem_append, List.mem_singleton] at hl
  rcases hl with g | g
  · exact w.no l g
  · rw [g]; exact e
theorem WInv.skip {x : Itm} {L : List Itm} {k : Nat} {out : List Itm} (w : WInv x L k false out) (h : k < L.length) (e : L[k].id ≠ x.id) (hl : lt x.id L[k].id = false) : WInv x L (k + 1) false (out ++ [L[k]]) := by
  have ho := w.out
  simp only [Bool.false_eq_true, if_false] at ho
  refine ⟨w.no_next h e, ?_, fun g => (by cases g), fun _ l hm => ?_⟩
  · simp only [Bool.false_eq_true, if_false]; rw [take_next h, ho]
  · rw [take_next h, List.mem_append, List.mem_singleton] at hm
    rcases hm with g | g
    · exact w.none rfl l g
    · rw [g]; exact hl
theorem WInv.here {x : Itm} {L : List Itm} {k : Nat} {out : List Itm} (w : WInv x L k false out) (h : k < L.length) (e : L[k].id ≠ x.id) (hl : lt x.id L[k].id = true) : WInv x L (k + 1) true (out ++ [x] ++ [L[k]]) := by
  have ho := w.out
  simp only [Bool.false_eq_true, if_false] at ho
  refine ⟨w.no_next h e, ?_, fun _ => ⟨L[k], ?_, hl⟩, fun g => (by cases g)⟩
  · simp only [if_true]; rw [take_next h, ins_here x _ hl _ (w.none rfl), ho]
  · rw [take_next h]; exact List.mem_append.2 (Or.inr (List.mem_singleton.2 rfl))
theorem WInv.past {x : Itm} {L : List Itm} {k : Nat} {out : List Itm} (w : WInv x L k true out) (h : k < L.length) (e : L[k].id ≠ x.id) : WInv x L (k + 1) true (out ++ [L[k]]) := by
  have ho := w.out
  simp only [if_true] at ho
  obtain ⟨l, hm, hl⟩ := w.yes rfl
  refine ⟨w.no_next h e, ?_, fun _ => ⟨l, ?_, hl⟩, fun g => (by cases g)⟩
  · simp only [if_true]; rw [take_next h, ins_past x _ _ ⟨l, hm, hl⟩, ho]
  · rw [take_next h]; exact List.mem_append.2 (Or.inl hm)
theorem WInv.end_yes {x : Itm} {L out : List Itm} (w : WInv x L L.length true out) : out = ins x L := by
  have ho := w.out
  simp only [if_true] at ho
  rw [List.take_length] at ho
  exact ho
theorem WInv.end_no {x : Itm} {L out : List Itm} (w : WInv x L L.length false out) : out ++ [x] = ins x L := by
  have ho := w.out
  have hz := w.none rfl
  simp only [Bool.false_eq_true, if_false] at ho
  rw [List.take_length] at ho hz
  rw [ho, ins_none x L hz]
theorem WInv.size {x : Itm} {L out : List Itm} {k : Nat} {dn : Bool} (w : WInv x L k dn out) (hk : k ≤ L.length) : out.length ≤ L.length + 1 := by
  rw [w.out]
  split
  · rw [ins_length, List.length_take]; omega
  · rw [List.length_take]; omega
/-- what with answers -/
def Lays (x : Itm) (L : List Itm) (e : Ending) (w' : World) : Prop :=
  ((∃ l ∈ L, l.id = x.id) ∧ ∃ v, e = .returned (.tuple #[v, .bool false])) ∨
  ((∀ l ∈ L, l.id ≠ x.id) ∧ ∃ (a : Option Addr) (cap b off : Nat), e = .returned (.tuple #[.slice a (ins x L).length cap, .bool true]) ∧ ItAt w' a b off (ins x L))
theorem Lays.no {x : Itm} {L : List Itm} (h : ∃ l ∈ L, l.id = x.id) (v : Value) (w : World) : Lays x L (.returned (.tuple #[v, .bool false])) w := Or.inl ⟨h, v, rfl⟩
theorem Lays.yes {B : Nat} {x : Itm} {L : List Itm} {w : World} {v : Value} (h : ∀ l ∈ L, l.id ≠ x.id) (ho : OwnI B w v (ins x L)) : Lays x L (.returned (.tuple #[v, .bool true])) w := by
  obtain ⟨a, cap, b, off, rfl, hI, _⟩ := ho.at_
  exact Or.inr ⟨h, a, cap, b, off, rfl, hI⟩
set_option maxRecDepth 100000 in
set_option maxHeartbeats 8000000 in
theorem with_calls (a : Option Addr) (cap b off : Nat) (L : List Itm) (x : Itm) (w : World) (hL : ItAt w a b off L) (hlen : L.length ≤ 100000) :
    Calls Tryd.prog 26 #[.slice a L.length cap, .agg #[.string x.id, .string x.data]] w fun e w' => Lays x L e w' ∧ Below w.heap.size w w' := by
  have hB := Lib.hid (below_next (b_alloc w (.cells #[.string x.id, .string x.data] 37)) (b_alloc _ (.cells #[] 37)))
  have hx := Lib.hid ((Blk.new w #[.string x.id, .string x.data] 37).alloc (.cells #[] 37))
  have hO := Lib.hid (OwnI.new (w.alloc (.cells #[.string x.id, .string x.data] 37)) (w.heap.size + 1) (by simp))
  have hs1 : (w.alloc (.cells #[.string x.id, .string x.data] 37)).heap.size = w.heap.size + 1 := by simp
  have hs2 : Hid (((w.alloc (.cells #[.string x.id, .string x.data] 37)).alloc (.cells #[] 37)).heap.size = w.heap.size + 2) := Lib.hid (by simp)
  rw [hs1] at hO
  clear hs1
  have hK := Lib.hid (hL.next hB.out)
  replace hL := Lib.hid hL
  go_enter Tryd.func26, Tryd.ntmps26
  go_wp2
  generalize (w.alloc (.cells #[.string x.id, .string x.data] 37)).alloc (.cells #[] 37) = w2 at *
  go_loopw [6, 7, 8] (fun v d i wr => ∃ (k : Nat) (dn : Bool) (out : List Itm), k ≤ L.length ∧ i = .int .i64 k ∧ d = .bool dn ∧ Hid (OwnI (w.heap.size + 1) wr v out) ∧ Hid (Below (w.heap.size + 1) w2 wr) ∧ Hid (WInv x L k dn out)) (fun _ _ i _ => L.length - (intOf i).toNat)
  case atStart => exact ⟨0, false, [], by omega, rfl, rfl, hO, Lib.hid (Below.refl _ _), Lib.hid (WInv.start x L)⟩
  case round =>
    clear hO
    obtain ⟨k, dn, out, hk, rfl, rfl, hOd, hBd, hW⟩ := hrel
    have hxr := Lib.hid (hx.out.below hBd.out (by omega))
    have hszo := hW.out.size hk
    have hszr : Hid (w.heap.size + 1 ≤ wr.heap.size) := Lib.hid (by have := hBd.out.size; have := hs2.out; omega)
    have hKr := Lib.hid (hK.out.turn fun h0 => hBd.out.block b (by have := hL.out.where_ h0; omega))
    by_cases hlt : k < L.length
    · have i1 : (k : Int) < L.length := by omega
      have i0 : 0 ≤ (k : Int) := by omega
      obtain rfl := hKr.out.addr (by omega)
      have c0 := hxr.out.cell 0 (v := .string x.id) rfl
      have d0 := hKr.out.id k _ (List.getElem?_eq_getElem hlt)
      by_cases he : L[k].id = x.id
      · have hfin : Hid (∃ l ∈ L, l.id = x.id) := Lib.hid ⟨L[k], List.getElem_mem hlt, he⟩
        have q1 := str_eq he
        have hBe := Lib.hid fun n => below_next (hB.out.trans (hBd.out.mono (Nat.le_succ _))) (b_drewN wr n)
        replace he := Lib.hid he
        clear hW hOd hBd hxr hKr hszr
        generalize L[k].id = li at *
        go_wp2_with fail
        go_quiet (fail)
        go_wp2
        go_ret2
        exact ⟨Lays.no hfin.out _ _, hBe.out _⟩
      · have q1 := str_ne he
        have hl := lt_str x.id L[k].id
        have hskip := Lib.hid (fun (o : List Itm) (h : WInv x L k false o) => h.skip hlt he)
        have hhere := Lib.hid (fun (o : List Itm) (h : WInv x L k false o) => h.here hlt he)
        have hpast := Lib.hid (fun (o : List Itm) (h : WInv x L k true o) => h.past hlt he)
        have hgl : L[k]? = some L[k] := List.getElem?_eq_getElem hlt
        replace he := Lib.hid he
        replace hgl := Lib.hid hgl
        generalize L[k] = l at *
        obtain ⟨li, ld⟩ := l
        dsimp only at d0 q1 hl hskip hhere hpast
        go_wp2_with fail
        go_quiet (fail)
        have bb := b_drewN wr nq
        replace hOd := Lib.hid (hOd.out.next bb)
        replace hBd := Lib.hid (hBd.out.trans (bb.mono hszr.out))
        replace hKr := Lib.hid (hKr.out.next bb)
        replace hxr := Lib.hid (hxr.out.next bb)
        replace hszr := Lib.hid (Nat.le_trans hszr.out bb.size)
        clear bb c0 d0
        generalize wr.drewN nq = w3 at *
        have c0 := hxr.out.cell 0 (v := .string x.id) rfl
        have d0 := hKr.out.id k _ hgl.out
        dsimp only at d0
        cases dn with
        | true =>
          have hW2 := Lib.hid (hpast.out _ hW.out)
          clear hskip hhere hpast hW hl
          go_wp2_with fail
          go_quiet (fail)
          have bb := b_drewN w3 nq
          replace hOd := Lib.hid (hOd.out.next bb)
          replace hBd := Lib.hid (hBd.out.trans (bb.mono hszr.out))
          replace hKr := Lib.hid (hKr.out.next bb)
          replace hszr := Lib.hid (Nat.le_trans hszr.out bb.size)
          clear bb c0 d0
          generalize w3.drewN nq = w4 at *
          have d0 := hKr.out.id k _ hgl.out
          have d1 := hKr.out.dat k _ hgl.out
          dsimp only at d0 d1
          go_wp2_with (at_builtin; refine wp_append_it rfl _ _ rfl (w.heap.size + 1) u6 out ⟨li, ld⟩ rfl rfl hOd.out hszr.out (by omega) ?_)
          intro v' w5 hO5 hB5
          have hB6 := Lib.hid (hB5 _ hBd.out)
          replace hO5 := Lib.hid hO5
          clear hBd hB5 hOd d0 d1
          go_wp2
          exact ⟨⟨k + 1, true, _, by omega, by go_num, rfl, hO5, hB6, hW2⟩, by simp [intOf]; omega⟩
        | false =>
          clear hpast
          cases hlx : lt x.id li with
          | true =>
            rw [hlx] at hl
            have hW2 := Lib.hid (hhere.out _ hW.out hlx)
            clear hskip hhere hW hlx
            have c1 := hxr.out.cell 1 (v := .string x.data) rfl
            go_wp2_with fail
            go_quiet (fail)
            have bb := b_drewN w3 nq
            replace hOd := Lib.hid (hOd.out.next bb)
            replace hBd := Lib.hid (hBd.out.trans (bb.mono hszr.out))
            replace hKr := Lib.hid (hKr.out.next bb)
            replace hxr := Lib.hid (hxr.out.next bb)
            replace hszr := Lib.hid (Nat.le_trans hszr.out bb.size)
            clear bb c0 d0 c1
            generalize w3.drewN nq = w4 at *
            have c0 := hxr.out.cell 0 (v := .string x.id) rfl
            have c1 := hxr.out.cell 1 (v := .string x.data) rfl
            go_wp2_with (at_builtin; refine wp_append_it rfl _ _ rfl (w.heap.size + 1) u6 out x rfl rfl hOd.out hszr.out (by omega) ?_)
            intro v1 w5 hO5 hB5
            replace hO5 := Lib.hid hO5
            have hB6 := Lib.hid (hB5 _ hBd.out)
            have hs5 : Hid (w.heap.size + 1 ≤ w5.heap.size) := Lib.hid (by have := hB6.out.size; have := hs2.out; omega)
            have hK5 := Lib.hid (hK.out.turn fun h0 => hB6.out.block b (by have := hL.out.where_ h0; omega))
            clear hBd hB5 hOd c0 c1 hKr
            have d0 := hK5.out.id k _ hgl.out
            have d1 := hK5.out.dat k _ hgl.out
            dsimp only at d0 d1
            go_wp2_with (at_builtin; refine wp_append_it rfl _ _ rfl (w.heap.size + 1) v1 (out ++ [x]) ⟨li, ld⟩ rfl rfl hO5.out hs5.out (by simp; omega) ?_)
            intro v2 w6 hO6 hB7
            replace hO6 := Lib.hid hO6
            have hB8 := Lib.hid (hB7 _ hB6.out)
            clear hB7 hO5 hB6 d0 d1
            go_wp2
            exact ⟨⟨k + 1, true, _, by omega, by go_num, rfl, hO6, hB8, Lib.hid (by have := hW2.out; rw [List.append_assoc] at this; exact this)⟩, by simp [intOf]; omega⟩
          | false =>
            rw [hlx] at hl
            have hW2 := Lib.hid (hskip.out _ hW.out hlx)
            clear hskip hhere hW hlx
            go_wp2_with fail
            go_quiet (fail)
            have bb := b_drewN w3 nq
            replace hOd := Lib.hid (hOd.out.next bb)
            replace hBd := Lib.hid (hBd.out.trans (bb.mono hszr.out))
            replace hKr := Lib.hid (hKr.out.next bb)
            replace hszr := Lib.hid (Nat.le_trans hszr.out bb.size)
            clear bb c0 d0
            generalize w3.drewN nq = w4 at *
            have d0 := hKr.out.id k _ hgl.out
            have d1 := hKr.out.dat k _ hgl.out
            dsimp only at d0 d1
            go_wp2_with (at_builtin; refine wp_append_it rfl _ _ rfl (w.heap.size + 1) u6 out ⟨li, ld⟩ rfl rfl hOd.out hszr.out (by omega) ?_)
            intro v' w5 hO5 hB5
            have hB6 := Lib.hid (hB5 _ hBd.out)
            replace hO5 := Lib.hid hO5
            clear hBd hB5 hOd d0 d1
            go_wp2
            exact ⟨⟨k + 1, false, _, by omega, by go_num, rfl, hO5, hB6, hW2⟩, by simp [intOf]; omega⟩
    · have j0 : decide ((k : Int) < L.length) = false := decide_eq_false (by omega)
      have j1 : (L.length : Int) ≤ k := by omega
      obtain rfl : k = L.length := by omega
      have hno : Hid (∀ l ∈ L, l.id ≠ x.id) := Lib.hid (by have := hW.out.no; rw [List.take_length] at this; exact this)
      cases dn with
      | true =>
        have hend := Lib.hid hW.out.end_yes
        have hBe := Lib.hid (hB.out.trans (hBd.out.mono (Nat.le_succ _)))
        clear hW hxr hKr hszr hBd
        go_wp2
        go_ret2
        exact ⟨Lays.yes hno.out (by rw [← hend.out]; exact hOd.out), hBe.out⟩
      | false =>
        have hend := Lib.hid hW.out.end_no
        have c0 := hxr.out.cell 0 (v := .string x.id) rfl
        have c1 := hxr.out.cell 1 (v := .string x.data) rfl
        clear hW hKr hxr
        go_wp2_with (at_builtin; refine wp_append_it rfl _ _ rfl (w.heap.size + 1) u6 out x rfl rfl hOd.out hszr.out (by omega) ?_)
        intro v' w5 hO5 hB5
        have hB6 := Lib.hid (hB.out.trans ((hB5 _ hBd.out).mono (Nat.le_succ _)))
        replace hO5 := Lib.hid hO5
        clear hBd hB5 hOd c0 c1
        go_wp2
        go_ret2
        exact ⟨Lays.yes hno.out (by rw [← hend.out]; exact hO5.out), hB6.out⟩
end Go.Proofs.YtliojhhiadfmiaaDoor.Pk
