/-
  The reference's with lays a link into a rising list; old memory stays. Conditions: a list of links of a length that the form's numbers bear.
-/
import Derived.Test.YtmbbnabongnojaaDoorRows
import Derived.Test.YtmbbnabongnojaaDoorObPlain
import Derived.Test.YtmbbnabongnojaaDoorLkPlain
import Derived.Test.YtmbbnabongnojaaDoorLkNamed
import Derived.Test.YtmbbnabongnojaaDoorObSame
import Derived.Test.YtmbbnabongnojaaDoorLkComp
import Derived.Test.YtmbbnabongnojaaDoorOctKit
import Derived.WalkKit
import Derived.WalkSpells
import Derived.WalkLawsBesides
import Derived.ProofKit
import Derived.OpenShut
import Derived.Laws.BytesArg
import Derived.Laws.Externs
import Derived.Deep.QuietTactic
import Derived.BigQuiet
import Derived.BigRegion
import Derived.Lib.Hide
import Derived.Lib.SliceRun
import Derived.Lib.SlicesCompact
import Derived.IntWalk
import Derived.Deep.LoopGhost
namespace Go.Proofs.YtmbbnabongnojaaDoor.Lk
open Go Go.RowKit Ob
open Oct (empty Only)

/-- what with has done behind k rounds -/
structure WInv (x : Lnk) (L : List Lnk) (k : Nat) (dn : Bool) (out : List Lnk) : Prop where
  no : x ∉ L.take k
  out : out = if dn = true then ins x (L.take k) else L.take k
  yes : dn = true → ∃ l ∈ L.take k, lt x l = true
  none : dn = false → ∀ l ∈ L.take k, lt x l = false
theorem WInv.start (x : Lnk) (L : List Lnk) : WInv x L 0 false [] := ⟨by simp, by simp, fun h => (by cases h), fun _ l hl => by simp at hl⟩
theorem take_k {L : List Lnk} {k : Nat} (h : k < L.length) : L.take (k + 1) = L.take k ++ [L[k]] := List.take_succ_eq_append_getElem h
theorem WInv.found {x : Lnk} {L : List Lnk} {k : Nat} (h : k < L.length) (e : L[k] = x) : with_ L x = L := by
  unfold with_
  rw [if_pos (by rw [← e]; exact List.getElem_mem h)]
theorem WInv.skip {x : Lnk} {L : List Lnk} {k : Nat} {out : List Lnk} (w : WInv x L k false out) (h : k < L.length) (e : L[k] ≠ x) (hl : lt x L[k] = false) : WInv x L (k + 1) false (out ++ [L[k]]) := by
  have ho := w.out
  simp only [Bool.false_eq_true, if_false] at ho
  refine ⟨?_, ?_, fun g => (by cases g), fun _ l hm => ?_⟩
  · rw [take_k h, List.mem_append, List.mem_singleton]; rintro (g | g)
    · exact w.no g
    · exact e g.symm
  · simp only [Bool.false_eq_true, if_false]; rw [take_k h, ho]
  · rw [take_k h, List.mem_append, List.mem_singleton] at hm
    rcases hm with g | g
    · exact w.none rfl l g
    · rw [g]; exact hl
theorem WInv.here {x : Lnk} {L : List Lnk} {k : Nat} {out : List Lnk} (w : WInv x L k false out) (h : k < L.length) (e : L[k] ≠ x) (hl : lt x L[k] = true) : WInv x L (k + 1) true (out ++ [x] ++ [L[k]]) := by
  have ho := w.out
  simp only [Bool.false_eq_true, if_false] at ho
  refine ⟨?_, ?_, fun _ => ⟨L[k], ?_, hl⟩, fun g => (by cases g)⟩
  · rw [take_k h, List.mem_append, List.mem_singleton]; rintro (g | g)
    · exact w.no g
    · exact e g.symm
  · simp only [if_true]; rw [take_k h, ins_here x _ hl _ (w.none rfl), ho]
  · rw [take_k h]; exact List.mem_append.2 (Or.inr (List.mem_singleton.2 rfl))
theorem WInv.past {x : Lnk} {L : List Lnk} {k : Nat} {out : List Lnk} (w : WInv x L k true out) (h : k < L.length) (e : L[k] ≠ x) : WInv x L (k + 1) true (out ++ [L[k]]) := by
  have ho := w.out
  simp only [if_true] at ho
  obtain ⟨l, hm, hl⟩ := w.yes rfl
  refine ⟨?_, ?_, fun _ => ⟨l, ?_, hl⟩, fun g => (by cases g)⟩
  · rw [take_k h, List.mem_append, List.mem_singleton]; rintro (g | g)
    · exact w.no g
    · exact e g.symm
  · simp only [if_true]; rw [take_k h, ins_past x _ _ ⟨l, hm, hl⟩, ho]
  · rw [take_k h]; exact List.mem_append.2 (Or.inl hm)
theorem WInv.end_yes {x : Lnk} {L out : List Lnk} (w : WInv x L L.length true out) : out = with_ L x := by
  have ho := w.out
  have hn := w.no
  simp only [if_true] at ho
  rw [List.take_length] at ho hn
  unfold with_
  rw [if_neg hn, ho]
theorem WInv.end_no {x : Lnk} {L out : List Lnk} (w : WInv x L L.length false out) : out ++ [x] = with_ L x := by
  have ho := w.out
  have hn := w.no
  have hz := w.none rfl
  simp only [Bool.false_eq_true, if_false] at ho
  rw [List.take_length] at ho hn hz
  unfold with_
  rw [if_neg hn, ho, ins_none x L hz]
theorem WInv.size {x : Lnk} {L out : List Lnk} {k : Nat} {dn : Bool} (w : WInv x L k dn out) (hk : k ≤ L.length) : out.length ≤ L.length + 1 := by
  have hlen : ∀ M : List Lnk, (ins x M).length = M.length + 1 := by
    intro M
    induction M with
    | nil => rfl
    | cons a t ih => unfold ins; split <;> simp [ih]
  rw [w.out]
  split
  · rw [hlen, List.length_take]; omega
  · rw [List.length_take]; omega
/-- how the reference's test comes out -/
theorem test_cases (x l : Lnk) : (Op.bytesLess x.id.toList l.id.toList = true ∧ lt x l = true) ∨
    (Op.bytesLess x.id.toList l.id.toList = false ∧ (x.id.toList == l.id.toList) = true ∧ x.kind < l.kind ∧ lt x l = true) ∨
    (Op.bytesLess x.id.toList l.id.toList = false ∧ (x.id.toList == l.id.toList) = false ∧ lt x l = false) ∨
    (Op.bytesLess x.id.toList l.id.toList = false ∧ (x.id.toList == l.id.toList) = true ∧ ¬ x.kind < l.kind ∧ lt x l = false) := by
  unfold lt
  rw [← ByteArray.toList_eq, ← ByteArray.toList_eq]
  cases hb : Op.bytesLess x.id.toList l.id.toList with
  | true => exact Or.inl ⟨rfl, rfl⟩
  | false =>
    right
    by_cases he : x.id = l.id
    · by_cases hk : x.kind < l.kind
      · exact Or.inl ⟨rfl, str_eq he, hk, by simp [he, hk]⟩
      · exact Or.inr (Or.inr ⟨rfl, str_eq he, hk, by simp [hk]⟩)
    · exact Or.inr (Or.inl ⟨rfl, str_ne he, by simp [he]⟩)
theorem differ {l x : Lnk} (h : l ≠ x) : (l.kind == x.kind) = false ∨ ((l.kind == x.kind) = true ∧ (l.id.toList == x.id.toList) = false) := by
  by_cases e : l.kind = x.kind
  · refine Or.inr ⟨by simpa using e, str_ne fun g => h ?_⟩
    obtain ⟨a, b⟩ := l
    obtain ⟨c, d⟩ := x
    dsimp only at e g
    rw [e, g]
  · exact Or.inl (by simpa using e)
/-- what with answers -/
def Holding (L : List Lnk) (e : Ending) (w' : World) : Prop := ∃ (a : Option Addr) (cap b off : Nat), e = .returned (.slice a L.length cap) ∧ LinksAt w' a b off L
theorem Holding.own {B : Nat} {w : World} {v : Value} {L : List Lnk} (h : OwnK B w v L) : Holding L (.returned v) w := by
  obtain ⟨a, cap, b, off, rfl, hK, _⟩ := h.links
  exact ⟨a, cap, b, off, rfl, hK⟩
set_option maxRecDepth 100000 in
set_option maxHeartbeats 8000000 in
theorem with_calls (a : Option Addr) (cap b off : Nat) (L : List Lnk) (x : Lnk) (w : World) (hL : LinksAt w a b off L) (hlen : L.length ≤ 100000) :
    Calls Tryd.prog 44 #[.slice a L.length cap, .agg #[.int .i64 x.kind, .string x.id]] w fun e w' => Holding (with_ L x) e w' ∧ Below w.heap.size w w' := by
  have hB := Lib.hid (below_next (b_alloc w (.cells #[.int .i64 x.kind, .string x.id] 45)) (b_alloc _ (.cells #[] 45)))
  have hx := Lib.hid ((Blk.new w #[.int .i64 x.kind, .string x.id] 45).alloc (.cells #[] 45))
  have hO := Lib.hid (OwnK.new (w.alloc (.cells #[.int .i64 x.kind, .string x.id] 45)) (w.heap.size + 1) (by simp))
  have hs1 : (w.alloc (.cells #[.int .i64 x.kind, .string x.id] 45)).heap.size = w.heap.size + 1 := by simp
  have hs2 : Hid (((w.alloc (.cells #[.int .i64 x.kind, .string x.id] 45)).alloc (.cells #[] 45)).heap.size = w.heap.size + 2) := Lib.hid (by simp)
  rw [hs1] at hO
  clear hs1
  have hK := Lib.hid (hL.below hB.out)
  replace hL := Lib.hid hL
  go_enter Tryd.func44, Tryd.ntmps44
  go_wp2
  generalize (w.alloc (.cells #[.int .i64 x.kind, .string x.id] 45)).alloc (.cells #[] 45) = w2 at *
  go_loopw [5, 6, 7] (fun v d i wr => ∃ (k : Nat) (dn : Bool) (out : List Lnk), k ≤ L.length ∧ i = .int .i64 k ∧ d = .bool dn ∧ Hid (OwnK (w.heap.size + 1) wr v out) ∧ Hid (Below (w.heap.size + 1) w2 wr) ∧ Hid (WInv x L k dn out)) (fun _ _ i _ => L.length - (intOf i).toNat)
  case atStart => exact ⟨0, false, [], by omega, rfl, rfl, hO, Lib.hid (Below.refl _ _), Lib.hid (WInv.start x L)⟩
  case round =>
    clear hO
    obtain ⟨k, dn, out, hk, rfl, rfl, hOd, hBd, hW⟩ := hrel
    have hxr := Lib.hid (hx.out.below hBd.out (by omega))
    have c0 := hxr.out.cell 0 (v := .int .i64 x.kind) rfl
    have c1 := hxr.out.cell 1 (v := .string x.id) rfl
    have hszo := hW.out.size hk
    have hszr : Hid (w.heap.size + 1 ≤ wr.heap.size) := Lib.hid (by have := hBd.out.size; have := hs2.out; omega)
    have hKr := Lib.hid (hK.out.turn fun h0 => hBd.out.block b (by have := hL.out.where_ h0; omega))
    by_cases hlt : k < L.length
    · have i1 : (k : Int) < L.length := by omega
      have i0 : 0 ≤ (k : Int) := by omega
      obtain rfl := hKr.out.addr (by omega)
      have d0 := hKr.out.kind k _ (List.getElem?_eq_getElem hlt)
      have d1 := hKr.out.id k _ (List.getElem?_eq_getElem hlt)
      by_cases he : L[k] = x
      · have hwi := Lib.hid (WInv.found hlt he)
        rw [he] at d0 d1
        have hBe := Lib.hid fun n => Pa.below_drewN (hB.out.trans (hBd.out.mono (by omega))) n
        have hKe := Lib.hid fun n => (show Holding L (.returned (.slice (some ⟨b, off, none⟩) L.length cap)) (wr.drewN n) from ⟨_, cap, b, off, rfl, hKr.out.turn fun _ => rfl⟩)
        replace he := Lib.hid he
        clear hW hOd hBd hxr hKr hszr
        go_wp2_with fail
        go_quiet (fail)
        go_wp2
        go_ret
        exact ⟨by rw [hwi.out]; exact hKe.out _, hBe.out _⟩
      · have hdf := differ he
        have htc := test_cases x L[k]
        have hskip := Lib.hid (fun (o : List Lnk) (h : WInv x L k false o) => h.skip hlt he)
        have hhere := Lib.hid (fun (o : List Lnk) (h : WInv x L k false o) => h.here hlt he)
        have hpast := Lib.hid (fun (o : List Lnk) (h : WInv x L k true o) => h.past hlt he)
        replace he := Lib.hid he
        have hgl : L[k]? = some L[k] := List.getElem?_eq_getElem hlt
        generalize L[k] = l at *
        replace hgl := hgl
        have hOq := Lib.hid fun n => hOd.out.below (show Below wr.heap.size wr (wr.drewN n) from ⟨rfl, rfl, rfl, Nat.le_refl _, fun _ _ => rfl⟩)
        cases dn with
        | true =>
          have hW2 := Lib.hid (hpast.out _ hW.out)
          clear hskip hhere hpast hW htc
          rcases hdf with q1 | ⟨q1, q2⟩
          all_goals
            go_wp2_with fail
            go_quiet (fail)
            obtain ⟨w3, hw3⟩ : ∃ z : World, z = wr.drewN nq := ⟨_, rfl⟩
            rw [← hw3]
            replace c0 : w3.cell? ⟨w.heap.size, 0, none⟩ = some (.int .i64 x.kind) := by rw [hw3]; exact c0
            replace c1 : w3.cell? ⟨w.heap.size, 1, none⟩ = some (.string x.id) := by rw [hw3]; exact c1
            replace d0 : w3.cell? ⟨b, off + k * 2, none⟩ = some (.int .i64 l.kind) := by rw [hw3]; exact d0
            replace d1 : w3.cell? ⟨b, off + k * 2 + 1, none⟩ = some (.string l.id) := by rw [hw3]; exact d1
            replace hOd : Hid (OwnK (w.heap.size + 1) w3 u5 out) := Lib.hid (by rw [hw3]; exact hOd.out.below ⟨rfl, rfl, rfl, Nat.le_refl _, fun _ _ => rfl⟩)
            replace hBd : Hid (Below (w.heap.size + 1) w2 w3) := Lib.hid (by rw [hw3]; exact Pa.below_drewN hBd.out _)
            replace hKr : Hid (LinksAt w3 (some ⟨b, off, none⟩) b off L) := Lib.hid (by rw [hw3]; exact hKr.out.turn fun _ => rfl)
            replace hszr : Hid (w.heap.size + 1 ≤ w3.heap.size) := Lib.hid (by rw [hw3]; exact hszr.out)
            clear hw3
            go_wp2_with fail
            go_quiet (fail)
            obtain ⟨w4, hw3⟩ : ∃ z : World, z = w3.drewN nq := ⟨_, rfl⟩
            rw [← hw3]
            replace c0 : w4.cell? ⟨w.heap.size, 0, none⟩ = some (.int .i64 x.kind) := by rw [hw3]; exact c0
            replace c1 : w4.cell? ⟨w.heap.size, 1, none⟩ = some (.string x.id) := by rw [hw3]; exact c1
            replace d0 : w4.cell? ⟨b, off + k * 2, none⟩ = some (.int .i64 l.kind) := by rw [hw3]; exact d0
            replace d1 : w4.cell? ⟨b, off + k * 2 + 1, none⟩ = some (.string l.id) := by rw [hw3]; exact d1
            replace hOd : Hid (OwnK (w.heap.size + 1) w4 u5 out) := Lib.hid (by rw [hw3]; exact hOd.out.below ⟨rfl, rfl, rfl, Nat.le_refl _, fun _ _ => rfl⟩)
            replace hBd : Hid (Below (w.heap.size + 1) w2 w4) := Lib.hid (by rw [hw3]; exact Pa.below_drewN hBd.out _)
            replace hKr : Hid (LinksAt w4 (some ⟨b, off, none⟩) b off L) := Lib.hid (by rw [hw3]; exact hKr.out.turn fun _ => rfl)
            replace hszr : Hid (w.heap.size + 1 ≤ w4.heap.size) := Lib.hid (by rw [hw3]; exact hszr.out)
            clear hw3
            go_wp2_with (at_builtin; refine wp_append_link rfl _ _ rfl (w.heap.size + 1) u5 out l rfl rfl hOd.out hszr.out (by omega) ?_)
            intro v' w5 hO5 hB5
            have hB6 := Lib.hid (hB5 _ hBd.out)
            replace hO5 := Lib.hid hO5
            clear hBd hB5 hOd c0 c1 d0 d1
            go_wp2
            exact ⟨⟨k + 1, true, _, by omega, by go_num, rfl, hO5, hB6, hW2⟩, by simp [intOf]; omega⟩
        | false =>
          clear hpast
          rcases htc with ⟨t1, tl⟩ | ⟨t1, t2, t3, tl⟩ | ⟨t1, t2, tl⟩ | ⟨t1, t2, t3, tl⟩
          · have hW2 := Lib.hid (hhere.out _ hW.out tl)
            clear hskip hhere hW tl
            rcases hdf with q1 | ⟨q1, q2⟩
            all_goals
              go_wp2_with fail
              go_quiet (fail)
              obtain ⟨w3, hw3⟩ : ∃ z : World, z = wr.drewN nq := ⟨_, rfl⟩
              rw [← hw3]
              replace c0 : w3.cell? ⟨w.heap.size, 0, none⟩ = some (.int .i64 x.kind) := by rw [hw3]; exact c0
              replace c1 : w3.cell? ⟨w.heap.size, 1, none⟩ = some (.string x.id) := by rw [hw3]; exact c1
              replace d0 : w3.cell? ⟨b, off + k * 2, none⟩ = some (.int .i64 l.kind) := by rw [hw3]; exact d0
              replace d1 : w3.cell? ⟨b, off + k * 2 + 1, none⟩ = some (.string l.id) := by rw [hw3]; exact d1
              replace hOd : Hid (OwnK (w.heap.size + 1) w3 u5 out) := Lib.hid (by rw [hw3]; exact hOd.out.below ⟨rfl, rfl, rfl, Nat.le_refl _, fun _ _ => rfl⟩)
              replace hBd : Hid (Below (w.heap.size + 1) w2 w3) := Lib.hid (by rw [hw3]; exact Pa.below_drewN hBd.out _)
              replace hKr : Hid (LinksAt w3 (some ⟨b, off, none⟩) b off L) := Lib.hid (by rw [hw3]; exact hKr.out.turn fun _ => rfl)
              replace hszr : Hid (w.heap.size + 1 ≤ w3.heap.size) := Lib.hid (by rw [hw3]; exact hszr.out)
              clear hw3
              go_wp2_with fail
              go_quiet (fail)
              obtain ⟨w4, hw3⟩ : ∃ z : World, z = w3.drewN nq := ⟨_, rfl⟩
              rw [← hw3]
              replace c0 : w4.cell? ⟨w.heap.size, 0, none⟩ = some (.int .i64 x.kind) := by rw [hw3]; exact c0
              replace c1 : w4.cell? ⟨w.heap.size, 1, none⟩ = some (.string x.id) := by rw [hw3]; exact c1
              replace d0 : w4.cell? ⟨b, off + k * 2, none⟩ = some (.int .i64 l.kind) := by rw [hw3]; exact d0
              replace d1 : w4.cell? ⟨b, off + k * 2 + 1, none⟩ = some (.string l.id) := by rw [hw3]; exact d1
              replace hOd : Hid (OwnK (w.heap.size + 1) w4 u5 out) := Lib.hid (by rw [hw3]; exact hOd.out.below ⟨rfl, rfl, rfl, Nat.le_refl _, fun _ _ => rfl⟩)
              replace hBd : Hid (Below (w.heap.size + 1) w2 w4) := Lib.hid (by rw [hw3]; exact Pa.below_drewN hBd.out _)
              replace hKr : Hid (LinksAt w4 (some ⟨b, off, none⟩) b off L) := Lib.hid (by rw [hw3]; exact hKr.out.turn fun _ => rfl)
              replace hszr : Hid (w.heap.size + 1 ≤ w4.heap.size) := Lib.hid (by rw [hw3]; exact hszr.out)
              clear hw3
              go_wp2_with (at_builtin; refine wp_append_link rfl _ _ rfl (w.heap.size + 1) u5 out x rfl rfl hOd.out hszr.out (by omega) ?_)
              intro v' w5 hO5 hB5
              have hB6 := Lib.hid (hB5 _ hBd.out)
              have hsz6 : Hid (w.heap.size + 1 ≤ w5.heap.size) := Lib.hid (by have := hB6.out.size; have := hs2.out; omega)
              have hK5 := Lib.hid (hK.out.turn fun h0 => hB6.out.block b (by have := hL.out.where_ h0; omega))
              replace hO5 := Lib.hid hO5
              have hlo : (out ++ [x]).length ≤ 1099511627776 := by rw [List.length_append, List.length_singleton]; omega
              generalize out ++ [x] = o2 at hO5 hW2 hlo
              have g0 := hK5.out.kind k l hgl
              have g1 := hK5.out.id k l hgl
              clear hBd hB5 hOd c0 c1 d0 d1
              go_wp2_with (at_builtin; refine wp_append_link rfl _ _ rfl (w.heap.size + 1) v' o2 l rfl rfl hO5.out hsz6.out hlo ?_)
              intro v6 w6 hO6 hB7
              have hB8 := Lib.hid (hB7 _ hB6.out)
              replace hO6 := Lib.hid hO6
              clear hB6 hB7 hO5 g0 g1
              go_wp2
              exact ⟨⟨k + 1, true, _, by omega, by go_num, rfl, hO6, hB8, hW2⟩, by simp [intOf]; omega⟩
          · have hW2 := Lib.hid (hhere.out _ hW.out tl)
            clear hskip hhere hW tl
            have t4 : decide (x.kind < l.kind) = true := decide_eq_true t3
            rcases hdf with q1 | ⟨q1, q2⟩
            all_goals
              go_wp2_with fail
              go_quiet (fail)
              obtain ⟨w3, hw3⟩ : ∃ z : World, z = wr.drewN nq := ⟨_, rfl⟩
              rw [← hw3]
              replace c0 : w3.cell? ⟨w.heap.size, 0, none⟩ = some (.int .i64 x.kind) := by rw [hw3]; exact c0
              replace c1 : w3.cell? ⟨w.heap.size, 1, none⟩ = some (.string x.id) := by rw [hw3]; exact c1
              replace d0 : w3.cell? ⟨b, off + k * 2, none⟩ = some (.int .i64 l.kind) := by rw [hw3]; exact d0
              replace d1 : w3.cell? ⟨b, off + k * 2 + 1, none⟩ = some (.string l.id) := by rw [hw3]; exact d1
              replace hOd : Hid (OwnK (w.heap.size + 1) w3 u5 out) := Lib.hid (by rw [hw3]; exact hOd.out.below ⟨rfl, rfl, rfl, Nat.le_refl _, fun _ _ => rfl⟩)
              replace hBd : Hid (Below (w.heap.size + 1) w2 w3) := Lib.hid (by rw [hw3]; exact Pa.below_drewN hBd.out _)
              replace hKr : Hid (LinksAt w3 (some ⟨b, off, none⟩) b off L) := Lib.hid (by rw [hw3]; exact hKr.out.turn fun _ => rfl)
              replace hszr : Hid (w.heap.size + 1 ≤ w3.heap.size) := Lib.hid (by rw [hw3]; exact hszr.out)
              clear hw3
              go_wp2_with fail
              go_quiet (fail)
              obtain ⟨w4, hw3⟩ : ∃ z : World, z = w3.drewN nq := ⟨_, rfl⟩
              rw [← hw3]
              replace c0 : w4.cell? ⟨w.heap.size, 0, none⟩ = some (.int .i64 x.kind) := by rw [hw3]; exact c0
              replace c1 : w4.cell? ⟨w.heap.size, 1, none⟩ = some (.string x.id) := by rw [hw3]; exact c1
              replace d0 : w4.cell? ⟨b, off + k * 2, none⟩ = some (.int .i64 l.kind) := by rw [hw3]; exact d0
              replace d1 : w4.cell? ⟨b, off + k * 2 + 1, none⟩ = some (.string l.id) := by rw [hw3]; exact d1
              replace hOd : Hid (OwnK (w.heap.size + 1) w4 u5 out) := Lib.hid (by rw [hw3]; exact hOd.out.below ⟨rfl, rfl, rfl, Nat.le_refl _, fun _ _ => rfl⟩)
              replace hBd : Hid (Below (w.heap.size + 1) w2 w4) := Lib.hid (by rw [hw3]; exact Pa.below_drewN hBd.out _)
              replace hKr : Hid (LinksAt w4 (some ⟨b, off, none⟩) b off L) := Lib.hid (by rw [hw3]; exact hKr.out.turn fun _ => rfl)
              replace hszr : Hid (w.heap.size + 1 ≤ w4.heap.size) := Lib.hid (by rw [hw3]; exact hszr.out)
              clear hw3
              go_wp2_with (at_builtin; refine wp_append_link rfl _ _ rfl (w.heap.size + 1) u5 out x rfl rfl hOd.out hszr.out (by omega) ?_)
              intro v' w5 hO5 hB5
              have hB6 := Lib.hid (hB5 _ hBd.out)
              have hsz6 : Hid (w.heap.size + 1 ≤ w5.heap.size) := Lib.hid (by have := hB6.out.size; have := hs2.out; omega)
              have hK5 := Lib.hid (hK.out.turn fun h0 => hB6.out.block b (by have := hL.out.where_ h0; omega))
              replace hO5 := Lib.hid hO5
              have hlo : (out ++ [x]).length ≤ 1099511627776 := by rw [List.length_append, List.length_singleton]; omega
              generalize out ++ [x] = o2 at hO5 hW2 hlo
              have g0 := hK5.out.kind k l hgl
              have g1 := hK5.out.id k l hgl
              clear hBd hB5 hOd c0 c1 d0 d1
              go_wp2_with (at_builtin; refine wp_append_link rfl _ _ rfl (w.heap.size + 1) v' o2 l rfl rfl hO5.out hsz6.out hlo ?_)
              intro v6 w6 hO6 hB7
              have hB8 := Lib.hid (hB7 _ hB6.out)
              replace hO6 := Lib.hid hO6
              clear hB6 hB7 hO5 g0 g1
              go_wp2
              exact ⟨⟨k + 1, true, _, by omega, by go_num, rfl, hO6, hB8, hW2⟩, by simp [intOf]; omega⟩
          · have hW2 := Lib.hid (hskip.out _ hW.out tl)
            clear hskip hhere hW tl
            rcases hdf with q1 | ⟨q1, q2⟩
            all_goals
              go_wp2_with fail
              go_quiet (fail)
              obtain ⟨w3, hw3⟩ : ∃ z : World, z = wr.drewN nq := ⟨_, rfl⟩
              rw [← hw3]
              replace c0 : w3.cell? ⟨w.heap.size, 0, none⟩ = some (.int .i64 x.kind) := by rw [hw3]; exact c0
              replace c1 : w3.cell? ⟨w.heap.size, 1, none⟩ = some (.string x.id) := by rw [hw3]; exact c1
              replace d0 : w3.cell? ⟨b, off + k * 2, none⟩ = some (.int .i64 l.kind) := by rw [hw3]; exact d0
              replace d1 : w3.cell? ⟨b, off + k * 2 + 1, none⟩ = some (.string l.id) := by rw [hw3]; exact d1
              replace hOd : Hid (OwnK (w.heap.size + 1) w3 u5 out) := Lib.hid (by rw [hw3]; exact hOd.out.below ⟨rfl, rfl, rfl, Nat.le_refl _, fun _ _ => rfl⟩)
              replace hBd : Hid (Below (w.heap.size + 1) w2 w3) := Lib.hid (by rw [hw3]; exact Pa.below_drewN hBd.out _)
              replace hKr : Hid (LinksAt w3 (some ⟨b, off, none⟩) b off L) := Lib.hid (by rw [hw3]; exact hKr.out.turn fun _ => rfl)
              replace hszr : Hid (w.heap.size + 1 ≤ w3.heap.size) := Lib.hid (by rw [hw3]; exact hszr.out)
              clear hw3
              go_wp2_with fail
              go_quiet (fail)
              obtain ⟨w4, hw3⟩ : ∃ z : World, z = w3.drewN nq := ⟨_, rfl⟩
              rw [← hw3]
              replace c0 : w4.cell? ⟨w.heap.size, 0, none⟩ = some (.int .i64 x.kind) := by rw [hw3]; exact c0
              replace c1 : w4.cell? ⟨w.heap.size, 1, none⟩ = some (.string x.id) := by rw [hw3]; exact c1
              replace d0 : w4.cell? ⟨b, off + k * 2, none⟩ = some (.int .i64 l.kind) := by rw [hw3]; exact d0
              replace d1 : w4.cell? ⟨b, off + k * 2 + 1, none⟩ = some (.string l.id) := by rw [hw3]; exact d1
              replace hOd : Hid (OwnK (w.heap.size + 1) w4 u5 out) := Lib.hid (by rw [hw3]; exact hOd.out.below ⟨rfl, rfl, rfl, Nat.le_refl _, fun _ _ => rfl⟩)
              replace hBd : Hid (Below (w.heap.size + 1) w2 w4) := Lib.hid (by rw [hw3]; exact Pa.below_drewN hBd.out _)
              replace hKr : Hid (LinksAt w4 (some ⟨b, off, none⟩) b off L) := Lib.hid (by rw [hw3]; exact hKr.out.turn fun _ => rfl)
              replace hszr : Hid (w.heap.size + 1 ≤ w4.heap.size) := Lib.hid (by rw [hw3]; exact hszr.out)
              clear hw3
              go_wp2_with (at_builtin; refine wp_append_link rfl _ _ rfl (w.heap.size + 1) u5 out l rfl rfl hOd.out hszr.out (by omega) ?_)
              intro v' w5 hO5 hB5
              have hB6 := Lib.hid (hB5 _ hBd.out)
              replace hO5 := Lib.hid hO5
              clear hBd hB5 hOd c0 c1 d0 d1
              go_wp2
              exact ⟨⟨k + 1, false, _, by omega, by go_num, rfl, hO5, hB6, hW2⟩, by simp [intOf]; omega⟩
          · have hW2 := Lib.hid (hskip.out _ hW.out tl)
            clear hskip hhere hW tl
            have t4 : decide (x.kind < l.kind) = false := decide_eq_false t3
            have t5 : l.kind ≤ x.kind := by omega
            rcases hdf with q1 | ⟨q1, q2⟩
            all_goals
              go_wp2_with fail
              go_quiet (fail)
              obtain ⟨w3, hw3⟩ : ∃ z : World, z = wr.drewN nq := ⟨_, rfl⟩
              rw [← hw3]
              replace c0 : w3.cell? ⟨w.heap.size, 0, none⟩ = some (.int .i64 x.kind) := by rw [hw3]; exact c0
              replace c1 : w3.cell? ⟨w.heap.size, 1, none⟩ = some (.string x.id) := by rw [hw3]; exact c1
              replace d0 : w3.cell? ⟨b, off + k * 2, none⟩ = some (.int .i64 l.kind) := by rw [hw3]; exact d0
              replace d1 : w3.cell? ⟨b, off + k * 2 + 1, none⟩ = some (.string l.id) := by rw [hw3]; exact d1
              replace hOd : Hid (OwnK (w.heap.size + 1) w3 u5 out) := Lib.hid (by rw [hw3]; exact hOd.out.below ⟨rfl, rfl, rfl, Nat.le_refl _, fun _ _ => rfl⟩)
              replace hBd : Hid (Below (w.heap.size + 1) w2 w3) := Lib.hid (by rw [hw3]; exact Pa.below_drewN hBd.out _)
              replace hKr : Hid (LinksAt w3 (some ⟨b, off, none⟩) b off L) := Lib.hid (by rw [hw3]; exact hKr.out.turn fun _ => rfl)
              replace hszr : Hid (w.heap.size + 1 ≤ w3.heap.size) := Lib.hid (by rw [hw3]; exact hszr.out)
              clear hw3
              go_wp2_with fail
              go_quiet (fail)
              obtain ⟨w4, hw3⟩ : ∃ z : World, z = w3.drewN nq := ⟨_, rfl⟩
              rw [← hw3]
              replace c0 : w4.cell? ⟨w.heap.size, 0, none⟩ = some (.int .i64 x.kind) := by rw [hw3]; exact c0
              replace c1 : w4.cell? ⟨w.heap.size, 1, none⟩ = some (.string x.id) := by rw [hw3]; exact c1
              replace d0 : w4.cell? ⟨b, off + k * 2, none⟩ = some (.int .i64 l.kind) := by rw [hw3]; exact d0
              replace d1 : w4.cell? ⟨b, off + k * 2 + 1, none⟩ = some (.string l.id) := by rw [hw3]; exact d1
              replace hOd : Hid (OwnK (w.heap.size + 1) w4 u5 out) := Lib.hid (by rw [hw3]; exact hOd.out.below ⟨rfl, rfl, rfl, Nat.le_refl _, fun _ _ => rfl⟩)
              replace hBd : Hid (Below (w.heap.size + 1) w2 w4) := Lib.hid (by rw [hw3]; exact Pa.below_drewN hBd.out _)
              replace hKr : Hid (LinksAt w4 (some ⟨b, off, none⟩) b off L) := Lib.hid (by rw [hw3]; exact hKr.out.turn fun _ => rfl)
              replace hszr : Hid (w.heap.size + 1 ≤ w4.heap.size) := Lib.hid (by rw [hw3]; exact hszr.out)
              clear hw3
              go_wp2_with (at_builtin; refine wp_append_link rfl _ _ rfl (w.heap.size + 1) u5 out l rfl rfl hOd.out hszr.out (by omega) ?_)
              intro v' w5 hO5 hB5
              have hB6 := Lib.hid (hB5 _ hBd.out)
              replace hO5 := Lib.hid hO5
              clear hBd hB5 hOd c0 c1 d0 d1
              go_wp2
              exact ⟨⟨k + 1, false, _, by omega, by go_num, rfl, hO5, hB6, hW2⟩, by simp [intOf]; omega⟩
    · have j0 : decide ((k : Int) < L.length) = false := decide_eq_false (by omega)
      have j1 : (L.length : Int) ≤ k := by omega
      obtain rfl : k = L.length := by omega
      cases dn with
      | true =>
        have hend := Lib.hid hW.out.end_yes
        have hBe := Lib.hid (hB.out.trans (hBd.out.mono (by omega)))
        clear hW hxr hKr hszr hBd
        go_wp2
        go_ret
        exact ⟨by rw [← hend.out]; exact Holding.own hOd.out, hBe.out⟩
      | false =>
        have hend := Lib.hid hW.out.end_no
        clear hW hKr hxr
        go_wp2_with (at_builtin; refine wp_append_link rfl _ _ rfl (w.heap.size + 1) u5 out x rfl rfl hOd.out hszr.out (by omega) ?_)
        intro v' w5 hO5 hB5
        have hB6 := Lib.hid (hB.out.trans ((hB5 _ hBd.out).mono (by omega)))
        replace hO5 := Lib.hid hO5
        clear hBd hB5 hOd c0 c1
        go_wp2
        go_ret
        exact ⟨by rw [← hend.out]; exact Holding.own hO5.out, hB6.out⟩
end Go.Proofs.YtmbbnabongnojaaDoor.Lk
