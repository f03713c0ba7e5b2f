/-
  The reference's Links answers what an object names, strictly rising; the law's same tells two like lists alike; old memory stays. Conditions: an object whose lists are of a length that the form's numbers bear.
-/
import Derived.Test.YtmbbnabongnojaaDoorRows
import Derived.Test.YtmbbnabongnojaaDoorObPlain
import Derived.Test.YtmbbnabongnojaaDoorLkPlain
import Derived.Test.YtmbbnabongnojaaDoorLkNamed
import Derived.Test.YtmbbnabongnojaaDoorObSame
import Derived.Test.YtmbbnabongnojaaDoorLkComp
import Derived.Test.YtmbbnabongnojaaDoorLkWith
import Derived.Test.YtmbbnabongnojaaDoorLkLinks
import Derived.Test.YtmbbnabongnojaaDoorObRefA
import Derived.StillTailTactics
import Derived.Test.YtmbbnabongnojaaDoorOctKit
import Derived.WalkKit
import Derived.WalkSpells
import Derived.WalkLawsBesides
import Derived.ProofKit
import Derived.OpenShut
import Derived.Laws.BytesArg
import Derived.Laws.Externs
import Derived.Deep.QuietTactic
import Derived.BigQuiet
import Derived.BigRegion
import Derived.Lib.Hide
import Derived.Lib.SliceRun
import Derived.Lib.SlicesCompact
import Derived.IntWalk
import Derived.Deep.LoopGhost
namespace Go.Proofs.YtmbbnabongnojaaDoor.Lk
open Go Go.RowKit Ob
open Oct (empty Only)

theorem ins_len (x : Lnk) : ∀ M : List Lnk, (ins x M).length = M.length + 1
  | [] => rfl
  | a :: t => by unfold ins; split <;> simp [ins_len x t]
theorem with_len (L : List Lnk) (x : Lnk) : (with_ L x).length ≤ L.length + 1 := by
  unfold with_; split
  · omega
  · rw [ins_len]; omega
set_option maxRecDepth 100000 in
theorem same_calls (D : List Lnk) (a a2 : Option Addr) (c c2 b b2 off off2 : Nat) (w : World) (h1 : LinksAt w a b off D) (h2 : LinksAt w a2 b2 off2 D) (hlen : D.length ≤ 100000) :
    Calls Tryd.prog 16 #[.slice a D.length c, .slice a2 D.length c2] w fun e w' => e = .returned (.bool true) ∧ Below w.heap.size w w' := by
  replace h1 := Lib.hid h1
  replace h2 := Lib.hid h2
  go_enter Tryd.func16, Tryd.ntmps16
  go_wp2
  go_loopw [5] (fun i wr => ∃ k n : Nat, k ≤ D.length ∧ i = .int .i64 k ∧ wr = w.drewN n) (fun i _ => D.length - (intOf i).toNat)
  case atStart => exact ⟨0, 0, by omega, rfl, rfl⟩
  case round =>
    obtain ⟨k, n, hk, rfl, rfl⟩ := hrel
    by_cases hlt : k < D.length
    · have i1 : (k : Int) < D.length := by omega
      have i0 : 0 ≤ (k : Int) := by omega
      obtain rfl := h1.out.addr (by omega)
      obtain rfl := h2.out.addr (by omega)
      have c0 := h1.out.kind k _ (List.getElem?_eq_getElem hlt)
      have c1 := h1.out.id k _ (List.getElem?_eq_getElem hlt)
      have d0 := h2.out.kind k _ (List.getElem?_eq_getElem hlt)
      have d1 := h2.out.id k _ (List.getElem?_eq_getElem hlt)
      generalize D[k] = l at *
      go_wp2
      go_quiet (fail)
      go_wp2
      exact ⟨⟨k + 1, _, by omega, by go_num, rfl⟩, by simp [intOf]; omega⟩
    · have d0 : decide ((k : Int) < D.length) = false := decide_eq_false (by omega)
      have d1 : (D.length : Int) ≤ k := by omega
      obtain rfl : k = D.length := by omega
      go_wp2
      go_ret
      exact ⟨rfl, Pa.below_drewN (Below.refl _ _) _⟩
set_option maxRecDepth 100000 in
set_option maxHeartbeats 4000000 in
theorem RLinks_calls (x : Ob.Obj) (ea : Option Addr) (ec : Nat) (pa : Option Addr) (pc : Nat) (w : World) (hO : ObAt w x ea ec pa pc) (hl1 : x.ents.length ≤ maxLen) (hl2 : x.pars.length ≤ maxLen) :
    Calls Tryd.prog 18 #[val x ea ec pa pc] w fun e w' => Answers x e w' ∧ Below w.heap.size w w' := by
  have hX := Lib.hid ((Have.new hO).next (b_alloc _ (.cells #[] 45)))
  have hB := Lib.hid (below_next (b_alloc w (.cells (cellsOf x ea ec pa pc) 25)) (b_alloc _ (.cells #[] 45)))
  clear hO
  go_enter Tryd.func18, Tryd.ntmps18
  go_upto_region 2 with (fail)
  generalize (w.alloc (.cells (cellsOf x ea ec pa pc) 25)).alloc (.cells #[] 45) = w1 at *
  obtain ⟨c0, c1, c2, c3, c4, c5, c6⟩ := hX.out.cells
  go_wp2_with fail
  refine (RGood_calls x ea ec pa pc w1 hX.out.at_ hl1 hl2).mono ?_
  rintro e w2 ⟨rfl, b2⟩
  replace hX := Lib.hid (hX.out.next b2)
  replace hB := Lib.hid (below_next hB.out b2)
  clear b2 c0 c1 c2 c3 c4 c5 c6 hl1 hl2
  obtain ⟨c0, c1, c2, c3, c4, c5, c6⟩ := hX.out.cells
  cases hg : good x with
  | false =>
    have hn : Hid (names x = []) := Lib.hid (by unfold names; rw [hg]; rfl)
    go_wp2
    go_ret
    exact ⟨⟨[], _, 0, 0, 0, rfl, LinksAt.nil _ _, by rw [hn.out]; exact IsLinks.nil⟩, hB.out⟩
  | true =>
    have hn : Hid (names x = ofObj x) := Lib.hid (by unfold names; rw [hg]; rfl)
    obtain ⟨hl1, hl2, _⟩ := of_len hg
    have hkd := good_kind hg
    by_cases k1 : x.kind = 1
    · have q1 : (x.kind == 1) = true := by simpa using k1
      have ho : Hid (ofObj x = []) := Lib.hid (by unfold ofObj; rw [if_neg (by omega), if_neg (by omega)])
      replace k1 := Lib.hid k1
      go_wp2
      go_ret
      exact ⟨⟨[], _, 0, 0, 0, rfl, LinksAt.nil _ _, by rw [hn.out, ho.out]; exact IsLinks.nil⟩, hB.out⟩
    · have q1 : (x.kind == 1) = false := by simpa using k1
      by_cases k2 : x.kind = 2
      · have q2 : (x.kind == 2) = true := by simpa using k2
        replace hl1 := hl1 k2
        have ho : Hid (ofObj x = x.ents.map fun e => ⟨e.kind, e.id⟩) := Lib.hid (by unfold ofObj; rw [if_pos k2])
        replace k1 := Lib.hid k1
        replace k2 := Lib.hid k2
        clear hl2
        go_wp2
        go_loopw [3, 4] (fun v i wr => ∃ (k : Nat) (D : List Lnk) (a : Option Addr) (cap b off : Nat), k ≤ x.ents.length ∧ i = .int .i64 k ∧ v = .slice a D.length cap ∧ D.length ≤ k ∧ Hid (LinksAt wr a b off D) ∧ Hid (IsLinks ((x.ents.take k).map fun e => ⟨e.kind, e.id⟩) D) ∧ Hid (Have w.heap.size wr x ea ec pa pc) ∧ Hid (Below w.heap.size w wr)) (fun _ i _ => x.ents.length - (intOf i).toNat)
        case atStart => exact ⟨0, [], _, 0, 0, 0, by omega, rfl, rfl, Nat.le_refl _, Lib.hid (LinksAt.nil _ _), Lib.hid IsLinks.nil, hX, hB⟩
        case round =>
          clear hX hB c0 c1 c2 c3 c4 c5 c6
          obtain ⟨k, D, a, cap, b, off, hk, rfl, rfl, hDk, hK, hI, hX, hB⟩ := hrel
          have c2 := hX.out.cells.2.2.1
          by_cases hlt : k < x.ents.length
          · have i1 : (k : Int) < x.ents.length := by omega
            have i0 : 0 ≤ (k : Int) := by omega
            obtain ⟨eb, eo, hE⟩ := hX.out.at_.ents
            obtain rfl := hE.addr (by omega)
            have hgk : x.ents[k]? = some x.ents[k] := List.getElem?_eq_getElem hlt
            have d1 := hE.kind k _ hgk
            have d2 := hE.id k _ hgk
            have hI2 := Lib.hid (with_is hI.out ⟨(x.ents[k]).kind, (x.ents[k]).id⟩)
            rw [take_snoc (fun e : Ent => (⟨e.kind, e.id⟩ : Lnk)) hlt] at hI2
            have hdr : Hid (Below wr.heap.size wr wr.drew) := Lib.hid ⟨rfl, rfl, rfl, Nat.le_refl _, fun _ _ => rfl⟩
            have hC := Lib.hid (with_calls a cap b off D ⟨(x.ents[k]).kind, (x.ents[k]).id⟩ wr.drew (hK.out.below hdr.out) (by omega))
            have hwl := with_len D ⟨(x.ents[k]).kind, (x.ents[k]).id⟩
            generalize x.ents[k] = e at *
            obtain ⟨n, kd, i⟩ := e
            dsimp only at d1 d2 hC hI2 hwl
            generalize with_ D ⟨kd, i⟩ = D2 at *
            clear hE hgk
            go_wp2_with fail
            go_still_tail 14, (by kernel_rfl)
            change wpList _ _ _ _ _ wr.drew
            go_wp2_with fail
            refine hC.out.mono ?_
            rintro e' w4 ⟨⟨a4, cap4, b4, off4, rfl, hK4⟩, bb⟩
            replace hX := Lib.hid ((hX.out.next hdr.out).next bb)
            replace hB := Lib.hid (below_next (below_next hB.out hdr.out) bb)
            replace hK4 := Lib.hid hK4
            clear hC bb c2 d1 d2 hK hdr
            go_wp2
            exact ⟨⟨k + 1, D2, a4, cap4, b4, off4, by omega, by go_num, rfl, by omega, hK4, hI2, hX, hB⟩, by simp [intOf]; omega⟩
          · have j0 : decide ((k : Int) < x.ents.length) = false := decide_eq_false (by omega)
            have j1 : (x.ents.length : Int) ≤ k := by omega
            obtain rfl : k = x.ents.length := by omega
            rw [List.take_length] at hI
            go_wp2
            go_ret
            exact ⟨⟨D, a, cap, b, off, rfl, hK.out, by rw [hn.out, ho.out]; exact hI.out⟩, hB.out⟩
      · have q2 : (x.kind == 2) = false := by simpa using k2
        have k3 : x.kind = 3 := by omega
        replace hl2 := hl2 k3
        have ho : Hid (ofObj x = ⟨2, x.tree⟩ :: x.pars.map fun p => ⟨3, p⟩) := Lib.hid (by unfold ofObj; rw [if_neg k2, if_pos k3])
        replace k1 := Lib.hid k1
        replace k2 := Lib.hid k2
        replace k3 := Lib.hid k3
        clear hl1
        have hC := Lib.hid fun (a : Option Addr) => with_calls a 0 0 0 [] ⟨2, x.tree⟩ w2 (LinksAt.nil _ _) (by decide)
        go_wp2_with fail
        refine (hC.out _).mono ?_
        rintro e w3 ⟨⟨a, cap, b, off, rfl, hK⟩, b3⟩
        replace hX := Lib.hid (hX.out.next b3)
        replace hB := Lib.hid (below_next hB.out b3)
        have hI : Hid (IsLinks [⟨2, x.tree⟩] (with_ [] ⟨2, x.tree⟩)) := Lib.hid (with_is IsLinks.nil ⟨2, x.tree⟩)
        have hwl := with_len [] ⟨2, x.tree⟩
        generalize with_ [] ⟨2, x.tree⟩ = D1 at *
        replace hK := Lib.hid hK
        clear hC b3 c0 c1 c2 c3 c4 c5 c6
        go_wp2
        go_loopw [3, 5] (fun v i wr => ∃ (k : Nat) (D : List Lnk) (a : Option Addr) (cap b off : Nat), k ≤ x.pars.length ∧ i = .int .i64 k ∧ v = .slice a D.length cap ∧ D.length ≤ k + 1 ∧ Hid (LinksAt wr a b off D) ∧ Hid (IsLinks (⟨2, x.tree⟩ :: (x.pars.take k).map fun e => ⟨3, e⟩) D) ∧ Hid (Have w.heap.size wr x ea ec pa pc) ∧ Hid (Below w.heap.size w wr)) (fun _ i _ => x.pars.length - (intOf i).toNat)
        case atStart => exact ⟨0, D1, a, cap, b, off, by omega, rfl, rfl, hwl, hK, hI, hX, hB⟩
        case round =>
          clear hX hB hK hI hwl
          obtain ⟨k, D, a, cap, b, off, hk, rfl, rfl, hDk, hK, hI, hX, hB⟩ := hrel
          have c4 := hX.out.cells.2.2.2.2.1
          by_cases hlt : k < x.pars.length
          · have i1 : (k : Int) < x.pars.length := by omega
            have i0 : 0 ≤ (k : Int) := by omega
            obtain ⟨pb, po, hE⟩ := hX.out.at_.pars
            obtain rfl := hE.addr (by omega)
            have hgk : x.pars[k]? = some x.pars[k] := List.getElem?_eq_getElem hlt
            have d1 := hE.cell k _ hgk
            have hI2 := Lib.hid (with_is hI.out ⟨3, x.pars[k]⟩)
            rw [List.cons_append, take_snoc (fun e : ByteArray => (⟨3, e⟩ : Lnk)) hlt] at hI2
            have hC := Lib.hid (with_calls a cap b off D ⟨3, x.pars[k]⟩ wr hK.out (by omega))
            have hwl := with_len D ⟨3, x.pars[k]⟩
            generalize x.pars[k] = e at *
            generalize with_ D ⟨3, e⟩ = D2 at *
            clear hE hgk
            go_wp2_with fail
            refine hC.out.mono ?_
            rintro e' w4 ⟨⟨a4, cap4, b4, off4, rfl, hK4⟩, bb⟩
            replace hX := Lib.hid (hX.out.next bb)
            replace hB := Lib.hid (below_next hB.out bb)
            replace hK4 := Lib.hid hK4
            clear hC bb c4 d1 hK
            go_wp2
            exact ⟨⟨k + 1, D2, a4, cap4, b4, off4, by omega, by go_num, rfl, by omega, hK4, hI2, hX, hB⟩, by simp [intOf]; omega⟩
          · have j0 : decide ((k : Int) < x.pars.length) = false := decide_eq_false (by omega)
            have j1 : (x.pars.length : Int) ≤ k := by omega
            obtain rfl : k = x.pars.length := by omega
            rw [List.take_length] at hI
            go_wp2
            go_ret
            exact ⟨⟨D, a, cap, b, off, rfl, hK.out, by rw [hn.out, ho.out]; exact hI.out⟩, hB.out⟩
end Go.Proofs.YtmbbnabongnojaaDoor.Lk
