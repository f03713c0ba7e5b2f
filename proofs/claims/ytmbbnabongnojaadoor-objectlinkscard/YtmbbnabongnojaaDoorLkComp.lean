/-
  slices.Compact over links: of neighbours that are one it keeps the first; only the row of links turns. Conditions: a row of links that may be written, of a length that the form's numbers bear.
-/
import Derived.Test.YtmbbnabongnojaaDoorRows
import Derived.Test.YtmbbnabongnojaaDoorObPlain
import Derived.Test.YtmbbnabongnojaaDoorLkPlain
import Derived.Test.YtmbbnabongnojaaDoorLkNamed
import Derived.Test.YtmbbnabongnojaaDoorObSame
import Derived.Test.YtmbbnabongnojaaDoorOctKit
import Derived.WalkKit
import Derived.WalkSpells
import Derived.WalkLawsBesides
import Derived.ProofKit
import Derived.OpenShut
import Derived.Laws.BytesArg
import Derived.Laws.Externs
import Derived.Deep.QuietTactic
import Derived.BigQuiet
import Derived.BigRegion
import Derived.Lib.Hide
import Derived.Lib.SliceRun
import Derived.Lib.SlicesCompact
import Derived.IntWalk
import Derived.Deep.LoopGhost
namespace Go.Proofs.YtmbbnabongnojaaDoor.Lk
open Go Go.RowKit Ob
open Oct (empty Only)
open Go.Lib (compactUpTo CompInv)

/-- links in a row that may be written -/
structure LRow (w : World) (b o : Nat) (d : Array Lnk) : Prop where
  kind : ∀ i, i < d.size → w.cell? ⟨b, o + i * 2, none⟩ = some (.int .i64 (d[i]!).kind)
  id : ∀ i, i < d.size → w.cell? ⟨b, o + i * 2 + 1, none⟩ = some (.string (d[i]!).id)
  fk : ∀ i, i < d.size → w.frozen? ⟨b, o + i * 2, none⟩ = false
  fi : ∀ i, i < d.size → w.frozen? ⟨b, o + i * 2 + 1, none⟩ = false
theorem LRow.drewN {w : World} {b o : Nat} {d : Array Lnk} (h : LRow w b o d) (n : Nat) : LRow (w.drewN n) b o d := ⟨h.kind, h.id, h.fk, h.fi⟩
theorem cell_set_ne {w : World} {b j k : Nat} {v : Value} (h : k ≠ j) : (w.setCell ⟨b, j, none⟩ v).cell? ⟨b, k, none⟩ = w.cell? ⟨b, k, none⟩ := World.cell?_setCell_other _ _ _ _ (fun e => h (congrArg Addr.off e).symm)
theorem LRow.set {w : World} {b o : Nat} {d : Array Lnk} (h : LRow w b o d) (t : Nat) (x : Lnk) (ht : t < d.size) : LRow ((w.setCell ⟨b, o + t * 2, none⟩ (.int .i64 x.kind)).setCell ⟨b, o + t * 2 + 1, none⟩ (.string x.id)) b o (d.setIfInBounds t x) := by
  have hs : (d.setIfInBounds t x).size = d.size := by simp
  refine ⟨fun i hi => ?_, fun i hi => ?_, fun i hi => ?_, fun i hi => ?_⟩
  · rw [hs] at hi
    rw [cell_set_ne (by omega)]
    by_cases e : i = t
    · subst e
      rw [Sort.getElem!_set_same _ _ _ ht]
      exact World.cell?_setCell_same _ _ _ (h.kind i hi)
    · rw [Sort.getElem!_set_other _ _ _ _ e, cell_set_ne (by omega)]; exact h.kind i hi
  · rw [hs] at hi
    by_cases e : i = t
    · subst e
      rw [Sort.getElem!_set_same _ _ _ ht]
      exact World.cell?_setCell_same _ _ _ ((cell_set_ne (by omega)).trans (h.id i hi))
    · rw [Sort.getElem!_set_other _ _ _ _ e, cell_set_ne (by omega), cell_set_ne (by omega)]; exact h.id i hi
  · rw [hs] at hi; rw [World.frozen?_setCell, World.frozen?_setCell]; exact h.fk i hi
  · rw [hs] at hi; rw [World.frozen?_setCell, World.frozen?_setCell]; exact h.fi i hi
theorem only_cells (b : Nat) : ∀ (vs : List Value) (o : Nat) (w : World), Only b w (w.setCells b o vs)
  | [], _, w => Only.refl b w
  | v :: r, o, w => (Only.setCell b o w v).trans (only_cells b r (o + 1) _)
/-- clear(s) where an element has two cells -/
theorem run_clear_pairs (w : World) (b o n c : Nat) (hn : 0 < n)
    (hc : ∀ j, j < 2 * n → (w.cell? ⟨b, o + j, none⟩).isSome = true) (hf : ∀ j, j < 2 * n → w.frozen? ⟨b, o + j, none⟩ = false) :
    ∃ vs : List Value, vs.length = 2 * n ∧ ∀ ty, (Builtin.clear_ #[32] ty #[.slice (some ⟨b, o, none⟩) n c]).run Tryd.prog w = .ok (.tuple #[]) (w.setCells b o vs) := by
  have hv : ∀ w, (zeroValue 45).run Tryd.prog w = .ok (.agg #[.int .i64 0, .string ⟨#[]⟩]) w := fun w => by go_simp
  refine ⟨(Builtin.zeroCells #[.int .i64 0, .string ⟨#[]⟩] n).toList, by simp [Builtin.zeroCells]; omega, ?_⟩
  have hst := run_storeCells_cells (P := Tryd.prog) b o (Builtin.zeroCells #[.int .i64 0, .string ⟨#[]⟩] n).toList 0 w
    (by intro j hj; rw [Nat.add_zero]; exact hc j (by simp [Builtin.zeroCells] at hj; omega)) (by intro j hj; rw [Nat.add_zero]; exact hf j (by simp [Builtin.zeroCells] at hj; omega))
    (by
      intro v hv'
      simp [Builtin.zeroCells] at hv'
      obtain ⟨a, _, e⟩ := hv'
      have h2 : a % 2 = 0 ∨ a % 2 = 1 := by omega
      rcases h2 with h2 | h2 <;> (rw [h2] at e; subst e; rfl))
  simp only [Nat.add_zero] at hst
  obtain ⟨m, rfl⟩ : ∃ m, n = m + 1 := ⟨n - 1, by omega⟩
  intro ty
  simp [Builtin.clear_, run_underlying Tryd.underlying32, hv, Value.cells, hst]
theorem comp_links {d dk : Array Lnk} {m k : Nat} {w : World} {b o : Nat} (hI : CompInv d m k dk) (hm : m ≤ d.size) (h : LRow w b o dk) : LinksAt w (some ⟨b, o, none⟩) b o (compactUpTo d m) := by
  have hlen := hI.len
  have hsz := hI.size
  have hlt := hI.lt
  have key : ∀ (i : Nat) (l : Lnk), (compactUpTo d m)[i]? = some l → i < k ∧ dk[i]! = l := fun i l he => by
    have hi : i < k := by have := (List.getElem?_eq_some_iff.1 he).1; omega
    refine ⟨hi, ?_⟩
    have := hI.low i hi
    rw [he] at this
    exact (Option.some.inj this).symm
  refine ⟨fun _ => rfl, fun i l he => ?_, fun i l he => ?_⟩
  · obtain ⟨hi, e⟩ := key i l he; rw [← e]; exact h.kind i (by omega)
  · obtain ⟨hi, e⟩ := key i l he; rw [← e]; exact h.id i (by omega)
theorem all_links {d : Array Lnk} {w : World} {b o : Nat} (h : LRow w b o d) (hall : ∀ j, j < d.size → Go.Lib.keeps d j = true) : compactUpTo d d.size = d.toList ∧ LinksAt w (some ⟨b, o, none⟩) b o (compactUpTo d d.size) := by
  have e : compactUpTo d d.size = d.toList := by rw [Go.Lib.compactUpTo_all d _ hall, Go.Lib.range_map_get]
  have key : ∀ (i : Nat) (l : Lnk), d.toList[i]? = some l → i < d.size ∧ d[i]! = l := fun i l he => by
    have hi : i < d.size := by have := (List.getElem?_eq_some_iff.1 he).1; simpa using this
    refine ⟨hi, ?_⟩
    rw [getElem!_pos d i hi]
    rw [Array.getElem?_toList, Array.getElem?_eq_getElem hi] at he
    exact Option.some.inj he
  refine ⟨e, ?_⟩
  rw [e]
  refine ⟨fun _ => rfl, fun i l he => ?_, fun i l he => ?_⟩
  · obtain ⟨hi, e⟩ := key i l he; rw [← e]; exact h.kind i hi
  · obtain ⟨hi, e⟩ := key i l he; rw [← e]; exact h.id i hi
theorem Compact_none (a : Option Addr) (cap : Nat) (w : World) :
    Calls Tryd.prog 43 #[.slice a 0 cap] w fun e w' => e = .returned (.slice a 0 cap) ∧ w = w' := by
  go_enter Tryd.func43, Tryd.ntmps43
  go_wp2
  go_ret
  exact ⟨rfl, rfl⟩
set_option maxRecDepth 100000 in
set_option maxHeartbeats 4000000 in
theorem Compact_calls (g o cap : Nat) (d : Array Lnk) (w : World) (hR : LRow w g o d) (hsz : d.size ≤ 1000000) (hcap : d.size ≤ cap) :
    Calls Tryd.prog 43 #[.slice (some ⟨g, o, none⟩) d.size cap] w fun e w' => e = .returned (.slice (some ⟨g, o, none⟩) (compactUpTo d d.size).length cap) ∧ LinksAt w' (some ⟨g, o, none⟩) g o (compactUpTo d d.size) ∧ Only g w w' := by
  have hsame := Lib.hid (fun (q : Nat) (hall : ∀ j, j < d.size → Go.Lib.keeps d j = true) => all_links (hR.drewN q) hall)
  have hlenS : Hid ((∀ j, j < d.size → Go.Lib.keeps d j = true) → (compactUpTo d d.size).length = d.size) := Lib.hid fun hall => by rw [(all_links hR hall).1]; simp
  replace hR := Lib.hid hR
  by_cases h2 : d.size < 2
  · have i0 : (d.size : Int) < 2 := by omega
    have hall : Hid (∀ j, j < d.size → Go.Lib.keeps d j = true) := Lib.hid fun j hj => Go.Lib.keeps_lt_one d j (by omega)
    replace h2 := Lib.hid h2
    go_enter Tryd.func43, Tryd.ntmps43
    go_wp2
    go_ret
    exact ⟨by rw [hlenS.out hall.out]; rfl, (hsame.out 0 hall.out).2, Only.refl _ _⟩
  · have i0 : ¬ (d.size : Int) < 2 := by omega
    have i0' : decide ((d.size : Int) < 2) = false := decide_eq_false i0
    go_enter Tryd.func43, Tryd.ntmps43
    go_wp2
    go_loopw [3] (fun s3 wr => ∃ k q : Nat, 1 ≤ k ∧ k ≤ d.size ∧ s3 = .int .i64 k ∧ wr = w.drewN q ∧ Hid (∀ j, j < k → Go.Lib.keeps d j = true)) (fun s3 _ => d.size - (intOf s3).toNat)
    case atStart => exact ⟨1, 0, Nat.le_refl _, by omega, rfl, rfl, Lib.hid (Go.Lib.keeps_lt_one d)⟩
    case round =>
      obtain ⟨k, q, hk1, hk, rfl, rfl, hall⟩ := hrel
      by_cases hlt : k < d.size
      · have j1 : (k : Int) < d.size := by omega
        have j0 : (0 : Int) ≤ k := by omega
        have a0 := hR.out.kind k hlt
        have a1 := hR.out.id k hlt
        have b0 := hR.out.kind (k - 1) (by omega)
        have b1 := hR.out.id (k - 1) (by omega)
        have hkp : Hid (d[k]! ≠ d[k - 1]! → Go.Lib.keeps d k = true) := Lib.hid fun h => Go.Lib.keeps_pos h
        have hkn : Hid (d[k]! = d[k - 1]! → Go.Lib.keeps d k = false) := Lib.hid fun h => Go.Lib.keeps_neg (by omega) h
        generalize d[k]! = x at *
        generalize d[k - 1]! = y at *
        obtain ⟨xk, xi⟩ := x
        obtain ⟨yk, yi⟩ := y
        dsimp only at a0 a1 b0 b1
        by_cases he : (⟨xk, xi⟩ : Lnk) = ⟨yk, yi⟩
        · replace hkn := Lib.hid (hkn.out he)
          injection he with e1 e2
          subst e1 e2
          have hst := Lib.hid (CompInv.start hall.out hkn.out)
          clear hkp hkn
          have j2 : (k : Int) ≤ d.size := by omega
          have j3 : (d.size : Int) ≤ cap := by omega
          go_wp2_with fail
          go_quiet (fail)
          go_wp2
          clear a0 a1 b0 b1
          go_loopw [3, 5] (fun s3 s5 wr => ∃ (kk k2 : Nat) (dk : Array Lnk), s3 = .int .i64 kk ∧ s5 = .int .i64 k2 ∧ 1 ≤ k2 ∧ k + k2 ≤ d.size ∧ Hid (LRow wr g o dk) ∧ Hid (Only g w wr) ∧ Hid (CompInv d (k + k2) kk dk)) (fun _ s5 _ => d.size - (intOf s5).toNat)
          case atStart => exact ⟨k, 1, d, rfl, rfl, Nat.le_refl _, by omega, Lib.hid (hR.out.drewN _), Lib.hid (Only.drewN _ _ _), hst⟩
          case round =>
            obtain ⟨kk, k2, dk, rfl, rfl, h1, hle, hrow, honly, hI⟩ := hrel
            have hkk := hI.out.lt
            have hds := hI.out.size
            by_cases hlt2 : k + k2 < d.size
            · have m1 : (k2 : Int) < ((d.size - k : Nat) : Int) := by omega
              have m0 : (0 : Int) ≤ k2 := by omega
              have m2 : (kk : Int) < d.size := by omega
              have m3 : (0 : Int) ≤ kk := by omega
              have p0 := hrow.out.kind (k + k2) (by omega)
              have p1 := hrow.out.id (k + k2) (by omega)
              have r0 := hrow.out.kind (k + k2 - 1) (by omega)
              have r1 := hrow.out.id (k + k2 - 1) (by omega)
              rw [hI.out.high (k + k2) (by omega), show o + (k + k2) * 2 = o + k * 2 + k2 * 2 by omega] at p0
              rw [hI.out.high (k + k2) (by omega), show o + (k + k2) * 2 + 1 = o + k * 2 + k2 * 2 + 1 by omega] at p1
              rw [hI.out.high (k + k2 - 1) (by omega), show o + (k + k2 - 1) * 2 = o + k * 2 + (k2 - 1) * 2 by omega] at r0
              rw [hI.out.high (k + k2 - 1) (by omega), show o + (k + k2 - 1) * 2 + 1 = o + k * 2 + (k2 - 1) * 2 + 1 by omega] at r1
              have s0 := hrow.out.kind kk (by omega)
              have s1 := hrow.out.id kk (by omega)
              have f0 := hrow.out.fk kk (by omega)
              have f1 := hrow.out.fi kk (by omega)
              have hkp : Hid (d[k + k2]! ≠ d[k + k2 - 1]! → CompInv d (k + k2 + 1) (kk + 1) (dk.setIfInBounds kk d[k + k2]!)) := Lib.hid fun h => hI.out.keep hlt2 (Go.Lib.keeps_pos h)
              have hkn : Hid (d[k + k2]! = d[k + k2 - 1]! → CompInv d (k + k2 + 1) kk dk) := Lib.hid fun h => hI.out.skip (Go.Lib.keeps_neg (by omega) h)
              generalize d[k + k2]! = x at *
              generalize d[k + k2 - 1]! = y at *
              generalize dk[kk]! = old at *
              obtain ⟨xk, xi⟩ := x
              obtain ⟨yk, yi⟩ := y
              dsimp only at p0 p1 r0 r1
              by_cases he : (⟨xk, xi⟩ : Lnk) = ⟨yk, yi⟩
              · replace hkn := Lib.hid (hkn.out he)
                injection he with e1 e2
                subst e1 e2
                clear hkp
                go_wp2_with fail
                go_quiet (fail)
                go_wp2
                exact ⟨⟨kk, k2 + 1, dk, by go_num, by go_num, by omega, by omega, Lib.hid (hrow.out.drewN _), Lib.hid (honly.out.trans (Only.drewN _ _ _)), by rw [← Nat.add_assoc]; exact hkn⟩, by simp [intOf]; omega⟩
              · have hk2 := Lib.hid (hkp.out he)
                clear hkp hkn
                have hset := Lib.hid (fun n => (hrow.out.drewN n).set kk ⟨xk, xi⟩ (by omega))
                have hon := Lib.hid (fun n => (honly.out.trans (Only.drewN g wr n)).trans ((Only.setCell g (o + kk * 2) _ (.int .i64 xk)).trans (Only.setCell g (o + kk * 2 + 1) _ (.string xi))))
                by_cases e1 : xk = yk
                · subst e1
                  have e2 : xi ≠ yi := fun e => he (by rw [e])
                  have q2 := str_ne e2
                  replace e2 := Lib.hid e2
                  clear he
                  go_wp2_with fail
                  go_quiet (fail)
                  go_wp2
                  exact ⟨⟨kk + 1, k2 + 1, _, by go_num, by go_num, by omega, by omega, Lib.hid (hset.out _), Lib.hid (hon.out _), by rw [← Nat.add_assoc]; exact hk2⟩, by simp [intOf]; omega⟩
                · have q1 : (xk == yk) = false := by simpa using e1
                  replace e1 := Lib.hid e1
                  clear he
                  go_wp2_with fail
                  go_quiet (fail)
                  go_wp2
                  exact ⟨⟨kk + 1, k2 + 1, _, by go_num, by go_num, by omega, by omega, Lib.hid (hset.out _), Lib.hid (hon.out _), by rw [← Nat.add_assoc]; exact hk2⟩, by simp [intOf]; omega⟩
            · have hend : k + k2 = d.size := by omega
              have m1 : decide ((k2 : Int) < ((d.size - k : Nat) : Int)) = false := decide_eq_false (by omega)
              have m2 : ((d.size - k : Nat) : Int) ≤ k2 := by omega
              have m3 : (0 : Int) ≤ kk := by omega
              have m4 : (kk : Int) ≤ d.size := by omega
              obtain ⟨vs, _, hcl⟩ := run_clear_pairs wr g (o + kk * 2) (d.size - kk) (cap - kk) (by omega)
                (fun j hj => by
                  have hj2 : j = j / 2 * 2 ∨ j = j / 2 * 2 + 1 := by omega
                  rcases hj2 with e | e
                  · rw [show o + kk * 2 + j = o + (kk + j / 2) * 2 by omega, hrow.out.kind _ (by omega)]; rfl
                  · rw [show o + kk * 2 + j = o + (kk + j / 2) * 2 + 1 by omega, hrow.out.id _ (by omega)]; rfl)
                (fun j hj => by
                  have hj2 : j = j / 2 * 2 ∨ j = j / 2 * 2 + 1 := by omega
                  rcases hj2 with e | e
                  · rw [show o + kk * 2 + j = o + (kk + j / 2) * 2 by omega]; exact hrow.out.fk _ (by omega)
                  · rw [show o + kk * 2 + j = o + (kk + j / 2) * 2 + 1 by omega]; exact hrow.out.fi _ (by omega))
              have hfin : Hid (LinksAt (wr.setCells g (o + kk * 2) vs) (some ⟨g, o, none⟩) g o (compactUpTo d d.size)) := Lib.hid (by
                have h0 := comp_links hI.out (by omega) hrow.out
                rw [hend] at h0
                have hl : (compactUpTo d d.size).length = kk := by rw [← hend]; exact hI.out.len
                refine ⟨h0.addr, fun i l he => ?_, fun i l he => ?_⟩
                · have hi := (List.getElem?_eq_some_iff.1 he).1
                  rw [World.cell?_setCells_out _ _ _ _ _ (fun _ _ => Or.inl (by show o + i * 2 < _; omega))]; exact h0.kind i l he
                · have hi := (List.getElem?_eq_some_iff.1 he).1
                  rw [World.cell?_setCells_out _ _ _ _ _ (fun _ _ => Or.inl (by show o + i * 2 + 1 < _; omega))]; exact h0.id i l he)
              have hlf : Hid ((compactUpTo d d.size).length = kk) := Lib.hid (by rw [← hend]; exact hI.out.len)
              have hon := Lib.hid (honly.out.trans (only_cells g vs (o + kk * 2) wr))
              go_wp2
              go_ret
              exact ⟨by rw [hlf.out]; rfl, hfin.out, hon.out⟩
        · have hk2 := Lib.hid (hkp.out he)
          have hall2 : Hid (∀ j, j < k + 1 → Go.Lib.keeps d j = true) := Lib.hid fun j hj => by
            by_cases e : j = k
            · subst e; exact hk2.out
            · exact hall.out j (by omega)
          clear hkp hkn hall
          by_cases e1 : xk = yk
          · subst e1
            have e2 : xi ≠ yi := fun e => he (by rw [e])
            have q2 := str_ne e2
            replace e2 := Lib.hid e2
            clear he
            go_wp2_with fail
            go_quiet (fail)
            go_wp2
            exact ⟨⟨k + 1, _, by omega, by omega, by go_num, rfl, hall2⟩, by simp [intOf]; omega⟩
          · have q1 : (xk == yk) = false := by simpa using e1
            replace e1 := Lib.hid e1
            clear he
            go_wp2_with fail
            go_quiet (fail)
            go_wp2
            exact ⟨⟨k + 1, _, by omega, by omega, by go_num, rfl, hall2⟩, by simp [intOf]; omega⟩
      · have d0 : decide ((k : Int) < d.size) = false := decide_eq_false (by omega)
        have d1 : (d.size : Int) ≤ k := by omega
        obtain rfl : k = d.size := by omega
        go_wp2
        go_ret
        exact ⟨by rw [hlenS.out hall.out]; rfl, (hsame.out q hall.out).2, Only.drewN _ _ _⟩
end Go.Proofs.YtmbbnabongnojaaDoor.Lk
