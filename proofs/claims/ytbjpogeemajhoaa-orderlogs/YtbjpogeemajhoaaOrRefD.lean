/-
  The document's Above and Base; old memory stays. Conditions: as Log's.
-/
import Derived.Test.YtbjpogeemajhoaaRows
import Derived.Test.YtbjpogeemajhoaaOrLog
import Derived.Test.YtbjpogeemajhoaaOrSame
import Derived.Test.YtbjpogeemajhoaaOrRefC
import Derived.Deep.Cut
import Derived.Deep.LoopGhost
import Derived.Deep.RegionHeld3
namespace Go.Proofs.Ytbjpogeemajhoaa.Or
open Go Go.RowKit

theorem IsRow.once {L : List Fct} {x : ByteArray} {F : List Fct} (h : IsRow L x F) (ho : Once L) : (F.map Fct.id).Nodup := by
  unfold List.Nodup
  rw [List.pairwise_map]
  refine List.Pairwise.imp_of_mem ?_ h.falls
  intro a b ha hb hu e
  rw [once_eq ho ((h.mem a).1 ha).mem ((h.mem b).1 hb).mem e] at hu
  exact under_irr b hu
theorem IsLog.few {L : List Fx} {x : ByteArray} {n : Int} {G : List Fct} (h : IsLog (plain L) x n G) : G.length ≤ L.length := by
  cases h with
  | ok h0 _ _ _ _ h5 =>
    have := ids_len (h5.once h0) (m := L.map fun y => y.f.id) fun s hs => by
      obtain ⟨f, hf, rfl⟩ := List.mem_map.1 hs
      obtain ⟨y, hy, rfl⟩ := List.mem_map.1 ((h5.mem f).1 hf).mem
      exact List.mem_map.2 ⟨y, hy, rfl⟩
    simpa using this
  | _ => exact Nat.zero_le _
theorem mem_ids {G : List Fct} {s : ByteArray} : s ∈ G.map Fct.id ↔ inIds G s = true := by
  unfold inIds
  rw [List.any_eq_true]
  constructor
  · intro h
    obtain ⟨f, hf, e⟩ := List.mem_map.1 h
    exact ⟨f, hf, by simpa using e⟩
  · rintro ⟨f, hf, e⟩
    exact List.mem_map.2 ⟨f, hf, by simpa using e⟩
set_option maxRecDepth 100000 in
set_option maxHeartbeats 2000000 in
/-- the document's Above -/
theorem RAbove_calls (w : World) (a : Option Addr) (cap b off : Nat) (L : List Fx) (x y : ByteArray) (h : Fine w a b off L) :
    Calls Try.prog 20 #[.slice a L.length cap, .string x, .string y] w fun e w' => ∃ r n, e = .returned (.tuple #[.bool r, .int .i64 n]) ∧ IsCode (plain L) x n ∧ (∀ G, IsLog (plain L) x n G → r = (decide (x ≠ y) && inIds G y)) ∧ Below w.heap.size w w' := by
  have hR := Lib.hid (RLog_calls w a cap b off L x h)
  have hfew := Lib.hid fun (z : ByteArray) (n : Int) (G : List Fct) (k : IsLog (plain L) z n G) => Nat.le_trans k.few h.few
  generalize L.length = nL at *
  clear h
  go_enter Try.func20, Try.ntmps20
  go_wp2_with fail
  refine hR.out.mono ?_
  rintro e w1 ⟨v, n, G, rfl, hlog, ⟨va, vc, vb, vo, rfl, hvc, hT⟩, b1⟩
  clear hR
  by_cases h0 : n = 0
  · subst h0
    have hin := Lib.hid (Rin_calls va vc vb vo (G.map Fct.id) y w1 hT (by rw [List.length_map]; have := hfew.out x 0 G hlog; omega))
    rw [List.length_map] at hin
    have hcode := Lib.hid hlog.code.1
    have huni := Lib.hid fun K (k : IsLog (plain L) x 0 K) => (hlog.unique k).2
    replace b1 := Lib.hid b1
    clear hT hlog hvc hfew
    by_cases hxy : x = y
    · subst hxy
      have e1 : (x.toList == x.toList) = true := str_eq rfl
      have e2 : (x.toList != x.toList) = false := by rw [bne, e1]; rfl
      go_wp2
      go_ret2
      exact ⟨false, 0, rfl, hcode.out, fun G hG => by simp, b1.out⟩
    · have e1 := str_ne hxy
      have e2 : (x.toList != y.toList) = true := by rw [bne, e1]; rfl
      have hne : Hid (decide (x ≠ y) = true) := Lib.hid (by simpa using hxy)
      clear hxy
      go_wp2_with fail
      refine hin.out.mono ?_
      rintro e w2 ⟨⟨r, rfl, hr⟩, rfl⟩
      have hr2 : Hid (r = inIds G y) := Lib.hid (by rw [Bool.eq_iff_iff, hr, mem_ids])
      clear hin hr
      go_wp2
      go_ret2
      exact ⟨r, 0, rfl, hcode.out, fun K hK => by rw [hne.out, Bool.true_and, ← huni.out K hK]; exact hr2.out, b1.out⟩
  · have hne : (n != 0) = true := by simpa using h0
    replace h0 := Lib.hid h0
    have hcode := Lib.hid hlog.code.1
    have hbad : Hid (∀ K, IsLog (plain L) x n K → K = []) := Lib.hid fun K hK => hK.code.2.1 h0.out
    replace b1 := Lib.hid b1
    clear hT hlog hvc hfew
    go_wp2
    go_ret2
    exact ⟨false, n, rfl, hcode.out, fun K hK => by rw [hbad.out K hK]; simp [inIds], b1.out⟩
theorem rfirst_step {G K : List Fct} {k : Nat} {f : Fct} (h0 : ∀ g ∈ G.take k, inIds K g.id = false) (hk : G[k]? = some f) (hf : inIds K f.id = true) : f.id = firstOf G K := by
  unfold firstOf
  have hsplit : G = G.take k ++ f :: G.drop (k + 1) := by
    have hk' := (List.getElem?_eq_some_iff.1 hk)
    obtain ⟨hlt, e⟩ := hk'
    rw [← e, List.getElem_cons_drop, List.take_append_drop]
  rw [hsplit, List.find?_append]
  have h1 : (G.take k).find? (fun f => inIds K f.id) = none := by
    rw [List.find?_eq_none]
    intro g hg
    rw [h0 g hg]; simp
  rw [h1, List.find?_cons, hf]
  rfl
theorem rfirst_none {G K : List Fct} (h0 : ∀ g ∈ G, inIds K g.id = false) : (⟨#[]⟩ : ByteArray) = firstOf G K := by
  unfold firstOf
  have h1 : G.find? (fun f => inIds K f.id) = none := by
    rw [List.find?_eq_none]
    intro g hg
    rw [h0 g hg]; simp
  rw [h1]; rfl
set_option maxRecDepth 100000 in
set_option maxHeartbeats 2000000 in
/-- the document's Base -/
theorem RBase_calls (w : World) (a : Option Addr) (cap b off : Nat) (L : List Fx) (x y : ByteArray) (h : Fine w a b off L) :
    Calls Try.prog 22 #[.slice a L.length cap, .string x, .string y] w fun e w' => ∃ s n, e = .returned (.tuple #[.string s, .int .i64 n]) ∧ IsBase (plain L) x y n s ∧ (n = 0 → ∃ K, IsLog (plain L) y 0 K) ∧ Below w.heap.size w w' := by
  have hR := Lib.hid (RLog_calls w a cap b off L x h)
  have hR2 := Lib.hid fun w' (bb : Below w.heap.size w w') => RLog_calls w' a cap b off L y (h.next bb)
  have hl := Lib.hid h.few
  have hfew := Lib.hid fun (z : ByteArray) (n : Int) (G : List Fct) (k : IsLog (plain L) z n G) => Nat.le_trans k.few h.few
  generalize L.length = nL at *
  clear h
  go_enter Try.func22, Try.ntmps22
  go_wp2_with fail
  refine hR.out.mono ?_
  rintro e w1 ⟨v, n, G, rfl, hlog, ⟨va, vc, vb, vo, rfl, hvc, hT⟩, b1⟩
  have hR3 := Lib.hid (hR2.out w1 b1)
  have hGl := Lib.hid (hfew.out x n G hlog)
  replace hlog := Lib.hid hlog
  replace hT := Lib.hid hT
  replace b1 := Lib.hid b1
  clear hR hR2 hvc
  by_cases h0 : n = 0
  · subst h0
    go_wp2_with fail
    refine hR3.out.mono ?_
    rintro e w2 ⟨v, n, K, rfl, hlog2, ⟨ua, uc, ub, uo, rfl, huc, hU⟩, b2⟩
    have hKl := Lib.hid (hfew.out y n K hlog2)
    have hT2 := Lib.hid (hT.out.next b2)
    replace hlog2 := Lib.hid hlog2
    replace hU := Lib.hid hU
    replace b1 := Lib.hid (b_then b1.out b2)
    clear hR3 b2 hT huc
    by_cases h0 : n = 0
    · subst h0
      have huni := Lib.hid fun K' (k : IsLog (plain L) y 0 K') => (hlog2.out.unique k).2
      have hcode := Lib.hid hlog2.out.code.1
      have hex : Hid (∃ K', IsLog (plain L) y 0 K') := Lib.hid ⟨K, hlog2.out⟩
      have hin := Lib.hid fun s => Rin_calls ua uc ub uo (K.map Fct.id) s w2 hU.out (by rw [List.length_map]; have := hKl.out; omega)
      obtain ⟨ng, hng⟩ : ∃ n : Nat, Hid (n = G.length) := ⟨_, Lib.hid rfl⟩
      have hgl : ng ≤ 100000 := by rw [hng.out]; exact hGl.out
      simp only [List.length_map, ← hng.out] at hin ⊢
      have hcell : Hid (∀ k, k < ng → ∃ g, G[k]? = some g) := Lib.hid fun k hk => by
        have := hng.out
        exact ⟨G[k], List.getElem?_eq_getElem (by omega)⟩
      clear hlog2 hGl hKl hfew
      go_upto_region 8 with (fail)
      go_loopw [11] (fun i wr => ∃ k : Nat, k ≤ ng ∧ i = .int .i64 k ∧ Hid (∀ g ∈ G.take k, inIds K g.id = false) ∧ w2 = wr) (fun i _ => ng - (intOf i).toNat)
      case atStart => exact ⟨0, Nat.zero_le _, rfl, Lib.hid fun g hg => by simp at hg, rfl⟩
      case round =>
        obtain ⟨k, hk, rfl, hno, rfl⟩ := hrel
        by_cases hlt : k < ng
        · obtain ⟨g, hg⟩ := hcell.out k hlt
          have c0 := hT2.out.cell k g.id (by rw [List.getElem?_map, hg]; rfl)
          obtain rfl := hT2.out.addr (by rw [List.length_map]; have := hng.out; omega)
          have hlt1 : (k : Int) < ng := by omega
          have hlt0 : 0 ≤ (k : Int) := by omega
          have hwk : wrap64 ((k : Int) + 1) = ((k + 1 : Nat) : Int) := wrap_next k (by omega)
          have hms : Hid (ng - (k + 1) < ng - k) := Lib.hid (by omega)
          have hkl : Hid (k + 1 ≤ ng) := Lib.hid hlt
          have hi1 := Lib.hid (hin.out g.id)
          replace hg := Lib.hid hg
          clear hlt hk hin
          go_wp2_with fail
          refine hi1.out.mono ?_
          rintro e w4 ⟨⟨r, rfl, hr⟩, rfl⟩
          have hr2 : Hid (r = inIds K g.id) := Lib.hid (by rw [Bool.eq_iff_iff, hr, mem_ids])
          clear hi1 hr
          cases r with
          | true =>
            have hfin : Hid (∀ K', IsLog (plain L) y 0 K' → g.id = firstOf G K') := Lib.hid fun K' hK => by
              rw [← huni.out K' hK]; exact rfirst_step hno.out hg.out hr2.out.symm
            clear hr2
            go_wp2
            go_ret2
            exact ⟨g.id, 0, rfl, .ok hlog.out hcode.out hfin.out, fun _ => hex.out, b1.out⟩
          | false =>
            have hno2 : Hid (∀ q ∈ G.take (k + 1), inIds K q.id = false) := Lib.hid fun q hq => by
              rw [List.take_add_one, hg.out] at hq
              rcases List.mem_append.1 hq with hq | hq
              · exact hno.out q hq
              · simp at hq; subst hq; exact hr2.out.symm
            clear hr2 c0
            go_wp2
            go_roundw
            case measure => simp [intOf]; exact hms.out
            case rel => exact ⟨k + 1, hkl.out, by simp, hno2, by trivial⟩
        · obtain rfl : k = ng := by omega
          have d0 : ¬ (k : Int) < k := by omega
          have hfin : Hid (∀ K', IsLog (plain L) y 0 K' → (⟨#[]⟩ : ByteArray) = firstOf G K') := Lib.hid fun K' hK => by
            rw [← huni.out K' hK]
            refine rfirst_none fun q hq => hno.out q (by rw [hng.out, List.take_length]; exact hq)
          clear hlt hno
          go_wp2
          go_ret2
          exact ⟨_, 0, rfl, .ok hlog.out hcode.out hfin.out, fun _ => hex.out, b1.out⟩
    · have hne : (n != 0) = true := by simpa using h0
      replace h0 := Lib.hid h0
      go_wp2
      go_ret2
      exact ⟨_, n, rfl, .bad2 hlog.out.code.1 hlog2.out.code.1 h0.out, fun e => absurd e h0.out, b1.out⟩
  · have hne : (n != 0) = true := by simpa using h0
    replace h0 := Lib.hid h0
    clear hR3
    go_wp2
    go_ret2
    exact ⟨_, n, rfl, .bad1 hlog.out.code.1 h0.out, fun e => absurd e h0.out, b1.out⟩
end Go.Proofs.Ytbjpogeemajhoaa.Or
