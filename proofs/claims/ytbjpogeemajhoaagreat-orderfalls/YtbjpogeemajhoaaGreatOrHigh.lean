/-
  Heights of a fact's parents, whether one of them is lacking, and whether all facts of a map are whole and of right height; old memory stays. Conditions: heights are below the greatest int.
-/
import Derived.Test.YtbjpogeemajhoaaGreatRows
import Derived.Test.YtbjpogeemajhoaaGreatOrMap
import Derived.Test.YtbjpogeemajhoaaGreatOrRange
import Derived.Test.YtbjpogeemajhoaaGreatOrHgt
import Derived.IntWalk
import Derived.Deep.LoopGhost
import Derived.Deep.RegionHeld3
import Derived.Deep.Cut
import Derived.Deep.RegionLaw
namespace Go.Proofs.YtbjpogeemajhoaaGreat.Or
open Go Go.RowKit
open Oct (IntsAt)

/-! ### numbers that grow by append -/
theorem infoNum : (Tryz.prog.info? 3).map (fun i => (i.zero, i.size, i.bytes)) = some (some (.int .i64 0), 1, 8) := by kernel_rfl
def OwnN (B : Nat) (w : World) (v : Value) (L : List Int) : Prop := w.ownsRow B 3 1 v L.length (L.map (Value.int .i64))
theorem OwnN.nil (B : Nat) (w : World) : OwnN B w (.slice none 0 0) [] := World.ownsRow_nil w B _ 1
theorem OwnN.next {B : Nat} {w w' : World} {v : Value} {L : List Int} (h : OwnN B w v L) (b : Below w.heap.size w w') : OwnN B w' v L := owns_turn h fun g hg => b.block g (h.lt g hg).2
theorem OwnN.new (w : World) (B : Nat) (hB : B ≤ w.heap.size) : OwnN B (w.alloc (.cells #[] 3)) (.slice (some ⟨w.heap.size, 0, none⟩) 0 0) [] := by
  unfold OwnN
  refine ⟨by simp, Or.inr ⟨w.heap.size, 0, #[], rfl, hB, heap_new w _, by simp, by simp [maxLen], by simp, by simp⟩⟩
theorem OwnN.box {B : Nat} {w : World} {v : Value} {L : List Int} (h : OwnN B w v L) : ∃ a cap, v = .slice a L.length cap := by
  rcases h.2 with ⟨hv, h0⟩ | ⟨g, cap, cur, hv, h1⟩
  · exact ⟨none, 0, by rw [hv, h0]⟩
  · exact ⟨_, cap, hv⟩
theorem OwnN.at_ {B : Nat} {w : World} {v : Value} {L : List Int} (h : OwnN B w v L) (hw : ∀ x ∈ L, (Lit.int .i64 x).wf = true) : ∃ a cap b off, v = .slice a L.length cap ∧ IntsAt .i64 w a b off L.length (fun i => L[i]?.getD 0) := by
  have hwf : ∀ i, (Lit.int .i64 (L[i]?.getD 0)).wf = true := fun i => by
    by_cases hi : i < L.length
    · rw [List.getElem?_eq_getElem hi]; exact hw _ (List.getElem_mem hi)
    · rw [List.getElem?_eq_none (by omega)]; rfl
  rcases h.2 with ⟨hv, h0⟩ | ⟨g, cap, cur, hv, h1, h2, h3, _⟩
  · exact ⟨none, 0, 0, 0, by rw [hv, h0], ⟨fun h => by omega, fun i hi => by omega, hwf⟩⟩
  · have hb : v.ownBlock = some g := by rw [hv]; rfl
    refine ⟨some ⟨g, 0, none⟩, cap, g, 0, hv, ⟨fun _ => rfl, fun i hi => ?_, hwf⟩⟩
    have := World.ownsRow.cells h hb i (.int .i64 (L[i]?.getD 0)) (by rw [List.getElem?_map, List.getElem?_eq_getElem hi]; rfl)
    rwa [Addr.add_mid] at this
/-- append(numbers, n), as the walk stands at it -/
theorem wp_append_n {ops : Array Oper} {rest : List Oper} {o : Oper} {a : Act} {Q : Exit → Act → World → Prop} {w : World} (hgd : o.guard = none) (s x : Operand)
    (ho : o.op = .call { callee := .builtin .append, args := #[s, x], argTypes := #[52, 52] })
    (B : Nat) (v : Value) (L : List Int) (l : Int) (hs : a.eval s = v) (hx : a.eval x = .slice (some ⟨w.heap.size, 0, none⟩) 1 1)
    (hown : OwnN B w v L) (hB : B ≤ w.heap.size) (hlen : L.length ≤ 1099511627776)
    (h : ∀ v' w', OwnN B w' v' (L ++ [l]) → (∀ u, Below B u w → Below B u w') → wpList Tryz.prog ops Q rest (a.put o.dst v') w') : wpList Tryz.prog ops Q (o :: rest) a (w.alloc (.cells #[.int .i64 l] 3)) := by
  obtain ⟨i0, hi, hz0, hz1, hz2⟩ := info_parts infoNum
  have hoA := World.ownsRow.alloc hown (.cells #[.int .i64 l] 3)
  have hnews : ∀ (j : Nat) (u : Value), ([.int .i64 l] : List Value)[j]? = some u → (w.alloc (.cells #[.int .i64 l] 3)).cell? ((⟨w.heap.size, 0, none⟩ : Addr).add j) = some u := fun j u hj => by
    match j, hj with
    | 0, hj => simp at hj; subst hj; simp [Addr.add]
    | j + 1, hj => simp at hj
  refine wpList_append_own _ hgd s x 52 ho B 3 i0 (.int .i64 0) 1 8 Tryz.underlying52 hi hz0 hz1 hz2 rfl (by decide) v L.length (L.map (Value.int .i64)) hs hoA ⟨w.heap.size, 0, none⟩ 1 1 [.int .i64 l] hx rfl hnews
    (fun u hu => by simp at hu; subst hu; rfl) (by unfold maxLen; omega) (by omega) (by simp; omega) ?_
  intro v' w' hown' hgrow hnil
  refine h v' w' (by unfold OwnN; rw [List.map_append, List.length_append]; exact hown') fun u hu => ?_
  exact (hu.alloc hB (.cells #[.int .i64 l] 3)).grown hgrow (by simp; omega) (fun k hk => (World.ownsRow.lt hoA k hk).1)

/-! ### heights -/
theorem top_fold (n : Int) (r : List Int) : ∀ k, k ≤ r.length → Ob.top (fun i => (n :: r)[i]?.getD 0) k = (r.take k).foldl max n := by
  intro k
  induction k with
  | zero => intro _; simp [Ob.top]
  | succ k ih =>
    intro hk
    unfold Ob.top
    rw [ih (by omega), List.take_add_one, List.foldl_append]
    simp only [List.getElem?_cons_succ]
    rw [List.getElem?_eq_getElem (show k < r.length by omega)]
    rfl
/-- Height's answer in plain numbers -/
theorem hgt_height (N : List Int) (h : ∀ x ∈ N, -9223372036854775808 ≤ x ∧ x < 9223372036854775807) : Ob.hgt (fun i => N[i]?.getD 0) N.length = height N := by
  unfold Ob.hgt height
  match N with
  | [] => rfl
  | n :: r =>
    rw [if_neg (by simp)]
    rw [show (n :: r).length - 1 = r.length from by simp, top_fold n r r.length (Nat.le_refl _), List.take_length]
    have key : ∀ (r : List Int) (n : Int), (∀ x ∈ n :: r, -9223372036854775808 ≤ x ∧ x < 9223372036854775807) → -9223372036854775808 ≤ r.foldl max n ∧ r.foldl max n < 9223372036854775807 := by
      intro r
      induction r with
      | nil => exact fun n h => h n (by simp)
      | cons y r ih =>
        intro n h
        refine ih (max n y) fun x hx => ?_
        rcases List.mem_cons.1 hx with rfl | hx
        · have h1 := h n (by simp); have h2 := h y (by simp); omega
        · exact h x (by simp [hx])
    obtain ⟨k1, k2⟩ := key r n h
    exact IntWalk.wrap64_in _ ⟨by omega, by omega⟩
/-- the heights of Ids -/
def highI (F : List Fx) (P : List ByteArray) : List Int := P.map fun z => (atI F z).f.high
theorem atI_wf {F : List Fx} (h : ∀ x ∈ F, (Lit.int .i64 x.f.high).wf = true) (z : ByteArray) : (Lit.int .i64 (atI F z).f.high).wf = true := by
  unfold atI
  cases hf : fnd F z with
  | none => rfl
  | some y => exact h y (fnd_some hf).1
theorem wf_range {n : Int} (h : (Lit.int .i64 n).wf = true) : -9223372036854775808 ≤ n ∧ n ≤ 9223372036854775807 := by
  have e1 : IntKind.i64.min = -9223372036854775808 := rfl
  have e2 : IntKind.i64.max = 9223372036854775807 := rfl
  simp [Lit.wf] at h
  omega
theorem field_high (w : World) (i : ByteArray) (h : Int) (s : Value) : (Instr.field 28 (.agg #[.string i, .int .i64 h, s]) 1).run Tryz.prog w = .ok (.int .i64 h) w := by kernel_rfl
theorem atI_small {F : List Fx} (h : ∀ x ∈ F, (Lit.int .i64 x.f.high).wf = true) (h2 : ∀ x ∈ F, x.f.high < 9223372036854775807) (z : ByteArray) : -9223372036854775808 ≤ (atI F z).f.high ∧ (atI F z).f.high < 9223372036854775807 := by
  refine ⟨(wf_range (atI_wf h z)).1, ?_⟩
  unfold atI
  cases hf : fnd F z with
  | none => show (0 : Int) < _; omega
  | some y => exact h2 y (fnd_some hf).1
theorem wrap_next (k : Nat) (h : k < 1099511627776) : wrap64 ((k : Int) + 1) = ((k + 1 : Nat) : Int) := IntWalk.wrap64_in _ ⟨by omega, by omega⟩
theorem Lst.cell {w : World} {a : Option Addr} {n cap : Nat} {L : List ByteArray} (h : Lst w (.slice a n cap) L) : n = L.length ∧ ∃ b off, TxAt w a b off L := by
  obtain ⟨a', cap', b, off, e, hc, hT⟩ := h
  injection e with e1 e2 e3
  subst e1 e2
  exact ⟨rfl, b, off, hT⟩
set_option maxRecDepth 100000 in
set_option maxHeartbeats 1000000 in
theorem height_calls (w : World) (m : Option Nat) (F : List Fx) (P : List ByteArray) (a : Option Addr) (cap b off : Nat) (h : IsMap w m F) (hm : m ≠ none) (hT : TxAt w a b off P) (hP : P.length ≤ 1099511627776) (hS : ∀ y ∈ P, Short y)
    (hw : ∀ x ∈ F, (Lit.int .i64 x.f.high).wf = true) (hw2 : ∀ x ∈ F, x.f.high < 9223372036854775807) :
    Calls Tryz.prog 67 #[.map m, .slice a P.length cap] w fun e w' => e = .returned (.int .i64 (height (highI F P))) ∧ Below w.heap.size w w' := by
  rcases h with ⟨rfl, _⟩ | ⟨mb, rfl, h⟩
  · exact absurd rfl hm
  obtain ⟨nP, hnP⟩ : ∃ n : Nat, n = P.length := ⟨_, rfl⟩
  rw [← hnP] at hP ⊢
  replace hnP := Lib.hid hnP
  replace hT := Lib.hid hT
  replace h := Lib.hid h
  have hsz : Hid (∀ i, i < nP → ∃ y, P[i]? = some y ∧ Short y) := Lib.hid fun i hi => by
    have := hnP.out
    exact ⟨P[i], List.getElem?_eq_getElem (by omega), hS _ (List.getElem_mem (by omega))⟩
  have hst : Hid (∀ i y, P[i]? = some y → highI F (P.take (i + 1)) = highI F (P.take i) ++ [(atI F y).f.high]) := Lib.hid fun i y hy => by
    unfold highI
    rw [List.take_add_one, hy]
    simp
  have hlen : Hid (∀ i, i ≤ nP → (highI F (P.take i)).length = i) := Lib.hid fun i hi => by
    have := hnP.out
    unfold highI
    rw [List.length_map, List.length_take]; omega
  have hend : Hid (highI F (P.take nP) = highI F P ∧ (highI F P).length = nP) := Lib.hid ⟨by rw [hnP.out, List.take_length], by unfold highI; rw [List.length_map, hnP.out]⟩
  have hwf : Hid (∀ x ∈ highI F P, (Lit.int .i64 x).wf = true) := Lib.hid fun x hx => by
    obtain ⟨z, _, rfl⟩ := List.mem_map.1 hx
    exact atI_wf hw z
  have hsm : Hid (Ob.hgt (fun i => (highI F P)[i]?.getD 0) nP = height (highI F P)) := Lib.hid (by
    rw [← hend.out.2]
    refine hgt_height _ fun x hx => ?_
    obtain ⟨z, _, rfl⟩ := List.mem_map.1 hx
    exact atI_small hw hw2 z)
  clear hw hw2 hS
  obtain ⟨r, hr⟩ : ∃ r, r = height (highI F P) := ⟨_, rfl⟩
  rw [← hr] at hsm ⊢
  replace hr := Lib.hid hr
  go_enter Tryz.func67, Tryz.ntmps67
  go_upto_region 3 with (fail)
  go_loopw [5, 10] (fun v i wr => ∃ k : Nat, k ≤ nP ∧ i = .int .i64 k ∧ OwnN w.heap.size wr v (highI F (P.take k)) ∧ Below w.heap.size w wr) (fun _ i _ => nP - (intOf i).toNat)
  case atStart => exact ⟨0, Nat.zero_le _, rfl, by simpa [highI] using OwnN.nil _ _, Below.refl _ _⟩
  case round =>
    obtain ⟨k, hk, rfl, hown, hb⟩ := hrel
    by_cases hlt : k < nP
    · obtain ⟨y, hy, hys⟩ := hsz.out k hlt
      have hT2 := hT.out.below hb (fun h0 => hT.out.where_ h0)
      have hc := hT2.cell k y hy
      obtain rfl := hT.out.addr (by have := hnP.out; omega)
      have hM := h.out.next hb
      have hns := Lib.hid (hst.out k y hy)
      have hl2 : (highI F (P.take k)).length ≤ 1099511627776 := by rw [hlen.out k hk]; omega
      have hlt1 : (k : Int) < nP := by omega
      have hlt0 : 0 ≤ (k : Int) := by omega
      have hwk : wrap64 ((k : Int) + 1) = ((k + 1 : Nat) : Int) := wrap_next k (by omega)
      have hms : Hid (nP - (k + 1) < nP - k) := Lib.hid (by omega)
      have hkl : Hid (k + 1 ≤ nP) := Lib.hid hlt
      have hbs : Hid (w.heap.size ≤ wr.heap.size) := Lib.hid hb.size
      generalize highI F (P.take k) = N at *
      obtain ⟨x, hx⟩ : ∃ x, atI F y = x := ⟨_, rfl⟩
      rw [hx] at hns
      have hfl := field_high wr x.f.id x.f.high (.slice x.pa x.f.pars.length x.pc)
      obtain ⟨ga, gc, rfl⟩ := hown.box
      clear hT2 hlt hk hy
      go_wp2_with (first
        | (at_lookup; refine wp_look rfl _ _ rfl mb F rfl hM y rfl hys ?_; rw [hx]; dsimp only [Fx.val])
        | (at_builtin; refine wp_append_n rfl _ _ rfl w.heap.size (.slice ga N.length gc) N x.f.high rfl rfl hown hbs.out hl2 ?_; intro v' w' ho' hb')
        | go_in)
      go_roundw
      case measure => simp [intOf]; exact hms.out
      case rel => exact ⟨k + 1, hkl.out, by simp, by rw [hns.out]; exact ho', hb' _ hb⟩
    · obtain rfl : k = nP := by omega
      rw [hend.out.1] at hown
      obtain ⟨a2, c2, b2, o2, rfl, hI⟩ := hown.at_ hwf.out
      rw [hend.out.2] at hI ⊢
      have hH := Lib.hid (Ob.Height_calls a2 k c2 b2 o2 _ wr hI (by omega))
      rw [hsm.out] at hH
      have d0 : ¬ (k : Int) < k := by omega
      clear hI hlt
      go_wp2_with fail
      refine hH.out.mono ?_
      rintro e w' ⟨rfl, rfl⟩
      go_wp2
      go_ret
      exact ⟨rfl, hb⟩

/-! ### facts that are lacking -/
/-- whether some Id is none's -/
def lackI (F : List Fx) (P : List ByteArray) : Bool := P.any fun z => !hasI F z
theorem lack_step {F : List Fx} {P : List ByteArray} {i : Nat} {y : ByteArray} (h : P[i]? = some y) : lackI F (P.take (i + 1)) = (lackI F (P.take i) || !hasI F y) := by
  unfold lackI
  rw [List.take_add_one, h, List.any_append]
  simp
theorem lack_more {F : List Fx} {P : List ByteArray} {i : Nat} (h : lackI F (P.take i) = true) : lackI F P = true := by
  unfold lackI at h ⊢
  obtain ⟨z, hz, e⟩ := List.any_eq_true.1 h
  exact List.any_eq_true.2 ⟨z, List.mem_of_mem_take hz, e⟩
set_option maxRecDepth 100000 in
set_option maxHeartbeats 1000000 in
theorem IndexFunc_calls (w : World) (mb : Nat) (F : List Fx) (P : List ByteArray) (a : Option Addr) (cap b off : Nat) (h : MapOf w mb F) (hT : TxAt w a b off P) (hP : P.length ≤ 1099511627776) (hS : ∀ y ∈ P, Short y) :
    Calls Tryz.prog 88 #[.slice a P.length cap, .func (.func 46) #[.map (some mb)] #[]] w fun e w' => ∃ r : Int, e = .returned (.int .i64 r) ∧ decide (r ≥ 0) = lackI F P ∧ Below w.heap.size w w' := by
  obtain ⟨nP, hnP⟩ : ∃ n : Nat, n = P.length := ⟨_, rfl⟩
  rw [← hnP] at hP ⊢
  replace hnP := Lib.hid hnP
  replace hT := Lib.hid hT
  replace h := Lib.hid h
  have hsz : Hid (∀ i, i < nP → ∃ y, P[i]? = some y ∧ Short y) := Lib.hid fun i hi => by
    have := hnP.out
    exact ⟨P[i], List.getElem?_eq_getElem (by omega), hS _ (List.getElem_mem (by omega))⟩
  clear hS
  go_enter Tryz.func88, Tryz.ntmps88
  go_upto_region 2 with (fail)
  go_loopw [8] (fun i wr => ∃ k : Nat, k ≤ nP ∧ i = .int .i64 k ∧ lackI F (P.take k) = false ∧ Below w.heap.size w wr) (fun i _ => nP - (intOf i).toNat)
  case atStart => exact ⟨0, Nat.zero_le _, rfl, rfl, Below.refl _ _⟩
  case round =>
    obtain ⟨k, hk, rfl, hl, hb⟩ := hrel
    by_cases hlt : k < nP
    · obtain ⟨y, hy, hys⟩ := hsz.out k hlt
      have hT2 := hT.out.below hb (fun h0 => hT.out.where_ h0)
      have hc := hT2.cell k y hy
      obtain rfl := hT.out.addr (by have := hnP.out; omega)
      have hM := h.out.next hb
      have hst := Lib.hid (lack_step (F := F) hy)
      rw [hl, Bool.false_or] at hst
      have hmo := Lib.hid (lack_more (F := F) (P := P) (i := k + 1))
      have hlt1 : (k : Int) < nP := by omega
      have hlt0 : 0 ≤ (k : Int) := by omega
      have hwk : wrap64 ((k : Int) + 1) = ((k + 1 : Nat) : Int) := wrap_next k (by omega)
      have hms : Hid (nP - (k + 1) < nP - k) := Lib.hid (by omega)
      have hkl : Hid (k + 1 ≤ nP) := Lib.hid hlt
      have hL := Lib.hid (lacks_calls wr (some mb) F y (Or.inr ⟨mb, rfl, hM⟩) hys)
      generalize hx : (!hasI F y) = x at *
      clear hT2 hlt hk hy hM hl
      go_wp2_with fail
      refine hL.out.mono ?_
      rintro e w' ⟨rfl, hb'⟩
      have hb2 := b_next hb hb' (Nat.le_refl _)
      cases x with
      | false =>
        go_wp2
        go_roundw
        case measure => simp [intOf]; exact hms.out
        case rel => exact ⟨k + 1, hkl.out, by simp, hst.out, hb2⟩
      | true =>
        go_wp2
        go_ret
        exact ⟨_, rfl, by rw [hmo.out hst.out]; simp, hb2⟩
    · obtain rfl : k = nP := by omega
      have d0 : ¬ (k : Int) < k := by omega
      have he : Hid (lackI F P = false) := Lib.hid (by rw [hnP.out, List.take_length] at hl; exact hl)
      clear hlt hl
      go_wp2
      go_ret
      exact ⟨_, rfl, by rw [he.out]; rfl, hb⟩
set_option maxRecDepth 100000 in
theorem ContainsFunc_calls (w : World) (mb : Nat) (F : List Fx) (P : List ByteArray) (a : Option Addr) (cap b off : Nat) (h : MapOf w mb F) (hT : TxAt w a b off P) (hP : P.length ≤ 1099511627776) (hS : ∀ y ∈ P, Short y) :
    Calls Tryz.prog 66 #[.slice a P.length cap, .func (.func 46) #[.map (some mb)] #[]] w fun e w' => e = .returned (.bool (lackI F P)) ∧ Below w.heap.size w w' := by
  have hI := Lib.hid (IndexFunc_calls w mb F P a cap b off h hT hP hS)
  generalize lackI F P = x at *
  go_enter Tryz.func66, Tryz.ntmps66
  go_wp2_with fail
  refine hI.out.mono ?_
  rintro e w' ⟨r, rfl, hr, hb⟩
  cases x with
  | false =>
    have d : ¬ 0 ≤ r := by simpa using hr
    go_wp2
    go_ret
    exact ⟨rfl, hb⟩
  | true =>
    have d : 0 ≤ r := by simpa using hr
    go_wp2
    go_ret
    exact ⟨rfl, hb⟩
theorem any_all {F G : List Fx} {p : Fx → Bool} (h1 : ∀ y ∈ F, y ∈ G) (h2 : ∀ y ∈ G, p y = false) : F.any p = false := by
  rw [List.any_eq_false]; exact fun y hy => by rw [h2 y (h1 y hy)]; simp
set_option maxRecDepth 100000 in
set_option maxHeartbeats 1000000 in
/-- open: whether some fact of the map has a parent that isn't there -/
theorem open_calls (w : World) (mb : Nat) (F : List Fx) (h : MapOf w mb F) (hF : Facts w F) (hP : ∀ x ∈ F, x.f.pars.length ≤ 1000000) :
    Calls Tryz.prog 48 #[.map (some mb)] w fun e w' => e = .returned (.bool (F.any fun x => lackI F x.f.pars)) ∧ Below w.heap.size w w' := by
  replace hF := Lib.hid hF
  replace hP := Lib.hid hP
  obtain ⟨r, hr⟩ : ∃ r, r = F.any fun x => lackI F x.f.pars := ⟨_, rfl⟩
  rw [← hr]
  replace hr := Lib.hid hr
  go_enter Tryz.func48, Tryz.ntmps48
  go_wp2_with (first
    | (at_range; refine wp_range rfl _ rfl mb F rfl h ?_; intro w0 hrg0 hg0 hs0)
    | go_in)
  go_frame
  have hb0 : Below w.heap.size w w0 := (Below.refl _ _).grown hg0 (Nat.le_refl _) (fun j hj => by cases hj)
  go_loopw [] (fun wr => ∃ G c, RangeOf wr mb w.heap.size F G c ∧ Below w.heap.size w wr ∧ ∀ y ∈ G, lackI F y.f.pars = false) (fun wr => wr.rangeLeft mb w.heap.size)
  case atStart => exact ⟨[], _, hrg0, hb0, fun y hy => by simp at hy⟩
  case round =>
    obtain ⟨G, c, hrg, hb, hG⟩ := hrel
    clear hrg0 hg0 hs0 hb0 h
    go_wp2_with (first
      | (at_next; refine wp_next rfl _ rfl mb w.heap.size F G c rfl hrg ?_ ?_)
      | go_in)
    · intro hall
      have he : r = false := hr.out.trans (any_all hall hG)
      subst he
      go_wp2
      go_ret
      exact ⟨rfl, hb⟩
    · intro x w1 c1 hx hxG hrg1 hlt hg1 hs1 hen
      have hb1 : Below w.heap.size w w1 := hb.grown hg1 hb.size (fun j hj => by cases hj; exact Nat.le_refl _)
      obtain ⟨hp1, pb, po, hT⟩ := (hF.out.pars x hx).next (hb1.mono (Nat.le_refl _))
      have hC := Lib.hid fun w' (bb : Below w1.heap.size w1 w') => ContainsFunc_calls w' mb F x.f.pars x.pa x.pc pb po (hrg1.map.next bb) (hT.next bb) (by have := hP.out x hx; omega) (hF.out.par x hx)
      have hno : Hid (lackI F x.f.pars = true → r = true) := Lib.hid fun e => hr.out.trans (List.any_eq_true.2 ⟨x, hx, e⟩)
      have hye : Hid (lackI F x.f.pars = false → ∀ y ∈ G ++ [x], lackI F y.f.pars = false) := Lib.hid fun e y hy => by
        rcases List.mem_append.1 hy with hy | hy
        · exact hG y hy
        · rw [List.mem_singleton] at hy; subst hy; exact e
      replace hrg1 := Lib.hid hrg1
      have hle := Lib.hid hrg.left_eq
      replace hb1 := Lib.hid hb1
      replace hlt := Lib.hid hlt
      have hA := Lib.hid (b_alloc w1 (.cells #[.string x.f.id, .int .i64 x.f.high, .slice x.pa x.f.pars.length x.pc] 28))
      generalize lackI F x.f.pars = z at *
      clear hG hT hp1 hs1 hg1 hxG hx hb hrg
      dsimp only [Fx.val] at hen ⊢
      go_wp2_with fail
      refine (hC.out _ hA.out).mono ?_
      rintro e w2 ⟨rfl, b2⟩
      have bb := b_then hA.out b2
      have hb2 := b_next hb1.out bb (Nat.le_refl _)
      have hrg2 := hrg1.out.next bb
      clear hC
      cases z with
      | false =>
        have hG2 := hye.out rfl
        go_wp2
        go_roundw
        case measure => rw [hrg2.left_eq, hle.out]; exact hlt.out
        case rel => exact ⟨_, _, hrg2, hb2, hG2⟩
      | true =>
        obtain rfl := hno.out rfl
        go_wp2
        go_ret
        exact ⟨rfl, hb2⟩
/-- whether a fact's height is right among a map's -/
def okI (F : List Fx) (x : Fx) : Bool := decide (x.f.high = height (highI F x.f.pars))
theorem all_all {F G : List Fx} {p : Fx → Bool} (h1 : ∀ y ∈ F, y ∈ G) (h2 : ∀ y ∈ G, p y = true) : F.all p = true := by
  rw [List.all_eq_true]; exact fun y hy => h2 y (h1 y hy)
set_option maxRecDepth 100000 in
set_option maxHeartbeats 1000000 in
/-- right: whether all heights are right -/
theorem right_calls (w : World) (mb : Nat) (F : List Fx) (h : MapOf w mb F) (hF : Facts w F) (hP : ∀ x ∈ F, x.f.pars.length ≤ 1000000) (hw2 : ∀ x ∈ F, x.f.high < 9223372036854775807) :
    Calls Tryz.prog 49 #[.map (some mb)] w fun e w' => e = .returned (.bool (F.all (okI F))) ∧ Below w.heap.size w w' := by
  replace hF := Lib.hid hF
  replace hP := Lib.hid hP
  replace hw2 := Lib.hid hw2
  obtain ⟨r, hr⟩ : ∃ r, r = F.all (okI F) := ⟨_, rfl⟩
  rw [← hr]
  replace hr := Lib.hid hr
  go_enter Tryz.func49, Tryz.ntmps49
  go_wp2_with (first
    | (at_range; refine wp_range rfl _ rfl mb F rfl h ?_; intro w0 hrg0 hg0 hs0)
    | go_in)
  go_frame
  have hb0 : Below w.heap.size w w0 := (Below.refl _ _).grown hg0 (Nat.le_refl _) (fun j hj => by cases hj)
  go_loopw [] (fun wr => ∃ G c, RangeOf wr mb w.heap.size F G c ∧ Below w.heap.size w wr ∧ ∀ y ∈ G, okI F y = true) (fun wr => wr.rangeLeft mb w.heap.size)
  case atStart => exact ⟨[], _, hrg0, hb0, fun y hy => by simp at hy⟩
  case round =>
    obtain ⟨G, c, hrg, hb, hG⟩ := hrel
    clear hrg0 hg0 hs0 hb0 h
    go_wp2_with (first
      | (at_next; refine wp_next rfl _ rfl mb w.heap.size F G c rfl hrg ?_ ?_)
      | go_in)
    · intro hall
      have he : r = true := hr.out.trans (all_all hall hG)
      subst he
      go_wp2
      go_ret
      exact ⟨rfl, hb⟩
    · intro x w1 c1 hx hxG hrg1 hlt hg1 hs1 hen
      have hb1 : Below w.heap.size w w1 := hb.grown hg1 hb.size (fun j hj => by cases hj; exact Nat.le_refl _)
      obtain ⟨hp1, pb, po, hT⟩ := (hF.out.pars x hx).next (hb1.mono (Nat.le_refl _))
      have hC := Lib.hid fun w' (bb : Below w1.heap.size w1 w') => height_calls w' (some mb) F x.f.pars x.pa x.pc pb po (Or.inr ⟨mb, rfl, hrg1.map.next bb⟩) (fun e => by cases e) (hT.next bb) (by have := hP.out x hx; omega) (hF.out.par x hx) hF.out.wf hw2.out
      obtain ⟨z, hz⟩ : ∃ z, z = height (highI F x.f.pars) := ⟨_, rfl⟩
      rw [← hz] at hC
      have hno : Hid (¬ x.f.high = z → r = false) := Lib.hid fun e => hr.out.trans (by
        rw [List.all_eq_false]
        exact ⟨x, hx, by unfold okI; rw [← hz]; simpa using e⟩)
      have hye : Hid (x.f.high = z → ∀ y ∈ G ++ [x], okI F y = true) := Lib.hid fun e y hy => by
        rcases List.mem_append.1 hy with hy | hy
        · exact hG y hy
        · rw [List.mem_singleton] at hy; subst hy; unfold okI; rw [← hz]; simpa using e
      replace hz := Lib.hid hz
      replace hrg1 := Lib.hid hrg1
      have hle := Lib.hid hrg.left_eq
      replace hb1 := Lib.hid hb1
      replace hlt := Lib.hid hlt
      have hX := FxBlk.new w1 x
      have hA := Lib.hid (b_alloc w1 (.cells #[.string x.f.id, .int .i64 x.f.high, .slice x.pa x.f.pars.length x.pc] 28))
      clear hG hT hp1 hs1 hg1 hxG hx hb hrg
      dsimp only [Fx.val] at hen ⊢
      go_wp2_with fail
      generalize w1.alloc (.cells #[.string x.f.id, .int .i64 x.f.high, .slice x.pa x.f.pars.length x.pc] 28) = w2 at *
      have hB := b_then hA.out (b_drew1 w2)
      have hC1 := Lib.hid (hC.out _ hB)
      replace hX := Lib.hid (hX.next (b_drew1 w2))
      have hkeep : Hid (∀ w', Below w2.drew.heap.size w2.drew w' → w'.cell? ⟨w1.heap.size, 1, none⟩ = some (.int .i64 x.f.high) ∧ w'.cell? ⟨w1.heap.size, 2, none⟩ = some (.slice x.pa x.f.pars.length x.pc)) := Lib.hid fun w' b => ⟨(hX.out.next b).cell.2.1, (hX.out.next b).cell.2.2⟩
      have hk0 := hkeep.out _ (Below.refl _ _)
      clear hC
      go_region_held3 (fun w' => w'.cell? ⟨w1.heap.size, 1, none⟩ = some (.int .i64 x.f.high) ∧ w'.cell? ⟨w1.heap.size, 2, none⟩ = some (.slice x.pa x.f.pars.length x.pc)) (first | exact hk0 | exact hkeep.out _ b2)
        (first | (go_at_call 67; refine hC1.out.mono ?_; rintro e w3 ⟨rfl, b2⟩))
      all_goals
        have bb := b_then hB b2
        have hb2 := b_next hb1.out bb (Nat.le_refl _)
        have hrg2 := hrg1.out.next bb
        by_cases hq : x.f.high = z
        · have hG2 := hye.out hq
          subst hq
          go_wp2
          go_roundw
          case measure => rw [hrg2.left_eq, hle.out]; exact hlt.out
          case rel => exact ⟨_, _, hrg2, hb2, hG2⟩
        · obtain rfl := hno.out hq
          have hq1 : (x.f.high != z) = true := by simpa using hq
          go_wp2
          go_ret
          exact ⟨rfl, hb2⟩
end Go.Proofs.YtbjpogeemajhoaaGreat.Or
