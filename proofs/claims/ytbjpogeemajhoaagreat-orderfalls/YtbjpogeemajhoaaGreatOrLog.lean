/-
  order's history, Log, Above and Base answer what a list's facts say; old memory stays. Conditions: lists of no more than a hundred thousand, heights below the greatest int.
-/
import Derived.Test.YtbjpogeemajhoaaGreatRows
import Derived.Test.YtbjpogeemajhoaaGreatOrMap
import Derived.Test.YtbjpogeemajhoaaGreatOrHigh
import Derived.Test.YtbjpogeemajhoaaGreatOrMet
import Derived.Test.YtbjpogeemajhoaaGreatOrFall
import Derived.Test.YtbjpogeemajhoaaGreatOrSort
import Derived.Deep.Cut
namespace Go.Proofs.YtbjpogeemajhoaaGreat.Or
open Go Go.RowKit

/-! ### what a history's answer is -/
/-- the error of an Id -/
inductive IsCode (L : List Fct) (x : ByteArray) : Int → Prop
  | twice : ¬ Once L → IsCode L x 31
  | none : Once L → (∀ f ∈ L, f.id ≠ x) → IsCode L x 12
  | open_ {f : Fct} : Once L → f ∈ L → f.id = x → ¬ Whole L x → IsCode L x 21
  | order {f g : Fct} : Once L → f ∈ L → f.id = x → Whole L x → Met L x g → ¬ Right L g → IsCode L x 41
  | ok {f : Fct} : Once L → f ∈ L → f.id = x → Whole L x → (∀ g, Met L x g → Right L g) → IsCode L x 0
theorem IsCode.log {L : List Fct} {x : ByteArray} {n : Int} {F : List Fct} (h : IsCode L x n) (h0 : n ≠ 0 → F = []) (h1 : n = 0 → IsRow L x F) : IsLog L x n F := by
  cases h with
  | twice a => rw [h0 (by omega)]; exact .twice a
  | none a b => rw [h0 (by omega)]; exact .none a b
  | open_ a b c d => rw [h0 (by omega)]; exact .open_ a b c d
  | order a b c d e f => rw [h0 (by omega)]; exact .order a b c d e f
  | ok a b c d e => exact .ok a b c d e (h1 rfl)
theorem IsLog.code {L : List Fct} {x : ByteArray} {n : Int} {F : List Fct} (h : IsLog L x n F) : IsCode L x n ∧ (n ≠ 0 → F = []) ∧ (n = 0 → IsRow L x F) := by
  cases h with
  | twice a => exact ⟨.twice a, fun _ => rfl, fun e => by cases e⟩
  | none a b => exact ⟨.none a b, fun _ => rfl, fun e => by cases e⟩
  | open_ a b c d => exact ⟨.open_ a b c d, fun _ => rfl, fun e => by cases e⟩
  | order a b c d e f => exact ⟨.order a b c d e f, fun _ => rfl, fun e => by cases e⟩
  | ok a b c d e f => exact ⟨.ok a b c d e, fun h => absurd rfl h, fun _ => f⟩
/-- what a history holds: nothing where there is an error -/
structure Holds (L : List Fx) (x : ByteArray) (n : Int) (F : List Fx) : Prop where
  code : IsCode (plain L) x n
  bad : n ≠ 0 → F = []
  ok : n = 0 → ∀ y, y ∈ F ↔ y ∈ L ∧ Met (plain L) x y.f
theorem Holds.sub {L : List Fx} {x : ByteArray} {n : Int} {F : List Fx} (h : Holds L x n F) : ∀ y ∈ F, y ∈ L := fun y hy => by
  by_cases e : n = 0
  · exact ((h.ok e y).1 hy).1
  · rw [h.bad e] at hy; simp at hy
theorem Holds.log {L : List Fx} {x : ByteArray} {n : Int} {F G : List Fx} (h : Holds L x n F) (hp : G.Perm F) (hf : G.Pairwise fun a b => under b.f a.f) : IsLog (plain L) x n (plain G) := by
  refine h.code.log (fun e => ?_) (fun e => ⟨?_, fun f => ?_⟩)
  · rw [h.bad e, List.perm_nil] at hp
    rw [hp]; rfl
  · rw [List.pairwise_map]; exact hf
  · rw [List.mem_map]
    constructor
    · rintro ⟨y, hy, rfl⟩
      exact ((h.ok e y).1 (hp.mem_iff.1 hy)).2
    · intro hm
      obtain ⟨y, hy, rfl⟩ := List.mem_map.1 hm.mem
      exact ⟨y, hp.mem_iff.2 ((h.ok e y).2 ⟨hy, hm⟩), rfl⟩
theorem whole_lack {L F : List Fx} {x : ByteArray} (hF : ∀ y, y ∈ F ↔ y ∈ L ∧ Met (plain L) x y.f) : (F.any fun y => lackI F y.f.pars) = false ↔ Whole (plain L) x := by
  rw [List.any_eq_false]
  constructor
  · intro h f hf z hz
    obtain ⟨y, hy, rfl⟩ := List.mem_map.1 hf.mem
    have := h y ((hF y).2 ⟨hy, hf⟩)
    simp only [Bool.not_eq_true] at this
    unfold lackI at this
    rw [List.any_eq_false] at this
    have := this z hz
    simp only [Bool.not_eq_true, Bool.not_eq_false'] at this
    obtain ⟨g, hg, e⟩ := hasI_iff.1 this
    exact ⟨g.f, List.mem_map.2 ⟨g, ((hF g).1 hg).1, rfl⟩, e⟩
  · intro h y hy
    simp only [Bool.not_eq_true]
    unfold lackI
    rw [List.any_eq_false]
    intro z hz
    simp only [Bool.not_eq_true, Bool.not_eq_false']
    obtain ⟨hyL, hm⟩ := (hF y).1 hy
    obtain ⟨g, hg, e⟩ := h y.f hm z hz
    obtain ⟨q, hq, rfl⟩ := List.mem_map.1 hg
    exact hasI_iff.2 ⟨q, (hF q).2 ⟨hq, .next hm hg (by rw [e]; exact hz)⟩, e⟩
theorem highs_eq {L F : List Fx} {x : ByteArray} (ho : Once (plain L)) (hnF : (F.map fun y => y.f.id).Nodup) (hF : ∀ y, y ∈ F ↔ y ∈ L ∧ Met (plain L) x y.f) (hw : Whole (plain L) x) {y : Fx} (hy : y ∈ F) : highI F y.f.pars = highs (plain L) y.f.pars := by
  unfold highI highs
  refine List.map_congr_left fun z hz => ?_
  obtain ⟨hyL, hm⟩ := (hF y).1 hy
  obtain ⟨g, hg, e⟩ := hw y.f hm z hz
  obtain ⟨q, hq, rfl⟩ := List.mem_map.1 hg
  have hqF := (hF q).2 ⟨hq, .next hm hg (by rw [e]; exact hz)⟩
  unfold atI
  rw [← e, fnd_mem hnF hqF, find_fact ho hg]
  rfl
theorem right_ok {L F : List Fx} {x : ByteArray} (ho : Once (plain L)) (hnF : (F.map fun y => y.f.id).Nodup) (hF : ∀ y, y ∈ F ↔ y ∈ L ∧ Met (plain L) x y.f) (hw : Whole (plain L) x) : F.all (okI F) = true ↔ ∀ g, Met (plain L) x g → Right (plain L) g := by
  rw [List.all_eq_true]
  constructor
  · intro h g hg
    obtain ⟨y, hy, rfl⟩ := List.mem_map.1 hg.mem
    have hyF := (hF y).2 ⟨hy, hg⟩
    have := h y hyF
    unfold okI at this
    rw [decide_eq_true_eq, highs_eq ho hnF hF hw hyF] at this
    exact this
  · intro h y hy
    unfold okI
    rw [decide_eq_true_eq, highs_eq ho hnF hF hw hy]
    exact h y.f ((hF y).1 hy).2
/-- the conditions on a list -/
structure Fine (w : World) (a : Option Addr) (b off : Nat) (L : List Fx) : Prop where
  at_ : FxsAt w a b off L
  facts : Facts w L
  few : L.length ≤ 100000
  pars : ∀ x ∈ L, x.f.pars.length ≤ 100000
  high : ∀ x ∈ L, x.f.high < 9223372036854775807
theorem Fine.next {w w' : World} {a : Option Addr} {b off : Nat} {L : List Fx} (h : Fine w a b off L) (t : Below w.heap.size w w') : Fine w' a b off L := ⟨h.at_.next t, h.facts.next t, h.few, h.pars, h.high⟩
set_option maxRecDepth 100000 in
set_option maxHeartbeats 2000000 in
/-- history -/
theorem history_calls (w : World) (a : Option Addr) (cap b off : Nat) (L : List Fx) (x : ByteArray) (h : Fine w a b off L) (hx : Short x) :
    Calls Tryz.prog 21 #[.slice a L.length cap, .string x] w fun e w' => ∃ n m F, e = .returned (.tuple #[.map m, .int .i64 n]) ∧ IsMap w' m F ∧ Holds L x n F ∧ Below w.heap.size w w' := by
  have hT := Lib.hid (told_calls w a cap b off L h.at_ h.facts h.few)
  have hfin := Lib.hid h
  generalize L.length = nL at *
  clear h
  go_enter Tryz.func21, Tryz.ntmps21
  go_wp2_with fail
  refine hT.out.mono ?_
  rintro e w1 ⟨(⟨hno, rfl⟩ | ⟨ho, mb, rfl, hM, hmb⟩), b1⟩
  · replace hno := Lib.hid hno
    clear hT
    go_wp2
    go_ret2
    exact ⟨31, none, [], rfl, Or.inl ⟨rfl, rfl⟩, ⟨.twice hno.out, fun _ => rfl, fun e => by cases e⟩, b1⟩
  · have hL := Lib.hid (lacks_calls w1 (some mb) L x (Or.inr ⟨mb, rfl, hM⟩) hx)
    replace hM := Lib.hid hM
    replace ho := Lib.hid ho
    replace b1 := Lib.hid b1
    clear hT hmb
    go_wp2_with fail
    refine hL.out.mono ?_
    rintro e w2 ⟨rfl, b2⟩
    replace hM := Lib.hid (hM.out.next b2)
    replace b1 := Lib.hid (b_then b1.out b2)
    clear hL b2
    cases hh : hasI L x with
    | false =>
      have hn : Hid (∀ f ∈ plain L, f.id ≠ x) := Lib.hid fun f hf => by
        obtain ⟨y, hy, rfl⟩ := List.mem_map.1 hf
        exact hasI_false.1 hh y hy
      clear hh
      go_wp2
      go_ret2
      exact ⟨12, none, [], rfl, Or.inl ⟨rfl, rfl⟩, ⟨.none ho.out hn.out, fun _ => rfl, fun e => by cases e⟩, b1.out⟩
    | true =>
      obtain ⟨y0, hy0, hy0x⟩ := hasI_iff.1 hh
      have hy : Hid (y0.f ∈ plain L ∧ y0.f.id = x) := Lib.hid ⟨List.mem_map.2 ⟨y0, hy0, rfl⟩, hy0x⟩
      have hMt := Lib.hid (met_calls w2 mb L x hM.out (hfin.out.facts.next b1.out) hfin.out.pars hfin.out.few hh hx)
      clear hh hy0 hy0x
      go_wp2_with fail
      refine hMt.out.mono ?_
      rintro e w3 ⟨m2, F, rfl, hM3, hF3, -, b3⟩
      have hsub : ∀ y ∈ F, y ∈ L := fun y hy => ((hF3 y).1 hy).1
      have b13 := b_then b1.out b3
      have hFa := (hfin.out.facts.next b13).sub hsub
      have hOp := Lib.hid (open_calls w3 m2 F hM3 hFa (fun y hy => Nat.le_trans (hfin.out.pars y (hsub y hy)) (by omega)))
      have hRi := Lib.hid fun w' (bb : Below w3.heap.size w3 w') => right_calls w' m2 F (hM3.next bb) (hFa.next bb) (fun y hy => Nat.le_trans (hfin.out.pars y (hsub y hy)) (by omega)) (fun y hy => hfin.out.high y (hsub y hy))
      have hWh := Lib.hid (whole_lack hF3)
      have hRt := Lib.hid (right_ok ho.out hM3.nodup hF3)
      replace hF3 := Lib.hid hF3
      replace hM3 := Lib.hid hM3
      replace b13 := Lib.hid b13
      clear hMt hsub hFa b3 b1 hM
      go_wp2_with fail
      refine hOp.out.mono ?_
      rintro e w4 ⟨rfl, b4⟩
      have hRi4 := Lib.hid (hRi.out w4 b4)
      replace hM3 := Lib.hid (hM3.out.next b4)
      replace b13 := Lib.hid (b_then b13.out b4)
      clear hOp hRi b4
      cases hz : F.any fun y => lackI F y.f.pars with
      | true =>
        have hnw : Hid (¬ Whole (plain L) x) := Lib.hid fun hw => by rw [hWh.out.2 hw] at hz; cases hz
        clear hz
        go_wp2
        go_ret2
        exact ⟨21, none, [], rfl, Or.inl ⟨rfl, rfl⟩, ⟨.open_ ho.out hy.out.1 hy.out.2 hnw.out, fun _ => rfl, fun e => by cases e⟩, b13.out⟩
      | false =>
        have hw := Lib.hid (hWh.out.1 hz)
        clear hz
        go_wp2_with fail
        refine hRi4.out.mono ?_
        rintro e w5 ⟨rfl, b5⟩
        have hM5 := Lib.hid (hM3.out.next b5)
        have b15 := Lib.hid (b_then b13.out b5)
        clear hRi4 b5 hM3 b13
        cases hz : F.all (okI F) with
        | false =>
          have hne : Hid (∃ g, Met (plain L) x g ∧ ¬ Right (plain L) g) := Lib.hid (Classical.byContradiction fun hno => by
            have : F.all (okI F) = true := (hRt.out hw.out).2 fun g hg => Classical.byContradiction fun k => hno ⟨g, hg, k⟩
            rw [this] at hz; cases hz)
          clear hz
          go_wp2
          go_ret2
          obtain ⟨g, hg1, hg2⟩ := hne.out
          exact ⟨41, none, [], rfl, Or.inl ⟨rfl, rfl⟩, ⟨.order ho.out hy.out.1 hy.out.2 hw.out hg1 hg2, fun _ => rfl, fun e => by cases e⟩, b15.out⟩
        | true =>
          have hall := Lib.hid ((hRt.out hw.out).1 hz)
          clear hz
          go_wp2
          go_ret2
          exact ⟨0, some m2, F, rfl, Or.inr ⟨m2, rfl, hM5.out⟩, ⟨.ok ho.out hy.out.1 hy.out.2 hw.out hall.out, fun e => absurd rfl e, fun _ => hF3.out⟩, b15.out⟩
theorem IsCode.unique {L : List Fct} {x : ByteArray} {n m : Int} (h : IsCode L x n) (g : IsCode L x m) : n = m := by
  cases h with
  | twice h => cases g with
    | twice _ => rfl
    | none g _ => exact absurd g h
    | open_ g => exact absurd g h
    | order g => exact absurd g h
    | ok g => exact absurd g h
  | none h h2 => cases g with
    | twice g => exact absurd h g
    | none _ _ => rfl
    | open_ _ g1 g2 => exact absurd g2 (h2 _ g1)
    | order _ g1 g2 => exact absurd g2 (h2 _ g1)
    | ok _ g1 g2 => exact absurd g2 (h2 _ g1)
  | open_ h h1 h2 h3 => cases g with
    | twice g => exact absurd h g
    | none _ g => exact absurd h2 (g _ h1)
    | open_ => rfl
    | order _ _ _ g => exact absurd g h3
    | ok _ _ _ g => exact absurd g h3
  | order h h1 h2 h3 h4 h5 => cases g with
    | twice g => exact absurd h g
    | none _ g => exact absurd h2 (g _ h1)
    | open_ _ _ _ g => exact absurd h3 g
    | order => rfl
    | ok _ _ _ _ g => exact absurd (g _ h4) h5
  | ok h h1 h2 h3 h4 => cases g with
    | twice g => exact absurd h g
    | none _ g => exact absurd h2 (g _ h1)
    | open_ _ _ _ g => exact absurd h3 g
    | order _ _ _ _ g1 g2 => exact absurd (h4 _ g1) g2
    | ok => rfl
/-- whether an Id is among facts' -/
def inIds (G : List Fct) (s : ByteArray) : Bool := G.any fun f => decide (f.id = s)
theorem Holds.has {L : List Fx} {x : ByteArray} {n : Int} {F : List Fx} (h : Holds L x n F) (s : ByteArray) {G : List Fct} (hG : IsLog (plain L) x n G) : hasI F s = inIds G s := by
  obtain ⟨_, g0, g1⟩ := hG.code
  by_cases e : n = 0
  · rw [Bool.eq_iff_iff, hasI_iff]
    unfold inIds
    rw [List.any_eq_true]
    constructor
    · rintro ⟨y, hy, rfl⟩
      exact ⟨y.f, ((g1 e).mem y.f).2 ((h.ok e y).1 hy).2, by simp⟩
    · rintro ⟨f, hf, hs⟩
      have hm := ((g1 e).mem f).1 hf
      obtain ⟨y, hy, rfl⟩ := List.mem_map.1 hm.mem
      exact ⟨y, (h.ok e y).2 ⟨hy, hm⟩, by simpa using hs⟩
  · rw [h.bad e, g0 e]; rfl
theorem map_len {w : World} {m : Option Nat} {F L : List Fx} (h : IsMap w m F) (hs : ∀ y ∈ F, y ∈ L) (hl : L.length ≤ 100000) : F.length ≤ 1000000 := by
  have := fxs_len h.nodup hs
  omega
theorem plain_ids (G : List Fx) : (plain G).map Fct.id = G.map fun y => y.f.id := by unfold plain; rw [List.map_map]; rfl
set_option maxRecDepth 100000 in
set_option maxHeartbeats 2000000 in
/-- Log -/
theorem Log_calls (w : World) (a : Option Addr) (cap b off : Nat) (L : List Fx) (x : ByteArray) (h : Fine w a b off L) (hx : Short x) :
    Calls Tryz.prog 6 #[.slice a L.length cap, .string x] w fun e w' => ∃ v n G, e = .returned (.tuple #[v, .int .i64 n]) ∧ IsLog (plain L) x n G ∧ OwnT w.heap.size w' v (G.map Fct.id) ∧ Below w.heap.size w w' := by
  have hH := Lib.hid (history_calls w a cap b off L x h hx)
  have hl := Lib.hid fun (F : List Fx) (h1 : (F.map fun y => y.f.id).Nodup) (h2 : ∀ y ∈ F, y ∈ L) => Nat.le_trans (fxs_len h1 h2) h.few
  generalize L.length = nL at *
  clear h
  go_enter Tryz.func6, Tryz.ntmps6
  go_wp2_with fail
  refine hH.out.mono ?_
  rintro e w1 ⟨n, m, F, rfl, hM, hHo, b1⟩
  have hFa := Lib.hid (falling_calls w1 m F hM (by have := hl.out F hM.nodup hHo.sub; omega))
  replace hHo := Lib.hid hHo
  replace b1 := Lib.hid b1
  clear hM hH
  go_wp2_with fail
  refine hFa.out.mono ?_
  rintro e w2 ⟨v, rfl, G, hO, hP, hf, b2⟩
  have hlog := Lib.hid (hHo.out.log hP hf)
  have hO2 := Lib.hid (hO.mono b1.out.size)
  have bb := Lib.hid (b_then b1.out b2)
  clear hFa hO hP hf b2 b1 hHo
  obtain ⟨va, vc, rfl⟩ := hO2.out.box
  rw [List.length_map] at hO2
  go_wp2
  go_ret2
  exact ⟨_, n, plain G, rfl, hlog.out, by rw [plain_ids]; exact hO2.out, bb.out⟩
set_option maxRecDepth 100000 in
set_option maxHeartbeats 2000000 in
/-- Above -/
theorem Above_calls (w : World) (a : Option Addr) (cap b off : Nat) (L : List Fx) (x y : ByteArray) (h : Fine w a b off L) (hx : Short x) (hy : Short y) :
    Calls Tryz.prog 14 #[.slice a L.length cap, .string x, .string y] w fun e w' => ∃ r n, e = .returned (.tuple #[.bool r, .int .i64 n]) ∧ IsCode (plain L) x n ∧ (∀ G, IsLog (plain L) x n G → r = (decide (x ≠ y) && inIds G y)) ∧ Below w.heap.size w w' := by
  have hH := Lib.hid (history_calls w a cap b off L x h hx)
  generalize L.length = nL at *
  clear h
  by_cases hxy : x = y
  · subst hxy
    have e1 : (x.toList == x.toList) = true := str_eq rfl
    go_enter Tryz.func14, Tryz.ntmps14
    go_wp2_with fail
    refine hH.out.mono ?_
    rintro e w1 ⟨n, m, F, rfl, hM, hHo, b1⟩
    replace hHo := Lib.hid hHo
    clear hM hH
    go_wp2
    go_ret2
    exact ⟨_, n, rfl, hHo.out.code, fun G hG => by simp, b1⟩
  · have e1 := str_ne hxy
    have hne : Hid (decide (x ≠ y) = true) := Lib.hid (by simpa using hxy)
    go_enter Tryz.func14, Tryz.ntmps14
    go_wp2_with fail
    refine hH.out.mono ?_
    rintro e w1 ⟨n, m, F, rfl, hM, hHo, b1⟩
    have hHa := Lib.hid (has_calls w1 m F y hM hy)
    replace hHo := Lib.hid hHo
    replace b1 := Lib.hid b1
    clear hM hH hxy
    go_wp2_with fail
    refine hHa.out.mono ?_
    rintro e w2 ⟨rfl, b2⟩
    have bb := Lib.hid (b_then b1.out b2)
    clear hHa b2 b1
    go_wp2
    go_ret2
    exact ⟨_, n, rfl, hHo.out.code, fun G hG => by rw [hne.out, Bool.true_and]; exact hHo.out.has y hG, bb.out⟩
/-- the first of one log's Ids that is among another one's -/
def firstOf (G K : List Fct) : ByteArray := ((G.find? fun f => inIds K f.id).map Fct.id).getD ⟨#[]⟩
/-- where two meet -/
inductive IsBase (L : List Fct) (x y : ByteArray) : Int → ByteArray → Prop
  | bad1 {n : Int} : IsCode L x n → n ≠ 0 → IsBase L x y n ⟨#[]⟩
  | bad2 {n : Int} : IsCode L x 0 → IsCode L y n → n ≠ 0 → IsBase L x y n ⟨#[]⟩
  | ok {G : List Fct} {s : ByteArray} : IsLog L x 0 G → IsCode L y 0 → (∀ K, IsLog L y 0 K → s = firstOf G K) → IsBase L x y 0 s
theorem firstOf_step {G K : List Fct} {F : List Fx} {k : Nat} {f : Fct} (hin : ∀ s, hasI F s = inIds K s) (h0 : ∀ g ∈ G.take k, hasI F g.id = false) (hk : G[k]? = some f) (hf : hasI F f.id = true) : f.id = firstOf G K := by
  unfold firstOf
  have hsplit : G = G.take k ++ f :: G.drop (k + 1) := by
    have hk' := (List.getElem?_eq_some_iff.1 hk)
    obtain ⟨hlt, e⟩ := hk'
    rw [← e, List.getElem_cons_drop, List.take_append_drop]
  rw [hsplit, List.find?_append]
  have h1 : (G.take k).find? (fun f => inIds K f.id) = none := by
    rw [List.find?_eq_none]
    intro g hg
    rw [← hin, h0 g hg]; simp
  rw [h1, List.find?_cons, ← hin, hf]
  rfl
theorem firstOf_none {G K : List Fct} {F : List Fx} (hin : ∀ s, hasI F s = inIds K s) (h0 : ∀ g ∈ G, hasI F g.id = false) : (⟨#[]⟩ : ByteArray) = firstOf G K := by
  unfold firstOf
  have h1 : G.find? (fun f => inIds K f.id) = none := by
    rw [List.find?_eq_none]
    intro g hg
    rw [← hin, h0 g hg]; simp
  rw [h1]; rfl
set_option maxRecDepth 100000 in
set_option maxHeartbeats 2000000 in
/-- Base -/
theorem Base_calls (w : World) (a : Option Addr) (cap b off : Nat) (L : List Fx) (x y : ByteArray) (h : Fine w a b off L) (hx : Short x) (hy : Short y) :
    Calls Tryz.prog 15 #[.slice a L.length cap, .string x, .string y] w fun e w' => ∃ s n, e = .returned (.tuple #[.string s, .int .i64 n]) ∧ IsBase (plain L) x y n s ∧ Below w.heap.size w w' := by
  have hH := Lib.hid (history_calls w a cap b off L x h hx)
  have hH2 := Lib.hid fun w' (bb : Below w.heap.size w w') => history_calls w' a cap b off L y (h.next bb) hy
  have hl := Lib.hid fun (F : List Fx) (h1 : (F.map fun y => y.f.id).Nodup) (h2 : ∀ y ∈ F, y ∈ L) => Nat.le_trans (fxs_len h1 h2) h.few
  have hsh := Lib.hid h.facts.id
  generalize L.length = nL at *
  clear h
  go_enter Tryz.func15, Tryz.ntmps15
  go_wp2_with fail
  refine hH.out.mono ?_
  rintro e w1 ⟨n, m, F, rfl, hM, hHo, b1⟩
  have hH3 := Lib.hid (hH2.out w1 b1)
  replace hHo := Lib.hid hHo
  replace hM := Lib.hid hM
  replace b1 := Lib.hid b1
  clear hH hH2
  by_cases h0 : n = 0
  · subst h0
    go_wp2_with fail
    refine hH3.out.mono ?_
    rintro e w2 ⟨n, m2, F2, rfl, hM2, hHo2, b2⟩
    replace hM := Lib.hid (hM.out.next b2)
    replace hM2 := Lib.hid hM2
    replace hHo2 := Lib.hid hHo2
    replace b1 := Lib.hid (b_then b1.out b2)
    clear hH3 b2
    by_cases h0 : n = 0
    · subst h0
      have hFa := Lib.hid (falling_calls w2 m F hM.out (by have := hl.out F hM.out.nodup hHo.out.sub; omega))
      go_wp2_with fail
      refine hFa.out.mono ?_
      rintro e w3 ⟨v, rfl, G, hO, hP, hf, b3⟩
      have hlog := Lib.hid (hHo.out.log hP hf)
      have hGs : Hid (∀ g ∈ G, Short g.f.id) := Lib.hid fun g hg => hsh.out g (hHo.out.sub g (hP.mem_iff.1 hg))
      obtain ⟨va, vc, vb, vo, rfl, hT, -, hvb⟩ := hO.at_
      rw [List.length_map] at hvb ⊢
      replace hT := Lib.hid hT
      replace hM2 := Lib.hid (hM2.out.next b3)
      replace b1 := Lib.hid (b_then b1.out b3)
      have hGl : G.length ≤ 100000 := by rw [hP.length_eq]; exact hl.out F hM.out.nodup hHo.out.sub
      obtain ⟨ng, hng⟩ : ∃ n : Nat, n = G.length := ⟨_, rfl⟩
      rw [← hng] at hGl ⊢
      replace hng := Lib.hid hng
      have hcell : Hid (∀ k, k < ng → ∃ g, G[k]? = some g) := Lib.hid fun k hk => by
        have := hng.out
        exact ⟨G[k], List.getElem?_eq_getElem (by omega)⟩
      clear hFa hO hP hf b3 hM hvb
      go_upto_region 8 with (fail)
      go_loopw [34] (fun i wr => ∃ k : Nat, k ≤ ng ∧ i = .int .i64 k ∧ (∀ g ∈ (plain G).take k, hasI F2 g.id = false) ∧ Below w3.heap.size w3 wr) (fun i _ => ng - (intOf i).toNat)
      case atStart => exact ⟨0, Nat.zero_le _, rfl, fun g hg => by simp at hg, Below.refl _ _⟩
      case round =>
        obtain ⟨k, hk, rfl, hno, hbr⟩ := hrel
        by_cases hlt : k < ng
        · obtain ⟨g, hg⟩ := hcell.out k hlt
          have hT2 := hT.out.below hbr (fun h0 => hT.out.where_ h0)
          have c0 := hT2.cell k g.f.id (by rw [List.getElem?_map, hg]; rfl)
          obtain rfl := hT.out.addr (by rw [List.length_map]; have := hng.out; omega)
          have hgs := hGs.out g (List.mem_of_getElem? hg)
          have hgk : Hid ((plain G)[k]? = some g.f) := Lib.hid (by unfold plain; rw [List.getElem?_map, hg]; rfl)
          have hlt1 : (k : Int) < ng := by omega
          have hlt0 : 0 ≤ (k : Int) := by omega
          have hwk : wrap64 ((k : Int) + 1) = ((k + 1 : Nat) : Int) := wrap_next k (by omega)
          have hms : Hid (ng - (k + 1) < ng - k) := Lib.hid (by omega)
          have hkl : Hid (k + 1 ≤ ng) := Lib.hid hlt
          have hHa := Lib.hid (has_calls wr m2 F2 g.f.id (hM2.out.next (hbr.mono (Nat.le_refl _))) hgs)
          replace hno := Lib.hid hno
          replace hbr := Lib.hid hbr
          clear hT2 hlt hk hg
          go_wp2_with fail
          refine hHa.out.mono ?_
          rintro e w4 ⟨rfl, b4⟩
          have hbr4 := Lib.hid (b_next hbr.out b4 (Nat.le_refl _))
          clear hHa b4 hbr c0
          cases hz : hasI F2 g.f.id with
          | true =>
            have hfin : Hid (∀ K, IsLog (plain L) y 0 K → g.f.id = firstOf (plain G) K) := Lib.hid fun K hK => firstOf_step (fun s => hHo2.out.has s hK) hno.out hgk.out hz
            have bb := Lib.hid (b1.out.trans (hbr4.out.mono b1.out.size))
            clear hz
            go_wp2
            go_ret2
            exact ⟨g.f.id, 0, rfl, .ok hlog.out hHo2.out.code hfin.out, bb.out⟩
          | false =>
            have hno2 : Hid (∀ q ∈ (plain G).take (k + 1), hasI F2 q.id = false) := Lib.hid fun q hq => by
              rw [List.take_add_one, hgk.out] at hq
              rcases List.mem_append.1 hq with hq | hq
              · exact hno.out q hq
              · simp at hq; subst hq; exact hz
            clear hz
            go_wp2
            go_roundw
            case measure => simp [intOf]; exact hms.out
            case rel => exact ⟨k + 1, hkl.out, by simp, hno2.out, hbr4.out⟩
        · obtain rfl : k = ng := by omega
          have d0 : ¬ (k : Int) < k := by omega
          have hfin : Hid (∀ K, IsLog (plain L) y 0 K → (⟨#[]⟩ : ByteArray) = firstOf (plain G) K) := Lib.hid fun K hK => firstOf_none (fun s => hHo2.out.has s hK) fun q hq => hno q (by
            rw [show k = (plain G).length by unfold plain; rw [List.length_map]; exact hng.out, List.take_length]; exact hq)
          have bb := Lib.hid (b1.out.trans (hbr.mono b1.out.size))
          clear hlt hno
          go_wp2
          go_ret2
          exact ⟨_, 0, rfl, .ok hlog.out hHo2.out.code hfin.out, bb.out⟩
    · have hne : (n != 0) = true := by simpa using h0
      replace h0 := Lib.hid h0
      go_wp2
      go_ret2
      exact ⟨_, n, rfl, .bad2 hHo.out.code hHo2.out.code h0.out, b1.out⟩
  · have hne : (n != 0) = true := by simpa using h0
    replace h0 := Lib.hid h0
    clear hH3
    go_wp2
    go_ret2
    exact ⟨_, n, rfl, .bad1 hHo.out.code h0.out, b1.out⟩
end Go.Proofs.YtbjpogeemajhoaaGreat.Or
