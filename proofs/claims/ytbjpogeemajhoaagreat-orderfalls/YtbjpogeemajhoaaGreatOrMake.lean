/-
  Commits made of numbers, as the law makes them (grown). Conditions: none.
-/
import Derived.Test.YtbjpogeemajhoaaGreatRows
import Derived.Test.YtbjpogeemajhoaaGreatOrGrow
import Derived.Test.YtbjpogeemajhoaaGreatOrHgt
import Derived.Test.YtbjpogeemajhoaaGreatOrHigh
import Derived.Test.YtbjpogeemajhoaaGreatOrFall
import Derived.Test.YtbjpogeemajhoaaGreatOrRefB
import Derived.Test.YtbjpogeemajhoaaGreatOrBest
import Derived.Test.YtbjpogeemajhoaaGreatShIter
import Derived.Test.YtbjpogeemajhoaaGreatShList
import Derived.Test.YtbjpogeemajhoaaGreatRelReg
import Derived.Test.YtbjpogeemajhoaaGreatRelLate
import Derived.Maps.AppendAt
import Derived.Laws.Tables
import Derived.Lib.ConvBytes
import Derived.Laws.BytesArg
import Derived.Deep.Cut
import Derived.Deep.LoopGhost
import Derived.Deep.RegionHeld3
namespace Go.Proofs.YtbjpogeemajhoaaGreat.Or
open Go Go.RowKit
open Sh (Rises ins mem_ins rises_ins rises_tail)

theorem ins_mem {x y : ByteArray} : ∀ {l : List ByteArray}, Rises l → (y ∈ ins x l ↔ y = x ∨ y ∈ l)
  | [], _ => by simp [ins]
  | a :: r, h => by
    refine ⟨mem_ins, fun hy => ?_⟩
    unfold ins
    split
    · simpa using hy
    · split
      · rcases hy with hy | hy
        · exact List.mem_cons.2 (Or.inr ((ins_mem (rises_tail h)).2 (Or.inl hy)))
        · rcases List.mem_cons.1 hy with hy | hy
          · simp [hy]
          · exact List.mem_cons.2 (Or.inr ((ins_mem (rises_tail h)).2 (Or.inr hy)))
      · next h1 h2 =>
        have he : x = a := by
          rcases Sh.Key.tri x a with g | g | g
          · exact (h1 g).elim
          · exact g
          · exact (h2 g).elim
        subst he
        rcases hy with hy | hy
        · simp [hy]
        · simpa using hy
/-- rows of different things lie apart -/
theorem own_apart {W : World} {B B' : Nat} {e e' : TypeId} {s s' n n' : Nat} {v v' : Value} {xs xs' : List Value} (h : W.ownsRow B e s v n xs) (h' : W.ownsRow B' e' s' v' n' xs') (hne : e ≠ e') : v.ownBlock = none ∨ v.ownBlock ≠ v'.ownBlock := by
  rcases h.2 with ⟨rfl, _⟩ | ⟨g, cap, cur, rfl, _, hg, _⟩
  · exact Or.inl rfl
  · refine Or.inr fun e1 => ?_
    rcases h'.2 with ⟨rfl, _⟩ | ⟨g', cap', cur', rfl, _, hg', _⟩
    · cases e1
    · simp only [Value.ownBlock, Option.some.injEq] at e1
      subst e1
      rw [hg] at hg'
      simp only [Option.some.injEq, Go.Obj.cells.injEq] at hg'
      exact hne hg'.2.1
/-- append(facts, x): the row is had too as it was -/
theorem append_stays {w : World} {B b : Nat} {v : Value} {G : List Fx} {l : Fx} {ty : TypeId} (hown : OwnX B w v G) (hnew : ∀ (j : Nat) (u : Value), l.cells[j]? = some u → w.cell? ((⟨b, 0, none⟩ : Addr).add j) = some u) (hB : B ≤ w.heap.size) (hlen : G.length ≤ 1000000) :
    ∃ v' w', (Builtin.append_ #[24, 24] ty #[v, .slice (some ⟨b, 0, none⟩) 1 1]).run Tryz.prog w = .ok v' w' ∧ OwnX B w' v' (G ++ [l]) ∧ OwnX B w' v G ∧ w.grownBy w' v.ownBlock := by
  obtain ⟨i0, hi, hz0, hz1, hz2⟩ := info_parts infoFct
  have h1 : ∀ u ∈ l.cells, u.oneCell' = true := fun u hu => by
    simp [Fx.cells] at hu
    rcases hu with rfl | rfl | rfl <;> rfl
  obtain ⟨v', w', hr, h2, h3, _⟩ := run_append_own (P := Tryz.prog) w B 24 ty 28 i0 _ 3 48 Tryz.underlying24 hi hz0 hz1 hz2 rfl (by decide) v G.length (rowF G) hown ⟨b, 0, none⟩ 1 1 l.cells rfl hnew h1 (by unfold maxLen; omega) (by omega) hB
  refine ⟨v', w', hr, by unfold OwnX; rw [← rowF_snoc, List.length_append]; exact h2, ?_, h3⟩
  rcases hown.2 with ⟨rfl, h0⟩ | ⟨g, cap, cur, rfl, hbg, hg, hnc, hcm, hcs, htake⟩
  · have : G = [] := List.length_eq_zero_iff.1 h0
    subst this
    exact OwnX.nil _ _
  · by_cases hroom : G.length + 1 ≤ cap
    · have hls : (rowF G).length = G.length * 3 := hown.1
      have hfit : G.length * i0.size + l.cells.length ≤ cur.size := by rw [hz1, hcs]; show G.length * 3 + 3 ≤ cap * 3; omega
      have hr2 := run_append_room (P := Tryz.prog) w 24 ty 28 i0 Tryz.underlying24 hi g G.length cap cur hg ⟨b, 0, none⟩ 1 1 l.cells (by rw [hz1]; rfl) hnew h1 hroom hfit
      rw [hr] at hr2
      simp only [Result.ok.injEq] at hr2
      obtain ⟨rfl, rfl⟩ := hr2
      rw [hz1] at hfit ⊢
      refine ⟨hown.1, Or.inr ⟨g, cap, _, rfl, hbg, setRow_heap w g cur _ _ _ hg, hnc, hcm, ?_, ?_⟩⟩
      · simp only [List.size_toArray, List.length_append, List.length_take, List.length_drop, Array.length_toList]
        omega
      · simp only [List.append_assoc]
        rw [htake, ← hls]
        exact List.take_left
    · have holds : ∀ j u, (rowF G)[j]? = some u → w.cell? ((⟨g, 0, none⟩ : Addr).add j) = some u := World.ownsRow.cells hown (g := g) rfl
      have hr2 := run_append_grow (P := Tryz.prog) w 24 ty 28 i0 _ Tryz.underlying24 hi hz0 ⟨g, 0, none⟩ G.length cap (rowF G) (by rw [hz1]; exact hown.1) holds ⟨b, 0, none⟩ 1 1 l.cells (by rw [hz1]; rfl) hnew (by omega) (by omega) (by rw [hz2]; exact growslice_fits (by omega) (by omega))
      rw [hr] at hr2
      simp only [Result.ok.injEq] at hr2
      obtain ⟨-, rfl⟩ := hr2
      exact World.ownsRow.alloc (w := w.drew) hown _
/-- append(facts, x) in a drawn region -/
theorem step_append_fx {ops : Array Oper} {o : Oper} {a : Act} {w : World} {K : Act → World → Prop} {Q : Exit → Act → World → Prop} {E : Prop} (hgd : o.guard = none) (s x : Operand)
    (ho : o.op = .call { callee := .builtin .append, args := #[s, x], argTypes := #[24, 24] })
    (B : Nat) (v : Value) (G : List Fx) (l : Fx) (b : Nat) (hs : a.eval s = v) (hx : a.eval x = .slice (some ⟨b, 0, none⟩) 1 1)
    (hown : OwnX B w v G) (hnew : ∀ (j : Nat) (u : Value), l.cells[j]? = some u → w.cell? ((⟨b, 0, none⟩ : Addr).add j) = some u) (hB : B ≤ w.heap.size) (hlen : G.length ≤ 1000000)
    (hK : ∀ v' w', OwnX B w' v' (G ++ [l]) → OwnX B w' v G → w.grownBy w' v.ownBlock → K (a.put o.dst v') w') : if Region.wanted o (yielded ops a.tmps) = true then Oper.wp Tryz.prog o a w K Q else E := by
  have hw : Region.wanted o (yielded ops a.tmps) = true := by simp [Region.wanted, hgd]
  rw [if_pos hw]
  obtain ⟨v', w', hr, h1, h2, h3⟩ := append_stays (ty := o.type) hown hnew hB hlen
  unfold Oper.wp
  simp [execOp, ho, resolve, invoke, builtin, hs, hx, hr, Result.andThen]
  exact hK v' w' h1 h2 h3
/-- append(numbers, n): what it leaves alone -/
theorem wp_append_n2 {ops : Array Oper} {rest : List Oper} {o : Oper} {a : Act} {Q : Exit → Act → World → Prop} {w : World} (hgd : o.guard = none) (s x : Operand)
    (ho : o.op = .call { callee := .builtin .append, args := #[s, x], argTypes := #[52, 52] })
    (B : Nat) (v : Value) (L : List Int) (l : Int) (hs : a.eval s = v) (hx : a.eval x = .slice (some ⟨w.heap.size, 0, none⟩) 1 1)
    (hown : OwnN B w v L) (hB : B ≤ w.heap.size) (hlen : L.length ≤ 1099511627776)
    (h : ∀ v' w', OwnN B w' v' (L ++ [l]) → (w.alloc (.cells #[.int .i64 l] 3)).grownBy w' v.ownBlock → wpList Tryz.prog ops Q rest (a.put o.dst v') w') : wpList Tryz.prog ops Q (o :: rest) a (w.alloc (.cells #[.int .i64 l] 3)) := by
  obtain ⟨i0, hi, hz0, hz1, hz2⟩ := info_parts infoNum
  have hoA := World.ownsRow.alloc hown (.cells #[.int .i64 l] 3)
  have hnews : ∀ (j : Nat) (u : Value), ([.int .i64 l] : List Value)[j]? = some u → (w.alloc (.cells #[.int .i64 l] 3)).cell? ((⟨w.heap.size, 0, none⟩ : Addr).add j) = some u := fun j u hj => by
    match j, hj with
    | 0, hj => simp at hj; subst hj; simp [Addr.add]
    | j + 1, hj => simp at hj
  refine wpList_append_own _ hgd s x 52 ho B 3 i0 (.int .i64 0) 1 8 Tryz.underlying52 hi hz0 hz1 hz2 rfl (by decide) v L.length (L.map (Value.int .i64)) hs hoA ⟨w.heap.size, 0, none⟩ 1 1 [.int .i64 l] hx rfl hnews
    (fun u hu => by simp at hu; subst hu; rfl) (by unfold maxLen; omega) (by omega) (by simp; omega) ?_
  intro v' w' hown' hgrow _
  exact h v' w' (by unfold OwnN; rw [List.map_append, List.length_append]; exact hown') hgrow
theorem set_stays {W W' : World} {a : Option Addr} {L : List ByteArray} (h : Ts.SetAt W a L) (h1 : Sh.Stays 106 W W') (h2 : Sh.Stays 118 W W') : Ts.SetAt W' a L := by
  rcases h with h | ⟨b, p, T, rfl, g1, g2, g3⟩
  · exact Or.inl h
  · exact Or.inr ⟨b, p, T, rfl, h1 _ _ _ g1, g2.kept h2, g3⟩
theorem set_rowN {W W' : World} {B : Nat} {a : Option Addr} {v : Value} {N : List Int} {P : List ByteArray} (h : Ts.SetAt W a P) (hr : OwnN B W v N) (hg : W.grownBy W' v.ownBlock) : Ts.SetAt W' a P :=
  set_stays h (Sh.stays_row (by decide) hr hg) (Sh.stays_row (by decide) hr hg)
/-- the commits so far, the heights and the parents of the next one -/
structure Stand (w : World) (B1 b : Nat) (v hv : Value) (G : List Fx) (N : List Int) (P : List ByteArray) (W : World) : Prop where
  below : Below w.heap.size w W
  out : OwnX w.heap.size W v G
  pars : ∀ x ∈ G, OwnT w.heap.size W (.slice x.pa x.f.pars.length x.pc) x.f.pars
  row : OwnN B1 W hv N
  set : Ts.SetAt W (some ⟨b, 0, none⟩) P
theorem Stand.next {w : World} {B1 b : Nat} {v hv : Value} {G : List Fx} {N : List Int} {P : List ByteArray} {W W' : World} (h : Stand w B1 b v hv G N P W) (t : Below W.heap.size W W') : Stand w B1 b v hv G N P W' :=
  ⟨b_next h.below t (Nat.le_refl _), h.out.next t, fun x hx => (h.pars x hx).next t, h.row.next t, h.set.next t⟩
/-- three bytes in memory, and their text -/
structure Three (W : World) (b : Nat) (x y z : UInt8) : Prop where
  c0 : W.cell? ⟨b, 0, none⟩ = some (.int .u8 (x.toNat : Int))
  c1 : W.cell? ⟨b, 1, none⟩ = some (.int .u8 (y.toNat : Int))
  c2 : W.cell? ⟨b, 2, none⟩ = some (.int .u8 (z.toNat : Int))
theorem Three.new (w : World) (x y z : UInt8) (t : TypeId) : Three (w.alloc (.cells #[.int .u8 (x.toNat : Int), .int .u8 (y.toNat : Int), .int .u8 (z.toNat : Int)] t)) w.heap.size x y z := by
  constructor <;> simp [go_sem]
theorem Three.next {w w' : World} {b : Nat} {x y z : UInt8} (h : Three w b x y z) (t : Below w.heap.size w w') : Three w' b x y z :=
  have hlt := Oct.lt_of_cell h.c0
  ⟨(t.cell (p := ⟨b, 0, none⟩) hlt).trans h.c0, (t.cell (p := ⟨b, 1, none⟩) hlt).trans h.c1, (t.cell (p := ⟨b, 2, none⟩) hlt).trans h.c2⟩
theorem Three.conv {w : World} {b : Nat} {x y z : UInt8} (h : Three w b x y z) : (convert 54 9 (.slice (some ⟨b, 0, none⟩) 3 3)).run Tryz.prog w = .ok (.string ⟨#[x, y, z]⟩) w := by
  have := run_convert_bytes_back (P := Tryz.prog) w 54 9 5 ⟨b, 0, none⟩ 3 [x, y, z] Tryz.underlying54 Tryz.underlying5 Tryz.underlying9 (fun j hj => by
    simp only [List.length_cons, List.length_nil] at hj
    rw [Addr.add_mid, Nat.zero_add]
    match j, hj with
    | 0, _ => exact h.c0
    | 1, _ => exact h.c1
    | 2, _ => exact h.c2
    | j + 3, hj => omega)
  simpa using this
theorem Three.grown {w w' : World} {b n : Nat} {x y z : UInt8} {r : Option Nat} (h : Three w b x y z) (t : w.grownBy w' r) (hr : ∀ g, r = some g → g < n) (hb : n ≤ b) : Three w' b x y z := by
  have hlt := Oct.lt_of_cell h.c0
  have hne : some b ≠ r := fun e => by have := hr b e.symm; omega
  have e := t.block b hlt hne
  have hc : ∀ o, w'.cell? ⟨b, o, none⟩ = w.cell? ⟨b, o, none⟩ := fun o => World.cell?_of_block (a := ⟨b, o, none⟩) e
  exact ⟨(hc 0).trans h.c0, (hc 1).trans h.c1, (hc 2).trans h.c2⟩
theorem new_cells {w : World} {q : Nat} {x : Fx} (h : FxVar w q x) : ∀ (j : Nat) (u : Value), x.cells[j]? = some u → w.cell? ((⟨q, 0, none⟩ : Addr).add j) = some u := fun j u hj => by
  obtain ⟨h0, h1, h2⟩ := h.cell
  match j, hj with
  | 0, hj => simp [Fx.cells] at hj; subst hj; exact h0
  | 1, hj => simp [Fx.cells] at hj; subst hj; exact h1
  | 2, hj => simp [Fx.cells] at hj; subst hj; exact h2
  | j + 3, hj => simp [Fx.cells] at hj
/-- the next one is put to the commits -/
theorem Stand.appended {w : World} {B1 b : Nat} {v hv : Value} {G : List Fx} {N : List Int} {P : List ByteArray} {W W' : World} (h : Stand w B1 b v hv G N P W) (h1 : OwnX w.heap.size W' v G) (h2 : W.grownBy W' v.ownBlock) : Stand w B1 b v hv G N P W' :=
  ⟨h.below.grown h2 h.below.size fun g hg => (World.ownsRow.lt h.out g hg).1, h1, fun x hx => World.ownsRow.kept (h.pars x hx) h2 (own_apart (h.pars x hx) h.out (by decide)), World.ownsRow.kept h.row h2 (own_apart h.row h.out (by decide)), set_stays h.set (Sh.stays_row (by decide) h.out h2) (Sh.stays_row (by decide) h.out h2)⟩
theorem byte_nat (k : Nat) (h : k < 256) : (UInt8.ofNat k).toNat = k := by simp [UInt8.toNat_ofNat']; omega
theorem byte_facts (i : Nat) (h : i < 40) : ∃ (X Y T : UInt8) (q65 q66 q67 q70 q71 : Int), idOf i = ⟨#[X, Y, T]⟩ ∧ IntKind.i64.wrap ((i : Int) * 7) = q65 ∧ q65.tmod 26 = q66 ∧ IntKind.i64.wrap (97 + q66) = q67 ∧ IntKind.u8.wrap q67 = (X.toNat : Int)
    ∧ (i : Int).tmod 26 = q70 ∧ IntKind.i64.wrap (97 + q70) = q71 ∧ IntKind.u8.wrap q71 = (Y.toNat : Int) ∧ IntKind.u8.wrap (i : Int) = (T.toNat : Int) := by
  refine ⟨_, _, _, _, _, _, _, _, rfl, rfl, rfl, rfl, ?_, rfl, rfl, ?_, ?_⟩
  · rw [byte_nat _ (by omega), IntWalk.i64_in ((i : Int) * 7) ⟨by omega, by omega⟩, Int.tmod_eq_emod_of_nonneg (by omega), IntWalk.i64_in (97 + (i : Int) * 7 % 26) ⟨by omega, by omega⟩, IntWalk.u8_in _ ⟨by omega, by omega⟩]
    omega
  · rw [byte_nat _ (by omega), Int.tmod_eq_emod_of_nonneg (by omega), IntWalk.i64_in (97 + (i : Int) % 26) ⟨by omega, by omega⟩, IntWalk.u8_in _ ⟨by omega, by omega⟩]
    omega
  · rw [byte_nat _ (by omega), IntWalk.u8_in _ ⟨by omega, by omega⟩]
/-- numbers in rows -/
structure NumsAt (w : World) (a : Option Addr) (b off n : Nat) (A : Nat → Option Addr) (L C : Nat → Nat) (Z : Nat → Nat → Int) : Prop where
  addr : 0 < n → a = some ⟨b, off, none⟩
  row : ∀ r, r < n → w.cell? ⟨b, off + r, none⟩ = some (.slice (A r) (L r) (C r))
  cell : ∀ r, r < n → ∀ c, c < L r → ∃ g o, A r = some ⟨g, o, none⟩ ∧ w.cell? ⟨g, o + c, none⟩ = some (.int .i64 (Z r c))
theorem NumsAt.next {w w' : World} {a : Option Addr} {b off n : Nat} {A : Nat → Option Addr} {L C : Nat → Nat} {Z : Nat → Nat → Int} (h : NumsAt w a b off n A L C Z) (t : Below w.heap.size w w') : NumsAt w' a b off n A L C Z :=
  ⟨h.addr, fun r hr => (t.cell (p := ⟨b, off + r, none⟩) (Oct.lt_of_cell (h.row r hr))).trans (h.row r hr), fun r hr c hc => by
    obtain ⟨g, o, e, hc⟩ := h.cell r hr c hc
    exact ⟨g, o, e, (t.cell (p := ⟨g, o + c, none⟩) (Oct.lt_of_cell hc)).trans hc⟩⟩
/-- Of without things -/
theorem OfNone_calls (w : World) : Calls Tryz.prog 17 #[.slice none 0 0] w fun e w' => ∃ b, e = .returned (.pointer (some ⟨b, 0, none⟩)) ∧ w.heap.size ≤ b ∧ Ts.SetAt w' (some ⟨b, 0, none⟩) [] ∧ Below w.heap.size w w' :=
  (Ts.Of_calls w none 0 [] (by decide) ⟨none, 0, rfl, fun h => absurd h (by decide)⟩).mono fun e w' ⟨M, hM, h⟩ => by
    have : M = [] := List.length_eq_zero_iff.1 (by have := hM.2.2; simpa using this)
    rwa [this] at h
theorem OwnN.past {B d : Nat} {w w' : World} {v : Value} {N : List Int} (h : OwnN B w v N) (hd : d < B) (t : w.grownBy w' (some d)) : OwnN B w' v N :=
  owns_turn h fun g hg => t.block g (World.ownsRow.lt h g hg).2 fun e => by
    have h1 := (World.ownsRow.lt h g hg).1
    simp only [Option.some.injEq] at e
    omega
theorem FxVar.past {q d : Nat} {w w' : World} {x : Fx} (h : FxVar w q x) (hd : d < q) (t : w.grownBy w' (some d)) : FxVar w' q x :=
  (t.block q h.lt fun e => by simp only [Option.some.injEq] at e; omega).trans h
/-- parents and heights on the way -/
structure Path (G : List Fct) (k : Nat) (N : List Int) (P : List ByteArray) : Prop where
  rises : Rises P
  mem : ∀ z ∈ P, ∃ g ∈ G, g.id = z
  same : ∀ n, n ∈ N ↔ ∃ z ∈ P, ∃ g ∈ G, g.id = z ∧ g.high = n
  few : P.length ≤ k
  few2 : N.length ≤ k
theorem Path.start (G : List Fct) : Path G 0 [] [] := ⟨List.Pairwise.nil, fun z h => by simp at h, fun n => by simp, Nat.le_refl _, Nat.le_refl _⟩
theorem Path.old {G : List Fct} {k : Nat} {N : List Int} {P : List ByteArray} (h : Path G k N P) {x : Fct} (hh : Sh.has x.id P = true) : Path G (k + 1) N (ins x.id P) := by
  have hxP : x.id ∈ P := by obtain ⟨a, ha, e⟩ := Sh.has_iff.1 hh; rw [← show a = x.id from e]; exact ha
  have e : ∀ z, z ∈ ins x.id P ↔ z ∈ P := fun z => by
    rw [ins_mem h.rises]
    exact ⟨fun g => g.elim (fun e => e ▸ hxP) id, Or.inr⟩
  have e2 : ins x.id P = P := Sh.rises_one (rises_ins _ h.rises) h.rises e
  rw [e2]
  exact ⟨h.rises, h.mem, h.same, by have := h.few; omega, by have := h.few2; omega⟩
theorem Path.more {G : List Fct} {k : Nat} {N : List Int} {P : List ByteArray} (h : Path G k N P) (ho : Once G) {x : Fct} (hx : x ∈ G) : Path G (k + 1) (N ++ [x.high]) (ins x.id P) := by
  have e : ∀ z, z ∈ ins x.id P ↔ z = x.id ∨ z ∈ P := fun z => ins_mem h.rises
  refine ⟨rises_ins _ h.rises, fun z hz => ?_, fun n => ?_, ?_, ?_⟩
  · rcases (e z).1 hz with rfl | hz
    · exact ⟨x, hx, rfl⟩
    · exact h.mem z hz
  · rw [List.mem_append, List.mem_singleton, h.same]
    constructor
    · rintro (⟨z, hz, g⟩ | rfl)
      · exact ⟨z, (e z).2 (Or.inr hz), g⟩
      · exact ⟨x.id, (e _).2 (Or.inl rfl), x, hx, rfl, rfl⟩
    · rintro ⟨z, hz, g, hg, e1, e2⟩
      rcases (e z).1 hz with rfl | hz
      · right
        rw [← e2, once_eq ho hg hx e1]
      · exact Or.inl ⟨z, hz, g, hg, e1, e2⟩
  · have := Sh.ins_len_le x.id P; have := h.few; omega
  · rw [List.length_append, List.length_singleton]; have := h.few2; omega
theorem facts_of {B : Nat} {W : World} {G : List Fx} (hG : Grown (plain G)) (hP : ∀ x ∈ G, OwnT B W (.slice x.pa x.f.pars.length x.pc) x.f.pars) : Facts W G := by
  have ids : ∀ x ∈ G, x.f.id.size = 3 := fun x hx => by
    obtain ⟨i, hi, e⟩ := List.mem_iff_getElem.1 (List.mem_map.2 ⟨x, hx, rfl⟩ : x.f ∈ plain G)
    rw [hG.id i x.f (by rw [List.getElem?_eq_getElem hi, e])]
    rfl
  refine ⟨fun x hx => ?_, fun x hx => ?_, fun x hx y hy => ?_, fun x hx => ?_⟩
  · obtain ⟨a, cap, b, off, e, hT, hc, _⟩ := (hP x hx).at_
    simp only [Value.slice.injEq] at e
    obtain ⟨rfl, _, rfl⟩ := e
    exact ⟨hc, b, off, hT⟩
  · unfold Short; rw [ids x hx]; decide
  · obtain ⟨i, hi, e⟩ := List.mem_iff_getElem.1 (List.mem_map.2 ⟨x, hx, rfl⟩ : x.f ∈ plain G)
    obtain ⟨j, g, _, hg, rfl⟩ := hG.par i x.f (by rw [List.getElem?_eq_getElem hi, e]) y hy
    obtain ⟨q, hq, rfl⟩ := List.mem_map.1 (List.mem_of_getElem? hg)
    unfold Short; rw [ids q hq]; decide
  · obtain ⟨i, hi, e⟩ := List.mem_iff_getElem.1 (List.mem_map.2 ⟨x, hx, rfl⟩ : x.f ∈ plain G)
    have h1 := hG.high i x.f (by rw [List.getElem?_eq_getElem hi, e])
    have h2 := hG.len
    have h3 : i < (plain G).length := hi
    have e1 : IntKind.i64.min = -9223372036854775808 := rfl
    have e2 : IntKind.i64.max = 9223372036854775807 := rfl
    simp [Lit.wf]
    omega
/-- the next commit -/
theorem Path.fact {G : List Fct} {i k : Nat} {N : List Int} {P : List ByteArray} (h : Path G k N P) (hG : Grown G) (hi : G.length = i) (hl : i < 40) (hk : k ≤ 8) : Grown (G ++ [⟨idOf i, height N, P⟩]) :=
  hG.more (by omega) (by rw [hi]) h.mem (height_same fun n => by rw [h.same]; exact (hG.highs h.mem).symm) (by have := h.few; show P.length ≤ 40; omega)
theorem Height_of (w : World) (B : Nat) (ha : Option Addr) (hc : Nat) (N : List Int) (h : OwnN B w (.slice ha N.length hc) N) (hb : ∀ x ∈ N, 0 ≤ x ∧ x ≤ 40) (hl : N.length ≤ 100) :
    Calls Tryz.prog 19 #[.slice ha N.length hc] w fun e w' => e = .returned (.int .i64 (height N)) ∧ w = w' := by
  obtain ⟨a, cap, b, off, e, hT⟩ := h.at_ fun x hx => by
    have := hb x hx
    have e1 : IntKind.i64.min = -9223372036854775808 := rfl
    have e2 : IntKind.i64.max = 9223372036854775807 := rfl
    simp [Lit.wf]
    omega
  rw [e]
  rw [← hgt_height N fun x hx => by have := hb x hx; omega]
  exact Ob.Height_calls a N.length cap b off _ w hT (by omega)
theorem List_of (w : World) (b : Nat) (P : List ByteArray) (h : Ts.SetAt w (some ⟨b, 0, none⟩) P) (hl : P.length ≤ 100) :
    Calls Tryz.prog 20 #[.pointer (some ⟨b, 0, none⟩)] w fun e w' => ∃ a c, e = .returned (.slice a P.length c) ∧ OwnT w.heap.size w' (.slice a P.length c) P ∧ Below w.heap.size w w' :=
  (Ts.SetList_calls w _ P h (by omega)).mono fun e w' ⟨v, e1, ⟨h1, g, c, e2⟩, hB⟩ => by
    have hk : (Ts.keysV P).length = P.length := Ts.keysV_len P
    rw [hk] at e2 h1
    subst e2
    exact ⟨_, c, e1, h1, hB⟩
set_option maxRecDepth 100000 in
set_option maxHeartbeats 8000000 in
/-- grown -/
theorem grown_calls (w : World) (a : Option Addr) (cap b off n : Nat) (A : Nat → Option Addr) (L C : Nat → Nat) (Z : Nat → Nat → Int) (h : NumsAt w a b off n A L C Z) (hn : n ≤ 9223372036854775807) :
    Calls Tryz.prog 5 #[.slice a n cap] w fun e w' => ∃ v G, e = .returned v ∧ OwnX w.heap.size w' v G ∧ Grown (plain G) ∧ Facts w' G ∧ Below w.heap.size w w' := by
  have hOf := Lib.hid fun w' => OfNone_calls w'
  have hZ := Lib.hid h
  have hX0 := Lib.hid (OwnX.new w w.heap.size (Nat.le_refl _))
  have bX0 := Lib.hid (b_alloc w (.cells #[] 28))
  clear h
  go_enter Tryz.func5, Tryz.ntmps5
  go_wp2_with fail
  generalize hv0e : w.alloc (.cells #[] 28) = v0 at *
  clear hv0e
  go_loopw [3, 4] (fun v i wq => ∃ (i' : Nat) (G : List Fx), i' ≤ n ∧ i = .int .i64 (i' : Int) ∧ G.length = i' ∧ OwnX w.heap.size wq v G ∧ Hid (Grown (plain G)) ∧ (∀ x ∈ G, OwnT w.heap.size wq (.slice x.pa x.f.pars.length x.pc) x.f.pars) ∧ Below w.heap.size w wq) (fun _ i _ => n - (intOf i).toNat)
  case atStart => exact ⟨0, [], Nat.zero_le _, rfl, rfl, hX0.out, Lib.hid Grown.nil, fun x hx => by simp at hx, bX0.out⟩
  case round =>
    obtain ⟨i, G, hi, rfl, hGi, hO, hGr, hPs, hbw⟩ := hrel
    obtain ⟨w0, e0⟩ : ∃ x : World, x = wr := ⟨_, rfl⟩
    subst e0
    clear hX0 bX0
    by_cases hlt : i < n ∧ i < 40
    · have i1 : (i : Int) < n := by omega
      have i2 : (i : Int) < 40 := by omega
      have i0 : 0 ≤ (i : Int) := by omega
      have hwi : wrap64 ((i : Int) + 1) = ((i + 1 : Nat) : Int) := wrap_next i (by omega)
      have hms : Hid (n - (i + 1) < n - i) := Lib.hid (by omega)
      have hil : Hid (i + 1 ≤ n) := Lib.hid hlt.1
      have hi40 := Lib.hid hlt.2
      have hrow := Lib.hid fun w' (bb : Below w0.heap.size w0 w') => (hZ.out.next (b_next hbw bb (Nat.le_refl _)))
      obtain rfl := hZ.out.addr (by omega)
      obtain ⟨oa, oc, rfl⟩ := hO.box
      rw [hGi] at hO ⊢
      replace hO := Lib.hid hO
      replace hPs := Lib.hid hPs
      replace hbw := Lib.hid hbw
      have hOf1 := Lib.hid (hOf.out w0)
      clear hlt hi
      go_wp2_with fail
      refine hOf1.out.mono ?_
      rintro e w1 ⟨sb, rfl, hsb, hS1, b1⟩
      have hN1 := Lib.hid (OwnN.new w1 w1.heap.size (Nat.le_refl _))
      have bA := b_alloc w1 (.cells #[] 3)
      have hS2 := Lib.hid (hS1.next bA)
      have b12 := Lib.hid (b_then b1 bA)
      have hsb1 : Hid (sb < w1.heap.size) := Lib.hid (by
        rcases hS1 with ⟨h, _⟩ | ⟨b', p, T, e, g1, _⟩
        · cases h
        · cases e; exact g1.lt)
      replace hsb := Lib.hid hsb
      have b1s := Lib.hid b1
      have hsz1 : Hid (w1.heap.size ≤ (w1.alloc (.cells #[] 3)).heap.size) := Lib.hid bA.size
      clear hOf1 hS1 b1 bA
      go_wp2_with fail
      generalize hw2e : w1.alloc (.cells #[] 3) = w2 at *
      clear hw2e
      go_loopw [6, 7] (fun hv k wq => ∃ (k' : Nat) (N : List Int) (P : List ByteArray), k' ≤ 8 ∧ k = .int .i64 (k' : Int) ∧ OwnN w1.heap.size wq hv N ∧ Ts.SetAt wq (some ⟨sb, 0, none⟩) P ∧ Hid (Path (plain G) k' N P) ∧ Below w0.heap.size w0 wq ∧ Hid (w1.heap.size ≤ wq.heap.size)) (fun _ k _ => 8 - (intOf k).toNat)
      case atStart => exact ⟨0, [], [], Nat.zero_le _, rfl, hN1.out, hS2.out, Lib.hid (Path.start _), b12.out, hsz1⟩
      case round =>
        obtain ⟨k, N, P, hk, rfl, hN, hS, hPa, hb2, hsq⟩ := hrel
        clear hN1 hS2 b12 hsz1
        have hrow2 := hrow.out wr hb2
        have c0 := hrow2.row i (by have := hil.out; omega)
        by_cases hin : k < L i ∧ k < 8 ∧ 0 < i
        · have k1 : (k : Int) < L i := by omega
-- <done
          have k2 : (k : Int) < 8 := by omega
          have k3 : (0 : Int) < i := by omega
          have k0 : 0 ≤ (k : Int) := by omega
          have kz : ((i : Int) == 0) = false := by simp only [beq_eq_false_iff_ne]; omega
          have hwk : wrap64 ((k : Int) + 1) = ((k + 1 : Nat) : Int) := wrap_next k (by omega)
          have hmk : Hid (8 - (k + 1) < 8 - k) := Lib.hid (by omega)
          have hkl : Hid (k + 1 ≤ 8) := Lib.hid (by omega)
          obtain ⟨zg, zo, hzA, c1⟩ := hrow2.cell i (by have := hil.out; omega) k hin.1
          rw [hzA] at c0
          obtain ⟨j, hj1, hj2⟩ := Oct.rem_small (Z i k) i k3 (by have := hi40.out; omega)
          have hui : IntKind.u64.wrap (i : Int) = (i : Int) := by rw [IntKind.wrap_u64]; have := hi40.out; omega
          have j0 : 0 ≤ (j : Int) := by omega
          obtain ⟨y, hy⟩ : ∃ y, G[j]? = some y := ⟨G[j]'(by omega), List.getElem?_eq_getElem (by omega)⟩
          obtain ⟨oa', oc', ob, oo, he, hG, -⟩ := (hO.out.next hb2).at_
          simp only [Value.slice.injEq] at he
          obtain ⟨rfl, -, -⟩ := he
          have g0 := hG.id j y hy
          have g1 := hG.high j y hy
          have g2 := hG.pars j y hy
          obtain rfl := hG.addr (by omega)
          have hyG : Hid (y.f ∈ plain G) := Lib.hid (List.mem_map.2 ⟨y, List.mem_of_getElem? hy, rfl⟩)
          have bA := b_alloc wr (.cells #[.string y.f.id, .int .i64 y.f.high, .slice y.pa y.f.pars.length y.pc] 28)
          have hV := Lib.hid (FxVar.new wr y)
          obtain ⟨q, hq⟩ : ∃ q, q = wr.heap.size := ⟨_, rfl⟩
          have hqs : Hid (w1.heap.size ≤ q) := Lib.hid (by rw [hq]; exact hsq.out)
          rw [← hq] at hV
          have hAd := Lib.hid (Ts.Add_calls (wr.alloc (.cells #[.string y.f.id, .int .i64 y.f.high, .slice y.pa y.f.pars.length y.pc] 28)) sb P y.f.id (hS.next bA) hPa.out.rises (by have := hPa.out.few; omega))
          replace hN := Lib.hid (hN.next bA)
          replace hb2 := Lib.hid (b_then hb2 bA)
          replace hsq : Hid (w1.heap.size ≤ (wr.alloc (.cells #[.string y.f.id, .int .i64 y.f.high, .slice y.pa y.f.pars.length y.pc] 28)).heap.size) := Lib.hid (Nat.le_trans hsq.out bA.size)
          clear hrow2 hzA hin hk hS bA hG hy
          go_wp2_with fail
          refine hAd.out.mono ?_
          rintro e w3 ⟨rfl, hS3, hg3⟩
          generalize hwA : wr.alloc (.cells #[.string y.f.id, .int .i64 y.f.high, .slice y.pa y.f.pars.length y.pc] 28) = wA at *
          have hN3 := hN.out.past hsb1.out hg3
          have hV3 := hV.out.past (Nat.lt_of_lt_of_le hsb1.out hqs.out) hg3
          have hb3 := hb2.out.grown hg3 hb2.out.size (fun j hj => by cases hj; exact hsb.out)
          have hsq3 := Lib.hid (Nat.le_trans hsq.out hg3.size)
          clear hAd hN hV hb2 hsq g0 g1 g2 c0 c1 hwA hg3
          cases hh : Sh.has (Sh.Ent.key y.f.id) P with
          | true =>
            have hP2 := Lib.hid (hPa.out.old hh)
            clear hh hPa
            go_wp2
            go_roundw
            case measure => simp [intOf]; omega
            case rel => exact ⟨k + 1, N, _, hkl.out, by simp, hN3, hS3, hP2, hb3, hsq3⟩
          | false =>
            have hP2 := Lib.hid (hPa.out.more hGr.out.once hyG.out)
            have hNl : N.length ≤ 1099511627776 := by have := hPa.out.few2; omega
            obtain ⟨v0', v1', v2'⟩ := hV3.cell
            rw [hq] at v0' v1' v2'
            have bA := b_alloc w3 (.cells #[.int .i64 y.f.high] 3)
            have hS4 := Lib.hid (hS3.next bA)
            have hN4 := Lib.hid (hN3.next bA)
            have hb4 := Lib.hid (b_next hb3 bA (Nat.le_refl _))
            have hlt4 : Hid (∀ d, (Value.ownBlock _) = some d → w0.heap.size ≤ d) := Lib.hid fun d hd => Nat.le_trans b1s.out.size (World.ownsRow.lt hN3 d hd).1
            obtain ⟨ha, hc, rfl⟩ := hN3.box
            clear hh hPa hS3 hV3 bA hb3
            go_wp2_with (first
              | (at_builtin; refine wp_append_n2 rfl _ _ rfl w1.heap.size (.slice ha N.length hc) N y.f.high rfl rfl hN3 hsq3.out hNl ?_; intro v' w' ho' hg')
              | go_in)
            have hS5 := set_rowN hS4.out hN4.out hg'
            have hb5 := hb4.out.grown hg' hb4.out.size hlt4.out
            have hsq5 := Lib.hid (Nat.le_trans hsq3.out (Nat.le_trans (b_alloc w3 (.cells #[.int .i64 y.f.high] 3)).size hg'.size))
            go_roundw
            case measure => simp [intOf]; omega
            case rel => exact ⟨k + 1, _, _, hkl.out, by simp, ho', hS5, hP2, hb5, hsq5⟩
-- done>
        · have hkc : (¬ k < L i) ∨ (k < L i ∧ ¬ k < 8) ∨ (k < L i ∧ k < 8 ∧ i = 0) := by omega
          obtain ⟨ha, hc, rfl⟩ := hN.box
          have hSt : Stand w w1.heap.size sb (.slice oa i oc) (.slice ha N.length hc) G N P wr := ⟨b_next hbw.out hb2 (Nat.le_refl _), hO.out.next hb2, fun x hx => (hPs.out x hx).next hb2, hN, hS⟩
          have hNb : ∀ x ∈ N, 0 ≤ x ∧ x ≤ 40 := fun x hx => by
            obtain ⟨z, hz, g, hg, _, rfl⟩ := (hPa.out.same x).1 hx
            obtain ⟨j, hj, rfl⟩ := List.mem_iff_getElem.1 hg
            have h1 := hGr.out.high j _ (List.getElem?_eq_getElem hj)
            have h2 := hGr.out.len
            omega
          have hown0 : Hid (∀ g, (Value.slice oa i oc).ownBlock = some g → g < wr.heap.size) := Lib.hid fun g hg => (World.ownsRow.lt hSt.out g hg).2
          have hHt := Lib.hid fun w' (s : Stand w w1.heap.size sb (.slice oa i oc) (.slice ha N.length hc) G N P w') => Height_of w' w1.heap.size ha hc N s.row hNb (by have := hPa.out.few2; omega)
          have hLs := Lib.hid fun w' (s : Stand w w1.heap.size sb (.slice oa i oc) (.slice ha N.length hc) G N P w') => List_of w' sb P s.set (by have := hPa.out.few; omega)
          have hF := Lib.hid (hPa.out.fact hGr.out (show (plain G).length = i by unfold plain; rw [List.length_map]; exact hGi) hi40.out hk)
          obtain ⟨X, Y, T, q65, q66, q67, q70, q71, hId, h65, h66, h67, h68, h70, h71, h72, h74⟩ := byte_facts i hi40.out
          have hlenG : Hid (G.length ≤ 1000000) := Lib.hid (by have := hi40.out; omega)
          obtain ⟨H, hH⟩ : ∃ H, H = height N := ⟨_, rfl⟩
          rw [← hH] at hHt hF
          obtain ⟨I, hI⟩ : ∃ I, I = idOf i := ⟨_, rfl⟩
          rw [← hI] at hId hF
          replace hId := Lib.hid hId
          rcases hkc with k1 | ⟨k1, k2⟩ | ⟨k1, k2, k3⟩
          · have d1 : ¬ (k : Int) < L i := by omega
            clear k1
            clear hin hrow2 hN hS hb2 hNb hI hH hO hPs
            go_upto_region 13 with (fail)
            refine Rr.region_late (m := 21) (V := .slice oa i oc) (hlate := by kernel_rfl) (hlm := ⟨_, rfl, rfl⟩) (l := [some 63, some 64, some 65, some 66, some 67, some 68, some 69, some 70, some 71, some 72, some 73, some 74, some 75, some 76, some 77, some 78, some 79, some 80, some 81, some 82, some 83, some 3]) (aux := [0, 1, 2, 3, 4, 5, 6, 7, 8, 9, 10, 11, 12, 13, 14, 15, 16, 17, 18, 19, 20, 21]) (need := [[], [], [1], [2], [3], [4], [], [6], [7], [8], [], [10], [5, 9, 11], [12], [], [14], [], [16], [13, 15, 17], [18], [0, 19], [20]]) (live := [21]) (W := fun rw : World => Stand w w1.heap.size sb (.slice oa i oc) (.slice ha N.length hc) G N P rw ∧ wr.heap.size ≤ rw.heap.size) (R := fun (rk : Nat) (rv ru : Value) (rw : World) => match rk with | 0 => rv = .slice oa i oc | 1 => rv = .int .i64 (i : Int) | 2 => rv = .int .i64 q65 | 3 => rv = .int .i64 q66 | 4 => rv = .int .i64 q67 | 5 => rv = .int .u8 (X.toNat : Int) | 6 => rv = .int .i64 (i : Int) | 7 => rv = .int .i64 q70 | 8 => rv = .int .i64 q71 | 9 => rv = .int .u8 (Y.toNat : Int) | 10 => rv = .int .i64 (i : Int) | 11 => rv = .int .u8 (T.toNat : Int) | 12 => ∃ b, rv = .slice (some ⟨b, 0, none⟩) 3 3 ∧ wr.heap.size ≤ b ∧ Three rw b X Y T | 13 => rv = .string I | 14 => rv = .slice ha N.length hc | 15 => rv = .int .i64 H | 16 => rv = .pointer (some ⟨sb, 0, none⟩) | 17 => ∃ a c, rv = .slice a P.length c ∧ OwnT w.heap.size rw (.slice a P.length c) P | 18 => ∃ a c, rv = .agg #[.string I, .int .i64 H, .slice a P.length c] ∧ OwnT w.heap.size rw (.slice a P.length c) P | 19 => ∃ q a c, rv = .slice (some ⟨q, 0, none⟩) 1 1 ∧ OwnT w.heap.size rw (.slice a P.length c) P ∧ FxVar rw q ⟨⟨I, H, P⟩, a, c⟩ | 20 => ∃ x : Fx, x.f = ⟨I, H, P⟩ ∧ OwnX w.heap.size rw rv (G ++ [x]) ∧ OwnT w.heap.size rw (.slice x.pa x.f.pars.length x.pc) x.f.pars | 21 => ∃ x : Fx, x.f = ⟨I, H, P⟩ ∧ OwnX w.heap.size rw rv (G ++ [x]) ∧ OwnT w.heap.size rw (.slice x.pa x.f.pars.length x.pc) x.f.pars | _ => True) (E := fun (rk : Nat) (rw1 rw2 : World) => if rk = 20 then rw1.grownBy rw2 (Value.slice oa i oc).ownBlock else Below rw1.heap.size rw1 rw2) (G := ?rel1_G) (by kernel_rfl) (by kernel_rfl) ?rel1_hG (⟨hSt.next (b_drew1 wr), Nat.le_refl _⟩) ?rel1_keep ?rel1_steps ?rel1_fin
            case rel1_hG => intro xx; simp only [Rr.fill, Act.put, List.setIfInBounds_toArray, List.set_cons_zero, List.set_cons_succ, Nat.zero_add, Nat.reduceAdd]; exact rfl
            case rel1_keep =>
              intro ri rj rv ru rw1 rw2 hi hj hne hon hlost hW hR hE
              clear hi
              match rj, hj, hne, hon, hlost, hR with
              | 0, _, _, _, _, hR => exact hR
              | 1, _, _, _, _, hR => exact hR
              | 2, _, _, _, _, hR => exact hR
              | 3, _, _, _, _, hR => exact hR
              | 4, _, _, _, _, hR => exact hR
              | 5, _, _, _, _, hR => exact hR
              | 6, _, _, _, _, hR => exact hR
              | 7, _, _, _, _, hR => exact hR
              | 8, _, _, _, _, hR => exact hR
              | 9, _, _, _, _, hR => exact hR
              | 10, _, _, _, _, hR => exact hR
              | 11, _, _, _, _, hR => exact hR
              | 12, _, hne, hon, hlost, hR =>
                replace hR : ∃ b, rv = .slice (some ⟨b, 0, none⟩) 3 3 ∧ wr.heap.size ≤ b ∧ Three rw1 b X Y T := hR
                show ∃ b, rv = .slice (some ⟨b, 0, none⟩) 3 3 ∧ wr.heap.size ≤ b ∧ Three rw2 b X Y T
                by_cases hq20 : ri = 20
                · replace hE := Eq.mp (if_pos hq20) hE; obtain ⟨b, e, s, h⟩ := hR; exact ⟨b, e, s, h.grown hE hown0.out s⟩
                replace hE := Eq.mp (if_neg hq20) hE
                obtain ⟨b, e, s, h⟩ := hR; exact ⟨b, e, s, h.next hE⟩
              | 13, _, _, _, _, hR => exact hR
              | 14, _, _, _, _, hR => exact hR
              | 15, _, _, _, _, hR => exact hR
              | 16, _, _, _, _, hR => exact hR
              | 17, _, hne, hon, hlost, hR =>
                replace hR : ∃ a c, rv = .slice a P.length c ∧ OwnT w.heap.size rw1 (.slice a P.length c) P := hR
                show ∃ a c, rv = .slice a P.length c ∧ OwnT w.heap.size rw2 (.slice a P.length c) P
                by_cases hq20 : ri = 20
                · replace hE := Eq.mp (if_pos hq20) hE; obtain ⟨a, c, e, h⟩ := hR; exact ⟨a, c, e, World.ownsRow.kept h hE (own_apart h hW.1.out (by decide))⟩
                replace hE := Eq.mp (if_neg hq20) hE
                obtain ⟨a, c, e, h⟩ := hR; exact ⟨a, c, e, h.next hE⟩
              | 18, _, hne, hon, hlost, hR =>
                replace hR : ∃ a c, rv = .agg #[.string I, .int .i64 H, .slice a P.length c] ∧ OwnT w.heap.size rw1 (.slice a P.length c) P := hR
                show ∃ a c, rv = .agg #[.string I, .int .i64 H, .slice a P.length c] ∧ OwnT w.heap.size rw2 (.slice a P.length c) P
                by_cases hq20 : ri = 20
                · subst hq20; exact (Rr.no_lost hlost (by kernel_rfl)).elim
                replace hE := Eq.mp (if_neg hq20) hE
                obtain ⟨a, c, e, h⟩ := hR; exact ⟨a, c, e, h.next hE⟩
              | 19, _, hne, hon, hlost, hR =>
                replace hR : ∃ q a c, rv = .slice (some ⟨q, 0, none⟩) 1 1 ∧ OwnT w.heap.size rw1 (.slice a P.length c) P ∧ FxVar rw1 q ⟨⟨I, H, P⟩, a, c⟩ := hR
                show ∃ q a c, rv = .slice (some ⟨q, 0, none⟩) 1 1 ∧ OwnT w.heap.size rw2 (.slice a P.length c) P ∧ FxVar rw2 q ⟨⟨I, H, P⟩, a, c⟩
                by_cases hq20 : ri = 20
                · subst hq20; exact (Rr.no_lost hlost (by kernel_rfl)).elim
                replace hE := Eq.mp (if_neg hq20) hE
                obtain ⟨q, a, c, e, h, f⟩ := hR; exact ⟨q, a, c, e, h.next hE, f.next hE⟩
              | 20, _, hne, hon, hlost, hR =>
                replace hR : ∃ x : Fx, x.f = ⟨I, H, P⟩ ∧ OwnX w.heap.size rw1 rv (G ++ [x]) ∧ OwnT w.heap.size rw1 (.slice x.pa x.f.pars.length x.pc) x.f.pars := hR
                show ∃ x : Fx, x.f = ⟨I, H, P⟩ ∧ OwnX w.heap.size rw2 rv (G ++ [x]) ∧ OwnT w.heap.size rw2 (.slice x.pa x.f.pars.length x.pc) x.f.pars
                replace hE := Eq.mp (if_neg (show ¬ ri = 20 from fun g => hne g.symm)) hE
                obtain ⟨x, e, h, p⟩ := hR; exact ⟨x, e, h.next hE, p.next hE⟩
              | 21, _, hne, hon, hlost, hR =>
                replace hR : ∃ x : Fx, x.f = ⟨I, H, P⟩ ∧ OwnX w.heap.size rw1 rv (G ++ [x]) ∧ OwnT w.heap.size rw1 (.slice x.pa x.f.pars.length x.pc) x.f.pars := hR
                show ∃ x : Fx, x.f = ⟨I, H, P⟩ ∧ OwnX w.heap.size rw2 rv (G ++ [x]) ∧ OwnT w.heap.size rw2 (.slice x.pa x.f.pars.length x.pc) x.f.pars
                by_cases hq20 : ri = 20
                · subst hq20; exact (Rr.no_lost hon (by kernel_rfl)).elim
                replace hE := Eq.mp (if_neg hq20) hE
                obtain ⟨x, e, h, p⟩ := hR; exact ⟨x, e, h.next hE, p.next hE⟩
              | rj + 22, hj, _, _, _, _ => exact absurd (show rj + 22 < 22 from hj) (by omega)
            case rel1_steps =>
              refine (Rr.RunStepsL.cons (o := { dst := some 63, op := _, type := _, pos := _, after := _, guard := none }) rfl ?rs1_0 (Rr.RunStepsL.cons (o := { dst := some 64, op := _, type := _, pos := _, after := _, guard := none }) rfl ?rs1_1 (Rr.RunStepsL.cons (o := { dst := some 65, op := _, type := _, pos := _, after := _, guard := none }) rfl ?rs1_2 (Rr.RunStepsL.cons (o := { dst := some 66, op := _, type := _, pos := _, after := _, guard := none }) rfl ?rs1_3 (Rr.RunStepsL.cons (o := { dst := some 67, op := _, type := _, pos := _, after := _, guard := none }) rfl ?rs1_4 (Rr.RunStepsL.cons (o := { dst := some 68, op := _, type := _, pos := _, after := _, guard := none }) rfl ?rs1_5 (Rr.RunStepsL.cons (o := { dst := some 69, op := _, type := _, pos := _, after := _, guard := none }) rfl ?rs1_6 (Rr.RunStepsL.cons (o := { dst := some 70, op := _, type := _, pos := _, after := _, guard := none }) rfl ?rs1_7 (Rr.RunStepsL.cons (o := { dst := some 71, op := _, type := _, pos := _, after := _, guard := none }) rfl ?rs1_8 (Rr.RunStepsL.cons (o := { dst := some 72, op := _, type := _, pos := _, after := _, guard := none }) rfl ?rs1_9 (Rr.RunStepsL.cons (o := { dst := some 73, op := _, type := _, pos := _, after := _, guard := none }) rfl ?rs1_10 (Rr.RunStepsL.cons (o := { dst := some 74, op := _, type := _, pos := _, after := _, guard := none }) rfl ?rs1_11 (Rr.RunStepsL.cons (o := { dst := some 75, op := _, type := _, pos := _, after := _, guard := none }) rfl ?rs1_12 (Rr.RunStepsL.cons (o := { dst := some 76, op := _, type := _, pos := _, after := _, guard := none }) rfl ?rs1_13 (Rr.RunStepsL.cons (o := { dst := some 77, op := _, type := _, pos := _, after := _, guard := none }) rfl ?rs1_14 (Rr.RunStepsL.cons (o := { dst := some 78, op := _, type := _, pos := _, after := _, guard := none }) rfl ?rs1_15 (Rr.RunStepsL.cons (o := { dst := some 79, op := _, type := _, pos := _, after := _, guard := none }) rfl ?rs1_16 (Rr.RunStepsL.cons (o := { dst := some 80, op := _, type := _, pos := _, after := _, guard := none }) rfl ?rs1_17 (Rr.RunStepsL.cons (o := { dst := some 81, op := _, type := _, pos := _, after := _, guard := none }) rfl ?rs1_18 (Rr.RunStepsL.cons (o := { dst := some 82, op := _, type := _, pos := _, after := _, guard := none }) rfl ?rs1_19 (Rr.RunStepsL.cons (o := { dst := some 83, op := _, type := _, pos := _, after := _, guard := none }) rfl ?rs1_20 (Rr.RunStepsL.cons (o := { dst := some 3, op := _, type := _, pos := _, after := _, guard := none }) rfl ?rs1_21 (Rr.RunStepsL.nil rfl)))))))))))))))))))))))
              case rs1_0 =>
                intro xx ww hW hlate hd K hK
                replace hW : Stand w w1.heap.size sb (.slice oa i oc) (.slice ha N.length hc) G N P ww ∧ wr.heap.size ≤ ww.heap.size := hW
                dsimp only at hK
                (try rw [hlate]); (try rw [hlate] at hK)
                replace hK : Shut (∀ (ra : Act) (rv : Value) (rw : World), ra = _ → Stand w w1.heap.size sb (.slice oa i oc) (.slice ha N.length hc) G N P rw ∧ wr.heap.size ≤ rw.heap.size → Below ww.heap.size ww rw → (rv = .slice oa i oc) → K ra rw) := hK
                clear hd
                go_simp
                exact hK.out _ _ _ rfl hW (Below.refl _ _) rfl
              case rs1_1 =>
                intro xx ww hW hlate hd K hK
                replace hW : Stand w w1.heap.size sb (.slice oa i oc) (.slice ha N.length hc) G N P ww ∧ wr.heap.size ≤ ww.heap.size := hW
                dsimp only at hK
                (try rw [hlate]); (try rw [hlate] at hK)
                replace hK : Shut (∀ (ra : Act) (rv : Value) (rw : World), ra = _ → Stand w w1.heap.size sb (.slice oa i oc) (.slice ha N.length hc) G N P rw ∧ wr.heap.size ≤ rw.heap.size → Below ww.heap.size ww rw → (rv = .int .i64 (i : Int)) → K ra rw) := hK
                clear hd
                go_simp
                exact hK.out _ _ _ rfl hW (Below.refl _ _) rfl
              case rs1_2 =>
                intro xx ww hW hlate hd K hK
                replace hW : Stand w w1.heap.size sb (.slice oa i oc) (.slice ha N.length hc) G N P ww ∧ wr.heap.size ≤ ww.heap.size := hW
                dsimp only at hK
                (try rw [hlate]); (try rw [hlate] at hK)
                replace hK : Shut (∀ (ra : Act) (rv : Value) (rw : World), ra = _ → Stand w w1.heap.size sb (.slice oa i oc) (.slice ha N.length hc) G N P rw ∧ wr.heap.size ≤ rw.heap.size → Below ww.heap.size ww rw → (rv = .int .i64 q65) → K ra rw) := hK
                have r64 : (xx 1) = .int .i64 (i : Int) := hd 1 (by kernel_rfl)
                rw [r64] at hK; (try rw [r64])
                clear hd
                go_simp
                exact hK.out _ _ _ rfl hW (Below.refl _ _) rfl
              case rs1_3 =>
                intro xx ww hW hlate hd K hK
                replace hW : Stand w w1.heap.size sb (.slice oa i oc) (.slice ha N.length hc) G N P ww ∧ wr.heap.size ≤ ww.heap.size := hW
                dsimp only at hK
                (try rw [hlate]); (try rw [hlate] at hK)
                replace hK : Shut (∀ (ra : Act) (rv : Value) (rw : World), ra = _ → Stand w w1.heap.size sb (.slice oa i oc) (.slice ha N.length hc) G N P rw ∧ wr.heap.size ≤ rw.heap.size → Below ww.heap.size ww rw → (rv = .int .i64 q66) → K ra rw) := hK
                have r65 : (xx 2) = .int .i64 q65 := hd 2 (by kernel_rfl)
                rw [r65] at hK; (try rw [r65])
                clear hd
                go_simp
                exact hK.out _ _ _ rfl hW (Below.refl _ _) rfl
              case rs1_4 =>
                intro xx ww hW hlate hd K hK
                replace hW : Stand w w1.heap.size sb (.slice oa i oc) (.slice ha N.length hc) G N P ww ∧ wr.heap.size ≤ ww.heap.size := hW
                dsimp only at hK
                (try rw [hlate]); (try rw [hlate] at hK)
                replace hK : Shut (∀ (ra : Act) (rv : Value) (rw : World), ra = _ → Stand w w1.heap.size sb (.slice oa i oc) (.slice ha N.length hc) G N P rw ∧ wr.heap.size ≤ rw.heap.size → Below ww.heap.size ww rw → (rv = .int .i64 q67) → K ra rw) := hK
                have r66 : (xx 3) = .int .i64 q66 := hd 3 (by kernel_rfl)
                rw [r66] at hK; (try rw [r66])
                clear hd
                go_simp
                exact hK.out _ _ _ rfl hW (Below.refl _ _) rfl
              case rs1_5 =>
                intro xx ww hW hlate hd K hK
                replace hW : Stand w w1.heap.size sb (.slice oa i oc) (.slice ha N.length hc) G N P ww ∧ wr.heap.size ≤ ww.heap.size := hW
                dsimp only at hK
                (try rw [hlate]); (try rw [hlate] at hK)
                replace hK : Shut (∀ (ra : Act) (rv : Value) (rw : World), ra = _ → Stand w w1.heap.size sb (.slice oa i oc) (.slice ha N.length hc) G N P rw ∧ wr.heap.size ≤ rw.heap.size → Below ww.heap.size ww rw → (rv = .int .u8 (X.toNat : Int)) → K ra rw) := hK
                have r67 : (xx 4) = .int .i64 q67 := hd 4 (by kernel_rfl)
                rw [r67] at hK; (try rw [r67])
                clear hd
                go_simp
                exact hK.out _ _ _ rfl hW (Below.refl _ _) rfl
              case rs1_6 =>
                intro xx ww hW hlate hd K hK
                replace hW : Stand w w1.heap.size sb (.slice oa i oc) (.slice ha N.length hc) G N P ww ∧ wr.heap.size ≤ ww.heap.size := hW
                dsimp only at hK
                (try rw [hlate]); (try rw [hlate] at hK)
                replace hK : Shut (∀ (ra : Act) (rv : Value) (rw : World), ra = _ → Stand w w1.heap.size sb (.slice oa i oc) (.slice ha N.length hc) G N P rw ∧ wr.heap.size ≤ rw.heap.size → Below ww.heap.size ww rw → (rv = .int .i64 (i : Int)) → K ra rw) := hK
                clear hd
                go_simp
                exact hK.out _ _ _ rfl hW (Below.refl _ _) rfl
              case rs1_7 =>
                intro xx ww hW hlate hd K hK
                replace hW : Stand w w1.heap.size sb (.slice oa i oc) (.slice ha N.length hc) G N P ww ∧ wr.heap.size ≤ ww.heap.size := hW
                dsimp only at hK
                (try rw [hlate]); (try rw [hlate] at hK)
                replace hK : Shut (∀ (ra : Act) (rv : Value) (rw : World), ra = _ → Stand w w1.heap.size sb (.slice oa i oc) (.slice ha N.length hc) G N P rw ∧ wr.heap.size ≤ rw.heap.size → Below ww.heap.size ww rw → (rv = .int .i64 q70) → K ra rw) := hK
                have r69 : (xx 6) = .int .i64 (i : Int) := hd 6 (by kernel_rfl)
                rw [r69] at hK; (try rw [r69])
                clear hd
                go_simp
                exact hK.out _ _ _ rfl hW (Below.refl _ _) rfl
              case rs1_8 =>
                intro xx ww hW hlate hd K hK
                replace hW : Stand w w1.heap.size sb (.slice oa i oc) (.slice ha N.length hc) G N P ww ∧ wr.heap.size ≤ ww.heap.size := hW
                dsimp only at hK
                (try rw [hlate]); (try rw [hlate] at hK)
                replace hK : Shut (∀ (ra : Act) (rv : Value) (rw : World), ra = _ → Stand w w1.heap.size sb (.slice oa i oc) (.slice ha N.length hc) G N P rw ∧ wr.heap.size ≤ rw.heap.size → Below ww.heap.size ww rw → (rv = .int .i64 q71) → K ra rw) := hK
                have r70 : (xx 7) = .int .i64 q70 := hd 7 (by kernel_rfl)
                rw [r70] at hK; (try rw [r70])
                clear hd
                go_simp
                exact hK.out _ _ _ rfl hW (Below.refl _ _) rfl
              case rs1_9 =>
                intro xx ww hW hlate hd K hK
                replace hW : Stand w w1.heap.size sb (.slice oa i oc) (.slice ha N.length hc) G N P ww ∧ wr.heap.size ≤ ww.heap.size := hW
                dsimp only at hK
                (try rw [hlate]); (try rw [hlate] at hK)
                replace hK : Shut (∀ (ra : Act) (rv : Value) (rw : World), ra = _ → Stand w w1.heap.size sb (.slice oa i oc) (.slice ha N.length hc) G N P rw ∧ wr.heap.size ≤ rw.heap.size → Below ww.heap.size ww rw → (rv = .int .u8 (Y.toNat : Int)) → K ra rw) := hK
                have r71 : (xx 8) = .int .i64 q71 := hd 8 (by kernel_rfl)
                rw [r71] at hK; (try rw [r71])
                clear hd
                go_simp
                exact hK.out _ _ _ rfl hW (Below.refl _ _) rfl
              case rs1_10 =>
                intro xx ww hW hlate hd K hK
                replace hW : Stand w w1.heap.size sb (.slice oa i oc) (.slice ha N.length hc) G N P ww ∧ wr.heap.size ≤ ww.heap.size := hW
                dsimp only at hK
                (try rw [hlate]); (try rw [hlate] at hK)
                replace hK : Shut (∀ (ra : Act) (rv : Value) (rw : World), ra = _ → Stand w w1.heap.size sb (.slice oa i oc) (.slice ha N.length hc) G N P rw ∧ wr.heap.size ≤ rw.heap.size → Below ww.heap.size ww rw → (rv = .int .i64 (i : Int)) → K ra rw) := hK
                clear hd
                go_simp
                exact hK.out _ _ _ rfl hW (Below.refl _ _) rfl
              case rs1_11 =>
                intro xx ww hW hlate hd K hK
                replace hW : Stand w w1.heap.size sb (.slice oa i oc) (.slice ha N.length hc) G N P ww ∧ wr.heap.size ≤ ww.heap.size := hW
                dsimp only at hK
                (try rw [hlate]); (try rw [hlate] at hK)
                replace hK : Shut (∀ (ra : Act) (rv : Value) (rw : World), ra = _ → Stand w w1.heap.size sb (.slice oa i oc) (.slice ha N.length hc) G N P rw ∧ wr.heap.size ≤ rw.heap.size → Below ww.heap.size ww rw → (rv = .int .u8 (T.toNat : Int)) → K ra rw) := hK
                have r73 : (xx 10) = .int .i64 (i : Int) := hd 10 (by kernel_rfl)
                rw [r73] at hK; (try rw [r73])
                clear hd
                go_simp
                exact hK.out _ _ _ rfl hW (Below.refl _ _) rfl
              case rs1_12 =>
                intro xx ww hW hlate hd K hK
                replace hW : Stand w w1.heap.size sb (.slice oa i oc) (.slice ha N.length hc) G N P ww ∧ wr.heap.size ≤ ww.heap.size := hW
                dsimp only at hK
                (try rw [hlate]); (try rw [hlate] at hK)
                replace hK : Shut (∀ (ra : Act) (rv : Value) (rw : World), ra = _ → Stand w w1.heap.size sb (.slice oa i oc) (.slice ha N.length hc) G N P rw ∧ wr.heap.size ≤ rw.heap.size → Below ww.heap.size ww rw → (∃ b, rv = .slice (some ⟨b, 0, none⟩) 3 3 ∧ wr.heap.size ≤ b ∧ Three rw b X Y T) → K ra rw) := hK
                have r68 : (xx 5) = .int .u8 (X.toNat : Int) := hd 5 (by kernel_rfl)
                have r72 : (xx 9) = .int .u8 (Y.toNat : Int) := hd 9 (by kernel_rfl)
                have r74 : (xx 11) = .int .u8 (T.toNat : Int) := hd 11 (by kernel_rfl)
                rw [r68] at hK; (try rw [r68])
                rw [r72] at hK; (try rw [r72])
                rw [r74] at hK; (try rw [r74])
                clear hd
                (go_simp; exact hK.out _ _ _ rfl ⟨hW.1.next (b_alloc _ _), Nat.le_trans hW.2 (b_alloc _ _).size⟩ (b_alloc _ _) ⟨_, rfl, hW.2, Three.new _ _ _ _ _⟩)
              case rs1_13 =>
                intro xx ww hW hlate hd K hK
                replace hW : Stand w w1.heap.size sb (.slice oa i oc) (.slice ha N.length hc) G N P ww ∧ wr.heap.size ≤ ww.heap.size := hW
                dsimp only at hK
                (try rw [hlate]); (try rw [hlate] at hK)
                replace hK : Shut (∀ (ra : Act) (rv : Value) (rw : World), ra = _ → Stand w w1.heap.size sb (.slice oa i oc) (.slice ha N.length hc) G N P rw ∧ wr.heap.size ≤ rw.heap.size → Below ww.heap.size ww rw → (rv = .string I) → K ra rw) := hK
                have r75 : ∃ b, (xx 12) = .slice (some ⟨b, 0, none⟩) 3 3 ∧ wr.heap.size ≤ b ∧ Three ww b X Y T := hd 12 (by kernel_rfl)
                obtain ⟨b75, e75, s75, t75⟩ := r75
                rw [e75] at hK; (try rw [e75])
                clear hd
                (have c76 := t75.conv; rw [← hId.out] at c76; go_simp; exact hK.out _ _ _ rfl hW (Below.refl _ _) rfl)
              case rs1_14 =>
                intro xx ww hW hlate hd K hK
                replace hW : Stand w w1.heap.size sb (.slice oa i oc) (.slice ha N.length hc) G N P ww ∧ wr.heap.size ≤ ww.heap.size := hW
                dsimp only at hK
                (try rw [hlate]); (try rw [hlate] at hK)
                replace hK : Shut (∀ (ra : Act) (rv : Value) (rw : World), ra = _ → Stand w w1.heap.size sb (.slice oa i oc) (.slice ha N.length hc) G N P rw ∧ wr.heap.size ≤ rw.heap.size → Below ww.heap.size ww rw → (rv = .slice ha N.length hc) → K ra rw) := hK
                clear hd
                go_simp
                exact hK.out _ _ _ rfl hW (Below.refl _ _) rfl
              case rs1_15 =>
                intro xx ww hW hlate hd K hK
                replace hW : Stand w w1.heap.size sb (.slice oa i oc) (.slice ha N.length hc) G N P ww ∧ wr.heap.size ≤ ww.heap.size := hW
                dsimp only at hK
                (try rw [hlate]); (try rw [hlate] at hK)
                replace hK : Shut (∀ (ra : Act) (rv : Value) (rw : World), ra = _ → Stand w w1.heap.size sb (.slice oa i oc) (.slice ha N.length hc) G N P rw ∧ wr.heap.size ≤ rw.heap.size → Below ww.heap.size ww rw → (rv = .int .i64 H) → K ra rw) := hK
                have r77 : (xx 14) = .slice ha N.length hc := hd 14 (by kernel_rfl)
                rw [r77] at hK; (try rw [r77])
                clear hd
                (go_simp; go_at_call 19; refine (hHt.out _ hW.1).mono ?_; rintro e w7 ⟨rfl, rfl⟩; go_simp; exact hK.out _ _ _ rfl hW (Below.refl _ _) rfl)
              case rs1_16 =>
                intro xx ww hW hlate hd K hK
                replace hW : Stand w w1.heap.size sb (.slice oa i oc) (.slice ha N.length hc) G N P ww ∧ wr.heap.size ≤ ww.heap.size := hW
                dsimp only at hK
                (try rw [hlate]); (try rw [hlate] at hK)
                replace hK : Shut (∀ (ra : Act) (rv : Value) (rw : World), ra = _ → Stand w w1.heap.size sb (.slice oa i oc) (.slice ha N.length hc) G N P rw ∧ wr.heap.size ≤ rw.heap.size → Below ww.heap.size ww rw → (rv = .pointer (some ⟨sb, 0, none⟩)) → K ra rw) := hK
                clear hd
                go_simp
                exact hK.out _ _ _ rfl hW (Below.refl _ _) rfl
              case rs1_17 =>
                intro xx ww hW hlate hd K hK
                replace hW : Stand w w1.heap.size sb (.slice oa i oc) (.slice ha N.length hc) G N P ww ∧ wr.heap.size ≤ ww.heap.size := hW
                dsimp only at hK
                (try rw [hlate]); (try rw [hlate] at hK)
                replace hK : Shut (∀ (ra : Act) (rv : Value) (rw : World), ra = _ → Stand w w1.heap.size sb (.slice oa i oc) (.slice ha N.length hc) G N P rw ∧ wr.heap.size ≤ rw.heap.size → Below ww.heap.size ww rw → (∃ a c, rv = .slice a P.length c ∧ OwnT w.heap.size rw (.slice a P.length c) P) → K ra rw) := hK
                have r79 : (xx 16) = .pointer (some ⟨sb, 0, none⟩) := hd 16 (by kernel_rfl)
                rw [r79] at hK; (try rw [r79])
                clear hd
                (go_simp; go_at_call 20; refine (hLs.out _ hW.1).mono ?_; rintro e w8 ⟨a8, c8, rfl, o8, b8⟩; go_simp; exact hK.out _ _ _ rfl ⟨hW.1.next b8, Nat.le_trans hW.2 b8.size⟩ b8 ⟨_, _, rfl, o8.mono hW.1.below.size⟩)
              case rs1_18 =>
                intro xx ww hW hlate hd K hK
                replace hW : Stand w w1.heap.size sb (.slice oa i oc) (.slice ha N.length hc) G N P ww ∧ wr.heap.size ≤ ww.heap.size := hW
                dsimp only at hK
                (try rw [hlate]); (try rw [hlate] at hK)
                replace hK : Shut (∀ (ra : Act) (rv : Value) (rw : World), ra = _ → Stand w w1.heap.size sb (.slice oa i oc) (.slice ha N.length hc) G N P rw ∧ wr.heap.size ≤ rw.heap.size → Below ww.heap.size ww rw → (∃ a c, rv = .agg #[.string I, .int .i64 H, .slice a P.length c] ∧ OwnT w.heap.size rw (.slice a P.length c) P) → K ra rw) := hK
                have r76 : (xx 13) = .string I := hd 13 (by kernel_rfl)
                have r78 : (xx 15) = .int .i64 H := hd 15 (by kernel_rfl)
                have r80 : ∃ a c, (xx 17) = .slice a P.length c ∧ OwnT w.heap.size ww (.slice a P.length c) P := hd 17 (by kernel_rfl)
                rw [r76] at hK; (try rw [r76])
                rw [r78] at hK; (try rw [r78])
                obtain ⟨a80, c80, e80, o80⟩ := r80
                rw [e80] at hK; (try rw [e80])
                clear hd
                (go_simp; exact hK.out _ _ _ rfl hW (Below.refl _ _) ⟨_, _, rfl, o80⟩)
              case rs1_19 =>
                intro xx ww hW hlate hd K hK
                replace hW : Stand w w1.heap.size sb (.slice oa i oc) (.slice ha N.length hc) G N P ww ∧ wr.heap.size ≤ ww.heap.size := hW
                dsimp only at hK
                (try rw [hlate]); (try rw [hlate] at hK)
                replace hK : Shut (∀ (ra : Act) (rv : Value) (rw : World), ra = _ → Stand w w1.heap.size sb (.slice oa i oc) (.slice ha N.length hc) G N P rw ∧ wr.heap.size ≤ rw.heap.size → Below ww.heap.size ww rw → (∃ q a c, rv = .slice (some ⟨q, 0, none⟩) 1 1 ∧ OwnT w.heap.size rw (.slice a P.length c) P ∧ FxVar rw q ⟨⟨I, H, P⟩, a, c⟩) → K ra rw) := hK
                have r81 : ∃ a c, (xx 18) = .agg #[.string I, .int .i64 H, .slice a P.length c] ∧ OwnT w.heap.size ww (.slice a P.length c) P := hd 18 (by kernel_rfl)
                obtain ⟨a81, c81, e81, o81⟩ := r81
                rw [e81] at hK; (try rw [e81])
                clear hd
                (go_simp; exact hK.out _ _ _ rfl ⟨hW.1.next (b_alloc _ _), Nat.le_trans hW.2 (b_alloc _ _).size⟩ (b_alloc _ _) ⟨_, _, _, rfl, o81.next (b_alloc _ _), FxVar.new _ ⟨⟨I, H, P⟩, a81, c81⟩⟩)
              case rs1_20 =>
                intro xx ww hW hlate hd K hK
                replace hW : Stand w w1.heap.size sb (.slice oa i oc) (.slice ha N.length hc) G N P ww ∧ wr.heap.size ≤ ww.heap.size := hW
                dsimp only at hK
                (try rw [hlate]); (try rw [hlate] at hK)
                replace hK : Shut (∀ (ra : Act) (rv : Value) (rw : World), ra = _ → Stand w w1.heap.size sb (.slice oa i oc) (.slice ha N.length hc) G N P rw ∧ wr.heap.size ≤ rw.heap.size → ww.grownBy rw (Value.slice oa i oc).ownBlock → (∃ x : Fx, x.f = ⟨I, H, P⟩ ∧ OwnX w.heap.size rw rv (G ++ [x]) ∧ OwnT w.heap.size rw (.slice x.pa x.f.pars.length x.pc) x.f.pars) → K ra rw) := hK
                have r63 : (xx 0) = .slice oa i oc := hd 0 (by kernel_rfl)
                have r82 : ∃ q a c, (xx 19) = .slice (some ⟨q, 0, none⟩) 1 1 ∧ OwnT w.heap.size ww (.slice a P.length c) P ∧ FxVar ww q ⟨⟨I, H, P⟩, a, c⟩ := hd 19 (by kernel_rfl)
                rw [r63] at hK; (try rw [r63])
                obtain ⟨q82, a82, c82, e82, o82, f82⟩ := r82
                rw [e82] at hK; (try rw [e82])
                clear hd
                (refine step_append_fx (by rfl) (.tmp 63) (.tmp 82) (by rfl) w.heap.size (.slice oa i oc) G ⟨⟨I, H, P⟩, a82, c82⟩ q82 r63 e82 hW.1.out (new_cells f82) hW.1.below.size hlenG.out ?_; intro v9 w9 h1 h2 h3; exact hK.out _ _ _ (by dsimp only; rw [hlate, r63, e82]) ⟨hW.1.appended h2 h3, Nat.le_trans hW.2 h3.size⟩ h3 ⟨_, rfl, h1, World.ownsRow.kept o82 h3 (own_apart o82 hW.1.out (by decide))⟩)
              case rs1_21 =>
                intro xx ww hW hlate hd K hK
                replace hW : Stand w w1.heap.size sb (.slice oa i oc) (.slice ha N.length hc) G N P ww ∧ wr.heap.size ≤ ww.heap.size := hW
                dsimp only at hK
                (try rw [hlate]); (try rw [hlate] at hK)
                replace hK : Shut (∀ (ra : Act) (rv : Value) (rw : World), ra = _ → Stand w w1.heap.size sb (.slice oa i oc) (.slice ha N.length hc) G N P rw ∧ wr.heap.size ≤ rw.heap.size → Below ww.heap.size ww rw → (∃ x : Fx, x.f = ⟨I, H, P⟩ ∧ OwnX w.heap.size rw rv (G ++ [x]) ∧ OwnT w.heap.size rw (.slice x.pa x.f.pars.length x.pc) x.f.pars) → K ra rw) := hK
                have r83 : ∃ x : Fx, x.f = ⟨I, H, P⟩ ∧ OwnX w.heap.size ww (xx 20) (G ++ [x]) ∧ OwnT w.heap.size ww (.slice x.pa x.f.pars.length x.pc) x.f.pars := hd 20 (by kernel_rfl)
                obtain ⟨x83, e83, o83, p83⟩ := r83
                clear hd
                (go_simp; exact hK.out _ _ _ rfl hW (Below.refl _ _) ⟨x83, e83, o83, p83⟩)
            intro xx ww hW hx
            replace hW : Stand w w1.heap.size sb (.slice oa i oc) (.slice ha N.length hc) G N P ww ∧ wr.heap.size ≤ ww.heap.size := hW
            have r3 : ∃ x : Fx, x.f = ⟨I, H, P⟩ ∧ OwnX w.heap.size ww (xx 21) (G ++ [x]) ∧ OwnT w.heap.size ww (.slice x.pa x.f.pars.length x.pc) x.f.pars := hx 21 (show 21 < 22 by omega) (by kernel_rfl)
            obtain ⟨x3, e3, o3, p3⟩ := r3
            clear hx
            have hF2 : Hid (Grown (plain (G ++ [x3]))) := Lib.hid (by
              have := hF.out
              rw [← e3] at this
              unfold plain at this ⊢
              rw [List.map_append]; exact this)
            have hps2 : ∀ x ∈ G ++ [x3], OwnT w.heap.size ww (.slice x.pa x.f.pars.length x.pc) x.f.pars := fun x hx => by
              rcases List.mem_append.1 hx with hx | hx
              · exact hW.1.pars x hx
              · rw [List.mem_singleton] at hx; subst hx; exact p3
            have hlen2 : (G ++ [x3]).length = i + 1 := by rw [List.length_append, List.length_singleton, hGi]
            have hbel := hW.1.below
            clear hW hHt hLs p3
            go_wp2
            go_roundw
            case measure => simp [intOf]; have := hms.out; omega
            case rel => exact ⟨i + 1, _, hil.out, by simp, hlen2, o3, hF2, hps2, hbel⟩
          · have d1 : (k : Int) < L i := by omega
            have d2 : ¬ (k : Int) < 8 := by omega
            clear k1 k2
            clear hin hrow2 hN hS hb2 hNb hI hH hO hPs
            go_upto_region 13 with (fail)
            refine Rr.region_late (m := 21) (V := .slice oa i oc) (hlate := by kernel_rfl) (hlm := ⟨_, rfl, rfl⟩) (l := [some 63, some 64, some 65, some 66, some 67, some 68, some 69, some 70, some 71, some 72, some 73, some 74, some 75, some 76, some 77, some 78, some 79, some 80, some 81, some 82, some 83, some 3]) (aux := [0, 1, 2, 3, 4, 5, 6, 7, 8, 9, 10, 11, 12, 13, 14, 15, 16, 17, 18, 19, 20, 21]) (need := [[], [], [1], [2], [3], [4], [], [6], [7], [8], [], [10], [5, 9, 11], [12], [], [14], [], [16], [13, 15, 17], [18], [0, 19], [20]]) (live := [21]) (W := fun rw : World => Stand w w1.heap.size sb (.slice oa i oc) (.slice ha N.length hc) G N P rw ∧ wr.heap.size ≤ rw.heap.size) (R := fun (rk : Nat) (rv ru : Value) (rw : World) => match rk with | 0 => rv = .slice oa i oc | 1 => rv = .int .i64 (i : Int) | 2 => rv = .int .i64 q65 | 3 => rv = .int .i64 q66 | 4 => rv = .int .i64 q67 | 5 => rv = .int .u8 (X.toNat : Int) | 6 => rv = .int .i64 (i : Int) | 7 => rv = .int .i64 q70 | 8 => rv = .int .i64 q71 | 9 => rv = .int .u8 (Y.toNat : Int) | 10 => rv = .int .i64 (i : Int) | 11 => rv = .int .u8 (T.toNat : Int) | 12 => ∃ b, rv = .slice (some ⟨b, 0, none⟩) 3 3 ∧ wr.heap.size ≤ b ∧ Three rw b X Y T | 13 => rv = .string I | 14 => rv = .slice ha N.length hc | 15 => rv = .int .i64 H | 16 => rv = .pointer (some ⟨sb, 0, none⟩) | 17 => ∃ a c, rv = .slice a P.length c ∧ OwnT w.heap.size rw (.slice a P.length c) P | 18 => ∃ a c, rv = .agg #[.string I, .int .i64 H, .slice a P.length c] ∧ OwnT w.heap.size rw (.slice a P.length c) P | 19 => ∃ q a c, rv = .slice (some ⟨q, 0, none⟩) 1 1 ∧ OwnT w.heap.size rw (.slice a P.length c) P ∧ FxVar rw q ⟨⟨I, H, P⟩, a, c⟩ | 20 => ∃ x : Fx, x.f = ⟨I, H, P⟩ ∧ OwnX w.heap.size rw rv (G ++ [x]) ∧ OwnT w.heap.size rw (.slice x.pa x.f.pars.length x.pc) x.f.pars | 21 => ∃ x : Fx, x.f = ⟨I, H, P⟩ ∧ OwnX w.heap.size rw rv (G ++ [x]) ∧ OwnT w.heap.size rw (.slice x.pa x.f.pars.length x.pc) x.f.pars | _ => True) (E := fun (rk : Nat) (rw1 rw2 : World) => if rk = 20 then rw1.grownBy rw2 (Value.slice oa i oc).ownBlock else Below rw1.heap.size rw1 rw2) (G := ?rel2_G) (by kernel_rfl) (by kernel_rfl) ?rel2_hG (⟨hSt.next (b_drew1 wr), Nat.le_refl _⟩) ?rel2_keep ?rel2_steps ?rel2_fin
            case rel2_hG => intro xx; simp only [Rr.fill, Act.put, List.setIfInBounds_toArray, List.set_cons_zero, List.set_cons_succ, Nat.zero_add, Nat.reduceAdd]; exact rfl
            case rel2_keep =>
              intro ri rj rv ru rw1 rw2 hi hj hne hon hlost hW hR hE
              clear hi
              match rj, hj, hne, hon, hlost, hR with
              | 0, _, _, _, _, hR => exact hR
              | 1, _, _, _, _, hR => exact hR
              | 2, _, _, _, _, hR => exact hR
              | 3, _, _, _, _, hR => exact hR
              | 4, _, _, _, _, hR => exact hR
              | 5, _, _, _, _, hR => exact hR
              | 6, _, _, _, _, hR => exact hR
              | 7, _, _, _, _, hR => exact hR
              | 8, _, _, _, _, hR => exact hR
              | 9, _, _, _, _, hR => exact hR
              | 10, _, _, _, _, hR => exact hR
              | 11, _, _, _, _, hR => exact hR
              | 12, _, hne, hon, hlost, hR =>
                replace hR : ∃ b, rv = .slice (some ⟨b, 0, none⟩) 3 3 ∧ wr.heap.size ≤ b ∧ Three rw1 b X Y T := hR
                show ∃ b, rv = .slice (some ⟨b, 0, none⟩) 3 3 ∧ wr.heap.size ≤ b ∧ Three rw2 b X Y T
                by_cases hq20 : ri = 20
                · replace hE := Eq.mp (if_pos hq20) hE; obtain ⟨b, e, s, h⟩ := hR; exact ⟨b, e, s, h.grown hE hown0.out s⟩
                replace hE := Eq.mp (if_neg hq20) hE
                obtain ⟨b, e, s, h⟩ := hR; exact ⟨b, e, s, h.next hE⟩
              | 13, _, _, _, _, hR => exact hR
              | 14, _, _, _, _, hR => exact hR
              | 15, _, _, _, _, hR => exact hR
              | 16, _, _, _, _, hR => exact hR
              | 17, _, hne, hon, hlost, hR =>
                replace hR : ∃ a c, rv = .slice a P.length c ∧ OwnT w.heap.size rw1 (.slice a P.length c) P := hR
                show ∃ a c, rv = .slice a P.length c ∧ OwnT w.heap.size rw2 (.slice a P.length c) P
                by_cases hq20 : ri = 20
                · replace hE := Eq.mp (if_pos hq20) hE; obtain ⟨a, c, e, h⟩ := hR; exact ⟨a, c, e, World.ownsRow.kept h hE (own_apart h hW.1.out (by decide))⟩
                replace hE := Eq.mp (if_neg hq20) hE
                obtain ⟨a, c, e, h⟩ := hR; exact ⟨a, c, e, h.next hE⟩
              | 18, _, hne, hon, hlost, hR =>
                replace hR : ∃ a c, rv = .agg #[.string I, .int .i64 H, .slice a P.length c] ∧ OwnT w.heap.size rw1 (.slice a P.length c) P := hR
                show ∃ a c, rv = .agg #[.string I, .int .i64 H, .slice a P.length c] ∧ OwnT w.heap.size rw2 (.slice a P.length c) P
                by_cases hq20 : ri = 20
                · subst hq20; exact (Rr.no_lost hlost (by kernel_rfl)).elim
                replace hE := Eq.mp (if_neg hq20) hE
                obtain ⟨a, c, e, h⟩ := hR; exact ⟨a, c, e, h.next hE⟩
              | 19, _, hne, hon, hlost, hR =>
                replace hR : ∃ q a c, rv = .slice (some ⟨q, 0, none⟩) 1 1 ∧ OwnT w.heap.size rw1 (.slice a P.length c) P ∧ FxVar rw1 q ⟨⟨I, H, P⟩, a, c⟩ := hR
                show ∃ q a c, rv = .slice (some ⟨q, 0, none⟩) 1 1 ∧ OwnT w.heap.size rw2 (.slice a P.length c) P ∧ FxVar rw2 q ⟨⟨I, H, P⟩, a, c⟩
                by_cases hq20 : ri = 20
                · subst hq20; exact (Rr.no_lost hlost (by kernel_rfl)).elim
                replace hE := Eq.mp (if_neg hq20) hE
                obtain ⟨q, a, c, e, h, f⟩ := hR; exact ⟨q, a, c, e, h.next hE, f.next hE⟩
              | 20, _, hne, hon, hlost, hR =>
                replace hR : ∃ x : Fx, x.f = ⟨I, H, P⟩ ∧ OwnX w.heap.size rw1 rv (G ++ [x]) ∧ OwnT w.heap.size rw1 (.slice x.pa x.f.pars.length x.pc) x.f.pars := hR
                show ∃ x : Fx, x.f = ⟨I, H, P⟩ ∧ OwnX w.heap.size rw2 rv (G ++ [x]) ∧ OwnT w.heap.size rw2 (.slice x.pa x.f.pars.length x.pc) x.f.pars
                replace hE := Eq.mp (if_neg (show ¬ ri = 20 from fun g => hne g.symm)) hE
                obtain ⟨x, e, h, p⟩ := hR; exact ⟨x, e, h.next hE, p.next hE⟩
              | 21, _, hne, hon, hlost, hR =>
                replace hR : ∃ x : Fx, x.f = ⟨I, H, P⟩ ∧ OwnX w.heap.size rw1 rv (G ++ [x]) ∧ OwnT w.heap.size rw1 (.slice x.pa x.f.pars.length x.pc) x.f.pars := hR
                show ∃ x : Fx, x.f = ⟨I, H, P⟩ ∧ OwnX w.heap.size rw2 rv (G ++ [x]) ∧ OwnT w.heap.size rw2 (.slice x.pa x.f.pars.length x.pc) x.f.pars
                by_cases hq20 : ri = 20
                · subst hq20; exact (Rr.no_lost hon (by kernel_rfl)).elim
                replace hE := Eq.mp (if_neg hq20) hE
                obtain ⟨x, e, h, p⟩ := hR; exact ⟨x, e, h.next hE, p.next hE⟩
              | rj + 22, hj, _, _, _, _ => exact absurd (show rj + 22 < 22 from hj) (by omega)
            case rel2_steps =>
              refine (Rr.RunStepsL.cons (o := { dst := some 63, op := _, type := _, pos := _, after := _, guard := none }) rfl ?rs2_0 (Rr.RunStepsL.cons (o := { dst := some 64, op := _, type := _, pos := _, after := _, guard := none }) rfl ?rs2_1 (Rr.RunStepsL.cons (o := { dst := some 65, op := _, type := _, pos := _, after := _, guard := none }) rfl ?rs2_2 (Rr.RunStepsL.cons (o := { dst := some 66, op := _, type := _, pos := _, after := _, guard := none }) rfl ?rs2_3 (Rr.RunStepsL.cons (o := { dst := some 67, op := _, type := _, pos := _, after := _, guard := none }) rfl ?rs2_4 (Rr.RunStepsL.cons (o := { dst := some 68, op := _, type := _, pos := _, after := _, guard := none }) rfl ?rs2_5 (Rr.RunStepsL.cons (o := { dst := some 69, op := _, type := _, pos := _, after := _, guard := none }) rfl ?rs2_6 (Rr.RunStepsL.cons (o := { dst := some 70, op := _, type := _, pos := _, after := _, guard := none }) rfl ?rs2_7 (Rr.RunStepsL.cons (o := { dst := some 71, op := _, type := _, pos := _, after := _, guard := none }) rfl ?rs2_8 (Rr.RunStepsL.cons (o := { dst := some 72, op := _, type := _, pos := _, after := _, guard := none }) rfl ?rs2_9 (Rr.RunStepsL.cons (o := { dst := some 73, op := _, type := _, pos := _, after := _, guard := none }) rfl ?rs2_10 (Rr.RunStepsL.cons (o := { dst := some 74, op := _, type := _, pos := _, after := _, guard := none }) rfl ?rs2_11 (Rr.RunStepsL.cons (o := { dst := some 75, op := _, type := _, pos := _, after := _, guard := none }) rfl ?rs2_12 (Rr.RunStepsL.cons (o := { dst := some 76, op := _, type := _, pos := _, after := _, guard := none }) rfl ?rs2_13 (Rr.RunStepsL.cons (o := { dst := some 77, op := _, type := _, pos := _, after := _, guard := none }) rfl ?rs2_14 (Rr.RunStepsL.cons (o := { dst := some 78, op := _, type := _, pos := _, after := _, guard := none }) rfl ?rs2_15 (Rr.RunStepsL.cons (o := { dst := some 79, op := _, type := _, pos := _, after := _, guard := none }) rfl ?rs2_16 (Rr.RunStepsL.cons (o := { dst := some 80, op := _, type := _, pos := _, after := _, guard := none }) rfl ?rs2_17 (Rr.RunStepsL.cons (o := { dst := some 81, op := _, type := _, pos := _, after := _, guard := none }) rfl ?rs2_18 (Rr.RunStepsL.cons (o := { dst := some 82, op := _, type := _, pos := _, after := _, guard := none }) rfl ?rs2_19 (Rr.RunStepsL.cons (o := { dst := some 83, op := _, type := _, pos := _, after := _, guard := none }) rfl ?rs2_20 (Rr.RunStepsL.cons (o := { dst := some 3, op := _, type := _, pos := _, after := _, guard := none }) rfl ?rs2_21 (Rr.RunStepsL.nil rfl)))))))))))))))))))))))
              case rs2_0 =>
                intro xx ww hW hlate hd K hK
                replace hW : Stand w w1.heap.size sb (.slice oa i oc) (.slice ha N.length hc) G N P ww ∧ wr.heap.size ≤ ww.heap.size := hW
                dsimp only at hK
                (try rw [hlate]); (try rw [hlate] at hK)
                replace hK : Shut (∀ (ra : Act) (rv : Value) (rw : World), ra = _ → Stand w w1.heap.size sb (.slice oa i oc) (.slice ha N.length hc) G N P rw ∧ wr.heap.size ≤ rw.heap.size → Below ww.heap.size ww rw → (rv = .slice oa i oc) → K ra rw) := hK
                clear hd
                go_simp
                exact hK.out _ _ _ rfl hW (Below.refl _ _) rfl
              case rs2_1 =>
                intro xx ww hW hlate hd K hK
                replace hW : Stand w w1.heap.size sb (.slice oa i oc) (.slice ha N.length hc) G N P ww ∧ wr.heap.size ≤ ww.heap.size := hW
                dsimp only at hK
                (try rw [hlate]); (try rw [hlate] at hK)
                replace hK : Shut (∀ (ra : Act) (rv : Value) (rw : World), ra = _ → Stand w w1.heap.size sb (.slice oa i oc) (.slice ha N.length hc) G N P rw ∧ wr.heap.size ≤ rw.heap.size → Below ww.heap.size ww rw → (rv = .int .i64 (i : Int)) → K ra rw) := hK
                clear hd
                go_simp
                exact hK.out _ _ _ rfl hW (Below.refl _ _) rfl
              case rs2_2 =>
                intro xx ww hW hlate hd K hK
                replace hW : Stand w w1.heap.size sb (.slice oa i oc) (.slice ha N.length hc) G N P ww ∧ wr.heap.size ≤ ww.heap.size := hW
                dsimp only at hK
                (try rw [hlate]); (try rw [hlate] at hK)
                replace hK : Shut (∀ (ra : Act) (rv : Value) (rw : World), ra = _ → Stand w w1.heap.size sb (.slice oa i oc) (.slice ha N.length hc) G N P rw ∧ wr.heap.size ≤ rw.heap.size → Below ww.heap.size ww rw → (rv = .int .i64 q65) → K ra rw) := hK
                have r64 : (xx 1) = .int .i64 (i : Int) := hd 1 (by kernel_rfl)
                rw [r64] at hK; (try rw [r64])
                clear hd
                go_simp
                exact hK.out _ _ _ rfl hW (Below.refl _ _) rfl
              case rs2_3 =>
                intro xx ww hW hlate hd K hK
                replace hW : Stand w w1.heap.size sb (.slice oa i oc) (.slice ha N.length hc) G N P ww ∧ wr.heap.size ≤ ww.heap.size := hW
                dsimp only at hK
                (try rw [hlate]); (try rw [hlate] at hK)
                replace hK : Shut (∀ (ra : Act) (rv : Value) (rw : World), ra = _ → Stand w w1.heap.size sb (.slice oa i oc) (.slice ha N.length hc) G N P rw ∧ wr.heap.size ≤ rw.heap.size → Below ww.heap.size ww rw → (rv = .int .i64 q66) → K ra rw) := hK
                have r65 : (xx 2) = .int .i64 q65 := hd 2 (by kernel_rfl)
                rw [r65] at hK; (try rw [r65])
                clear hd
                go_simp
                exact hK.out _ _ _ rfl hW (Below.refl _ _) rfl
              case rs2_4 =>
                intro xx ww hW hlate hd K hK
                replace hW : Stand w w1.heap.size sb (.slice oa i oc) (.slice ha N.length hc) G N P ww ∧ wr.heap.size ≤ ww.heap.size := hW
                dsimp only at hK
                (try rw [hlate]); (try rw [hlate] at hK)
                replace hK : Shut (∀ (ra : Act) (rv : Value) (rw : World), ra = _ → Stand w w1.heap.size sb (.slice oa i oc) (.slice ha N.length hc) G N P rw ∧ wr.heap.size ≤ rw.heap.size → Below ww.heap.size ww rw → (rv = .int .i64 q67) → K ra rw) := hK
                have r66 : (xx 3) = .int .i64 q66 := hd 3 (by kernel_rfl)
                rw [r66] at hK; (try rw [r66])
                clear hd
                go_simp
                exact hK.out _ _ _ rfl hW (Below.refl _ _) rfl
              case rs2_5 =>
                intro xx ww hW hlate hd K hK
                replace hW : Stand w w1.heap.size sb (.slice oa i oc) (.slice ha N.length hc) G N P ww ∧ wr.heap.size ≤ ww.heap.size := hW
                dsimp only at hK
                (try rw [hlate]); (try rw [hlate] at hK)
                replace hK : Shut (∀ (ra : Act) (rv : Value) (rw : World), ra = _ → Stand w w1.heap.size sb (.slice oa i oc) (.slice ha N.length hc) G N P rw ∧ wr.heap.size ≤ rw.heap.size → Below ww.heap.size ww rw → (rv = .int .u8 (X.toNat : Int)) → K ra rw) := hK
                have r67 : (xx 4) = .int .i64 q67 := hd 4 (by kernel_rfl)
                rw [r67] at hK; (try rw [r67])
                clear hd
                go_simp
                exact hK.out _ _ _ rfl hW (Below.refl _ _) rfl
              case rs2_6 =>
                intro xx ww hW hlate hd K hK
                replace hW : Stand w w1.heap.size sb (.slice oa i oc) (.slice ha N.length hc) G N P ww ∧ wr.heap.size ≤ ww.heap.size := hW
                dsimp only at hK
                (try rw [hlate]); (try rw [hlate] at hK)
                replace hK : Shut (∀ (ra : Act) (rv : Value) (rw : World), ra = _ → Stand w w1.heap.size sb (.slice oa i oc) (.slice ha N.length hc) G N P rw ∧ wr.heap.size ≤ rw.heap.size → Below ww.heap.size ww rw → (rv = .int .i64 (i : Int)) → K ra rw) := hK
                clear hd
                go_simp
                exact hK.out _ _ _ rfl hW (Below.refl _ _) rfl
              case rs2_7 =>
                intro xx ww hW hlate hd K hK
                replace hW : Stand w w1.heap.size sb (.slice oa i oc) (.slice ha N.length hc) G N P ww ∧ wr.heap.size ≤ ww.heap.size := hW
                dsimp only at hK
                (try rw [hlate]); (try rw [hlate] at hK)
                replace hK : Shut (∀ (ra : Act) (rv : Value) (rw : World), ra = _ → Stand w w1.heap.size sb (.slice oa i oc) (.slice ha N.length hc) G N P rw ∧ wr.heap.size ≤ rw.heap.size → Below ww.heap.size ww rw → (rv = .int .i64 q70) → K ra rw) := hK
                have r69 : (xx 6) = .int .i64 (i : Int) := hd 6 (by kernel_rfl)
                rw [r69] at hK; (try rw [r69])
                clear hd
                go_simp
                exact hK.out _ _ _ rfl hW (Below.refl _ _) rfl
              case rs2_8 =>
                intro xx ww hW hlate hd K hK
                replace hW : Stand w w1.heap.size sb (.slice oa i oc) (.slice ha N.length hc) G N P ww ∧ wr.heap.size ≤ ww.heap.size := hW
                dsimp only at hK
                (try rw [hlate]); (try rw [hlate] at hK)
                replace hK : Shut (∀ (ra : Act) (rv : Value) (rw : World), ra = _ → Stand w w1.heap.size sb (.slice oa i oc) (.slice ha N.length hc) G N P rw ∧ wr.heap.size ≤ rw.heap.size → Below ww.heap.size ww rw → (rv = .int .i64 q71) → K ra rw) := hK
                have r70 : (xx 7) = .int .i64 q70 := hd 7 (by kernel_rfl)
                rw [r70] at hK; (try rw [r70])
                clear hd
                go_simp
                exact hK.out _ _ _ rfl hW (Below.refl _ _) rfl
              case rs2_9 =>
                intro xx ww hW hlate hd K hK
                replace hW : Stand w w1.heap.size sb (.slice oa i oc) (.slice ha N.length hc) G N P ww ∧ wr.heap.size ≤ ww.heap.size := hW
                dsimp only at hK
                (try rw [hlate]); (try rw [hlate] at hK)
                replace hK : Shut (∀ (ra : Act) (rv : Value) (rw : World), ra = _ → Stand w w1.heap.size sb (.slice oa i oc) (.slice ha N.length hc) G N P rw ∧ wr.heap.size ≤ rw.heap.size → Below ww.heap.size ww rw → (rv = .int .u8 (Y.toNat : Int)) → K ra rw) := hK
                have r71 : (xx 8) = .int .i64 q71 := hd 8 (by kernel_rfl)
                rw [r71] at hK; (try rw [r71])
                clear hd
                go_simp
                exact hK.out _ _ _ rfl hW (Below.refl _ _) rfl
              case rs2_10 =>
                intro xx ww hW hlate hd K hK
                replace hW : Stand w w1.heap.size sb (.slice oa i oc) (.slice ha N.length hc) G N P ww ∧ wr.heap.size ≤ ww.heap.size := hW
                dsimp only at hK
                (try rw [hlate]); (try rw [hlate] at hK)
                replace hK : Shut (∀ (ra : Act) (rv : Value) (rw : World), ra = _ → Stand w w1.heap.size sb (.slice oa i oc) (.slice ha N.length hc) G N P rw ∧ wr.heap.size ≤ rw.heap.size → Below ww.heap.size ww rw → (rv = .int .i64 (i : Int)) → K ra rw) := hK
                clear hd
                go_simp
                exact hK.out _ _ _ rfl hW (Below.refl _ _) rfl
              case rs2_11 =>
                intro xx ww hW hlate hd K hK
                replace hW : Stand w w1.heap.size sb (.slice oa i oc) (.slice ha N.length hc) G N P ww ∧ wr.heap.size ≤ ww.heap.size := hW
                dsimp only at hK
                (try rw [hlate]); (try rw [hlate] at hK)
                replace hK : Shut (∀ (ra : Act) (rv : Value) (rw : World), ra = _ → Stand w w1.heap.size sb (.slice oa i oc) (.slice ha N.length hc) G N P rw ∧ wr.heap.size ≤ rw.heap.size → Below ww.heap.size ww rw → (rv = .int .u8 (T.toNat : Int)) → K ra rw) := hK
                have r73 : (xx 10) = .int .i64 (i : Int) := hd 10 (by kernel_rfl)
                rw [r73] at hK; (try rw [r73])
                clear hd
                go_simp
                exact hK.out _ _ _ rfl hW (Below.refl _ _) rfl
              case rs2_12 =>
                intro xx ww hW hlate hd K hK
                replace hW : Stand w w1.heap.size sb (.slice oa i oc) (.slice ha N.length hc) G N P ww ∧ wr.heap.size ≤ ww.heap.size := hW
                dsimp only at hK
                (try rw [hlate]); (try rw [hlate] at hK)
                replace hK : Shut (∀ (ra : Act) (rv : Value) (rw : World), ra = _ → Stand w w1.heap.size sb (.slice oa i oc) (.slice ha N.length hc) G N P rw ∧ wr.heap.size ≤ rw.heap.size → Below ww.heap.size ww rw → (∃ b, rv = .slice (some ⟨b, 0, none⟩) 3 3 ∧ wr.heap.size ≤ b ∧ Three rw b X Y T) → K ra rw) := hK
                have r68 : (xx 5) = .int .u8 (X.toNat : Int) := hd 5 (by kernel_rfl)
                have r72 : (xx 9) = .int .u8 (Y.toNat : Int) := hd 9 (by kernel_rfl)
                have r74 : (xx 11) = .int .u8 (T.toNat : Int) := hd 11 (by kernel_rfl)
                rw [r68] at hK; (try rw [r68])
                rw [r72] at hK; (try rw [r72])
                rw [r74] at hK; (try rw [r74])
                clear hd
                (go_simp; exact hK.out _ _ _ rfl ⟨hW.1.next (b_alloc _ _), Nat.le_trans hW.2 (b_alloc _ _).size⟩ (b_alloc _ _) ⟨_, rfl, hW.2, Three.new _ _ _ _ _⟩)
              case rs2_13 =>
                intro xx ww hW hlate hd K hK
                replace hW : Stand w w1.heap.size sb (.slice oa i oc) (.slice ha N.length hc) G N P ww ∧ wr.heap.size ≤ ww.heap.size := hW
                dsimp only at hK
                (try rw [hlate]); (try rw [hlate] at hK)
                replace hK : Shut (∀ (ra : Act) (rv : Value) (rw : World), ra = _ → Stand w w1.heap.size sb (.slice oa i oc) (.slice ha N.length hc) G N P rw ∧ wr.heap.size ≤ rw.heap.size → Below ww.heap.size ww rw → (rv = .string I) → K ra rw) := hK
                have r75 : ∃ b, (xx 12) = .slice (some ⟨b, 0, none⟩) 3 3 ∧ wr.heap.size ≤ b ∧ Three ww b X Y T := hd 12 (by kernel_rfl)
                obtain ⟨b75, e75, s75, t75⟩ := r75
                rw [e75] at hK; (try rw [e75])
                clear hd
                (have c76 := t75.conv; rw [← hId.out] at c76; go_simp; exact hK.out _ _ _ rfl hW (Below.refl _ _) rfl)
              case rs2_14 =>
                intro xx ww hW hlate hd K hK
                replace hW : Stand w w1.heap.size sb (.slice oa i oc) (.slice ha N.length hc) G N P ww ∧ wr.heap.size ≤ ww.heap.size := hW
                dsimp only at hK
                (try rw [hlate]); (try rw [hlate] at hK)
                replace hK : Shut (∀ (ra : Act) (rv : Value) (rw : World), ra = _ → Stand w w1.heap.size sb (.slice oa i oc) (.slice ha N.length hc) G N P rw ∧ wr.heap.size ≤ rw.heap.size → Below ww.heap.size ww rw → (rv = .slice ha N.length hc) → K ra rw) := hK
                clear hd
                go_simp
                exact hK.out _ _ _ rfl hW (Below.refl _ _) rfl
              case rs2_15 =>
                intro xx ww hW hlate hd K hK
                replace hW : Stand w w1.heap.size sb (.slice oa i oc) (.slice ha N.length hc) G N P ww ∧ wr.heap.size ≤ ww.heap.size := hW
                dsimp only at hK
                (try rw [hlate]); (try rw [hlate] at hK)
                replace hK : Shut (∀ (ra : Act) (rv : Value) (rw : World), ra = _ → Stand w w1.heap.size sb (.slice oa i oc) (.slice ha N.length hc) G N P rw ∧ wr.heap.size ≤ rw.heap.size → Below ww.heap.size ww rw → (rv = .int .i64 H) → K ra rw) := hK
                have r77 : (xx 14) = .slice ha N.length hc := hd 14 (by kernel_rfl)
                rw [r77] at hK; (try rw [r77])
                clear hd
                (go_simp; go_at_call 19; refine (hHt.out _ hW.1).mono ?_; rintro e w7 ⟨rfl, rfl⟩; go_simp; exact hK.out _ _ _ rfl hW (Below.refl _ _) rfl)
              case rs2_16 =>
                intro xx ww hW hlate hd K hK
                replace hW : Stand w w1.heap.size sb (.slice oa i oc) (.slice ha N.length hc) G N P ww ∧ wr.heap.size ≤ ww.heap.size := hW
                dsimp only at hK
                (try rw [hlate]); (try rw [hlate] at hK)
                replace hK : Shut (∀ (ra : Act) (rv : Value) (rw : World), ra = _ → Stand w w1.heap.size sb (.slice oa i oc) (.slice ha N.length hc) G N P rw ∧ wr.heap.size ≤ rw.heap.size → Below ww.heap.size ww rw → (rv = .pointer (some ⟨sb, 0, none⟩)) → K ra rw) := hK
                clear hd
                go_simp
                exact hK.out _ _ _ rfl hW (Below.refl _ _) rfl
              case rs2_17 =>
                intro xx ww hW hlate hd K hK
                replace hW : Stand w w1.heap.size sb (.slice oa i oc) (.slice ha N.length hc) G N P ww ∧ wr.heap.size ≤ ww.heap.size := hW
                dsimp only at hK
                (try rw [hlate]); (try rw [hlate] at hK)
                replace hK : Shut (∀ (ra : Act) (rv : Value) (rw : World), ra = _ → Stand w w1.heap.size sb (.slice oa i oc) (.slice ha N.length hc) G N P rw ∧ wr.heap.size ≤ rw.heap.size → Below ww.heap.size ww rw → (∃ a c, rv = .slice a P.length c ∧ OwnT w.heap.size rw (.slice a P.length c) P) → K ra rw) := hK
                have r79 : (xx 16) = .pointer (some ⟨sb, 0, none⟩) := hd 16 (by kernel_rfl)
                rw [r79] at hK; (try rw [r79])
                clear hd
                (go_simp; go_at_call 20; refine (hLs.out _ hW.1).mono ?_; rintro e w8 ⟨a8, c8, rfl, o8, b8⟩; go_simp; exact hK.out _ _ _ rfl ⟨hW.1.next b8, Nat.le_trans hW.2 b8.size⟩ b8 ⟨_, _, rfl, o8.mono hW.1.below.size⟩)
              case rs2_18 =>
                intro xx ww hW hlate hd K hK
                replace hW : Stand w w1.heap.size sb (.slice oa i oc) (.slice ha N.length hc) G N P ww ∧ wr.heap.size ≤ ww.heap.size := hW
                dsimp only at hK
                (try rw [hlate]); (try rw [hlate] at hK)
                replace hK : Shut (∀ (ra : Act) (rv : Value) (rw : World), ra = _ → Stand w w1.heap.size sb (.slice oa i oc) (.slice ha N.length hc) G N P rw ∧ wr.heap.size ≤ rw.heap.size → Below ww.heap.size ww rw → (∃ a c, rv = .agg #[.string I, .int .i64 H, .slice a P.length c] ∧ OwnT w.heap.size rw (.slice a P.length c) P) → K ra rw) := hK
                have r76 : (xx 13) = .string I := hd 13 (by kernel_rfl)
                have r78 : (xx 15) = .int .i64 H := hd 15 (by kernel_rfl)
                have r80 : ∃ a c, (xx 17) = .slice a P.length c ∧ OwnT w.heap.size ww (.slice a P.length c) P := hd 17 (by kernel_rfl)
                rw [r76] at hK; (try rw [r76])
                rw [r78] at hK; (try rw [r78])
                obtain ⟨a80, c80, e80, o80⟩ := r80
                rw [e80] at hK; (try rw [e80])
                clear hd
                (go_simp; exact hK.out _ _ _ rfl hW (Below.refl _ _) ⟨_, _, rfl, o80⟩)
              case rs2_19 =>
                intro xx ww hW hlate hd K hK
                replace hW : Stand w w1.heap.size sb (.slice oa i oc) (.slice ha N.length hc) G N P ww ∧ wr.heap.size ≤ ww.heap.size := hW
                dsimp only at hK
                (try rw [hlate]); (try rw [hlate] at hK)
                replace hK : Shut (∀ (ra : Act) (rv : Value) (rw : World), ra = _ → Stand w w1.heap.size sb (.slice oa i oc) (.slice ha N.length hc) G N P rw ∧ wr.heap.size ≤ rw.heap.size → Below ww.heap.size ww rw → (∃ q a c, rv = .slice (some ⟨q, 0, none⟩) 1 1 ∧ OwnT w.heap.size rw (.slice a P.length c) P ∧ FxVar rw q ⟨⟨I, H, P⟩, a, c⟩) → K ra rw) := hK
                have r81 : ∃ a c, (xx 18) = .agg #[.string I, .int .i64 H, .slice a P.length c] ∧ OwnT w.heap.size ww (.slice a P.length c) P := hd 18 (by kernel_rfl)
                obtain ⟨a81, c81, e81, o81⟩ := r81
                rw [e81] at hK; (try rw [e81])
                clear hd
                (go_simp; exact hK.out _ _ _ rfl ⟨hW.1.next (b_alloc _ _), Nat.le_trans hW.2 (b_alloc _ _).size⟩ (b_alloc _ _) ⟨_, _, _, rfl, o81.next (b_alloc _ _), FxVar.new _ ⟨⟨I, H, P⟩, a81, c81⟩⟩)
              case rs2_20 =>
                intro xx ww hW hlate hd K hK
                replace hW : Stand w w1.heap.size sb (.slice oa i oc) (.slice ha N.length hc) G N P ww ∧ wr.heap.size ≤ ww.heap.size := hW
                dsimp only at hK
                (try rw [hlate]); (try rw [hlate] at hK)
                replace hK : Shut (∀ (ra : Act) (rv : Value) (rw : World), ra = _ → Stand w w1.heap.size sb (.slice oa i oc) (.slice ha N.length hc) G N P rw ∧ wr.heap.size ≤ rw.heap.size → ww.grownBy rw (Value.slice oa i oc).ownBlock → (∃ x : Fx, x.f = ⟨I, H, P⟩ ∧ OwnX w.heap.size rw rv (G ++ [x]) ∧ OwnT w.heap.size rw (.slice x.pa x.f.pars.length x.pc) x.f.pars) → K ra rw) := hK
                have r63 : (xx 0) = .slice oa i oc := hd 0 (by kernel_rfl)
                have r82 : ∃ q a c, (xx 19) = .slice (some ⟨q, 0, none⟩) 1 1 ∧ OwnT w.heap.size ww (.slice a P.length c) P ∧ FxVar ww q ⟨⟨I, H, P⟩, a, c⟩ := hd 19 (by kernel_rfl)
                rw [r63] at hK; (try rw [r63])
                obtain ⟨q82, a82, c82, e82, o82, f82⟩ := r82
                rw [e82] at hK; (try rw [e82])
                clear hd
                (refine step_append_fx (by rfl) (.tmp 63) (.tmp 82) (by rfl) w.heap.size (.slice oa i oc) G ⟨⟨I, H, P⟩, a82, c82⟩ q82 r63 e82 hW.1.out (new_cells f82) hW.1.below.size hlenG.out ?_; intro v9 w9 h1 h2 h3; exact hK.out _ _ _ (by dsimp only; rw [hlate, r63, e82]) ⟨hW.1.appended h2 h3, Nat.le_trans hW.2 h3.size⟩ h3 ⟨_, rfl, h1, World.ownsRow.kept o82 h3 (own_apart o82 hW.1.out (by decide))⟩)
              case rs2_21 =>
                intro xx ww hW hlate hd K hK
                replace hW : Stand w w1.heap.size sb (.slice oa i oc) (.slice ha N.length hc) G N P ww ∧ wr.heap.size ≤ ww.heap.size := hW
                dsimp only at hK
                (try rw [hlate]); (try rw [hlate] at hK)
                replace hK : Shut (∀ (ra : Act) (rv : Value) (rw : World), ra = _ → Stand w w1.heap.size sb (.slice oa i oc) (.slice ha N.length hc) G N P rw ∧ wr.heap.size ≤ rw.heap.size → Below ww.heap.size ww rw → (∃ x : Fx, x.f = ⟨I, H, P⟩ ∧ OwnX w.heap.size rw rv (G ++ [x]) ∧ OwnT w.heap.size rw (.slice x.pa x.f.pars.length x.pc) x.f.pars) → K ra rw) := hK
                have r83 : ∃ x : Fx, x.f = ⟨I, H, P⟩ ∧ OwnX w.heap.size ww (xx 20) (G ++ [x]) ∧ OwnT w.heap.size ww (.slice x.pa x.f.pars.length x.pc) x.f.pars := hd 20 (by kernel_rfl)
                obtain ⟨x83, e83, o83, p83⟩ := r83
                clear hd
                (go_simp; exact hK.out _ _ _ rfl hW (Below.refl _ _) ⟨x83, e83, o83, p83⟩)
            intro xx ww hW hx
            replace hW : Stand w w1.heap.size sb (.slice oa i oc) (.slice ha N.length hc) G N P ww ∧ wr.heap.size ≤ ww.heap.size := hW
            have r3 : ∃ x : Fx, x.f = ⟨I, H, P⟩ ∧ OwnX w.heap.size ww (xx 21) (G ++ [x]) ∧ OwnT w.heap.size ww (.slice x.pa x.f.pars.length x.pc) x.f.pars := hx 21 (show 21 < 22 by omega) (by kernel_rfl)
            obtain ⟨x3, e3, o3, p3⟩ := r3
            clear hx
            have hF2 : Hid (Grown (plain (G ++ [x3]))) := Lib.hid (by
              have := hF.out
              rw [← e3] at this
              unfold plain at this ⊢
              rw [List.map_append]; exact this)
            have hps2 : ∀ x ∈ G ++ [x3], OwnT w.heap.size ww (.slice x.pa x.f.pars.length x.pc) x.f.pars := fun x hx => by
              rcases List.mem_append.1 hx with hx | hx
              · exact hW.1.pars x hx
              · rw [List.mem_singleton] at hx; subst hx; exact p3
            have hlen2 : (G ++ [x3]).length = i + 1 := by rw [List.length_append, List.length_singleton, hGi]
            have hbel := hW.1.below
            clear hW hHt hLs p3
            go_wp2
            go_roundw
            case measure => simp [intOf]; have := hms.out; omega
            case rel => exact ⟨i + 1, _, hil.out, by simp, hlen2, o3, hF2, hps2, hbel⟩
          · have d1 : (k : Int) < L i := by omega
            have d2 : (k : Int) < 8 := by omega
            have d3 : ¬ (0 : Int) < i := by omega
            have d4 : ¬ 0 < i := by omega
            have d5 : decide (0 < i) = false := decide_eq_false d4
            clear k1 k2 k3
            clear hin hrow2 hN hS hb2 hNb hI hH hO hPs
            go_upto_region 13 with (fail)
            refine Rr.region_late (m := 21) (V := .slice oa i oc) (hlate := by kernel_rfl) (hlm := ⟨_, rfl, rfl⟩) (l := [some 63, some 64, some 65, some 66, some 67, some 68, some 69, some 70, some 71, some 72, some 73, some 74, some 75, some 76, some 77, some 78, some 79, some 80, some 81, some 82, some 83, some 3]) (aux := [0, 1, 2, 3, 4, 5, 6, 7, 8, 9, 10, 11, 12, 13, 14, 15, 16, 17, 18, 19, 20, 21]) (need := [[], [], [1], [2], [3], [4], [], [6], [7], [8], [], [10], [5, 9, 11], [12], [], [14], [], [16], [13, 15, 17], [18], [0, 19], [20]]) (live := [21]) (W := fun rw : World => Stand w w1.heap.size sb (.slice oa i oc) (.slice ha N.length hc) G N P rw ∧ wr.heap.size ≤ rw.heap.size) (R := fun (rk : Nat) (rv ru : Value) (rw : World) => match rk with | 0 => rv = .slice oa i oc | 1 => rv = .int .i64 (i : Int) | 2 => rv = .int .i64 q65 | 3 => rv = .int .i64 q66 | 4 => rv = .int .i64 q67 | 5 => rv = .int .u8 (X.toNat : Int) | 6 => rv = .int .i64 (i : Int) | 7 => rv = .int .i64 q70 | 8 => rv = .int .i64 q71 | 9 => rv = .int .u8 (Y.toNat : Int) | 10 => rv = .int .i64 (i : Int) | 11 => rv = .int .u8 (T.toNat : Int) | 12 => ∃ b, rv = .slice (some ⟨b, 0, none⟩) 3 3 ∧ wr.heap.size ≤ b ∧ Three rw b X Y T | 13 => rv = .string I | 14 => rv = .slice ha N.length hc | 15 => rv = .int .i64 H | 16 => rv = .pointer (some ⟨sb, 0, none⟩) | 17 => ∃ a c, rv = .slice a P.length c ∧ OwnT w.heap.size rw (.slice a P.length c) P | 18 => ∃ a c, rv = .agg #[.string I, .int .i64 H, .slice a P.length c] ∧ OwnT w.heap.size rw (.slice a P.length c) P | 19 => ∃ q a c, rv = .slice (some ⟨q, 0, none⟩) 1 1 ∧ OwnT w.heap.size rw (.slice a P.length c) P ∧ FxVar rw q ⟨⟨I, H, P⟩, a, c⟩ | 20 => ∃ x : Fx, x.f = ⟨I, H, P⟩ ∧ OwnX w.heap.size rw rv (G ++ [x]) ∧ OwnT w.heap.size rw (.slice x.pa x.f.pars.length x.pc) x.f.pars | 21 => ∃ x : Fx, x.f = ⟨I, H, P⟩ ∧ OwnX w.heap.size rw rv (G ++ [x]) ∧ OwnT w.heap.size rw (.slice x.pa x.f.pars.length x.pc) x.f.pars | _ => True) (E := fun (rk : Nat) (rw1 rw2 : World) => if rk = 20 then rw1.grownBy rw2 (Value.slice oa i oc).ownBlock else Below rw1.heap.size rw1 rw2) (G := ?rel3_G) (by kernel_rfl) (by kernel_rfl) ?rel3_hG (⟨hSt.next (b_drew1 wr), Nat.le_refl _⟩) ?rel3_keep ?rel3_steps ?rel3_fin
            case rel3_hG => intro xx; simp only [Rr.fill, Act.put, List.setIfInBounds_toArray, List.set_cons_zero, List.set_cons_succ, Nat.zero_add, Nat.reduceAdd]; exact rfl
            case rel3_keep =>
              intro ri rj rv ru rw1 rw2 hi hj hne hon hlost hW hR hE
              clear hi
              match rj, hj, hne, hon, hlost, hR with
              | 0, _, _, _, _, hR => exact hR
              | 1, _, _, _, _, hR => exact hR
              | 2, _, _, _, _, hR => exact hR
              | 3, _, _, _, _, hR => exact hR
              | 4, _, _, _, _, hR => exact hR
              | 5, _, _, _, _, hR => exact hR
              | 6, _, _, _, _, hR => exact hR
              | 7, _, _, _, _, hR => exact hR
              | 8, _, _, _, _, hR => exact hR
              | 9, _, _, _, _, hR => exact hR
              | 10, _, _, _, _, hR => exact hR
              | 11, _, _, _, _, hR => exact hR
              | 12, _, hne, hon, hlost, hR =>
                replace hR : ∃ b, rv = .slice (some ⟨b, 0, none⟩) 3 3 ∧ wr.heap.size ≤ b ∧ Three rw1 b X Y T := hR
                show ∃ b, rv = .slice (some ⟨b, 0, none⟩) 3 3 ∧ wr.heap.size ≤ b ∧ Three rw2 b X Y T
                by_cases hq20 : ri = 20
                · replace hE := Eq.mp (if_pos hq20) hE; obtain ⟨b, e, s, h⟩ := hR; exact ⟨b, e, s, h.grown hE hown0.out s⟩
                replace hE := Eq.mp (if_neg hq20) hE
                obtain ⟨b, e, s, h⟩ := hR; exact ⟨b, e, s, h.next hE⟩
              | 13, _, _, _, _, hR => exact hR
              | 14, _, _, _, _, hR => exact hR
              | 15, _, _, _, _, hR => exact hR
              | 16, _, _, _, _, hR => exact hR
              | 17, _, hne, hon, hlost, hR =>
                replace hR : ∃ a c, rv = .slice a P.length c ∧ OwnT w.heap.size rw1 (.slice a P.length c) P := hR
                show ∃ a c, rv = .slice a P.length c ∧ OwnT w.heap.size rw2 (.slice a P.length c) P
                by_cases hq20 : ri = 20
                · replace hE := Eq.mp (if_pos hq20) hE; obtain ⟨a, c, e, h⟩ := hR; exact ⟨a, c, e, World.ownsRow.kept h hE (own_apart h hW.1.out (by decide))⟩
                replace hE := Eq.mp (if_neg hq20) hE
                obtain ⟨a, c, e, h⟩ := hR; exact ⟨a, c, e, h.next hE⟩
              | 18, _, hne, hon, hlost, hR =>
                replace hR : ∃ a c, rv = .agg #[.string I, .int .i64 H, .slice a P.length c] ∧ OwnT w.heap.size rw1 (.slice a P.length c) P := hR
                show ∃ a c, rv = .agg #[.string I, .int .i64 H, .slice a P.length c] ∧ OwnT w.heap.size rw2 (.slice a P.length c) P
                by_cases hq20 : ri = 20
                · subst hq20; exact (Rr.no_lost hlost (by kernel_rfl)).elim
                replace hE := Eq.mp (if_neg hq20) hE
                obtain ⟨a, c, e, h⟩ := hR; exact ⟨a, c, e, h.next hE⟩
              | 19, _, hne, hon, hlost, hR =>
                replace hR : ∃ q a c, rv = .slice (some ⟨q, 0, none⟩) 1 1 ∧ OwnT w.heap.size rw1 (.slice a P.length c) P ∧ FxVar rw1 q ⟨⟨I, H, P⟩, a, c⟩ := hR
                show ∃ q a c, rv = .slice (some ⟨q, 0, none⟩) 1 1 ∧ OwnT w.heap.size rw2 (.slice a P.length c) P ∧ FxVar rw2 q ⟨⟨I, H, P⟩, a, c⟩
                by_cases hq20 : ri = 20
                · subst hq20; exact (Rr.no_lost hlost (by kernel_rfl)).elim
                replace hE := Eq.mp (if_neg hq20) hE
                obtain ⟨q, a, c, e, h, f⟩ := hR; exact ⟨q, a, c, e, h.next hE, f.next hE⟩
              | 20, _, hne, hon, hlost, hR =>
                replace hR : ∃ x : Fx, x.f = ⟨I, H, P⟩ ∧ OwnX w.heap.size rw1 rv (G ++ [x]) ∧ OwnT w.heap.size rw1 (.slice x.pa x.f.pars.length x.pc) x.f.pars := hR
                show ∃ x : Fx, x.f = ⟨I, H, P⟩ ∧ OwnX w.heap.size rw2 rv (G ++ [x]) ∧ OwnT w.heap.size rw2 (.slice x.pa x.f.pars.length x.pc) x.f.pars
                replace hE := Eq.mp (if_neg (show ¬ ri = 20 from fun g => hne g.symm)) hE
                obtain ⟨x, e, h, p⟩ := hR; exact ⟨x, e, h.next hE, p.next hE⟩
              | 21, _, hne, hon, hlost, hR =>
                replace hR : ∃ x : Fx, x.f = ⟨I, H, P⟩ ∧ OwnX w.heap.size rw1 rv (G ++ [x]) ∧ OwnT w.heap.size rw1 (.slice x.pa x.f.pars.length x.pc) x.f.pars := hR
                show ∃ x : Fx, x.f = ⟨I, H, P⟩ ∧ OwnX w.heap.size rw2 rv (G ++ [x]) ∧ OwnT w.heap.size rw2 (.slice x.pa x.f.pars.length x.pc) x.f.pars
                by_cases hq20 : ri = 20
                · subst hq20; exact (Rr.no_lost hon (by kernel_rfl)).elim
                replace hE := Eq.mp (if_neg hq20) hE
                obtain ⟨x, e, h, p⟩ := hR; exact ⟨x, e, h.next hE, p.next hE⟩
              | rj + 22, hj, _, _, _, _ => exact absurd (show rj + 22 < 22 from hj) (by omega)
            case rel3_steps =>
              refine (Rr.RunStepsL.cons (o := { dst := some 63, op := _, type := _, pos := _, after := _, guard := none }) rfl ?rs3_0 (Rr.RunStepsL.cons (o := { dst := some 64, op := _, type := _, pos := _, after := _, guard := none }) rfl ?rs3_1 (Rr.RunStepsL.cons (o := { dst := some 65, op := _, type := _, pos := _, after := _, guard := none }) rfl ?rs3_2 (Rr.RunStepsL.cons (o := { dst := some 66, op := _, type := _, pos := _, after := _, guard := none }) rfl ?rs3_3 (Rr.RunStepsL.cons (o := { dst := some 67, op := _, type := _, pos := _, after := _, guard := none }) rfl ?rs3_4 (Rr.RunStepsL.cons (o := { dst := some 68, op := _, type := _, pos := _, after := _, guard := none }) rfl ?rs3_5 (Rr.RunStepsL.cons (o := { dst := some 69, op := _, type := _, pos := _, after := _, guard := none }) rfl ?rs3_6 (Rr.RunStepsL.cons (o := { dst := some 70, op := _, type := _, pos := _, after := _, guard := none }) rfl ?rs3_7 (Rr.RunStepsL.cons (o := { dst := some 71, op := _, type := _, pos := _, after := _, guard := none }) rfl ?rs3_8 (Rr.RunStepsL.cons (o := { dst := some 72, op := _, type := _, pos := _, after := _, guard := none }) rfl ?rs3_9 (Rr.RunStepsL.cons (o := { dst := some 73, op := _, type := _, pos := _, after := _, guard := none }) rfl ?rs3_10 (Rr.RunStepsL.cons (o := { dst := some 74, op := _, type := _, pos := _, after := _, guard := none }) rfl ?rs3_11 (Rr.RunStepsL.cons (o := { dst := some 75, op := _, type := _, pos := _, after := _, guard := none }) rfl ?rs3_12 (Rr.RunStepsL.cons (o := { dst := some 76, op := _, type := _, pos := _, after := _, guard := none }) rfl ?rs3_13 (Rr.RunStepsL.cons (o := { dst := some 77, op := _, type := _, pos := _, after := _, guard := none }) rfl ?rs3_14 (Rr.RunStepsL.cons (o := { dst := some 78, op := _, type := _, pos := _, after := _, guard := none }) rfl ?rs3_15 (Rr.RunStepsL.cons (o := { dst := some 79, op := _, type := _, pos := _, after := _, guard := none }) rfl ?rs3_16 (Rr.RunStepsL.cons (o := { dst := some 80, op := _, type := _, pos := _, after := _, guard := none }) rfl ?rs3_17 (Rr.RunStepsL.cons (o := { dst := some 81, op := _, type := _, pos := _, after := _, guard := none }) rfl ?rs3_18 (Rr.RunStepsL.cons (o := { dst := some 82, op := _, type := _, pos := _, after := _, guard := none }) rfl ?rs3_19 (Rr.RunStepsL.cons (o := { dst := some 83, op := _, type := _, pos := _, after := _, guard := none }) rfl ?rs3_20 (Rr.RunStepsL.cons (o := { dst := some 3, op := _, type := _, pos := _, after := _, guard := none }) rfl ?rs3_21 (Rr.RunStepsL.nil rfl)))))))))))))))))))))))
              case rs3_0 =>
                intro xx ww hW hlate hd K hK
                replace hW : Stand w w1.heap.size sb (.slice oa i oc) (.slice ha N.length hc) G N P ww ∧ wr.heap.size ≤ ww.heap.size := hW
                dsimp only at hK
                (try rw [hlate]); (try rw [hlate] at hK)
                replace hK : Shut (∀ (ra : Act) (rv : Value) (rw : World), ra = _ → Stand w w1.heap.size sb (.slice oa i oc) (.slice ha N.length hc) G N P rw ∧ wr.heap.size ≤ rw.heap.size → Below ww.heap.size ww rw → (rv = .slice oa i oc) → K ra rw) := hK
                clear hd
                go_simp
                exact hK.out _ _ _ rfl hW (Below.refl _ _) rfl
              case rs3_1 =>
                intro xx ww hW hlate hd K hK
                replace hW : Stand w w1.heap.size sb (.slice oa i oc) (.slice ha N.length hc) G N P ww ∧ wr.heap.size ≤ ww.heap.size := hW
                dsimp only at hK
                (try rw [hlate]); (try rw [hlate] at hK)
                replace hK : Shut (∀ (ra : Act) (rv : Value) (rw : World), ra = _ → Stand w w1.heap.size sb (.slice oa i oc) (.slice ha N.length hc) G N P rw ∧ wr.heap.size ≤ rw.heap.size → Below ww.heap.size ww rw → (rv = .int .i64 (i : Int)) → K ra rw) := hK
                clear hd
                go_simp
                exact hK.out _ _ _ rfl hW (Below.refl _ _) rfl
              case rs3_2 =>
                intro xx ww hW hlate hd K hK
                replace hW : Stand w w1.heap.size sb (.slice oa i oc) (.slice ha N.length hc) G N P ww ∧ wr.heap.size ≤ ww.heap.size := hW
                dsimp only at hK
                (try rw [hlate]); (try rw [hlate] at hK)
                replace hK : Shut (∀ (ra : Act) (rv : Value) (rw : World), ra = _ → Stand w w1.heap.size sb (.slice oa i oc) (.slice ha N.length hc) G N P rw ∧ wr.heap.size ≤ rw.heap.size → Below ww.heap.size ww rw → (rv = .int .i64 q65) → K ra rw) := hK
                have r64 : (xx 1) = .int .i64 (i : Int) := hd 1 (by kernel_rfl)
                rw [r64] at hK; (try rw [r64])
                clear hd
                go_simp
                exact hK.out _ _ _ rfl hW (Below.refl _ _) rfl
              case rs3_3 =>
                intro xx ww hW hlate hd K hK
                replace hW : Stand w w1.heap.size sb (.slice oa i oc) (.slice ha N.length hc) G N P ww ∧ wr.heap.size ≤ ww.heap.size := hW
                dsimp only at hK
                (try rw [hlate]); (try rw [hlate] at hK)
                replace hK : Shut (∀ (ra : Act) (rv : Value) (rw : World), ra = _ → Stand w w1.heap.size sb (.slice oa i oc) (.slice ha N.length hc) G N P rw ∧ wr.heap.size ≤ rw.heap.size → Below ww.heap.size ww rw → (rv = .int .i64 q66) → K ra rw) := hK
                have r65 : (xx 2) = .int .i64 q65 := hd 2 (by kernel_rfl)
                rw [r65] at hK; (try rw [r65])
                clear hd
                go_simp
                exact hK.out _ _ _ rfl hW (Below.refl _ _) rfl
              case rs3_4 =>
                intro xx ww hW hlate hd K hK
                replace hW : Stand w w1.heap.size sb (.slice oa i oc) (.slice ha N.length hc) G N P ww ∧ wr.heap.size ≤ ww.heap.size := hW
                dsimp only at hK
                (try rw [hlate]); (try rw [hlate] at hK)
                replace hK : Shut (∀ (ra : Act) (rv : Value) (rw : World), ra = _ → Stand w w1.heap.size sb (.slice oa i oc) (.slice ha N.length hc) G N P rw ∧ wr.heap.size ≤ rw.heap.size → Below ww.heap.size ww rw → (rv = .int .i64 q67) → K ra rw) := hK
                have r66 : (xx 3) = .int .i64 q66 := hd 3 (by kernel_rfl)
                rw [r66] at hK; (try rw [r66])
                clear hd
                go_simp
                exact hK.out _ _ _ rfl hW (Below.refl _ _) rfl
              case rs3_5 =>
                intro xx ww hW hlate hd K hK
                replace hW : Stand w w1.heap.size sb (.slice oa i oc) (.slice ha N.length hc) G N P ww ∧ wr.heap.size ≤ ww.heap.size := hW
                dsimp only at hK
                (try rw [hlate]); (try rw [hlate] at hK)
                replace hK : Shut (∀ (ra : Act) (rv : Value) (rw : World), ra = _ → Stand w w1.heap.size sb (.slice oa i oc) (.slice ha N.length hc) G N P rw ∧ wr.heap.size ≤ rw.heap.size → Below ww.heap.size ww rw → (rv = .int .u8 (X.toNat : Int)) → K ra rw) := hK
                have r67 : (xx 4) = .int .i64 q67 := hd 4 (by kernel_rfl)
                rw [r67] at hK; (try rw [r67])
                clear hd
                go_simp
                exact hK.out _ _ _ rfl hW (Below.refl _ _) rfl
              case rs3_6 =>
                intro xx ww hW hlate hd K hK
                replace hW : Stand w w1.heap.size sb (.slice oa i oc) (.slice ha N.length hc) G N P ww ∧ wr.heap.size ≤ ww.heap.size := hW
                dsimp only at hK
                (try rw [hlate]); (try rw [hlate] at hK)
                replace hK : Shut (∀ (ra : Act) (rv : Value) (rw : World), ra = _ → Stand w w1.heap.size sb (.slice oa i oc) (.slice ha N.length hc) G N P rw ∧ wr.heap.size ≤ rw.heap.size → Below ww.heap.size ww rw → (rv = .int .i64 (i : Int)) → K ra rw) := hK
                clear hd
                go_simp
                exact hK.out _ _ _ rfl hW (Below.refl _ _) rfl
              case rs3_7 =>
                intro xx ww hW hlate hd K hK
                replace hW : Stand w w1.heap.size sb (.slice oa i oc) (.slice ha N.length hc) G N P ww ∧ wr.heap.size ≤ ww.heap.size := hW
                dsimp only at hK
                (try rw [hlate]); (try rw [hlate] at hK)
                replace hK : Shut (∀ (ra : Act) (rv : Value) (rw : World), ra = _ → Stand w w1.heap.size sb (.slice oa i oc) (.slice ha N.length hc) G N P rw ∧ wr.heap.size ≤ rw.heap.size → Below ww.heap.size ww rw → (rv = .int .i64 q70) → K ra rw) := hK
                have r69 : (xx 6) = .int .i64 (i : Int) := hd 6 (by kernel_rfl)
                rw [r69] at hK; (try rw [r69])
                clear hd
                go_simp
                exact hK.out _ _ _ rfl hW (Below.refl _ _) rfl
              case rs3_8 =>
                intro xx ww hW hlate hd K hK
                replace hW : Stand w w1.heap.size sb (.slice oa i oc) (.slice ha N.length hc) G N P ww ∧ wr.heap.size ≤ ww.heap.size := hW
                dsimp only at hK
                (try rw [hlate]); (try rw [hlate] at hK)
                replace hK : Shut (∀ (ra : Act) (rv : Value) (rw : World), ra = _ → Stand w w1.heap.size sb (.slice oa i oc) (.slice ha N.length hc) G N P rw ∧ wr.heap.size ≤ rw.heap.size → Below ww.heap.size ww rw → (rv = .int .i64 q71) → K ra rw) := hK
                have r70 : (xx 7) = .int .i64 q70 := hd 7 (by kernel_rfl)
                rw [r70] at hK; (try rw [r70])
                clear hd
                go_simp
                exact hK.out _ _ _ rfl hW (Below.refl _ _) rfl
              case rs3_9 =>
                intro xx ww hW hlate hd K hK
                replace hW : Stand w w1.heap.size sb (.slice oa i oc) (.slice ha N.length hc) G N P ww ∧ wr.heap.size ≤ ww.heap.size := hW
                dsimp only at hK
                (try rw [hlate]); (try rw [hlate] at hK)
                replace hK : Shut (∀ (ra : Act) (rv : Value) (rw : World), ra = _ → Stand w w1.heap.size sb (.slice oa i oc) (.slice ha N.length hc) G N P rw ∧ wr.heap.size ≤ rw.heap.size → Below ww.heap.size ww rw → (rv = .int .u8 (Y.toNat : Int)) → K ra rw) := hK
                have r71 : (xx 8) = .int .i64 q71 := hd 8 (by kernel_rfl)
                rw [r71] at hK; (try rw [r71])
                clear hd
                go_simp
                exact hK.out _ _ _ rfl hW (Below.refl _ _) rfl
              case rs3_10 =>
                intro xx ww hW hlate hd K hK
                replace hW : Stand w w1.heap.size sb (.slice oa i oc) (.slice ha N.length hc) G N P ww ∧ wr.heap.size ≤ ww.heap.size := hW
                dsimp only at hK
                (try rw [hlate]); (try rw [hlate] at hK)
                replace hK : Shut (∀ (ra : Act) (rv : Value) (rw : World), ra = _ → Stand w w1.heap.size sb (.slice oa i oc) (.slice ha N.length hc) G N P rw ∧ wr.heap.size ≤ rw.heap.size → Below ww.heap.size ww rw → (rv = .int .i64 (i : Int)) → K ra rw) := hK
                clear hd
                go_simp
                exact hK.out _ _ _ rfl hW (Below.refl _ _) rfl
              case rs3_11 =>
                intro xx ww hW hlate hd K hK
                replace hW : Stand w w1.heap.size sb (.slice oa i oc) (.slice ha N.length hc) G N P ww ∧ wr.heap.size ≤ ww.heap.size := hW
                dsimp only at hK
                (try rw [hlate]); (try rw [hlate] at hK)
                replace hK : Shut (∀ (ra : Act) (rv : Value) (rw : World), ra = _ → Stand w w1.heap.size sb (.slice oa i oc) (.slice ha N.length hc) G N P rw ∧ wr.heap.size ≤ rw.heap.size → Below ww.heap.size ww rw → (rv = .int .u8 (T.toNat : Int)) → K ra rw) := hK
                have r73 : (xx 10) = .int .i64 (i : Int) := hd 10 (by kernel_rfl)
                rw [r73] at hK; (try rw [r73])
                clear hd
                go_simp
                exact hK.out _ _ _ rfl hW (Below.refl _ _) rfl
              case rs3_12 =>
                intro xx ww hW hlate hd K hK
                replace hW : Stand w w1.heap.size sb (.slice oa i oc) (.slice ha N.length hc) G N P ww ∧ wr.heap.size ≤ ww.heap.size := hW
                dsimp only at hK
                (try rw [hlate]); (try rw [hlate] at hK)
                replace hK : Shut (∀ (ra : Act) (rv : Value) (rw : World), ra = _ → Stand w w1.heap.size sb (.slice oa i oc) (.slice ha N.length hc) G N P rw ∧ wr.heap.size ≤ rw.heap.size → Below ww.heap.size ww rw → (∃ b, rv = .slice (some ⟨b, 0, none⟩) 3 3 ∧ wr.heap.size ≤ b ∧ Three rw b X Y T) → K ra rw) := hK
                have r68 : (xx 5) = .int .u8 (X.toNat : Int) := hd 5 (by kernel_rfl)
                have r72 : (xx 9) = .int .u8 (Y.toNat : Int) := hd 9 (by kernel_rfl)
                have r74 : (xx 11) = .int .u8 (T.toNat : Int) := hd 11 (by kernel_rfl)
                rw [r68] at hK; (try rw [r68])
                rw [r72] at hK; (try rw [r72])
                rw [r74] at hK; (try rw [r74])
                clear hd
                (go_simp; exact hK.out _ _ _ rfl ⟨hW.1.next (b_alloc _ _), Nat.le_trans hW.2 (b_alloc _ _).size⟩ (b_alloc _ _) ⟨_, rfl, hW.2, Three.new _ _ _ _ _⟩)
              case rs3_13 =>
                intro xx ww hW hlate hd K hK
                replace hW : Stand w w1.heap.size sb (.slice oa i oc) (.slice ha N.length hc) G N P ww ∧ wr.heap.size ≤ ww.heap.size := hW
                dsimp only at hK
                (try rw [hlate]); (try rw [hlate] at hK)
                replace hK : Shut (∀ (ra : Act) (rv : Value) (rw : World), ra = _ → Stand w w1.heap.size sb (.slice oa i oc) (.slice ha N.length hc) G N P rw ∧ wr.heap.size ≤ rw.heap.size → Below ww.heap.size ww rw → (rv = .string I) → K ra rw) := hK
                have r75 : ∃ b, (xx 12) = .slice (some ⟨b, 0, none⟩) 3 3 ∧ wr.heap.size ≤ b ∧ Three ww b X Y T := hd 12 (by kernel_rfl)
                obtain ⟨b75, e75, s75, t75⟩ := r75
                rw [e75] at hK; (try rw [e75])
                clear hd
                (have c76 := t75.conv; rw [← hId.out] at c76; go_simp; exact hK.out _ _ _ rfl hW (Below.refl _ _) rfl)
              case rs3_14 =>
                intro xx ww hW hlate hd K hK
                replace hW : Stand w w1.heap.size sb (.slice oa i oc) (.slice ha N.length hc) G N P ww ∧ wr.heap.size ≤ ww.heap.size := hW
                dsimp only at hK
                (try rw [hlate]); (try rw [hlate] at hK)
                replace hK : Shut (∀ (ra : Act) (rv : Value) (rw : World), ra = _ → Stand w w1.heap.size sb (.slice oa i oc) (.slice ha N.length hc) G N P rw ∧ wr.heap.size ≤ rw.heap.size → Below ww.heap.size ww rw → (rv = .slice ha N.length hc) → K ra rw) := hK
                clear hd
                go_simp
                exact hK.out _ _ _ rfl hW (Below.refl _ _) rfl
              case rs3_15 =>
                intro xx ww hW hlate hd K hK
                replace hW : Stand w w1.heap.size sb (.slice oa i oc) (.slice ha N.length hc) G N P ww ∧ wr.heap.size ≤ ww.heap.size := hW
                dsimp only at hK
                (try rw [hlate]); (try rw [hlate] at hK)
                replace hK : Shut (∀ (ra : Act) (rv : Value) (rw : World), ra = _ → Stand w w1.heap.size sb (.slice oa i oc) (.slice ha N.length hc) G N P rw ∧ wr.heap.size ≤ rw.heap.size → Below ww.heap.size ww rw → (rv = .int .i64 H) → K ra rw) := hK
                have r77 : (xx 14) = .slice ha N.length hc := hd 14 (by kernel_rfl)
                rw [r77] at hK; (try rw [r77])
                clear hd
                (go_simp; go_at_call 19; refine (hHt.out _ hW.1).mono ?_; rintro e w7 ⟨rfl, rfl⟩; go_simp; exact hK.out _ _ _ rfl hW (Below.refl _ _) rfl)
              case rs3_16 =>
                intro xx ww hW hlate hd K hK
                replace hW : Stand w w1.heap.size sb (.slice oa i oc) (.slice ha N.length hc) G N P ww ∧ wr.heap.size ≤ ww.heap.size := hW
                dsimp only at hK
                (try rw [hlate]); (try rw [hlate] at hK)
                replace hK : Shut (∀ (ra : Act) (rv : Value) (rw : World), ra = _ → Stand w w1.heap.size sb (.slice oa i oc) (.slice ha N.length hc) G N P rw ∧ wr.heap.size ≤ rw.heap.size → Below ww.heap.size ww rw → (rv = .pointer (some ⟨sb, 0, none⟩)) → K ra rw) := hK
                clear hd
                go_simp
                exact hK.out _ _ _ rfl hW (Below.refl _ _) rfl
              case rs3_17 =>
                intro xx ww hW hlate hd K hK
                replace hW : Stand w w1.heap.size sb (.slice oa i oc) (.slice ha N.length hc) G N P ww ∧ wr.heap.size ≤ ww.heap.size := hW
                dsimp only at hK
                (try rw [hlate]); (try rw [hlate] at hK)
                replace hK : Shut (∀ (ra : Act) (rv : Value) (rw : World), ra = _ → Stand w w1.heap.size sb (.slice oa i oc) (.slice ha N.length hc) G N P rw ∧ wr.heap.size ≤ rw.heap.size → Below ww.heap.size ww rw → (∃ a c, rv = .slice a P.length c ∧ OwnT w.heap.size rw (.slice a P.length c) P) → K ra rw) := hK
                have r79 : (xx 16) = .pointer (some ⟨sb, 0, none⟩) := hd 16 (by kernel_rfl)
                rw [r79] at hK; (try rw [r79])
                clear hd
                (go_simp; go_at_call 20; refine (hLs.out _ hW.1).mono ?_; rintro e w8 ⟨a8, c8, rfl, o8, b8⟩; go_simp; exact hK.out _ _ _ rfl ⟨hW.1.next b8, Nat.le_trans hW.2 b8.size⟩ b8 ⟨_, _, rfl, o8.mono hW.1.below.size⟩)
              case rs3_18 =>
                intro xx ww hW hlate hd K hK
                replace hW : Stand w w1.heap.size sb (.slice oa i oc) (.slice ha N.length hc) G N P ww ∧ wr.heap.size ≤ ww.heap.size := hW
                dsimp only at hK
                (try rw [hlate]); (try rw [hlate] at hK)
                replace hK : Shut (∀ (ra : Act) (rv : Value) (rw : World), ra = _ → Stand w w1.heap.size sb (.slice oa i oc) (.slice ha N.length hc) G N P rw ∧ wr.heap.size ≤ rw.heap.size → Below ww.heap.size ww rw → (∃ a c, rv = .agg #[.string I, .int .i64 H, .slice a P.length c] ∧ OwnT w.heap.size rw (.slice a P.length c) P) → K ra rw) := hK
                have r76 : (xx 13) = .string I := hd 13 (by kernel_rfl)
                have r78 : (xx 15) = .int .i64 H := hd 15 (by kernel_rfl)
                have r80 : ∃ a c, (xx 17) = .slice a P.length c ∧ OwnT w.heap.size ww (.slice a P.length c) P := hd 17 (by kernel_rfl)
                rw [r76] at hK; (try rw [r76])
                rw [r78] at hK; (try rw [r78])
                obtain ⟨a80, c80, e80, o80⟩ := r80
                rw [e80] at hK; (try rw [e80])
                clear hd
                (go_simp; exact hK.out _ _ _ rfl hW (Below.refl _ _) ⟨_, _, rfl, o80⟩)
              case rs3_19 =>
                intro xx ww hW hlate hd K hK
                replace hW : Stand w w1.heap.size sb (.slice oa i oc) (.slice ha N.length hc) G N P ww ∧ wr.heap.size ≤ ww.heap.size := hW
                dsimp only at hK
                (try rw [hlate]); (try rw [hlate] at hK)
                replace hK : Shut (∀ (ra : Act) (rv : Value) (rw : World), ra = _ → Stand w w1.heap.size sb (.slice oa i oc) (.slice ha N.length hc) G N P rw ∧ wr.heap.size ≤ rw.heap.size → Below ww.heap.size ww rw → (∃ q a c, rv = .slice (some ⟨q, 0, none⟩) 1 1 ∧ OwnT w.heap.size rw (.slice a P.length c) P ∧ FxVar rw q ⟨⟨I, H, P⟩, a, c⟩) → K ra rw) := hK
                have r81 : ∃ a c, (xx 18) = .agg #[.string I, .int .i64 H, .slice a P.length c] ∧ OwnT w.heap.size ww (.slice a P.length c) P := hd 18 (by kernel_rfl)
                obtain ⟨a81, c81, e81, o81⟩ := r81
                rw [e81] at hK; (try rw [e81])
                clear hd
                (go_simp; exact hK.out _ _ _ rfl ⟨hW.1.next (b_alloc _ _), Nat.le_trans hW.2 (b_alloc _ _).size⟩ (b_alloc _ _) ⟨_, _, _, rfl, o81.next (b_alloc _ _), FxVar.new _ ⟨⟨I, H, P⟩, a81, c81⟩⟩)
              case rs3_20 =>
                intro xx ww hW hlate hd K hK
                replace hW : Stand w w1.heap.size sb (.slice oa i oc) (.slice ha N.length hc) G N P ww ∧ wr.heap.size ≤ ww.heap.size := hW
                dsimp only at hK
                (try rw [hlate]); (try rw [hlate] at hK)
                replace hK : Shut (∀ (ra : Act) (rv : Value) (rw : World), ra = _ → Stand w w1.heap.size sb (.slice oa i oc) (.slice ha N.length hc) G N P rw ∧ wr.heap.size ≤ rw.heap.size → ww.grownBy rw (Value.slice oa i oc).ownBlock → (∃ x : Fx, x.f = ⟨I, H, P⟩ ∧ OwnX w.heap.size rw rv (G ++ [x]) ∧ OwnT w.heap.size rw (.slice x.pa x.f.pars.length x.pc) x.f.pars) → K ra rw) := hK
                have r63 : (xx 0) = .slice oa i oc := hd 0 (by kernel_rfl)
                have r82 : ∃ q a c, (xx 19) = .slice (some ⟨q, 0, none⟩) 1 1 ∧ OwnT w.heap.size ww (.slice a P.length c) P ∧ FxVar ww q ⟨⟨I, H, P⟩, a, c⟩ := hd 19 (by kernel_rfl)
                rw [r63] at hK; (try rw [r63])
                obtain ⟨q82, a82, c82, e82, o82, f82⟩ := r82
                rw [e82] at hK; (try rw [e82])
                clear hd
                (refine step_append_fx (by rfl) (.tmp 63) (.tmp 82) (by rfl) w.heap.size (.slice oa i oc) G ⟨⟨I, H, P⟩, a82, c82⟩ q82 r63 e82 hW.1.out (new_cells f82) hW.1.below.size hlenG.out ?_; intro v9 w9 h1 h2 h3; exact hK.out _ _ _ (by dsimp only; rw [hlate, r63, e82]) ⟨hW.1.appended h2 h3, Nat.le_trans hW.2 h3.size⟩ h3 ⟨_, rfl, h1, World.ownsRow.kept o82 h3 (own_apart o82 hW.1.out (by decide))⟩)
              case rs3_21 =>
                intro xx ww hW hlate hd K hK
                replace hW : Stand w w1.heap.size sb (.slice oa i oc) (.slice ha N.length hc) G N P ww ∧ wr.heap.size ≤ ww.heap.size := hW
                dsimp only at hK
                (try rw [hlate]); (try rw [hlate] at hK)
                replace hK : Shut (∀ (ra : Act) (rv : Value) (rw : World), ra = _ → Stand w w1.heap.size sb (.slice oa i oc) (.slice ha N.length hc) G N P rw ∧ wr.heap.size ≤ rw.heap.size → Below ww.heap.size ww rw → (∃ x : Fx, x.f = ⟨I, H, P⟩ ∧ OwnX w.heap.size rw rv (G ++ [x]) ∧ OwnT w.heap.size rw (.slice x.pa x.f.pars.length x.pc) x.f.pars) → K ra rw) := hK
                have r83 : ∃ x : Fx, x.f = ⟨I, H, P⟩ ∧ OwnX w.heap.size ww (xx 20) (G ++ [x]) ∧ OwnT w.heap.size ww (.slice x.pa x.f.pars.length x.pc) x.f.pars := hd 20 (by kernel_rfl)
                obtain ⟨x83, e83, o83, p83⟩ := r83
                clear hd
                (go_simp; exact hK.out _ _ _ rfl hW (Below.refl _ _) ⟨x83, e83, o83, p83⟩)
            intro xx ww hW hx
            replace hW : Stand w w1.heap.size sb (.slice oa i oc) (.slice ha N.length hc) G N P ww ∧ wr.heap.size ≤ ww.heap.size := hW
            have r3 : ∃ x : Fx, x.f = ⟨I, H, P⟩ ∧ OwnX w.heap.size ww (xx 21) (G ++ [x]) ∧ OwnT w.heap.size ww (.slice x.pa x.f.pars.length x.pc) x.f.pars := hx 21 (show 21 < 22 by omega) (by kernel_rfl)
            obtain ⟨x3, e3, o3, p3⟩ := r3
            clear hx
            have hF2 : Hid (Grown (plain (G ++ [x3]))) := Lib.hid (by
              have := hF.out
              rw [← e3] at this
              unfold plain at this ⊢
              rw [List.map_append]; exact this)
            have hps2 : ∀ x ∈ G ++ [x3], OwnT w.heap.size ww (.slice x.pa x.f.pars.length x.pc) x.f.pars := fun x hx => by
              rcases List.mem_append.1 hx with hx | hx
              · exact hW.1.pars x hx
              · rw [List.mem_singleton] at hx; subst hx; exact p3
            have hlen2 : (G ++ [x3]).length = i + 1 := by rw [List.length_append, List.length_singleton, hGi]
            have hbel := hW.1.below
            clear hW hHt hLs p3
            go_wp2
            go_roundw
            case measure => simp [intOf]; have := hms.out; omega
            case rel => exact ⟨i + 1, _, hil.out, by simp, hlen2, o3, hF2, hps2, hbel⟩
    · have hkc : (¬ i < n) ∨ (i < n ∧ ¬ i < 40) := by omega
      have hFa := Lib.hid (facts_of hGr.out hPs)
      have hbw2 := Lib.hid hbw
      obtain ⟨oa, oc, rfl⟩ := hO.box
      rw [hGi] at hO ⊢
      clear hlt hZ hOf hPs hbw
      rcases hkc with k1 | ⟨k1, k2⟩
      · have d1 : ¬ (i : Int) < n := by omega
        clear k1
        go_wp2
        go_ret
        exact ⟨_, rfl, G, hO, hGr.out, hFa.out, hbw2.out⟩
      · have d1 : (i : Int) < n := by omega
        have d2 : ¬ (i : Int) < 40 := by omega
        clear k1 k2
        go_wp2
        go_ret
        exact ⟨_, rfl, G, hO, hGr.out, hFa.out, hbw2.out⟩
end Go.Proofs.YtbjpogeemajhoaaGreat.Or
