/-
  A set's iterators: all of it, and from one thing on. Conditions: what takes the things leaves the nodes as they are, and the function values that the set has made.
-/
import Derived.Test.YtdmpkgdlelagjaaGreatDoorRows
import Derived.Test.YtdmpkgdlelagjaaGreatDoorShGoes
import Derived.Test.YtdmpkgdlelagjaaGreatDoorShSet
namespace Go.Proofs.YtdmpkgdlelagjaaGreatDoor.Sh
open Key (lt)
open Ent (key)
section
variable {E K : Type} [Key K] [Ent E K]
/-- those from a key on -/
def abv (k : K) (l : List E) : List E := l.filter fun x => !lt (key x) k
theorem abv_right {k : K} {e : E} {l r : List E} (h : Rises (l ++ e :: r)) (hk : lt (key e) k = true) : abv k (l ++ e :: r) = abv k r := by
  obtain ⟨_, _, h3, _⟩ := rises_mid h
  have h1 : abv k l = [] := by
    unfold abv; rw [List.filter_eq_nil_iff]; intro a ha; simp [Key.tra _ _ _ (h3 a ha) hk]
  have h2 : abv k (l ++ e :: r) = abv k l ++ abv k (e :: r) := by simp only [abv, List.filter_append]
  rw [h2, h1]; simp [abv, hk]
theorem abv_left {k : K} {e : E} {l r : List E} (h : Rises (l ++ e :: r)) (hk : lt (key e) k = false) : abv k (l ++ e :: r) = abv k l ++ e :: r := by
  obtain ⟨_, _, _, h4⟩ := rises_mid h
  have h1 : abv k (e :: r) = e :: r := by
    unfold abv; rw [List.filter_eq_self]; intro a ha
    rcases List.mem_cons.1 ha with rfl | ha
    · simp [hk]
    · cases g : lt (key a) k with
      | false => rfl
      | true => rw [Key.tra _ _ _ (h4 a ha) g] at hk; cases hk
  have h2 : abv k (l ++ e :: r) = abv k l ++ abv k (e :: r) := by simp only [abv, List.filter_append]
  rw [h2, h1]
end
end Go.Proofs.YtdmpkgdlelagjaaGreatDoor.Sh
namespace Go.Proofs.YtdmpkgdlelagjaaGreatDoor.Ti
open Go.RowKit Go.Shelf Sh
open Key (lt)
open Ent (key)
attribute [local go_sem] Oper.semAt_some fold_none

end Go.Proofs.YtdmpkgdlelagjaaGreatDoor.Ti
namespace Go.Proofs.YtdmpkgdlelagjaaGreatDoor.Ti
open Go.RowKit Go.Shelf Sh
attribute [local go_sem] Oper.semAt_some fold_none

/-- the box of a function value stays where function values stay -/
theorem abide_box {J : List Int → World → Prop} (hJ : ∀ s A B, J s A → A.grownBy B none → J s B) {b : Nat} {f : Value} : ∀ s A B, (J s A ∧ Boxed A b 128 f) → A.grownBy B none → (J s B ∧ Boxed B b 128 f) :=
  fun s A B h hg => ⟨hJ s A B h.1 hg, h.2.kept hg (by simp)⟩

end Go.Proofs.YtdmpkgdlelagjaaGreatDoor.Ti
namespace Go.Proofs.YtdmpkgdlelagjaaGreatDoor.Ts
open Go.RowKit Go.Shelf Sh
attribute [local go_sem] Oper.semAt_some fold_none

theorem keyOnly_calls (w : World) (l : Nat) :
    Calls Tryz.prog 92 #[.func (.yield l) #[] #[]] w fun e w' => e = .returned (.func (.func 118) #[] #[.pointer (some ⟨w.heap.size, 0, none⟩)]) ∧ w' = w.alloc (.cells #[.func (.yield l) #[] #[]] 43) := by
  go_enter Tryz.func92, Tryz.ntmps92
  go_wp2
  go_ret
  exact ⟨rfl, rfl⟩
theorem SetAll_calls (w : World) (a : Option Addr) :
    Calls Tryz.prog 62 #[.pointer a] w fun e w' => e = .returned (.func (.func 89) #[] #[.pointer (some ⟨w.heap.size, 0, none⟩)]) ∧ w' = w.alloc (.cells #[.pointer a] 38) := by
  go_enter Tryz.func62, Tryz.ntmps62
  go_wp2
  go_ret
  exact ⟨rfl, rfl⟩
theorem keeps_put {w : World} (W : World) (l : Nat) (o o' : Obj) (_ : w.heap.size ≤ l) (h : W.heap[l]? = some o) (hc : o.isCells = false) (_ : o.isWalk = false) : Keeps W (W.putObj l o') := by
  refine ⟨fun b c z hb => ?_, fun b c z hb => ?_⟩ <;>
    (refine (World.putObj_heap_other fun e => ?_).trans hb
     subst e
     rw [hb] at h
     cases h
     cases hc)
theorem Keeps.trans {A B C : World} (h : Keeps A B) (g : Keeps B C) : Keeps A C := ⟨h.1.trans g.1, fun b c z hb => g.2 b c z (h.2 b c z hb)⟩
theorem keeps_below {A B : World} (h : Below A.heap.size A B) : Keeps A B := ⟨nodes_below h, fns_below h⟩
/-- the box of a function value stays where function values stay -/
theorem abide_box {J : List ByteArray → World → Prop} (hJ : ∀ s A B, J s A → A.grownBy B none → J s B) {b : Nat} {f : Value} : ∀ s A B, (J s A ∧ Boxed A b 43 f) → A.grownBy B none → (J s B ∧ Boxed B b 43 f) :=
  fun s A B h hg => ⟨hJ s A B h.1 hg, h.2.kept hg (by simp)⟩

set_option maxHeartbeats 2000000 in
/-- what a set's iterator does: its things, rising -/
theorem setAll1_stops (n : Nat) (w : World) (B : Nat) (a : Option Addr) (L : List ByteArray) (hB : w.cell? ⟨B, 0, none⟩ = some (.pointer a)) (hA : SetAt w a L) :
    SeqStopsK Fence.wide n Tryz.prog 89 #[.pointer (some ⟨B, 0, none⟩)] (fun x : ByteArray => #[.string x]) Keeps (fun ys => ys = L) (fun pre => pre <+: L) L.length w := fun l J Jx W hW hJ hJx hY h0 => by
  have hlt : B < w.heap.size := World.block_lt_of_cell? w _ hB
  have hB' : W.cell? ⟨B, 0, none⟩ = some (.pointer a) := (hW.cell (p := ⟨B, 0, none⟩) hlt).trans hB
  have hJ' : ∀ s A B, J s A → A.grownBy B none → J s B := fun s A B hs hg => hJ s A B none hs hg (fun r e => by cases e)
  have hK := Lib.hid (setKeys_calls W a (hA.addr))
  have hT := Lib.hid (tree_calls W _ a L (hA.next hW))
  have hO := Lib.hid (keyOnly_calls W l)
  have hBx := Boxed.new W 43 (.func (.yield l) #[] #[])
  have hw := Lib.hid fun p T (h2 : IsTree W p T) (h3 : T.flat = L) => walkC_in W.heap.size L.length (fun s A => J s A ∧ Boxed A W.heap.size 43 (.func (.yield l) #[] #[])) Jx (abide_box hJ')
    (fun m pre x W1 h1 h2 => keyOnly1_in l W.heap.size L.length J Jx hJ' (fun m pre x W h1 h2 => YieldAt.any m (hY pre x W h1 h2)) m pre x W1 h1.1 h1.2 h2) T (n - 1) p [] (W.alloc (.cells #[.func (.yield l) #[] #[]] 43)) (h2.next (b_alloc _ _)) ⟨hJ' _ _ _ h0 (World.grownBy_alloc W _ none), hBx⟩ (by rw [h3]; simp)
  clear hY hJ hJx hW h0 hA hB hJ' hBx
  show CallsIn Fence.wide n Tryz.prog 89 #[.func (.yield l) #[] #[], .pointer (some ⟨B, 0, none⟩)] W _
  refine callsIn_of_wp Tryz.func89 rfl trivial ?_ rfl
  simp only [Tryz.ntmps89, List.size_toArray, List.length_cons, List.length_nil, Nat.reduceAdd, Nat.reduceSub, Array.replicate_succ, Array.replicate_zero, List.push_toArray, List.append_toArray, List.nil_append, List.cons_append]
  gi_wp2_with (first
    | (refine ⟨trivial, deep _, ?_⟩; gi_at_call 58; refine (callsIn_wide.2 hK.out).mono ?_; rintro e w1 ⟨rfl, hq⟩; obtain rfl := hq.symm; clear hq)
    | (refine ⟨trivial, deep _, ?_⟩; gi_at_call 90; refine (callsIn_wide.2 hT.out).mono ?_; rintro e w1 ⟨⟨p, T, rfl, h2, h3⟩, hq⟩; obtain rfl := hq.symm; clear hq; have hw2 := Lib.hid (hw.out p T h2 h3); replace h3 := Lib.hid h3; clear hT hw h2)
    | (refine ⟨trivial, deep _, ?_⟩; gi_at_call 92; refine (callsIn_wide.2 hO.out).mono ?_; rintro e w1 ⟨rfl, rfl⟩)
    | (refine ⟨trivial, deep _, ?_⟩; gi_at_call 91; refine hw2.out.mono ?_; clear hw2; rintro e W1 (⟨rfl, hJ1, _⟩ | ⟨rfl, q, hq, hx⟩)))
  · go_end0
    exact ⟨⟨_, rfl⟩, .inl ⟨_, h3.out, by simpa using hJ1.1⟩⟩
  · go_end0
    exact ⟨⟨_, rfl⟩, .inr ⟨q, h3.out ▸ hq, by simpa using hx⟩⟩
end Go.Proofs.YtdmpkgdlelagjaaGreatDoor.Ts
namespace Go.Proofs.YtdmpkgdlelagjaaGreatDoor.Ti
open Go.RowKit Go.Shelf Sh
end Go.Proofs.YtdmpkgdlelagjaaGreatDoor.Ti
