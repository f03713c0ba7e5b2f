/-
  The statements' own help (same) answers whether two lists have the same texts; what an opened list's capacity is; what Join and Split make of one another. Conditions: lists of the form's reach.
-/
import Derived.Test.YtokebgmlenlciaaDoorRows
import Derived.Test.YtokebgmlenlciaaDoorPaPlain
import Derived.Test.YtokebgmlenlciaaDoorPaLib
import Derived.Test.YtokebgmlenlciaaDoorPaRune
import Derived.Test.YtokebgmlenlciaaDoorPaShelf
import Derived.Test.YtokebgmlenlciaaDoorPaGood
import Derived.Test.YtokebgmlenlciaaDoorPaSplit
import Derived.Test.YtokebgmlenlciaaDoorPaSort
import Derived.Test.YtokebgmlenlciaaDoorPaCheck
import Derived.Test.YtokebgmlenlciaaDoorPaAwake
import Derived.Test.YtokebgmlenlciaaDoorOctKit
import Derived.WalkKit
import Derived.WalkSpells
import Derived.WalkLawsBesides
import Derived.ProofKit
import Derived.OpenShut
import Derived.Laws.BytesArg
import Derived.Laws.Externs
import Derived.Deep.QuietTactic
import Derived.BigQuiet
import Derived.BigRegion
import Derived.Lib.Hide
import Derived.Lib.Bytealg
import Derived.IntWalk
import Derived.Deep.LoopGhost
import Derived.Laws.OwnMore
import Derived.Deep.OwnRows
import Derived.Deep.Draws
import Derived.Deep.MidRow
namespace Go.Proofs.YtokebgmlenlciaaDoor.Pa
open Go Go.RowKit Go.WideShapes Go.ChangeShapes
open Oct (TextsAt)

theorem cap_of {H : Type} {enc : TypeId × Value → H} {P : Program} {w : World} {base : Nat} {held : Bool} {t e : TypeId} {a : Option Addr} {len cap : Nat} {d : DataW H} {p : List MemPlace}
    (ht : P.underlying t = some (.slice e)) (he : P.underlying e = some .string) (hc : P.cellsOf e = 1)
    (h : DataW.Trod enc P w base (fun _ => true) held t (.slice a len cap) d p) : len ≤ cap := by
  obtain ⟨fuel, hf⟩ := h
  rcases open_strings ht he hc hf with ⟨hcs, _⟩ | ⟨x, l, c, ss, hcs, _, hl, _⟩
  · simp [Value.cells] at hcs
    obtain ⟨rfl, rfl, rfl⟩ := hcs
    exact Nat.le_refl _
  · simp [Value.cells] at hcs
    obtain ⟨rfl, rfl, rfl⟩ := hcs
    exact hl
theorem tx_eq {T T' : Nat → ByteArray} {len : Nat} : tx T len = tx T' len ↔ ∀ i, i < len → T i = T' i := by
  constructor
  · intro h i hi
    have := congrArg (fun l => l[i]?) h
    simp only [tx_get hi] at this
    exact data_inj (Option.some.inj this)
  · intro h
    unfold tx
    exact List.map_congr_left fun i hi => by rw [h i (List.mem_range.1 hi)]
set_option maxRecDepth 100000 in
theorem same_calls (a a' : Option Addr) (len cap b off len' cap' b' off' : Nat) (T T' : Nat → ByteArray) (w : World) (hT : TextsAt w a b off len T) (hT' : TextsAt w a' b' off' len' T') (hl : len ≤ 140737488351232) :
    Calls Tryd.prog 17 #[.slice a len cap, .slice a' len' cap'] w fun e w' => Tells e (tx T len = tx T' len') ∧ ∃ n, w' = w.drewN n := by
  by_cases hll : len = len'
  · subst hll
    rw [tx_eq]
    replace hT := Lib.hid hT
    replace hT' := Lib.hid hT'
    have e0 : ((len : Int) != len) = false := by simp
    go_enter Tryd.func17, Tryd.ntmps17
    go_wp2
    go_loopw [5] (fun i wr => ∃ k n : Nat, k ≤ len ∧ i = .int .i64 k ∧ Hid (∀ j, j < k → T j = T' j) ∧ wr = w.drewN n) (fun i _ => len - (intOf i).toNat)
    case atStart => exact ⟨0, 0, by omega, rfl, Lib.hid fun j hj => by omega, rfl⟩
    case round =>
      obtain ⟨k, n, hk, rfl, hd, rfl⟩ := hrel
      by_cases hlt : k < len
      · have i1 : (k : Int) < len := by omega
        have i0 : 0 ≤ (k : Int) := by omega
        obtain rfl := hT.out.addr (by omega)
        obtain rfl := hT'.out.addr (by omega)
        have c0 := hT.out.cell k hlt
        have c1 := hT'.out.cell k hlt
        by_cases hv : T k = T' k
        · have hb : ((T k).toList == (T' k).toList) = true := by rw [hv]; simp
          replace hv := Lib.hid hv
          go_wp2
          go_region
          go_wp2
          exact ⟨⟨k + 1, n + 1, by omega, by go_num, Lib.hid fun j hj => by
              by_cases e : j = k
              · subst e; exact hv.out
              · exact hd.out j (by omega), by first | rfl | trivial⟩, by simp [intOf]; omega⟩
        · have hb : ((T k).toList == (T' k).toList) = false := by rw [Oct.beq_toList]; exact decide_eq_false hv
          replace hv := Lib.hid hv
          go_wp2
          go_region
          go_wp2
          go_ret
          exact ⟨.no fun h => hv.out (h k hlt), _, rfl⟩
      · have d0 : decide ((k : Int) < len) = false := decide_eq_false (by omega)
        have d1 : (len : Int) ≤ k := by omega
        obtain rfl : k = len := by omega
        go_wp2
        go_ret
        exact ⟨.yes hd.out, n, rfl⟩
  · have hne : Hid (tx T len ≠ tx T' len') := Lib.hid fun h => hll (by have := congrArg List.length h; rw [tx_length, tx_length] at this; exact this)
    have e0 : ((len : Int) != len') = true := by simp only [bne_iff_ne]; omega
    clear hll
    go_enter Tryd.func17, Tryd.ntmps17
    go_wp2
    go_ret
    exact ⟨.no hne.out, 0, rfl⟩
/-- what Join makes of a path's names is the path -/
theorem join_of_split {l r : Tx} {c : Nat} (h : isPath l) (hj : IsJoin (pieces l) r c) : r = l ∧ c = 0 := by
  obtain ⟨h1, h2⟩ := isPath_iff.1 h
  have := hj.unique (.ok (pieces_ne l) h1 h2)
  rw [joined_pieces] at this
  exact this
/-- what Split makes of what Join made -/
theorem split_of_join {ps : List Tx} {r : Tx} (hj : IsJoin ps r 0) : fault r = 0 ∧ pieces r = ps := by
  cases hj with
  | ok hne h hd =>
    have e := pieces_joined ps hne fun p hp => name_no_slash (h p hp)
    refine ⟨isPath_iff.2 ?_, e⟩
    rw [e]; exact ⟨h, hd⟩
theorem join_bad {ps : List Tx} {r : Tx} {c : Nat} (hj : IsJoin ps r c) (hc : c ≠ 0) : r = [] := by
  cases hj with
  | bad => rfl
  | deep => rfl
  | ok => exact absurd rfl hc
end Go.Proofs.YtokebgmlenlciaaDoor.Pa
