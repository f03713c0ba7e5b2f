/-
  The statements' own first look (awake) answers true: answers that the document fixes, reckoned by the kernel. Conditions: none.
-/
import Derived.Test.YtokebgmlenlciaaDoorRows
import Derived.Test.YtokebgmlenlciaaDoorPaPlain
import Derived.Test.YtokebgmlenlciaaDoorPaLib
import Derived.Test.YtokebgmlenlciaaDoorPaRune
import Derived.Test.YtokebgmlenlciaaDoorPaShelf
import Derived.Test.YtokebgmlenlciaaDoorPaGood
import Derived.Test.YtokebgmlenlciaaDoorPaSplit
import Derived.Test.YtokebgmlenlciaaDoorPaSort
import Derived.Test.YtokebgmlenlciaaDoorPaCheck
import Derived.Test.YtokebgmlenlciaaDoorOctKit
import Derived.WalkKit
import Derived.WalkSpells
import Derived.WalkLawsBesides
import Derived.ProofKit
import Derived.OpenShut
import Derived.Laws.BytesArg
import Derived.Laws.Externs
import Derived.Deep.QuietTactic
import Derived.BigQuiet
import Derived.BigRegion
import Derived.Lib.Hide
import Derived.Lib.Bytealg
import Derived.IntWalk
import Derived.Deep.LoopGhost
import Derived.Laws.OwnMore
import Derived.Deep.OwnRows
import Derived.Deep.Draws
import Derived.Deep.MidRow
namespace Go.Proofs.YtokebgmlenlciaaDoor.Pa
open Go.RowKit
open Oct (TextsAt)

theorem f_ab : fault (ByteArray.mk #[97, 47, 98]).data.toList = 0 := by kernel_rfl
theorem f_a__b : fault (ByteArray.mk #[97, 47, 47, 98]).data.toList = 30 := by kernel_rfl
theorem p_ab : pieces (ByteArray.mk #[97, 47, 98]).data.toList = [[97], [98]] := by kernel_rfl
theorem c_ab : compare (ByteArray.mk #[97, 47, 98]).data.toList (ByteArray.mk #[97, 46, 98]).data.toList = -1 := by kernel_rfl
theorem w_ab : within (ByteArray.mk #[97]).data.toList (ByteArray.mk #[97, 47, 98]).data.toList = true := by kernel_rfl
theorem w_ab' : within (ByteArray.mk #[97]).data.toList (ByteArray.mk #[97, 98]).data.toList = false := by kernel_rfl
theorem g_x : isName (ByteArray.mk #[120]).data.toList = true := by kernel_rfl
theorem g_dd : isName (ByteArray.mk #[46, 46]).data.toList = false := by kernel_rfl
theorem split_ab (w : World) : Calls Tryd.prog 11 #[.string ⟨#[97, 47, 98]⟩] w fun e w' => (∃ cap b off : Nat, e = .returned (.tuple #[.slice (some ⟨b, off, none⟩) 2 cap, .int .i64 0]) ∧ w'.cell? ⟨b, off, none⟩ = some (.string ⟨#[97]⟩) ∧ w'.cell? ⟨b, off + 1, none⟩ = some (.string ⟨#[98]⟩)) ∧ Below w.heap.size w w' := by
  refine (Split_calls ⟨#[97, 47, 98]⟩ w (by decide)).mono ?_
  rintro e w' ⟨⟨a, len, cap, b, off, T, he, hT, _, _, _, hp⟩, bel⟩
  rw [f_ab] at he hp
  have hp := hp rfl
  rw [p_ab] at hp
  have hl : len = 2 := by have := congrArg List.length hp; rw [tx_length] at this; exact this
  subst hl
  have h0 : T 0 = ⟨#[97]⟩ := data_inj (by have := congrArg (fun l => l[0]?) hp; simp only [tx_get (show 0 < 2 by decide)] at this; exact Option.some.inj this)
  have h1 : T 1 = ⟨#[98]⟩ := data_inj (by have := congrArg (fun l => l[1]?) hp; simp only [tx_get (show 1 < 2 by decide)] at this; exact Option.some.inj this)
  obtain rfl := hT.addr (by decide)
  exact ⟨⟨cap, b, off, he, by have := hT.cell 0 (by decide); rw [h0] at this; exact this, by have := hT.cell 1 (by decide); rw [h1] at this; exact this⟩, bel⟩
theorem split_a__b (w : World) : Calls Tryd.prog 11 #[.string ⟨#[97, 47, 47, 98]⟩] w fun e w' => (∃ a len cap, e = .returned (.tuple #[.slice a len cap, .int .i64 30])) ∧ Below w.heap.size w w' := by
  refine (Split_calls ⟨#[97, 47, 47, 98]⟩ w (by decide)).mono ?_
  rintro e w' ⟨⟨a, len, cap, b, off, T, he, _⟩, bel⟩
  rw [f_a__b] at he
  exact ⟨⟨a, len, cap, he⟩, bel⟩
def Tab : Nat → ByteArray
  | 0 => ⟨#[97]⟩
  | 1 => ⟨#[98]⟩
  | _ => ⟨#[97, 47, 99]⟩
theorem tab_size (i : Nat) : (Tab i).size ≤ 140737488351232 := by
  unfold Tab; split <;> decide
theorem join_ab (w : World) (B : Nat) (c0 : w.cell? ⟨B, 0, none⟩ = some (.string ⟨#[97]⟩)) (c1 : w.cell? ⟨B, 1, none⟩ = some (.string ⟨#[98]⟩)) :
    Calls Tryd.prog 13 #[.slice (some ⟨B, 0, none⟩) 2 2] w fun e w' => e = .returned (.tuple #[.string ⟨#[97, 47, 98]⟩, .int .i64 0]) ∧ Below w.heap.size w w' := by
  have hT : TextsAt w (some ⟨B, 0, none⟩) B 0 2 Tab := ⟨fun _ => rfl, fun i hi => by
    match i, hi with
    | 0, _ => exact c0
    | 1, _ => exact c1, tab_size⟩
  refine (Join_calls _ 2 2 B 0 Tab w (by decide) (by decide) hT).mono ?_
  rintro e w' ⟨⟨r, c, he, hj⟩, bel⟩
  have ok : IsJoin (tx Tab 2) (joined (tx Tab 2)) 0 := .ok (by decide) (by decide) (by decide)
  obtain ⟨e1, e2⟩ := hj.unique ok
  have e3 : r = ⟨#[97, 47, 98]⟩ := data_inj (by rw [e1]; kernel_rfl)
  exact ⟨by rw [he, e2, e3]; rfl, bel⟩
theorem check_abc (w : World) (B : Nat) (c0 : w.cell? ⟨B, 0, none⟩ = some (.string ⟨#[97]⟩)) (c1 : w.cell? ⟨B, 1, none⟩ = some (.string ⟨#[98]⟩)) (c2 : w.cell? ⟨B, 2, none⟩ = some (.string ⟨#[97, 47, 99]⟩)) :
    Calls Tryd.prog 22 #[.slice (some ⟨B, 0, none⟩) 3 3] w fun e w' => e = .returned (.tuple #[.int .i64 2, .int .i64 32]) ∧ Below w.heap.size w w' := by
  have hT : TextsAt w (some ⟨B, 0, none⟩) B 0 3 Tab := ⟨fun _ => rfl, fun i hi => by
    match i, hi with
    | 0, _ => exact c0
    | 1, _ => exact c1
    | 2, _ => exact c2, tab_size⟩
  refine (Check_calls _ 3 3 B 0 Tab (by decide) (by decide) w hT).mono ?_
  rintro e w' ⟨⟨i, c, he, hj⟩, bel⟩
  have no : ¬ clash (Tab 0).data.toList (Tab 1).data.toList := by
    rintro (h | h | h)
    · exact absurd h (by decide)
    · exact absurd (lies_under.1 h) (by decide)
    · exact absurd (lies_under.1 h) (by decide)
  have ok : IsCheck (fun i => (Tab i).data.toList) 3 2 32 := by
    refine .clash 2 (fun j hj => ?_) (by decide) (fun j k hjk hk => ?_) (fun j hj => ?_) 0 (by decide) (Or.inr (Or.inl ⟨[99], rfl⟩))
    · match j, hj with
      | 0, _ => exact (by kernel_rfl : fault (Tab 0).data.toList = 0)
      | 1, _ => exact (by kernel_rfl : fault (Tab 1).data.toList = 0)
      | 2, _ => exact (by kernel_rfl : fault (Tab 2).data.toList = 0)
    · obtain rfl : k = 1 := by omega
      obtain rfl : j = 0 := by omega
      exact no
    · match j, hj with
      | 0, _ => decide
      | 1, _ => decide
  obtain ⟨e1, e2⟩ := hj.unique ok
  exact ⟨by rw [he, e1, e2]; rfl, bel⟩
set_option maxRecDepth 100000 in
set_option maxHeartbeats 2000000 in
theorem awake_calls (w : World) :
    Calls Tryd.prog 10 #[] w fun e w' => e = .returned (.bool true) ∧ Below w.heap.size w w' := by
  go_enter Tryd.func10, Tryd.ntmps10
  go_wp2_with fail
  refine (split_ab w).mono ?_
  rintro e w1 ⟨⟨cap1, b1, o1, rfl, x0, x1⟩, bel1⟩
  replace bel1 := Lib.hid bel1
  go_wp2_with fail
  refine (split_a__b w1).mono ?_
  rintro e w2 ⟨⟨a2, l2, cap2, rfl⟩, bel2⟩
  replace x0 := (bel2.cell (p := ⟨b1, o1, none⟩) (Oct.lt_of_cell x0)).trans x0
  replace x1 := (bel2.cell (p := ⟨b1, o1 + 1, none⟩) (Oct.lt_of_cell x1)).trans x1
  replace bel2 := Lib.hid (bel1.out.trans (bel2.mono bel1.out.size))
  clear bel1
  have j0 : (w2.alloc (.cells #[.string ⟨#[97]⟩, .string ⟨#[98]⟩] 9)).cell? ⟨w2.heap.size, 0, none⟩ = some (.string ⟨#[97]⟩) := by rw [World.cell?_alloc_at _ _ _ _ rfl]; rfl
  have j1 : (w2.alloc (.cells #[.string ⟨#[97]⟩, .string ⟨#[98]⟩] 9)).cell? ⟨w2.heap.size, 1, none⟩ = some (.string ⟨#[98]⟩) := by rw [World.cell?_alloc_at _ _ _ _ rfl]; rfl
  have hj := Lib.hid (join_ab _ _ j0 j1)
  clear j0 j1
  go_wp2_with fail
  refine hj.out.mono ?_
  rintro e w3 ⟨rfl, bel3⟩
  replace bel3 := ((Below.refl w2.heap.size w2).alloc (Nat.le_refl _) (.cells #[.string ⟨#[97]⟩, .string ⟨#[98]⟩] 9)).trans (bel3.mono (by simp))
  replace x0 := (bel3.cell (p := ⟨b1, o1, none⟩) (Oct.lt_of_cell x0)).trans x0
  replace x1 := (bel3.cell (p := ⟨b1, o1 + 1, none⟩) (Oct.lt_of_cell x1)).trans x1
  replace bel3 := Lib.hid (bel2.out.trans (bel3.mono bel2.out.size))
  clear bel2 hj
  have j0 : (w3.alloc (.cells #[.string ⟨#[97]⟩, .string ⟨#[98]⟩, .string ⟨#[97, 47, 99]⟩] 9)).cell? ⟨w3.heap.size, 0, none⟩ = some (.string ⟨#[97]⟩) := by rw [World.cell?_alloc_at _ _ _ _ rfl]; rfl
  have j1 : (w3.alloc (.cells #[.string ⟨#[97]⟩, .string ⟨#[98]⟩, .string ⟨#[97, 47, 99]⟩] 9)).cell? ⟨w3.heap.size, 1, none⟩ = some (.string ⟨#[98]⟩) := by rw [World.cell?_alloc_at _ _ _ _ rfl]; rfl
  have j2 : (w3.alloc (.cells #[.string ⟨#[97]⟩, .string ⟨#[98]⟩, .string ⟨#[97, 47, 99]⟩] 9)).cell? ⟨w3.heap.size, 2, none⟩ = some (.string ⟨#[97, 47, 99]⟩) := by rw [World.cell?_alloc_at _ _ _ _ rfl]; rfl
  have hc := Lib.hid (check_abc _ _ j0 j1 j2)
  clear j0 j1 j2
  go_wp2_with fail
  refine hc.out.mono ?_
  rintro e w4 ⟨rfl, bel4⟩
  replace bel4 := ((Below.refl w3.heap.size w3).alloc (Nat.le_refl _) (.cells #[.string ⟨#[97]⟩, .string ⟨#[98]⟩, .string ⟨#[97, 47, 99]⟩] 9)).trans (bel4.mono (by simp))
  replace x0 := (bel4.cell (p := ⟨b1, o1, none⟩) (Oct.lt_of_cell x0)).trans x0
  replace x1 := (bel4.cell (p := ⟨b1, o1 + 1, none⟩) (Oct.lt_of_cell x1)).trans x1
  replace bel4 := Lib.hid (bel3.out.trans (bel4.mono bel3.out.size))
  clear bel3 hc
  go_wp2_with fail
  refine (Compare_calls ⟨#[97, 47, 98]⟩ ⟨#[97, 46, 98]⟩ w4 (by decide) (by decide)).mono ?_
  rw [c_ab]
  rintro e w5 ⟨rfl, bel5⟩
  replace bel5 := Lib.hid (bel4.out.trans (bel5.mono bel4.out.size))
  clear bel4 x0 x1
  go_wp2_with fail
  refine (Within_calls ⟨#[97]⟩ ⟨#[97, 47, 98]⟩ w5 (by decide) (by decide)).mono ?_
  rw [w_ab]
  rintro e w6 ⟨rfl, bel6⟩
  replace bel6 := Lib.hid (bel5.out.trans (bel6.mono bel5.out.size))
  clear bel5
  go_wp2_with fail
  refine (Within_calls ⟨#[97]⟩ ⟨#[97, 98]⟩ w6 (by decide) (by decide)).mono ?_
  rw [w_ab']
  rintro e w7 ⟨rfl, bel7⟩
  replace bel7 := Lib.hid (bel6.out.trans (bel7.mono bel6.out.size))
  clear bel6
  go_wp2_with fail
  refine (Good_calls ⟨#[120]⟩ w7).mono ?_
  rw [g_x]
  rintro e w8 ⟨rfl, bel8⟩
  replace bel8 := Lib.hid (bel7.out.trans (bel8.mono bel7.out.size))
  clear bel7
  go_wp2_with fail
  refine (Good_calls ⟨#[46, 46]⟩ w8).mono ?_
  rw [g_dd]
  rintro e w9 ⟨rfl, bel9⟩
  replace bel9 := Lib.hid (bel8.out.trans (bel9.mono bel8.out.size))
  clear bel8
  go_wp2
  go_ret
  exact ⟨rfl, bel9.out⟩
end Go.Proofs.YtokebgmlenlciaaDoor.Pa
