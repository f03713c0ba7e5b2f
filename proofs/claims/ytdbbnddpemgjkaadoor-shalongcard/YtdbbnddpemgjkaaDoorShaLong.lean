/-
  Proved: for every text s, ShaLong returns true and turns nothing of what it was given. Conditions: none beyond the form's own (the constants are what the program's text lays: the card ties them).
-/
import Derived.Test.YtdbbnddpemgjkaaDoorRows
import Derived.Test.YtdbbnddpemgjkaaDoorCards
import Derived.Test.YtdbbnddpemgjkaaDoorTie
import Derived.Test.YtdbbnddpemgjkaaDoorOctKit
import Derived.SevenTiedAt
import Derived.Test.YtdbbnddpemgjkaaDoorShaLaid
import Derived.WalkKit
import Derived.WalkSpells
import Derived.WalkLawsBesides
import Derived.ProofKit
import Derived.OpenShut
import Derived.Laws.BytesArg
import Derived.Deep.QuietTactic
import Derived.BigQuiet
import Derived.BigRegion
import Derived.Lib.Hide
import Derived.Lib.ConvBytes
import Derived.Laws.IdiomStrings
import Derived.LaidMore
import Derived.Stop.Joined
import Derived.MakeChecks
import Derived.Lib.Builder
import Derived.Lib.UnsafeStr
import Derived.Lib.AppendStr
import Derived.Laws.Externs
import Derived.Deep.OwnRows
import Derived.Lib.SlBuf
import Derived.Lib.LazyBuf
import Derived.Deep.Cut
import Derived.Deep.MidRow
import Derived.IntWalk
import Derived.StillTailTactics
namespace Go.Proofs.YtdbbnddpemgjkaaDoor.shaLong
open Go Go.ChangeShapes Go.WideShapes Go.ChangeAt Go.RowKit Sha
open Go.ChangeMaps (open_string)

theorem conv_there (w : World) (s : ByteArray) : ∃ (w' : World) (cap : Nat), (convert 9 31 (.string s)).run Tryd.prog w = .ok (.slice (some ⟨w.heap.size, 0, none⟩) s.size cap) w' ∧ Below w.heap.size w w' ∧
    ∀ j, j < s.size → w'.cell? ⟨w.heap.size, j, none⟩ = some (.int .u8 ((s.data.toList.getD j 0).toNat : Int)) :=
  ⟨_, _, Lib.run_convert_string_bytes w 9 31 5 s Tryd.underlying9 Tryd.underlying31 Tryd.underlying5,
   Lib.below_freeze ((below_drew (Below.refl w.heap.size w)).alloc (Nat.le_refl _) _) (p := ⟨w.heap.size, _, none⟩) (Nat.le_refl _) 1,
   fun j hj => Lib.bytesWorld_cell w 5 s j hj⟩
theorem conv_back (w : World) (b cap : Nat) (s : ByteArray) (h : ∀ j, j < s.size → w.cell? ⟨b, j, none⟩ = some (.int .u8 ((s.data.toList.getD j 0).toNat : Int))) :
    (convert 31 9 (.slice (some ⟨b, 0, none⟩) s.size cap)).run Tryd.prog w = .ok (.string s) w := by
  have e : s.size = s.data.toList.length := Lib.size_eq s
  have := run_convert_bytes_back (P := Tryd.prog) w 31 9 5 ⟨b, 0, none⟩ cap s.data.toList Tryd.underlying31 Tryd.underlying5 Tryd.underlying9 (fun j hj => by
    rw [Addr.add_mid, Nat.zero_add, h j (by omega), List.getD_eq_getElem?_getD, List.getElem?_eq_getElem hj]; rfl)
  rw [← e] at this
  exact this
set_option maxHeartbeats 400000 in
theorem walk (s : ByteArray) (hs : s.size ≤ 140737488351232) (w : World) (hk : Kc w) :
    Calls Tryd.prog 5 #[.string s] w fun e w' => e = .returned (.bool true) ∧ Below w.heap.size w w' := by
  have hpos := hk.pos
  replace hk := Lib.hid hk
  go_enter Tryd.func5, Tryd.ntmps5
  go_wp2_with fail
  refine (awake_calls w hk.out).mono ?_
  rintro e w1 ⟨rfl, b1⟩
  have k1 := Lib.hid (hk.out.turned (Turned.of_below (b := w.heap.size) b1) hpos)
  go_wp2_with fail
  refine (Sum_calls s w1 k1.out hs).mono ?_
  rintro e w2 ⟨rfl, b2⟩
  have k2 := Lib.hid (k1.out.turned (Turned.of_below (b := w1.heap.size) b2) k1.out.pos)
  replace b2 := b1.trans (b2.mono b1.size)
  clear b1
  obtain ⟨w3, cap, h3, b3, c3⟩ := conv_there w2 s
  have h4 := conv_back w3 w2.heap.size cap s c3
  have k3 := Lib.hid (k2.out.turned (Turned.of_below (b := w2.heap.size) b3) k2.out.pos)
  replace b3 := b2.trans (b3.mono b2.size)
  clear b2 c3
  go_wp2_with fail
  refine (Sum_calls s w3 k3.out hs).mono ?_
  rintro e w4 ⟨rfl, b4⟩
  replace b4 := b3.trans (b4.mono b3.size)
  clear b3 h3 h4
  have hl := sum_length s.data.toList
  generalize sum s.data.toList = d at *
  have hz : (⟨d.toArray⟩ : ByteArray).size = 32 := by rw [ByteArray.size]; simp [hl]
  clear hl
  go_wp2
  go_ret
  exact ⟨rfl, b4⟩

theorem own : ownKnob Tryd.prog.godebug = none := by kernel_rfl
theorem laidOut : laidOutB Tryd.prog = true := by kernel_rfl
set_option maxRecDepth 100000 in
theorem lifted (os : Os) (started : os.Started) (H : Type) (enc : TypeId × Value → H) :
    ReturnsInHanded {} Tryd.checked os 5 .any (fun w args => (Rows.shaLongSpec.pre enc Tryd.prog Tryd.f5 [] false w args ∧ laidMetH Tryd.prog Rows.shaLongRow.laid w) ∧ sizedMet enc Tryd.prog Tryd.f5 (OpenSpec.ofChange Rows.shaLongSpec) false w args) (Rows.shaLongSpec.post enc Tryd.prog Tryd.f5 false true false false) := by
  refine returnsInHanded_of_change_and (C := Tryd.checked) (X := (fun w _ => laidMetH Tryd.prog Rows.shaLongRow.laid w)) (fun _ _ _ hh h => h.of_heap hh) own started (by kernel_rfl) Tryd.func5
    (ChangeSpec.witness_shaped (enc := enc) (C := Tryd.checked) (os := os) (X := (fun w _ => laidMetH Tryd.prog Rows.shaLongRow.laid w)) false (World.doorLaid Tryd.prog 14 os) #[.string ByteArray.empty] 8 rfl (World.shaped_of_RefB (by kernel_rfl) (by kernel_rfl)) (by kernel_rfl) (by kernel_rfl) (by kernel_rfl) (Sha.door_met os _)) ?_
  intro W base args ds gs before hval0 hW hcnd hsz0 hL _
  have hval : ∀ (j : Nat) t v, Tryd.f5.params[j]? = some t → args[j]? = some v → Value.okWide Tryd.prog W .any base t v := hval0
  have hsz : (DataW.weightsEach Tryd.prog (Tryd.f5.params.toList ++ Rows.shaLongSpec.plain.varTypes Tryd.prog) (ds ++ gs)).all (· ≤ reachBytes) = true := hsz0
  have hW' := hW
  obtain ⟨p, q, hA0, hV, rfl, hfz, hnd⟩ := hW
  have hA : DataW.TrodAll enc Tryd.prog W 0 (fun _ => true) true Tryd.f5.params.toList args.toList ds p := hA0
  rw [Tryd.params5] at hA hval hsz
  obtain ⟨v0, vs0, d0, ds0, p0, q0, hargs, rfl, rfl, h0, r0⟩ := trodAll_cons hA
  obtain ⟨rfl, rfl, rfl⟩ := trodAll_nil r0
  obtain rfl : args = #[v0] := by cases args; simp_all
  obtain ⟨rfl, rfl⟩ := trodVars_none hV
  have k0 := h0
  have lt0 : ∀ x ∈ p0, x.block < W.heap.size := by obtain ⟨m, hm⟩ := k0; exact DataW.trod_lt m _ _ _ hm
  have ok0 := hval 0 9 v0 rfl rfl
  clear hA0 hval0 hsz0
  obtain ⟨a0, rfl, rfl, rfl, w0⟩ := open_string Tryd.underlying9 ok0 h0
  have z0 := Oct.size_reach (sized_string hsz (j := 0) (t := 9) rfl rfl)
  refine (walk a0 z0 W (kc_of_laid hL)).mono fun e W' ⟨he, bel⟩ => ?_
  subst he
  exact ⟨_, rfl, _, _, _, [], _, [], hW', trodAll_mk1 (shut_bool Tryd.underlying4 _), (trodAll_cons_mk (Below.trod laidOut (by kernel_rfl) (of_decide_eq_true (by kernel_rfl)) k0 bel lt0) trodAll_mk0), rfl, bel.frame _, fun h => by cases h⟩

/-- the row -/
theorem row_proved : Rows.ShaLongSaid :=
  OpenClaim.holds_of_wide 5 Tryd.f5 rfl rfl rfl rfl rfl rfl rfl ⟨rfl, rfl, rfl, rfl, rfl⟩ rfl rfl rfl rfl rfl (by kernel_rfl) Tryd.func5 (by kernel_rfl)
    (of_decide_eq_true (by kernel_rfl)) (by unfold Func.isWrapper; first | (rw [if_pos (by decide +kernel)]; kernel_rfl) | (rw [if_neg (by decide +kernel)]; exact ⟨rfl, rfl⟩))
    (fun os started H enc _ => lifted os started H enc)
/-- the statement: the tied card -/
theorem proved : Rows.ShaLongCardSaid :=
  Claim7.holds_tied_plain_at .later [] Rows.shaLongCard.laidKinds true Rows.shaLongCard.stood.harness Rows.shaLongCard.stood.looks row_proved (fun _ h => by cases h) (by kernel_rfl) (fun _ h => by cases h) shaLong_row_tie rfl ⟨rfl, rfl⟩ (by kernel_rfl) rfl
    (fun f fn hf hfn => by
      obtain rfl : f = 5 := Option.some.inj ((show Tryd.prog.funcNamed Rows.shaLongRow.func = some 5 by kernel_rfl).symm.trans hf) |>.symm
      obtain rfl : fn = Tryd.f5 := (Option.some.inj (Tryd.func5.symm.trans hfn)).symm
      exact ⟨by kernel_rfl, fun j t ht => by
        rw [Tryd.params5] at ht
        have hm : t ∈ [9] := by simpa using Array.mem_of_getElem? ht
        have hall : ([9].all fun u => !Tryd.prog.wantsStandIn u) = true := by kernel_rfl
        exact (show Tryd.prog.wantsStandIn t = false by simpa using List.all_eq_true.1 hall t hm)⟩)
    (by kernel_rfl)
end Go.Proofs.YtdbbnddpemgjkaaDoor.shaLong
