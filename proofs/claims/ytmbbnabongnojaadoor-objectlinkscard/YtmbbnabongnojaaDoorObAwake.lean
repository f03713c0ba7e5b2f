/-
  The statements' own first look (awake) answers true: answers that the document fixes, reckoned by the kernel. Conditions: the constants of the digest lie where the program lays them.
-/
import Derived.Test.YtmbbnabongnojaaDoorRows
import Derived.Test.YtmbbnabongnojaaDoorObPlain
import Derived.Test.YtmbbnabongnojaaDoorObGood
import Derived.Test.YtmbbnabongnojaaDoorObWrite
import Derived.Test.YtmbbnabongnojaaDoorObOwn
import Derived.Test.YtmbbnabongnojaaDoorObDec
import Derived.Test.YtmbbnabongnojaaDoorObHeight
import Derived.Test.YtmbbnabongnojaaDoorOctKit
import Derived.Test.YtmbbnabongnojaaDoorShaSum
import Derived.WalkKit
import Derived.WalkSpells
import Derived.WalkLawsBesides
import Derived.ProofKit
import Derived.OpenShut
import Derived.Laws.BytesArg
import Derived.Laws.Externs
import Derived.Deep.QuietTactic
import Derived.BigQuiet
import Derived.BigRegion
import Derived.Lib.Hide
import Derived.IntWalk
import Derived.Deep.LoopGhost
namespace Go.Proofs.YtmbbnabongnojaaDoor.Ob
open Go Go.RowKit
open Oct (empty IntsAt)

theorem kc_below {w w' : World} (h : Sha.Kc w) (b : Below w.heap.size w w') : Sha.Kc w' := h.turned (Sha.Turned.of_below (b := w.heap.size) b) h.pos
theorem sum_length (l : List UInt8) : (Sha.sum l).length = 32 := by simp [Sha.sum, Sha.V.bytes, Sha.bytes4]
theorem sum_size (l : List UInt8) : (⟨(Sha.sum l).toArray⟩ : ByteArray).size = 32 := by rw [ByteArray.size]; simp [sum_length]
def blobHi : Obj := ⟨1, ⟨#[104, 105]⟩, [], empty, [], 0, empty⟩
def treeNo : Obj := ⟨2, empty, [], empty, [], 0, empty⟩
theorem wrote_hi : wrote blobHi = .tuple #[.string ⟨#[1, 104, 105]⟩, .int .i64 0] := by kernel_rfl
theorem wrote_no : wrote treeNo = .tuple #[.string ⟨#[2, 0, 0, 0, 0]⟩, .int .i64 0] := by kernel_rfl
theorem wrote_zero : wrote zero = .tuple #[.string empty, .int .i64 1] := by kernel_rfl
theorem fits_hi : fits ⟨#[1, 104, 105]⟩ = true := by kernel_rfl
theorem dec_hi : (dec ⟨#[1, 104, 105]⟩).1 = blobHi := by kernel_rfl
theorem good_hi : good blobHi = true := by kernel_rfl
theorem at_nil (w : World) (x : Obj) (h1 : x.ents = []) (h2 : x.pars = []) : ObAt w x none 0 none 0 := by
  obtain ⟨_, _, e, _, p, _, _⟩ := x
  dsimp only at h1 h2
  subst h1 h2
  exact ⟨⟨0, 0, EntsAt.nil w⟩, ⟨0, 0, ParsAt.nil w⟩, Nat.le_refl _, Nat.le_refl _⟩
theorem hgt_two : hgt (fun i => if i = 0 then 2 else 5) 2 = 6 := by kernel_rfl
set_option maxRecDepth 100000 in
set_option maxHeartbeats 2000000 in
theorem awake_calls (w : World) (hk : Sha.Kc w) :
    Calls Tryd.prog 10 #[] w fun e w' => e = .returned (.bool true) ∧ Below w.heap.size w w' := by
  have c1 := Lib.hid fun w => Encode_calls blobHi none 0 none 0 w (at_nil w _ rfl rfl)
  have c2 := Lib.hid fun w => Encode_calls treeNo none 0 none 0 w (at_nil w _ rfl rfl)
  have c3 := Lib.hid fun w => Decode_calls ⟨#[1, 104, 105]⟩ w
  have c4 := Lib.hid fun w => Encode_calls zero none 0 none 0 w (at_nil w _ rfl rfl)
  rw [wrote_hi] at c1
  rw [wrote_no] at c2
  rw [wrote_zero] at c4
  replace hk := Lib.hid hk
  go_enter Tryd.func10, Tryd.ntmps10
  go_wp2_with fail
  refine (c1.out w).mono ?_
  rintro e w1 ⟨rfl, b1⟩
  replace hk := Lib.hid (kc_below hk.out b1)
  replace b1 := Lib.hid b1
  go_wp2_with fail
  refine (c2.out w1).mono ?_
  rintro e w2 ⟨rfl, b2⟩
  replace hk := Lib.hid (kc_below hk.out b2)
  replace b2 := Lib.hid (b1.out.trans (b2.mono b1.out.size))
  clear b1
  go_wp2_with fail
  refine (c3.out w2).mono ?_
  rintro e w3 ⟨hr, b3⟩
  obtain ⟨ea, ec, pa, pc, rfl, hO⟩ := hr.yes fits_hi
  rw [dec_hi] at hO ⊢
  replace hk := Lib.hid (kc_below hk.out b3)
  replace b3 := Lib.hid (b2.out.trans (b3.mono b2.out.size))
  clear b2 hr
  replace hO := Lib.hid hO
  unfold blobHi
  have b4 := Lib.hid (b_alloc w3 (.cells #[.int .i64 1, .string ⟨#[104, 105]⟩, .slice ea 0 ec, .string empty, .slice pa 0 pc, .int .i64 0, .string empty] 25))
  have x4 := Lib.hid (Blk.new w3 #[.int .i64 1, .string ⟨#[104, 105]⟩, .slice ea 0 ec, .string empty, .slice pa 0 pc, .int .i64 0, .string empty] 25)
  replace hO := Lib.hid (hO.out.below b4.out)
  replace hk := Lib.hid (kc_below hk.out b4.out)
  replace b4 := Lib.hid (b3.out.trans (b4.out.mono b3.out.size))
  clear b3
  go_wp2_with fail
  generalize w3.alloc (.cells #[.int .i64 1, .string ⟨#[104, 105]⟩, .slice ea 0 ec, .string empty, .slice pa 0 pc, .int .i64 0, .string empty] 25) = w4 at *
  refine (c4.out w4).mono ?_
  rintro e w5 ⟨rfl, b5⟩
  replace hk := Lib.hid (kc_below hk.out b5)
  replace hO := Lib.hid (hO.out.below b5)
  replace x4 : Hid (Blk w5 w3.heap.size #[.int .i64 1, .string ⟨#[104, 105]⟩, .slice ea 0 ec, .string empty, .slice pa 0 pc, .int .i64 0, .string empty] 25) := Lib.hid (x4.out.below b5 x4.out.lt)
  replace b4 := Lib.hid (b4.out.trans (b5.mono b4.out.size))
  clear b5 c1 c2 c3 c4
  have f0 := x4.out.cell 0 (v := .int .i64 1) rfl
  have f1 := x4.out.cell 1 (v := .string ⟨#[104, 105]⟩) rfl
  have hI := Lib.hid (Id_calls ⟨#[1, 104, 105]⟩ w5 hk.out (by decide))
  have hsz := sum_size (⟨#[1, 104, 105]⟩ : ByteArray).data.toList
  generalize Sha.sum (⟨#[1, 104, 105]⟩ : ByteArray).data.toList = dg at *
  generalize (⟨dg.toArray⟩ : ByteArray) = dgb at *
  go_wp2_with fail
  refine hI.out.mono ?_
  rintro e w6 ⟨rfl, b6⟩
  replace hO := Lib.hid (hO.out.below b6)
  replace x4 : Hid (Blk w6 w3.heap.size #[.int .i64 1, .string ⟨#[104, 105]⟩, .slice ea 0 ec, .string empty, .slice pa 0 pc, .int .i64 0, .string empty] 25) := Lib.hid (x4.out.below b6 x4.out.lt)
  replace b4 := Lib.hid (b4.out.trans (b6.mono b4.out.size))
  clear b6 f0 f1 hI
  have f0 := x4.out.cell 0 (v := .int .i64 1) rfl
  have f1 := x4.out.cell 1 (v := .string ⟨#[104, 105]⟩) rfl
  have f2 := x4.out.cell 2 (v := .slice ea 0 ec) rfl
  have f3 := x4.out.cell 3 (v := .string empty) rfl
  have f4 := x4.out.cell 4 (v := .slice pa 0 pc) rfl
  have f5 := x4.out.cell 5 (v := .int .i64 0) rfl
  have f6 := x4.out.cell 6 (v := .string empty) rfl
  have hG := Lib.hid (Good_calls blobHi ea ec pa pc w6 hO.out)
  rw [good_hi] at hG
  go_wp2_with fail
  refine hG.out.mono ?_
  rintro e w7 ⟨rfl, b7⟩
  replace b4 := Lib.hid (b4.out.trans (b7.mono b4.out.size))
  clear b7 f0 f1 f2 f3 f4 f5 f6 hG x4 hO
  have x8 := Blk.new w7 #[.int .i64 2, .int .i64 5] 3
  have hH := Lib.hid (Height_calls (some ⟨w7.heap.size, 0, none⟩) 2 2 w7.heap.size 0 (fun i => if i = 0 then 2 else 5) (w7.alloc (.cells #[.int .i64 2, .int .i64 5] 3)) ⟨fun _ => rfl, fun i hi => by
    match i, hi with
    | 0, _ => exact x8.cell 0 rfl
    | 1, _ => exact x8.cell 1 rfl, fun i => by
    by_cases e : i = 0
    · simp only [e, if_true]; rfl
    · simp only [e, if_false]; rfl⟩ (by decide))
  rw [hgt_two] at hH
  replace b4 := Lib.hid (b4.out.trans ((b_alloc w7 (.cells #[.int .i64 2, .int .i64 5] 3)).mono b4.out.size))
  clear x8
  go_wp2_with fail
  refine hH.out.mono ?_
  rintro e w8 ⟨rfl, rfl⟩
  go_wp2
  go_ret
  exact ⟨rfl, b4.out⟩
end Go.Proofs.YtmbbnabongnojaaDoor.Ob
