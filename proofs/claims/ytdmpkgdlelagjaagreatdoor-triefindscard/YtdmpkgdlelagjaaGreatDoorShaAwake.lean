/-
  The statements' own first look (awake) answers true: two digests that the document fixes, reckoned by the kernel. Conditions: the constants lie where the program's text lays them.
-/
import Derived.Test.YtdmpkgdlelagjaaGreatDoorRows
import Derived.Test.YtdmpkgdlelagjaaGreatDoorShaSum
import Derived.WalkKit
import Derived.WalkSpells
import Derived.WalkLawsBesides
import Derived.ProofKit
import Derived.OpenShut
import Derived.Laws.BytesArg
import Derived.Deep.QuietTactic
import Derived.BigQuiet
import Derived.BigRegion
import Derived.Lib.Hide
import Derived.Lib.Builder
import Derived.Lib.UnsafeStr
import Derived.Lib.AppendStr
import Derived.Laws.Externs
import Derived.Deep.OwnRows
import Derived.Lib.SlBuf
import Derived.Lib.LazyBuf
import Derived.Deep.Cut
import Derived.Deep.MidRow
import Derived.IntWalk
import Derived.StillTailTactics
namespace Go.Proofs.YtdmpkgdlelagjaaGreatDoor.Sha
open Go.RowKit
def dNone : ByteArray := ⟨#[227, 176, 196, 66, 152, 252, 28, 20, 154, 251, 244, 200, 153, 111, 185, 36, 39, 174, 65, 228, 100, 155, 147, 76, 164, 149, 153, 27, 120, 82, 184, 85]⟩
def dAbc : ByteArray := ⟨#[186, 120, 22, 191, 143, 1, 207, 234, 65, 65, 64, 222, 93, 174, 34, 35, 176, 3, 97, 163, 150, 23, 122, 156, 180, 16, 255, 97, 242, 0, 21, 173]⟩
set_option maxRecDepth 100000 in
theorem awake_none : (⟨(sum (⟨#[]⟩ : ByteArray).data.toList).toArray⟩ : ByteArray) = dNone := by kernel_rfl
set_option maxRecDepth 100000 in
theorem awake_abc : (⟨(sum (⟨#[97, 98, 99]⟩ : ByteArray).data.toList).toArray⟩ : ByteArray) = dAbc := by kernel_rfl
end Go.Proofs.YtdmpkgdlelagjaaGreatDoor.Sha
