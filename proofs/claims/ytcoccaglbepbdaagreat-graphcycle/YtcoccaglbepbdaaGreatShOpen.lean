/-
  Lists of numbers handed in, as plain lists: what the statements over sets of numbers share. Conditions: none.
-/
import Derived.Test.YtcoccaglbepbdaaGreatRows
import Derived.Test.YtcoccaglbepbdaaGreatOctKit
import Derived.Test.YtcoccaglbepbdaaGreatShOf
import Derived.Test.YtcoccaglbepbdaaGreatShRefC
namespace Go.Proofs.YtcoccaglbepbdaaGreat.Rf
open Go.RowKit Sh
open Ti (IsOf)

theorem reads_sl {W : World} {s : Option Addr} {cap n : Nat} {M : List Int} (hn : M.length = n) (h : Sl W (.slice s n cap) M) : Ti.Reads W.heap.size W (.slice s M.length cap) M := by
  obtain ⟨s', c', e, h1⟩ := h
  rw [← hn] at e
  obtain ⟨rfl, _, rfl⟩ : s = s' ∧ M.length = M.length ∧ cap = c' := by simpa using e
  exact ⟨s, cap, rfl, h1⟩
theorem fold_of {M L : List Int} (h : IsOf M L) : M.foldl (fun d x => ins x d) [] = L := rises_one (fold_rises M List.Pairwise.nil) h.1 (fun x => by rw [fold_mem M List.Pairwise.nil x, h.2.1 x]; simp)
theorem sl_open {W : World} {a : Option Addr} {len cap b off : Nat} {N : Nat → Int} (h : Oct.IntsAt .i64 W a b off len N) : Sl W (.slice a len cap) ((List.range len).map N) ∧ ((List.range len).map N).length = len := by
  refine ⟨⟨a, cap, by simp, fun h0 => ⟨b, off, h.addr (by simpa using h0), ?_, fun j hj => ?_⟩⟩, by simp⟩
  · exact World.block_lt_of_cell? W _ (h.cell 0 (by simpa using h0))
  · have hj' : j < len := by simpa using hj
    rw [h.cell j hj']
    simp [hj']
theorem wf_i64 {x : Int} (h : (Lit.int .i64 x).wf = true) : -9223372036854775808 ≤ x ∧ x < 9223372036854775808 := by
  simp [Lit.wf, IntKind.min, IntKind.max, IntKind.signed, IntKind.bits] at h
  omega
end Go.Proofs.YtcoccaglbepbdaaGreat.Rf
