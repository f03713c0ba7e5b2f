/-
  The document's own answers for sets of numbers, as plain lists: the reference's Of and Union. Conditions: a list is not too long.
-/
import Derived.Test.YtcoccaglbepbdaaGreatRows
import Derived.Test.YtcoccaglbepbdaaGreatShRefB
namespace Go.Proofs.YtcoccaglbepbdaaGreat.Rf
open Go.RowKit Sh
open Key (lt)
open Ti (keysV IsOf)
theorem fold_len : ∀ (l d : List Int), (l.foldl (fun d x => ins x d) d).length ≤ d.length + l.length
  | [], d => by simp
  | x :: l, d => by
    have h1 := fold_len l (ins x d)
    have h2 := ins_len_le x d
    simp only [List.foldl_cons, List.length_cons]; omega
theorem fold_rises : ∀ (l : List Int) {d : List Int}, Rises d → Rises (l.foldl (fun d x => ins x d) d)
  | [], _, h => h
  | x :: l, _, h => fold_rises l (rises_ins x h)
theorem mem_ins_iff {x y : Int} : ∀ {l : List Int}, Rises l → (y ∈ ins x l ↔ y = x ∨ y ∈ l)
  | [], _ => by simp [ins]
  | a :: r, h => by
    refine ⟨mem_ins, fun hy => ?_⟩
    unfold ins
    split
    · simpa using hy
    · split
      · rcases hy with hy | hy
        · exact List.mem_cons.2 (Or.inr ((mem_ins_iff (rises_tail h)).2 (Or.inl hy)))
        · rcases List.mem_cons.1 hy with hy | hy
          · simp [hy]
          · exact List.mem_cons.2 (Or.inr ((mem_ins_iff (rises_tail h)).2 (Or.inr hy)))
      · next h1 h2 =>
        have he : x = a := by
          rcases Key.tri x a with g | g | g
          · exact absurd g h1
          · exact g
          · exact absurd g h2
        rcases hy with hy | hy
        · simp [hy]
        · rcases List.mem_cons.1 hy with hy | hy
          · simp [hy, he]
          · simp [hy]
theorem fold_mem : ∀ (l : List Int) {d : List Int}, Rises d → ∀ y, (y ∈ l.foldl (fun d x => ins x d) d ↔ y ∈ l ∨ y ∈ d)
  | [], _, _, y => by simp
  | x :: l, d, h, y => by
    rw [List.foldl_cons, fold_mem l (rises_ins x h) y, mem_ins_iff h]
    simp only [List.mem_cons]
    constructor
    · rintro (h | h | h) <;> simp [h]
    · rintro ((h | h) | h) <;> simp [h]

set_option maxHeartbeats 2000000 in
theorem ROf_calls (w : World) (v : Value) (M : List Int) (hM : M.length ≤ 800000) (hv : Sl w v M) :
    Calls Tryz.prog 52 #[v] w fun e w' => ∃ u, e = .returned u ∧ Sl w' u (M.foldl (fun d x => ins x d) ([] : List Int)) ∧ Below w.heap.size w w' := by
  obtain ⟨s, cap, rfl, hr⟩ := hv
  have o0 : Hid (Sl (w.alloc (.cells #[] 3)) (.slice (some ⟨w.heap.size, 0, none⟩) 0 0) ((M.take 0).foldl (fun d x => ins x d) ([] : List Int))) := Lib.hid ⟨_, 0, rfl, fun h => by simp at h⟩
  have b0 := Lib.hid (b_alloc w (.cells #[] 3))
  go_enter Tryz.func52, Tryz.ntmps52
  go_wp2
  go_loopg [3, 4] M.length (fun gg s5 s6 wr => ∃ (k : Nat) (ua : Option Addr) (un uc : Nat), s5 = .slice ua un uc ∧ s6 = .int .i64 (k : Int) ∧ k ≤ M.length ∧ M.length - k ≤ gg ∧ Hid (Sl wr (.slice ua un uc) ((M.take k).foldl (fun d x => ins x d) ([] : List Int))) ∧ Hid (Below w.heap.size w wr))
  case atStart => exact ⟨0, _, _, _, rfl, rfl, by omega, by omega, o0, b0⟩
  case round =>
    clear o0 b0
    obtain ⟨k, ua, un, uc, rfl, rfl, hk, hgg, ho, hb⟩ := hrel
    by_cases hlt : k < M.length
    · obtain ⟨g, off, rfl, hg, hc⟩ := hr (by omega)
      have ck : wr.cell? ⟨g, off + k, none⟩ = some (.int .i64 (M[k]?.getD 0)) := (hb.out.cell (p := ⟨g, off + k, none⟩) hg).trans (hc k hlt)
      have l1 : (k : Int) < M.length := by omega
      have l2 : (0 : Int) ≤ k := by omega
      have hms : Hid (M.length - (k + 1) < gk) := Lib.hid (by omega)
      have hk2 : Hid (k + 1 ≤ M.length) := Lib.hid (by omega)
      have hw1 : IntKind.i64.wrap ((k : Int) + 1) = ((k + 1 : Nat) : Int) := wrap_nat (k + 1) (by omega)
      have hst : Hid ((M.take (k + 1)).foldl (fun d x => ins x d) ([] : List Int) = ins (M[k]?.getD 0) ((M.take k).foldl (fun d x => ins x d) ([] : List Int))) := Lib.hid (by rw [take_at M k hlt, List.foldl_append]; rfl)
      have hPut := Lib.hid (RPut_calls wr (.slice ua un uc) ((M.take k).foldl (fun d x => ins x d) ([] : List Int)) (M[k]?.getD 0) (by have := fold_len (M.take k) ([] : List Int); simp at this; omega) (fold_rises _ (List.Pairwise.nil)) ho.out)
      rw [← hst.out] at hPut
      generalize M[k]?.getD 0 = y at ck hPut
      clear hc hr ho hst
      go_wp2_with fail
      refine hPut.out.mono ?_
      rintro e w2 ⟨u, rfl, hS, b2⟩
      have hu : ∃ a n c, u = .slice a n c := by obtain ⟨s, c, rfl, _⟩ := hS; exact ⟨_, _, _, rfl⟩
      obtain ⟨xa, xn, xc, rfl⟩ := hu
      have hb2 := Lib.hid (b_next hb.out b2 (Nat.le_refl _))
      replace hS := Lib.hid hS
      clear hPut b2
      go_wp2
      go_roundg (M.length - (k + 1))
      case measure => exact hms.out
      case rel => exact ⟨k + 1, xa, xn, xc, rfl, by simp, hk2.out, Nat.le_refl _, hS, hb2⟩
    · obtain rfl : k = M.length := by omega
      have l1 : ¬ (M.length : Int) < M.length := by omega
      have ho2 : Hid (Sl wr (.slice ua un uc) (M.foldl (fun d x => ins x d) ([] : List Int))) := Lib.hid (by have := ho.out; rw [List.take_length] at this; exact this)
      clear hr ho
      go_wp2
      go_ret
      exact ⟨_, rfl, ho2.out, hb.out⟩

set_option maxHeartbeats 2000000 in
theorem RUnion_calls (w : World) (v u : Value) (A B : List Int) (hA : A.length ≤ 400000) (hB : B.length ≤ 400000) (rA : Rises A) (hv : Sl w v A) (hu : Sl w u B) :
    Calls Tryz.prog 78 #[v, u] w fun e w' => ∃ u, e = .returned u ∧ Sl w' u (B.foldl (fun d x => ins x d) A) ∧ Below w.heap.size w w' := by
  obtain ⟨s, cap, rfl, hr⟩ := hu
  have o0 : Hid (Sl w v ((B.take 0).foldl (fun d x => ins x d) A)) := Lib.hid (by simpa using hv)
  have b0 := Lib.hid (Below.refl w.heap.size w)
  obtain ⟨va, vn, vc, rfl⟩ : ∃ a n c, v = .slice a n c := by obtain ⟨s, c, rfl, _⟩ := hv; exact ⟨_, _, _, rfl⟩
  clear hv
  go_enter Tryz.func78, Tryz.ntmps78
  go_wp2
  go_loopg [5, 6] B.length (fun gg s5 s6 wr => ∃ (k : Nat) (ua : Option Addr) (un uc : Nat), s5 = .slice ua un uc ∧ s6 = .int .i64 (k : Int) ∧ k ≤ B.length ∧ B.length - k ≤ gg ∧ Hid (Sl wr (.slice ua un uc) ((B.take k).foldl (fun d x => ins x d) A)) ∧ Hid (Below w.heap.size w wr))
  case atStart => exact ⟨0, _, _, _, rfl, rfl, by omega, by omega, o0, b0⟩
  case round =>
    clear o0 b0
    obtain ⟨k, ua, un, uc, rfl, rfl, hk, hgg, ho, hb⟩ := hrel
    by_cases hlt : k < B.length
    · obtain ⟨g, off, rfl, hg, hc⟩ := hr (by omega)
      have ck : wr.cell? ⟨g, off + k, none⟩ = some (.int .i64 (B[k]?.getD 0)) := (hb.out.cell (p := ⟨g, off + k, none⟩) hg).trans (hc k hlt)
      have l1 : (k : Int) < B.length := by omega
      have l2 : (0 : Int) ≤ k := by omega
      have hms : Hid (B.length - (k + 1) < gk) := Lib.hid (by omega)
      have hk2 : Hid (k + 1 ≤ B.length) := Lib.hid (by omega)
      have hw1 : IntKind.i64.wrap ((k : Int) + 1) = ((k + 1 : Nat) : Int) := wrap_nat (k + 1) (by omega)
      have hst : Hid ((B.take (k + 1)).foldl (fun d x => ins x d) A = ins (B[k]?.getD 0) ((B.take k).foldl (fun d x => ins x d) A)) := Lib.hid (by rw [take_at B k hlt, List.foldl_append]; rfl)
      have hPut := Lib.hid (RPut_calls wr (.slice ua un uc) ((B.take k).foldl (fun d x => ins x d) A) (B[k]?.getD 0) (by have := fold_len (B.take k) A; simp at this; omega) (fold_rises _ rA) ho.out)
      rw [← hst.out] at hPut
      generalize B[k]?.getD 0 = y at ck hPut
      clear hc hr ho hst
      go_wp2_with fail
      refine hPut.out.mono ?_
      rintro e w2 ⟨u, rfl, hS, b2⟩
      have hu : ∃ a n c, u = .slice a n c := by obtain ⟨s, c, rfl, _⟩ := hS; exact ⟨_, _, _, rfl⟩
      obtain ⟨xa, xn, xc, rfl⟩ := hu
      have hb2 := Lib.hid (b_next hb.out b2 (Nat.le_refl _))
      replace hS := Lib.hid hS
      clear hPut b2
      go_wp2
      go_roundg (B.length - (k + 1))
      case measure => exact hms.out
      case rel => exact ⟨k + 1, xa, xn, xc, rfl, by simp, hk2.out, Nat.le_refl _, hS, hb2⟩
    · obtain rfl : k = B.length := by omega
      have l1 : ¬ (B.length : Int) < B.length := by omega
      have ho2 : Hid (Sl wr (.slice ua un uc) (B.foldl (fun d x => ins x d) A)) := Lib.hid (by have := ho.out; rw [List.take_length] at this; exact this)
      clear hr ho
      go_wp2
      go_ret
      exact ⟨_, rfl, ho2.out, hb.out⟩

end Go.Proofs.YtcoccaglbepbdaaGreat.Rf
