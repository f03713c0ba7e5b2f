/-
  A drawing in plain words: what is asked and told prefix by prefix, what is left to be asked, how long it can go on; of no program. Conditions: none.
-/
import Derived.Test.YtdmpkgdlelagjaaGreatDoorTrPlain
namespace Go.Proofs.YtdmpkgdlelagjaaGreatDoor.Tr
open Go
open Ident (by_ val dg digit has digits)
open Sh (Rises)
theorem mem_ins_iff {e x : ByteArray} : ∀ {l : List ByteArray}, x ∈ Sh.ins e l ↔ x = e ∨ x ∈ l
  | [] => by simp [Sh.ins]
  | a :: r => by
    have ih := mem_ins_iff (e := e) (x := x) (l := r)
    show x ∈ (if Sh.Key.lt e a then e :: a :: r else if Sh.Key.lt a e then a :: Sh.ins e r else e :: r) ↔ _
    split
    · simp
    · rename_i h1
      split
      · rw [List.mem_cons, ih, List.mem_cons]
        constructor
        · rintro (h | h | h)
          · exact Or.inr (Or.inl h)
          · exact Or.inl h
          · exact Or.inr (Or.inr h)
        · rintro (h | h | h)
          · exact Or.inr (Or.inl h)
          · exact Or.inl h
          · exact Or.inr (Or.inr h)
      · rename_i h2
        have e1 : e = a := by
          rcases Sh.Key.tri e a with g | g | g
          · exact absurd g h1
          · exact g
          · exact absurd g h2
        subst e1
        simp
/-- the text of 32 bytes -/
def txt (f : Nat → UInt8) : ByteArray := ⟨((List.range 32).map f).toArray⟩
theorem txt_size (f : Nat → UInt8) : (txt f).size = 32 := by unfold txt; rw [ByteArray.size]; simp
/-- a list's texts, rising, each once -/
def srt (M : List ByteArray) : List ByteArray := M.foldl (fun d x => Sh.ins x d) []
theorem srt_snoc (M : List ByteArray) (x : ByteArray) : srt (M ++ [x]) = Sh.ins x (srt M) := by unfold srt; rw [List.foldl_append]; rfl
theorem snoc_ind {p : List ByteArray → Prop} (h0 : p []) (h1 : ∀ M x, p M → p (M ++ [x])) (M : List ByteArray) : p M := by
  have : ∀ n (M : List ByteArray), M.length = n → p M := by
    intro n
    induction n with
    | zero => intro M h; rw [List.length_eq_zero_iff.1 h]; exact h0
    | succ n ih =>
      intro M h
      have hne : M ≠ [] := fun e => by rw [e] at h; simp at h
      rw [← List.dropLast_concat_getLast hne]
      exact h1 _ _ (ih _ (by rw [List.length_dropLast, h]; rfl))
  exact this _ M rfl
theorem srt_rises (M : List ByteArray) : Rises (srt M) := snoc_ind (p := fun M => Rises (srt M)) List.Pairwise.nil (fun M x h => by rw [srt_snoc]; exact Sh.rises_ins x h) M
theorem mem_srt (x : ByteArray) (M : List ByteArray) : x ∈ srt M ↔ x ∈ M := snoc_ind (p := fun M => x ∈ srt M ↔ x ∈ M) Iff.rfl (fun M y h => by rw [srt_snoc, mem_ins_iff, h, List.mem_append, List.mem_singleton]; exact or_comm) M
theorem srt_len (M : List ByteArray) : (srt M).length ≤ M.length := snoc_ind (p := fun M => (srt M).length ≤ M.length) (Nat.le_refl _) (fun M y h => by rw [srt_snoc, List.length_append, List.length_singleton]; exact Nat.le_trans (Sh.ins_len_le _ _) (by omega)) M
/-- the same ids below a prefix -/
def Same (A B : List ByteArray) (p : ByteArray) : Prop := ∀ x, x ∈ below A p ↔ x ∈ below B p
theorem mem_below {L : List ByteArray} {p x : ByteArray} : x ∈ below L p ↔ x ∈ L ∧ has x p := by simp [below]
/-- how long a prefix may keep the drawing busy -/
def busy (B : List ByteArray) (p : ByteArray) : Nat := 1 + 2 * ((below B p).length * (64 - p.size))
def busyAll (B : List ByteArray) (P : List ByteArray) : Nat := (P.map (busy B)).sum
theorem busyAll_cons (B P : List ByteArray) (p : ByteArray) : busyAll B (p :: P) = busy B p + busyAll B P := by simp [busyAll]
theorem busyAll_append (B P Q : List ByteArray) : busyAll B (P ++ Q) = busyAll B P + busyAll B Q := by simp [busyAll]
theorem busy_pos (B : List ByteArray) (p : ByteArray) : 1 ≤ busy B p := by unfold busy; omega
theorem busy_asks (B : List ByteArray) {p : ByteArray} (hp : p.size < 64) (f : Nat → Bool) : ∀ n, n ≤ 16 →
    busyAll B (((List.range n).filter f).map (longer p)) ≤ n + 2 * (upto (below B p) p.size n * (63 - p.size))
  | 0, _ => by simp [busyAll]
  | n + 1, hn => by
    have ih := busy_asks B hp f n (by omega)
    rw [List.range_succ, List.filter_append, List.map_append, busyAll_append, upto_next, Nat.add_mul, Nat.mul_add]
    have hl : busyAll B ((([n] : List Nat).filter f).map (longer p)) ≤ 1 + 2 * ((part (below B p) p.size n).length * (63 - p.size)) := by
      cases hf : f n with
      | true =>
        rw [List.filter_cons_of_pos hf]
        show busy B (longer p n) + 0 ≤ _
        unfold busy
        rw [below_longer hp (by omega), longer_size, show 64 - (p.size + 1) = 63 - p.size by omega]
        omega
      | false =>
        rw [List.filter_cons_of_neg (by rw [hf]; simp)]
        exact Nat.zero_le _
    omega
theorem cell_kds (B : List ByteArray) (p : ByteArray) : (cellOf B p).kds = if (below B p).length ≤ 8 then [] else kids p.size (below B p) := rfl
theorem cell_ids (B : List ByteArray) (p : ByteArray) : (cellOf B p).ids = if (below B p).length ≤ 8 then below B p else [] := rfl
/-- one round: what is asked on keeps busy less long than what was asked -/
theorem busy_round {A B : List ByteArray} (hB : IsSet B) (p : ByteArray) : busyAll B (asks A (cellOf B p)) + 1 ≤ busy B p := by
  unfold asks
  by_cases h : (below B p).length ≤ 8
  · rw [cell_kds, if_pos h]
    show 0 + 1 ≤ _
    exact busy_pos B p
  · have hk := alike_lt (below_set hB p) alike_below (by omega)
    rw [cell_kds, if_neg h, kids_length]
    have := busy_asks B hk (asked A (cellOf B p)) 16 (Nat.le_refl _)
    rw [upto_all] at this
    show busyAll B (((List.range 16).filter (asked A (cellOf B p))).map (longer p)) + 1 ≤ _
    unfold busy
    obtain ⟨m, hm⟩ : ∃ m, 64 - p.size = m + 1 := ⟨63 - p.size, by omega⟩
    rw [show 63 - p.size = m by omega] at this
    rw [hm, Nat.mul_add]
    omega
theorem busy_start {B : List ByteArray} (hB : B.length ≤ 80) (hs : ∀ x ∈ B, x.size = 32) : busyAll B [ByteArray.empty] ≤ 10241 := by
  show busy B ByteArray.empty + 0 ≤ _
  unfold busy
  rw [below_none hs rfl]
  show 1 + 2 * (B.length * 64) + 0 ≤ _
  omega

/-- where a drawing stands: what is left to be asked, what was told; whether two unlike sets with one sum have shown up -/
structure Hunt (A B todo found : List ByteArray) (clash : Bool) : Prop where
  pre : ∀ p ∈ todo, IsPre p
  apart : todo.Pairwise fun p q => ∀ x ∈ B, ¬ (has x p ∧ has x q)
  told : ∀ x ∈ found, x ∈ B ∧ x ∉ A
  new : ∀ x ∈ found, ∀ p ∈ todo, ¬ has x p
  all : clash = false → ∀ x ∈ B, x ∉ A → x ∈ found ∨ ∃ p ∈ todo, has x p
theorem Hunt.start {A B : List ByteArray} (hB : IsSet B) : Hunt A B [ByteArray.empty] [] false := by
  have he : ∀ x ∈ B, has x ByteArray.empty := fun x hx => ⟨hB.1 x hx, Nat.zero_le _, fun j hj => absurd hj (Nat.not_lt_zero _)⟩
  refine ⟨fun p hp => ?_, by simp, fun x hx => by simp at hx, fun x hx => by simp at hx, fun _ x hx _ => Or.inr ⟨_, by simp, he x hx⟩⟩
  simp only [List.mem_singleton] at hp
  subst hp
  exact ⟨Nat.zero_le _, fun k hk => absurd hk (Nat.not_lt_zero _)⟩
/-- that no sum of a kid misleads -/
def Fair (A B : List ByteArray) (p : ByteArray) (d : Nat) : Prop :=
  (sumAt (longer p d).size (below A (longer p d)) = kid p.size (below B p) d → Same A B (longer p d)) ∧ (kid p.size (below B p) d = few [] → Same [] B (longer p d))
theorem mem_lacks {A : List ByteArray} {c : Cell} {x : ByteArray} : x ∈ lacks A c ↔ x ∈ c.ids ∧ x ∉ A := by
  unfold lacks
  rw [List.mem_filter]
  simp only [Bool.not_eq_true', Bool.eq_false_iff, ne_eq, Sh.has_iff]
  constructor
  · rintro ⟨h1, h2⟩; exact ⟨h1, fun g => h2 ⟨x, g, rfl⟩⟩
  · rintro ⟨h1, h2⟩; exact ⟨h1, fun ⟨y, hy, e⟩ => h2 (by have e' : y = x := e; exact e' ▸ hy)⟩
theorem mem_asks {A B : List ByteArray} {p q : ByteArray} : q ∈ asks A (cellOf B p) ↔ 8 < (below B p).length ∧ ∃ d, d < 16 ∧ q = longer p d ∧ kid p.size (below B p) d ≠ kid p.size (below A p) d ∧ kid p.size (below B p) d ≠ few [] := by
  unfold asks
  by_cases h : (below B p).length ≤ 8
  · rw [cell_kds, if_pos h]
    constructor
    · intro g; simp at g
    · rintro ⟨g, _⟩; omega
  · rw [List.mem_map]
    have hlen : (cellOf B p).kds.length = 16 := by rw [cell_kds, if_neg h, kids_length]
    have hget : ∀ d, d < 16 → (cellOf B p).kds.getD d ByteArray.empty = kid p.size (below B p) d := fun d hd => by
      rw [cell_kds, if_neg h, List.getD_eq_getElem?_getD, kids_at _ _ hd]; rfl
    rw [hlen]
    constructor
    · rintro ⟨d, hd, rfl⟩
      rw [List.mem_filter, List.mem_range] at hd
      obtain ⟨hd1, hd2⟩ := hd
      unfold asked at hd2
      rw [hget d hd1, decide_eq_true_eq] at hd2
      exact ⟨by omega, d, hd1, rfl, hd2⟩
    · rintro ⟨_, d, hd1, rfl, hd2⟩
      refine ⟨d, ?_, rfl⟩
      rw [List.mem_filter, List.mem_range]
      refine ⟨hd1, ?_⟩
      unfold asked
      rw [hget d hd1, decide_eq_true_eq]
      exact hd2
theorem kid_below {L : List ByteArray} {p : ByteArray} (hp : p.size < 64) {d : Nat} (hd : d < 16) : kid p.size (below L p) d = sumAt (longer p d).size (below L (longer p d)) := by
  unfold kid; rw [below_longer hp hd, longer_size]
/-- a round of a drawing -/
theorem Hunt.round {A B r found found' : List ByteArray} {p : ByteArray} {clash clash' : Bool} (hB : IsSet B) (h : Hunt A B (p :: r) found clash)
    (hf : ∀ x, x ∈ found' ↔ x ∈ found ∨ x ∈ lacks A (cellOf B p)) (hc : clash' = false → clash = false ∧ (8 < (below B p).length → ∀ d, d < 16 → Fair A B p d)) :
    Hunt A B (r ++ asks A (cellOf B p)) found' clash' := by
  have hids : ∀ x, x ∈ (cellOf B p).ids → x ∈ B ∧ has x p := fun x hx => by
    rw [cell_ids] at hx
    split at hx
    · exact mem_below.1 hx
    · simp at hx
  have hpre := h.pre p (by simp)
  obtain ⟨ap1, ap2⟩ := List.pairwise_cons.1 h.apart
  have hk64 : 8 < (below B p).length → p.size < 64 := fun g => alike_lt (below_set hB p) alike_below g
  have hsub : ∀ q ∈ asks A (cellOf B p), ∀ x, has x q → has x p := fun q hq x hx => by
    obtain ⟨h8, d, hd, rfl, _⟩ := mem_asks.1 hq
    exact ((has_longer (hk64 h8) hd).1 hx).1
  refine ⟨fun q hq => ?_, ?_, fun x hx => ?_, fun x hx q hq => ?_, fun hcl x hx hxa => ?_⟩
  · rcases List.mem_append.1 hq with hq | hq
    · exact h.pre q (by simp [hq])
    · obtain ⟨h8, d, hd, rfl, _⟩ := mem_asks.1 hq
      exact longer_pre hpre (hk64 h8) hd
  · rw [List.pairwise_append]
    refine ⟨ap2, ?_, fun q hq s hs x hx g => ap1 q hq x hx ⟨hsub s hs x g.2, g.1⟩⟩
    unfold asks
    rw [List.pairwise_map]
    by_cases h8 : (below B p).length ≤ 8
    · rw [cell_kds, if_pos h8]; exact List.Pairwise.nil
    · refine List.Pairwise.filter _ ?_
      rw [cell_kds, if_neg h8, kids_length]
      refine (List.pairwise_lt_range).imp_of_mem fun {d e} hd he hlt x hx g => ?_
      rw [List.mem_range] at hd he
      have g1 := ((has_longer (hk64 (by omega)) hd).1 g.1).2
      have g2 := ((has_longer (hk64 (by omega)) he).1 g.2).2
      omega
  · rcases (hf x).1 hx with hx | hx
    · exact h.told x hx
    · obtain ⟨h1, h2⟩ := mem_lacks.1 hx
      exact ⟨(hids x h1).1, h2⟩
  · rcases (hf x).1 hx with hx | hx
    · rcases List.mem_append.1 hq with hq | hq
      · exact h.new x hx q (by simp [hq])
      · exact fun g => h.new x hx p (by simp) (hsub q hq x g)
    · obtain ⟨h1, _⟩ := mem_lacks.1 hx
      obtain ⟨hxB, hxp⟩ := hids x h1
      rcases List.mem_append.1 hq with hq | hq
      · exact fun g => ap1 q hq x hxB ⟨hxp, g⟩
      · obtain ⟨h8, _⟩ := mem_asks.1 hq
        rw [cell_ids, if_neg (by omega)] at h1
        simp at h1
  · obtain ⟨hc1, hc2⟩ := hc hcl
    rcases h.all hc1 x hx hxa with g | ⟨q, hq, g⟩
    · exact Or.inl ((hf x).2 (Or.inl g))
    · rcases List.mem_cons.1 hq with rfl | hq
      · by_cases h8 : (below B q).length ≤ 8
        · refine Or.inl ((hf x).2 (Or.inr (mem_lacks.2 ⟨?_, hxa⟩)))
          rw [cell_ids, if_pos h8]; exact mem_below.2 ⟨hx, g⟩
        · have hk := hk64 (by omega)
          have hd := Ident.digit_lt x q.size
          have hxq : has x (longer q (digit x q.size)) := (has_longer hk hd).2 ⟨g, rfl⟩
          obtain ⟨f1, f2⟩ := hc2 (by omega) _ hd
          refine Or.inr ⟨longer q (digit x q.size), List.mem_append.2 (Or.inr (mem_asks.2 ⟨by omega, _, hd, rfl, fun e => ?_, fun e => ?_⟩)), hxq⟩
          · have := (f1 (by rw [← kid_below hk hd]; exact e.symm) x).2 (mem_below.2 ⟨hx, hxq⟩)
            exact hxa (mem_below.1 this).1
          · have := (f2 e x).2 (mem_below.2 ⟨hx, hxq⟩)
            simp [below] at this
      · exact Or.inr ⟨q, List.mem_append.2 (Or.inl hq), g⟩
/-- at the end all that is lacking was told -/
theorem Hunt.done {A B found : List ByteArray} (h : Hunt A B [] found false) (x : ByteArray) : x ∈ found ↔ x ∈ B ∧ x ∉ A :=
  ⟨h.told x, fun ⟨h1, h2⟩ => by
    rcases h.all rfl x h1 h2 with g | ⟨_, g, _⟩
    · exact g
    · simp at g⟩
/-- what is told next was not told yet -/
theorem Hunt.fresh {A B r found : List ByteArray} {p x : ByteArray} {clash : Bool} (h : Hunt A B (p :: r) found clash) (hx : x ∈ lacks A (cellOf B p)) : x ∉ found := fun g => by
  obtain ⟨h1, _⟩ := mem_lacks.1 hx
  rw [cell_ids] at h1
  split at h1
  · exact h.new x g p (by simp) (mem_below.1 h1).2
  · simp at h1
theorem lacks_len (A B : List ByteArray) (p : ByteArray) : (lacks A (cellOf B p)).length ≤ 8 := by
  refine Nat.le_trans (List.length_filter_le _ _) ?_
  rw [cell_ids]
  split
  · assumption
  · exact Nat.zero_le _
theorem lacks_rise {A B : List ByteArray} (hB : IsSet B) (p : ByteArray) : Rises (lacks A (cellOf B p)) := by
  unfold lacks
  refine List.Pairwise.filter _ ?_
  rw [cell_ids]
  split
  · exact (below_set hB p).2
  · exact List.Pairwise.nil
theorem asks_len (A B : List ByteArray) (p : ByteArray) : (asks A (cellOf B p)).length ≤ 16 := by
  unfold asks
  rw [List.length_map]
  refine Nat.le_trans (List.length_filter_le _ _) ?_
  rw [List.length_range, cell_kds]
  split
  · exact Nat.zero_le _
  · rw [kids_length]; exact Nat.le_refl _
end Go.Proofs.YtdmpkgdlelagjaaGreatDoor.Tr
