/-
  Packs in plain words: the bytes of a pack, what Make, Read and Find answer, that Read of Make is what was packed, that Find tells each object and no other. Conditions: none.
-/
import Derived.Test.YtliojhhiadfmiaaDoorOctPlain
import Derived.Test.YtliojhhiadfmiaaDoorPaPlain
import Derived.Test.YtliojhhiadfmiaaDoorShaPlain
import Derived.Test.YtliojhhiadfmiaaDoorCrcPlain
namespace Go.Proofs.YtliojhhiadfmiaaDoor.Pk
open Go
open Oct (empty num4 rd4 byteAt num4_size rd4_num4 rd4_range rd4_extract byteAt_range append_toList extract_toList ext_toList size_toList)

structure Itm where
  id : ByteArray
  data : ByteArray
deriving DecidableEq
instance : Inhabited Itm := ⟨⟨empty, empty⟩⟩
@[irreducible] def dig (s : ByteArray) : ByteArray := ⟨(Sha.sum s.data.toList).toArray⟩
theorem dig_size (s : ByteArray) : (dig s).size = 32 := by
  unfold dig
  show (Sha.sum s.data.toList).toArray.size = 32
  simp [Sha.sum, Sha.V.bytes, Sha.bytes4]
@[irreducible] def chk (s : ByteArray) : Int := Sha.u (Crc.sum s.data.toList)
theorem chk_range (s : ByteArray) : 0 ≤ chk s ∧ chk s < 4294967296 := by
  unfold chk Sha.u
  have := (Crc.sum s.data.toList).toNat_lt
  constructor <;> omega
def lt (a b : ByteArray) : Bool := Op.bytesLess a.data.toList b.data.toList
theorem lt_irrefl (a : ByteArray) : lt a a = false := Pa.less_irrefl _
theorem lt_trans {a b c : ByteArray} (h : lt a b = true) (g : lt b c = true) : lt a c = true := Pa.less_trans _ _ _ h g
theorem lt_tri (a b : ByteArray) : lt a b = true ∨ a = b ∨ lt b a = true := by
  by_cases e : a = b
  · exact Or.inr (Or.inl e)
  · have := Pa.less_total _ _ (fun g => e (ext_toList g))
    unfold lt
    cases h : Op.bytesLess b.data.toList a.data.toList with
    | true => exact Or.inr (Or.inr rfl)
    | false => rw [h] at this; exact Or.inl this
theorem lt_asymm {a b : ByteArray} (h : lt a b = true) : lt b a = false := by
  cases g : lt b a with
  | false => rfl
  | true => have := lt_trans h g; rw [lt_irrefl] at this; cases this
theorem lt_byte {a b : ByteArray} (ha : a.size = 32) (hb : b.size = 32) (h : lt a b = true) : byteAt a 0 ≤ byteAt b 0 := by
  unfold lt at h
  unfold byteAt
  have ea := size_toList a
  have eb := size_toList b
  match ga : a.data.toList, gb : b.data.toList with
  | [], _ => rw [ga] at ea; simp at ea; omega
  | _, [] => rw [gb] at eb; simp at eb; omega
  | x :: xs, y :: ys =>
    rw [ga, gb] at h
    simp only [Op.bytesLess, Bool.or_eq_true, decide_eq_true_eq, Bool.and_eq_true, beq_iff_eq] at h
    simp only [List.getD_cons_zero]
    rcases h with h | h
    · have : x.toNat < y.toNat := h
      omega
    · have : x = y := h.1
      rw [this]; omega

/-! ### the bytes -/
def title : ByteArray := ⟨#[114, 101, 108, 105, 99, 48, 48, 49]⟩
theorem title_size : title.size = 8 := rfl
def low (n : Nat) (i : ByteArray) : Bool := decide (byteAt i 0 ≤ n)
def fanN (I : List ByteArray) (n : Nat) : Nat := I.countP (low n)
def fanB (I : List ByteArray) : Nat → ByteArray
  | 0 => empty
  | k + 1 => fanB I k ++ num4 (fanN I k)
def sumD : List Itm → Nat
  | [] => 0
  | x :: L => x.data.size + sumD L
def entB (x : Itm) (a : Nat) : ByteArray := x.id ++ num4 a ++ num4 x.data.size ++ num4 (chk x.data)
def idxB : Nat → List Itm → ByteArray
  | _, [] => empty
  | a, x :: L => entB x a ++ idxB (a + x.data.size) L
def dataB : List Itm → ByteArray
  | [] => empty
  | x :: L => x.data ++ dataB L
def ids (L : List Itm) : List ByteArray := L.map (·.id)
def head (L : List Itm) : ByteArray := title ++ num4 L.length ++ fanB (ids L) 256 ++ idxB 0 L
def body (L : List Itm) : ByteArray := head L ++ dataB L
def pack (L : List Itm) : ByteArray := body L ++ dig (body L)
theorem empty_append (s : ByteArray) : empty ++ s = s := by apply ext_toList; simp
theorem append_empty (s : ByteArray) : s ++ empty = s := by apply ext_toList; simp
theorem fanB_size (I : List ByteArray) : ∀ k, (fanB I k).size = 4 * k
  | 0 => rfl
  | k + 1 => by rw [fanB, ByteArray.size_append, num4_size, fanB_size I k]; omega
theorem fanN_le (I : List ByteArray) (n : Nat) : fanN I n ≤ I.length := List.countP_le_length
theorem fanN_mono (I : List ByteArray) {m n : Nat} (h : m ≤ n) : fanN I m ≤ fanN I n := by
  apply List.countP_mono_left
  intro x _ hx
  simp only [low, decide_eq_true_eq] at hx ⊢
  omega
theorem fanN_top (I : List ByteArray) : fanN I 255 = I.length := by
  unfold fanN
  rw [List.countP_eq_length]
  intro x _
  have := byteAt_range x 0
  simp only [low, decide_eq_true_eq]
  omega
theorem sumD_append : ∀ (L M : List Itm), sumD (L ++ M) = sumD L + sumD M
  | [], M => by simp [sumD]
  | x :: L, M => by simp [sumD, sumD_append L M]; omega
theorem idxB_append : ∀ (L M : List Itm) (a : Nat), idxB a (L ++ M) = idxB a L ++ idxB (a + sumD L) M
  | [], M, a => by simp [sumD, idxB, empty_append]
  | x :: L, M, a => by
    show entB x a ++ idxB (a + x.data.size) (L ++ M) = entB x a ++ idxB (a + x.data.size) L ++ idxB (a + (x.data.size + sumD L)) M
    rw [idxB_append L M, ByteArray.append_assoc, Nat.add_assoc]
theorem dataB_append : ∀ (L M : List Itm), dataB (L ++ M) = dataB L ++ dataB M
  | [], M => by simp [dataB, empty_append]
  | x :: L, M => by
    show x.data ++ dataB (L ++ M) = x.data ++ dataB L ++ dataB M
    rw [dataB_append L M, ByteArray.append_assoc]
theorem dataB_size : ∀ L : List Itm, (dataB L).size = sumD L
  | [] => rfl
  | x :: L => by rw [dataB, ByteArray.size_append, dataB_size L]; rfl
theorem entB_size (x : Itm) (a : Nat) (h : x.id.size = 32) : (entB x a).size = 44 := by
  unfold entB; simp only [ByteArray.size_append, num4_size, h]
theorem idxB_size : ∀ (L : List Itm) (a : Nat), (∀ x ∈ L, x.id.size = 32) → (idxB a L).size = 44 * L.length
  | [], _, _ => rfl
  | x :: L, a, h => by
    rw [idxB, ByteArray.size_append, entB_size x a (h x (by simp)), idxB_size L _ fun y hy => h y (List.mem_cons_of_mem _ hy), List.length_cons]; omega
theorem head_size (L : List Itm) (h : ∀ x ∈ L, x.id.size = 32) : (head L).size = 1036 + 44 * L.length := by
  unfold head
  simp only [ByteArray.size_append, num4_size, fanB_size, idxB_size L 0 h, title_size]
theorem body_size (L : List Itm) (h : ∀ x ∈ L, x.id.size = 32) : (body L).size = 1036 + 44 * L.length + sumD L := by
  unfold body
  rw [ByteArray.size_append, head_size L h, dataB_size]
theorem pack_size (L : List Itm) (h : ∀ x ∈ L, x.id.size = 32) : (pack L).size = 1068 + 44 * L.length + sumD L := by
  unfold pack
  rw [ByteArray.size_append, body_size L h, dig_size]; omega
theorem take_next {α : Type} {L : List α} {k : Nat} (h : k < L.length) : L.take (k + 1) = L.take k ++ [L[k]] := List.take_succ_eq_append_getElem h
theorem idxB_next {L : List Itm} {k : Nat} (h : k < L.length) : idxB 0 (L.take (k + 1)) = idxB 0 (L.take k) ++ entB L[k] (sumD (L.take k)) := by
  rw [take_next h, idxB_append]
  show _ ++ (entB L[k] (0 + _) ++ empty) = _
  rw [append_empty, Nat.zero_add]
theorem dataB_next {L : List Itm} {k : Nat} (h : k < L.length) : dataB (L.take (k + 1)) = dataB (L.take k) ++ L[k].data := by
  rw [take_next h, dataB_append]
  show _ ++ (L[k].data ++ empty) = _
  rw [append_empty]
theorem sumD_next {L : List Itm} {k : Nat} (h : k < L.length) : sumD (L.take (k + 1)) = sumD (L.take k) + L[k].data.size := by
  rw [take_next h, sumD_append]
  simp [sumD]
theorem sumD_take_le (L : List Itm) (k : Nat) : sumD (L.take k) ≤ sumD L := by
  have := sumD_append (L.take k) (L.drop k)
  rw [List.take_append_drop] at this
  omega

/-! ### the order -/
def ins (x : Itm) : List Itm → List Itm
  | [] => [x]
  | l :: t => if lt x.id l.id = true then x :: l :: t else l :: ins x t
abbrev Up (L : List Itm) : Prop := L.Pairwise fun a b => lt a.id b.id = true
theorem ins_perm (x : Itm) : ∀ L : List Itm, (ins x L).Perm (x :: L)
  | [] => List.Perm.refl _
  | l :: t => by
    unfold ins
    split
    · exact List.Perm.refl _
    · exact ((ins_perm x t).cons l).trans (List.Perm.swap x l t)
theorem ins_length (x : Itm) (L : List Itm) : (ins x L).length = L.length + 1 := (ins_perm x L).length_eq
theorem ins_up (x : Itm) : ∀ (L : List Itm), Up L → (∀ l ∈ L, l.id ≠ x.id) → Up (ins x L)
  | [], _, _ => by simp [ins]
  | a :: t, h, hx => by
    obtain ⟨h1, h2⟩ := List.pairwise_cons.1 h
    unfold ins
    split
    · rename_i hlt
      refine List.pairwise_cons.2 ⟨fun b hb => ?_, h⟩
      rcases List.mem_cons.1 hb with e | e
      · rw [e]; exact hlt
      · exact lt_trans hlt (h1 b e)
    · rename_i hlt
      have hax : lt a.id x.id = true := by
        rcases lt_tri a.id x.id with g | g | g
        · exact g
        · exact absurd g (hx a (by simp))
        · exact absurd g hlt
      refine List.pairwise_cons.2 ⟨fun b hb => ?_, ins_up x t h2 fun l hl => hx l (List.mem_cons_of_mem _ hl)⟩
      rcases List.mem_cons.1 ((ins_perm x t).mem_iff.1 hb) with e | e
      · rw [e]; exact hax
      · exact h1 b e
theorem ins_none (x : Itm) : ∀ (L : List Itm), (∀ l ∈ L, lt x.id l.id = false) → ins x L = L ++ [x]
  | [], _ => rfl
  | a :: t, h => by
    unfold ins
    rw [if_neg (by rw [h a (by simp)]; decide), ins_none x t fun l hl => h l (List.mem_cons_of_mem _ hl)]
    rfl
theorem ins_here (x l : Itm) (hl : lt x.id l.id = true) : ∀ (L : List Itm), (∀ l ∈ L, lt x.id l.id = false) → ins x (L ++ [l]) = L ++ [x] ++ [l]
  | [], _ => by simp [ins, hl]
  | a :: t, h => by
    show ins x (a :: (t ++ [l])) = _
    unfold ins
    rw [if_neg (by rw [h a (by simp)]; decide), ins_here x l hl t fun l hl => h l (List.mem_cons_of_mem _ hl)]
    rfl
theorem ins_past (x l : Itm) : ∀ (L : List Itm), (∃ a ∈ L, lt x.id a.id = true) → ins x (L ++ [l]) = ins x L ++ [l]
  | [], h => by obtain ⟨a, h, _⟩ := h; simp at h
  | b :: t, h => by
    show ins x (b :: (t ++ [l])) = _
    unfold ins
    by_cases hb : lt x.id b.id = true
    · rw [if_pos hb, if_pos hb]; rfl
    · rw [if_neg hb, if_neg hb]
      obtain ⟨a, ha, hxa⟩ := h
      rcases List.mem_cons.1 ha with e | e
      · subst e; exact absurd hxa hb
      · rw [ins_past x l t ⟨a, e, hxa⟩]; rfl
theorem up_unique : ∀ (D E : List Itm), Up D → Up E → (∀ l, l ∈ D ↔ l ∈ E) → D = E
  | [], [], _, _, _ => rfl
  | [], b :: E, _, _, h => by have := (h b).2 (by simp); simp at this
  | a :: D, [], _, _, h => by have := (h a).1 (by simp); simp at this
  | a :: D, b :: E, hD, hE, h => by
    obtain ⟨d1, d2⟩ := List.pairwise_cons.1 hD
    obtain ⟨e1, e2⟩ := List.pairwise_cons.1 hE
    have hab : a = b := by
      rcases List.mem_cons.1 ((h a).1 (by simp)) with g | g
      · exact g
      · rcases List.mem_cons.1 ((h b).2 (by simp)) with k | k
        · exact k.symm
        · have := lt_asymm (d1 b k); rw [e1 a g] at this; cases this
    subst hab
    have ht : ∀ l, l ∈ D ↔ l ∈ E := fun l => by
      constructor
      · intro hl
        rcases List.mem_cons.1 ((h l).1 (List.mem_cons_of_mem _ hl)) with g | g
        · subst g; have := d1 l hl; rw [lt_irrefl] at this; cases this
        · exact g
      · intro hl
        rcases List.mem_cons.1 ((h l).2 (List.mem_cons_of_mem _ hl)) with g | g
        · subst g; have := e1 l hl; rw [lt_irrefl] at this; cases this
        · exact g
    rw [up_unique D E d2 e2 ht]
def itm (s : ByteArray) : Itm := ⟨dig s, s⟩
def srt (l : List ByteArray) : List Itm := l.foldl (fun L s => ins (itm s) L) []
theorem srt_snoc (l : List ByteArray) (s : ByteArray) : srt (l ++ [s]) = ins (itm s) (srt l) := by simp [srt]
theorem srt_next {l : List ByteArray} {k : Nat} (h : k < l.length) : srt (l.take (k + 1)) = ins (itm l[k]) (srt (l.take k)) := by rw [take_next h, srt_snoc]
theorem fold_perm : ∀ (l : List ByteArray) (L : List Itm), (l.foldl (fun L s => ins (itm s) L) L).Perm (l.map itm ++ L)
  | [], L => List.Perm.refl _
  | s :: l, L => by
    refine (fold_perm l (ins (itm s) L)).trans ?_
    refine ((ins_perm (itm s) L).append_left (l.map itm)).trans ?_
    exact List.perm_middle
theorem srt_perm (l : List ByteArray) : (srt l).Perm (l.map itm) := by
  have := fold_perm l []
  rw [List.append_nil] at this
  exact this
theorem srt_mem {l : List ByteArray} {x : Itm} : x ∈ srt l ↔ ∃ s ∈ l, itm s = x := by
  rw [(srt_perm l).mem_iff, List.mem_map]
theorem srt_length (l : List ByteArray) : (srt l).length = l.length := by rw [(srt_perm l).length_eq, List.length_map]
abbrev One (l : List ByteArray) : Prop := (l.map dig).Nodup
theorem One.left {l m : List ByteArray} (h : One (l ++ m)) : One l := by
  unfold One at *
  rw [List.map_append, List.nodup_append] at h
  exact h.1
theorem One.take {l : List ByteArray} (h : One l) (k : Nat) : One (l.take k) := by
  have := List.take_append_drop k l
  rw [← this] at h
  exact h.left
theorem srt_up_aux : ∀ (n : Nat) (l : List ByteArray), l.length = n → One l → Up (srt l)
  | 0, l, hn, _ => by rw [List.length_eq_zero_iff.1 hn]; exact List.Pairwise.nil
  | n + 1, l, hn, h => by
    have hk : n < l.length := by omega
    have e : l = l.take n ++ [l[n]] := by rw [← take_next hk, List.take_of_length_le (by omega)]
    have h' : One (l.take n ++ [l[n]]) := by rw [← e]; exact h
    rw [e, srt_snoc]
    refine ins_up _ _ (srt_up_aux n (l.take n) (by rw [List.length_take]; omega) h'.left) fun x hx => ?_
    obtain ⟨s, hs, rfl⟩ := srt_mem.1 hx
    unfold One at h'
    rw [List.map_append, List.nodup_append] at h'
    exact h'.2.2 _ (List.mem_map.2 ⟨s, hs, rfl⟩) _ (by simp [itm])
theorem srt_up {l : List ByteArray} (h : One l) : Up (srt l) := srt_up_aux _ l rfl h
theorem srt_ids {l : List ByteArray} : ∀ x ∈ srt l, x.id = dig x.data := fun x hx => by
  obtain ⟨s, _, rfl⟩ := srt_mem.1 hx; rfl
theorem srt_32 {l : List ByteArray} : ∀ x ∈ srt l, x.id.size = 32 := fun x hx => by rw [srt_ids x hx, dig_size]
theorem srt_of_perm {l m : List ByteArray} (h : l.Perm m) (ho : One l) : srt l = srt m := by
  have ho' : One m := (h.map dig).nodup_iff.1 ho
  refine up_unique _ _ (srt_up ho) (srt_up ho') fun x => ?_
  rw [srt_mem, srt_mem]
  exact ⟨fun ⟨s, a, b⟩ => ⟨s, h.mem_iff.1 a, b⟩, fun ⟨s, a, b⟩ => ⟨s, h.mem_iff.2 a, b⟩⟩
/-- a rising list that holds what was given is the sorted one -/
theorem srt_is {l : List ByteArray} {L : List Itm} (h : L.Perm (l.map itm)) (hu : Up L) : One l ∧ L = srt l := by
  have ho : One l := by
    have h1 : (ids L).Nodup := by
      unfold ids
      rw [List.nodup_iff_pairwise_ne, List.pairwise_map]
      exact hu.imp fun {a b} hab e => by rw [e, lt_irrefl] at hab; cases hab
    have h2 : (ids L).Perm (l.map dig) := by
      have := h.map (·.id)
      rw [List.map_map] at this
      exact this
    exact h2.nodup_iff.1 h1
  exact ⟨ho, up_unique _ _ hu (srt_up ho) fun x => h.mem_iff.trans (srt_perm l).mem_iff.symm⟩
def sumB : List ByteArray → Nat
  | [] => 0
  | s :: l => s.size + sumB l
theorem sumB_append : ∀ (L M : List ByteArray), sumB (L ++ M) = sumB L + sumB M
  | [], M => by simp [sumB]
  | x :: L, M => by simp [sumB, sumB_append L M]; omega
theorem sumB_perm {l m : List ByteArray} (h : l.Perm m) : sumB l = sumB m := by
  induction h with
  | nil => rfl
  | cons x _ ih => simp [sumB, ih]
  | swap x y l => simp [sumB]; omega
  | trans _ _ a b => exact a.trans b
theorem sumD_perm {L M : List Itm} (h : L.Perm M) : sumD L = sumD M := by
  induction h with
  | nil => rfl
  | cons x _ ih => simp [sumD, ih]
  | swap x y l => simp [sumD]; omega
  | trans _ _ a b => exact a.trans b
theorem sumD_map : ∀ l : List ByteArray, sumD (l.map itm) = sumB l
  | [] => rfl
  | s :: l => by simp [sumD, sumB, itm, sumD_map l]
theorem srt_sum (l : List ByteArray) : sumD (srt l) = sumB l := (sumD_perm (srt_perm l)).trans (sumD_map l)
theorem sumB_le {l : List ByteArray} {s : ByteArray} (h : s ∈ l) : s.size ≤ sumB l := by
  induction l with
  | nil => simp at h
  | cons x l ih =>
    rcases List.mem_cons.1 h with e | e
    · subst e; simp [sumB]
    · have := ih e; simp [sumB]; omega
/-- what Make answers -/
def mk (l : List ByteArray) : ByteArray × Int :=
  if l.length = 0 then (empty, 1) else if ∃ s ∈ l, 131072 < s.size then (empty, 5) else if One l then (pack (srt l), 0) else (empty, 31)
theorem mk_perm {l m : List ByteArray} (h : l.Perm m) : mk l = mk m := by
  unfold mk
  have e1 : (∃ s ∈ l, 131072 < s.size) ↔ (∃ s ∈ m, 131072 < s.size) := ⟨fun ⟨s, a, b⟩ => ⟨s, h.mem_iff.1 a, b⟩, fun ⟨s, a, b⟩ => ⟨s, h.mem_iff.2 a, b⟩⟩
  have e2 : One l ↔ One m := (h.map dig).nodup_iff
  rw [h.length_eq]
  by_cases c1 : m.length = 0
  · rw [if_pos c1, if_pos c1]
  · rw [if_neg c1, if_neg c1]
    by_cases c2 : ∃ s ∈ m, 131072 < s.size
    · rw [if_pos c2, if_pos (e1.2 c2)]
    · rw [if_neg c2, if_neg (fun g => c2 (e1.1 g))]
      by_cases c3 : One m
      · rw [if_pos c3, if_pos (e2.2 c3), srt_of_perm h (e2.2 c3)]
      · rw [if_neg c3, if_neg (fun g => c3 (e2.1 g))]
theorem mk_ok {l : List ByteArray} (h : (mk l).2 = 0) : l.length ≠ 0 ∧ (∀ s ∈ l, s.size ≤ 131072) ∧ One l ∧ mk l = (pack (srt l), 0) := by
  unfold mk at h ⊢
  by_cases c1 : l.length = 0
  · rw [if_pos c1] at h; cases h
  · rw [if_neg c1] at h ⊢
    by_cases c2 : ∃ s ∈ l, 131072 < s.size
    · rw [if_pos c2] at h; cases h
    · rw [if_neg c2] at h ⊢
      by_cases c3 : One l
      · rw [if_pos c3]
        exact ⟨c1, fun s hs => Nat.le_of_not_lt fun g => c2 ⟨s, hs, g⟩, c3, rfl⟩
      · rw [if_neg c3] at h; cases h
theorem mk_bad {l : List ByteArray} (h : (mk l).2 ≠ 0) : (mk l).1 = empty := by
  unfold mk at h ⊢
  by_cases c1 : l.length = 0
  · rw [if_pos c1]
  · rw [if_neg c1] at h ⊢
    by_cases c2 : ∃ s ∈ l, 131072 < s.size
    · rw [if_pos c2]
    · rw [if_neg c2] at h ⊢
      by_cases c3 : One l
      · rw [if_pos c3] at h; exact absurd rfl h
      · rw [if_neg c3]
theorem mk_one (l : List ByteArray) (h1 : l.length ≠ 0) (h2 : ∀ s ∈ l, s.size ≤ 131072) (h3 : One l) : mk l = (pack (srt l), 0) := by
  unfold mk
  rw [if_neg h1, if_neg (fun ⟨s, a, b⟩ => by have := h2 s a; omega), if_pos h3]
end Go.Proofs.YtliojhhiadfmiaaDoor.Pk
