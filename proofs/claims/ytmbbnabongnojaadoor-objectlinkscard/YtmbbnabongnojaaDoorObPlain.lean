/-
  Layer 6 as plain functions: which objects can be, their bytes, what a reader makes of bytes, what an object names; of no program. Conditions: none.
-/
import Derived.Test.YtmbbnabongnojaaDoorOctPlain
import Derived.Test.YtmbbnabongnojaaDoorPaPlain
namespace Go.Proofs.YtmbbnabongnojaaDoor.Ob
open Go Oct Pa

/-- an entry of a tree -/
structure Ent where
  name : ByteArray
  kind : Int
  id : ByteArray
instance : Inhabited Ent := ⟨⟨empty, 0, empty⟩⟩
/-- an object -/
structure Obj where
  kind : Int
  data : ByteArray
  ents : List Ent
  tree : ByteArray
  pars : List ByteArray
  height : Int
  note : ByteArray
def zero : Obj := ⟨0, empty, [], empty, [], 0, empty⟩
def bare (x : Obj) : Obj :=
  if x.kind = 1 then ⟨1, x.data, [], empty, [], 0, empty⟩ else if x.kind = 2 then ⟨2, empty, x.ents, empty, [], 0, empty⟩ else ⟨x.kind, empty, [], x.tree, x.pars, x.height, x.note⟩

/-- a text below another one, byte by byte -/
def up (a b : ByteArray) : Bool := Op.bytesLess a.data.toList b.data.toList
def goodEnt (e : Ent) : Bool := (decide (e.kind = 1) || decide (e.kind = 2)) && isName e.name.data.toList && decide (e.id.size = 32)
def goodEnts : ByteArray → List Ent → Bool
  | _, [] => true
  | a, e :: l => up a e.name && goodEnt e && goodEnts e.name l
def goodPars : ByteArray → List ByteArray → Bool
  | _, [] => true
  | a, p :: l => up a p && decide (p.size = 32) && goodPars p l
def goodCommit (x : Obj) : Bool :=
  decide (x.tree.size = 32) && (decide (x.pars.length ≤ 8) && goodPars empty x.pars) && (decide (0 ≤ x.height) && decide (x.height ≤ 1073741824)) && (decide (x.pars.length = 0) == decide (x.height = 0)) && decide (x.note.size ≤ 1000)
/-- whether it is an object -/
def good (x : Obj) : Bool :=
  if x.kind = 1 then decide (x.data.size ≤ 65536) else if x.kind = 2 then decide (x.ents.length ≤ 256) && goodEnts empty x.ents else if x.kind = 3 then goodCommit x else false

/-! ### bytes -/
def b1 (k : Int) : ByteArray := ⟨#[k.toNat.toUInt8]⟩
theorem b1_size (k : Int) : (b1 k).size = 1 := rfl
def txt (s : ByteArray) : ByteArray := num4 s.size ++ s
def encEnt (e : Ent) : ByteArray := b1 e.kind ++ txt e.name ++ e.id
def encEnts : List Ent → ByteArray
  | [] => empty
  | e :: l => encEnt e ++ encEnts l
def encPars : List ByteArray → ByteArray
  | [] => empty
  | p :: l => p ++ encPars l
def encRest (x : Obj) : ByteArray :=
  if x.kind = 1 then x.data else if x.kind = 2 then num4 x.ents.length ++ encEnts x.ents else x.tree ++ num4 x.pars.length ++ encPars x.pars ++ num4 x.height ++ txt x.note
/-- its bytes -/
def enc (x : Obj) : ByteArray := b1 x.kind ++ encRest x

theorem empty_append (s : ByteArray) : empty ++ s = s := by apply ext_toList; simp [append_toList]
theorem append_empty (s : ByteArray) : s ++ empty = s := by apply ext_toList; simp [append_toList]
theorem encEnts_append (l r : List Ent) : encEnts (l ++ r) = encEnts l ++ encEnts r := by
  induction l with
  | nil => rw [List.nil_append, encEnts, empty_append]
  | cons e l ih => rw [List.cons_append, encEnts, encEnts, ih, ByteArray.append_assoc]
theorem encPars_append (l r : List ByteArray) : encPars (l ++ r) = encPars l ++ encPars r := by
  induction l with
  | nil => rw [List.nil_append, encPars, empty_append]
  | cons e l ih => rw [List.cons_append, encPars, encPars, ih, ByteArray.append_assoc]

/-! ### what is read -/
def rdKind (q : St) : Int × St := (if (take q 1).1.size = 0 then 0 else byteAt (take q 1).1 0, (take q 1).2)
def rdUp (q : St) (most : Int) : Int × St := if most < (num q).1 then (0, ⟨(num q).2.rest, true⟩) else num q
def rdEnt (q : St) : Ent × St :=
  let k := rdKind q
  let n := text k.2 255
  let i := take n.2 32
  (⟨n.1, k.1, i.1⟩, i.2)
def rdEnts : Nat → St → List Ent × St
  | 0, q => ([], q)
  | n + 1, q => ((rdEnts n q).1 ++ [(rdEnt (rdEnts n q).2).1], (rdEnt (rdEnts n q).2).2)
def rdPars : Nat → St → List ByteArray × St
  | 0, q => ([], q)
  | n + 1, q => ((rdPars n q).1 ++ [(take (rdPars n q).2 32).1], (take (rdPars n q).2 32).2)
def rdTree (q : St) : Obj × St := (⟨2, empty, (rdEnts (rdUp q 256).1.toNat (rdUp q 256).2).1, empty, [], 0, empty⟩, (rdEnts (rdUp q 256).1.toNat (rdUp q 256).2).2)
def rdCommit (q : St) : Obj × St :=
  let t := take q 32
  let n := rdUp t.2 8
  let p := rdPars n.1.toNat n.2
  let h := rdUp p.2 1073741824
  let m := text h.2 1000
  (⟨3, empty, [], t.1, p.1, h.1, m.1⟩, m.2)
def rdBlob (q : St) : Obj × St := (⟨1, (take q (left q)).1, [], empty, [], 0, empty⟩, (take q (left q)).2)
/-- what is read from bytes -/
def dec (s : ByteArray) : Obj × St :=
  let k := rdKind ⟨s, false⟩
  if k.1 = 1 then rdBlob k.2 else if k.1 = 2 then rdTree k.2 else if k.1 = 3 then rdCommit k.2 else (⟨k.1, empty, [], empty, [], 0, empty⟩, k.2)
/-- whether bytes are an object's -/
def fits (s : ByteArray) : Bool := whole (dec s).2 && good (dec s).1

/-! ### what went wrong stays so -/
theorem take_stays (q : St) (n : Int) (h : q.bad = true) : (take q n).2.bad = true := by rw [take_bad q n h]; exact h
theorem num_stays (q : St) (h : q.bad = true) : (num q).2.bad = true := by rw [num_bad q h]; exact h
theorem text_stays (q : St) (n : Int) (h : q.bad = true) : (text q n).2.bad = true := by
  unfold text; split
  · rfl
  · exact take_stays _ _ (num_stays q h)
theorem rdKind_stays (q : St) (h : q.bad = true) : (rdKind q).2.bad = true := take_stays q 1 h
theorem rdUp_stays (q : St) (n : Int) (h : q.bad = true) : (rdUp q n).2.bad = true := by
  unfold rdUp; split
  · rfl
  · exact num_stays q h
theorem rdEnt_stays (q : St) (h : q.bad = true) : (rdEnt q).2.bad = true := take_stays _ _ (text_stays _ _ (rdKind_stays q h))
theorem rdEnts_stays (n : Nat) (q : St) (h : q.bad = true) : (rdEnts n q).2.bad = true := by
  induction n with
  | zero => exact h
  | succ n ih => exact rdEnt_stays _ ih
theorem rdPars_stays (n : Nat) (q : St) (h : q.bad = true) : (rdPars n q).2.bad = true := by
  induction n with
  | zero => exact h
  | succ n ih => exact take_stays _ _ ih
theorem rdEnts_add (n m : Nat) (q : St) (h : (rdEnts n q).2.bad = true) : (rdEnts (n + m) q).2.bad = true := by
  induction m with
  | zero => exact h
  | succ m ih => exact rdEnt_stays _ ih
theorem rdPars_add (n m : Nat) (q : St) (h : (rdPars n q).2.bad = true) : (rdPars (n + m) q).2.bad = true := by
  induction m with
  | zero => exact h
  | succ m ih => exact take_stays _ _ ih

/-! ### written, then read -/
theorem take_written (s t : ByteArray) (n : Int) (h : (s.size : Int) = n) : take ⟨s ++ t, false⟩ n = (s, ⟨t, false⟩) := by
  subst h
  have hz : (s ++ t).size = s.size + t.size := ByteArray.size_append
  rw [take_ok _ _ rfl (by omega) (by show (s.size : Int) ≤ ((s ++ t).size : Int); omega)]
  simp only [Int.toNat_natCast]
  rw [extract_append_left, extract_append_right]
theorem byteAt_b1 (k : Int) (h0 : 0 ≤ k) (h1 : k < 256) : byteAt (b1 k) 0 = k := by
  simp [byteAt, b1]; omega
theorem rdKind_written (k : Int) (h0 : 0 ≤ k) (h1 : k < 256) (t : ByteArray) : rdKind ⟨b1 k ++ t, false⟩ = (k, ⟨t, false⟩) := by
  unfold rdKind
  rw [take_written (b1 k) t 1 rfl]
  dsimp only
  rw [if_neg (by rw [b1_size]; decide), byteAt_b1 k h0 h1]
theorem rdUp_written (n most : Int) (h0 : 0 ≤ n) (h1 : n ≤ most) (h2 : n < 4294967296) (t : ByteArray) : rdUp ⟨num4 n ++ t, false⟩ most = (n, ⟨t, false⟩) := by
  unfold rdUp
  rw [num_written n h0 h2]
  have : ¬ most < n := by omega
  simp only [this, if_false]
theorem name_size {s : ByteArray} (h : isName s.data.toList = true) : s.size ≤ 255 := by
  have := name_len h
  rw [size_toList] at this; exact this
theorem goodEnt_iff {e : Ent} : goodEnt e = true ↔ (e.kind = 1 ∨ e.kind = 2) ∧ isName e.name.data.toList = true ∧ e.id.size = 32 := by
  unfold goodEnt; simp [and_assoc]
theorem rdEnt_written (e : Ent) (h : goodEnt e = true) (t : ByteArray) : rdEnt ⟨encEnt e ++ t, false⟩ = (e, ⟨t, false⟩) := by
  obtain ⟨hk, hn, hi⟩ := goodEnt_iff.1 h
  have hz := name_size hn
  unfold rdEnt encEnt txt
  rw [ByteArray.append_assoc, ByteArray.append_assoc, rdKind_written e.kind (by omega) (by omega)]
  dsimp only
  rw [text_written e.name _ 255 (by omega) (by omega)]
  dsimp only
  rw [take_written e.id t 32 (by omega)]
theorem goodEnts_mem : ∀ {a : ByteArray} {l : List Ent}, goodEnts a l = true → ∀ e ∈ l, goodEnt e = true
  | a, [], _, e, he => by simp at he
  | a, x :: l, h, e, he => by
    simp only [goodEnts, Bool.and_eq_true] at h
    rcases List.mem_cons.1 he with rfl | he
    · exact h.1.2
    · exact goodEnts_mem h.2 e he
theorem goodPars_mem : ∀ {a : ByteArray} {l : List ByteArray}, goodPars a l = true → ∀ e ∈ l, e.size = 32
  | a, [], _, e, he => by simp at he
  | a, x :: l, h, e, he => by
    simp only [goodPars, Bool.and_eq_true, decide_eq_true_eq] at h
    rcases List.mem_cons.1 he with rfl | he
    · exact h.1.2
    · exact goodPars_mem h.2 e he
/-- what is laid down behind what was read -/
theorem rdEnts_front (n : Nat) (q : St) : rdEnts (n + 1) q = ((rdEnt q).1 :: (rdEnts n (rdEnt q).2).1, (rdEnts n (rdEnt q).2).2) := by
  induction n with
  | zero => rfl
  | succ n ih => rw [rdEnts, ih]; rfl
theorem rdPars_front (n : Nat) (q : St) : rdPars (n + 1) q = ((take q 32).1 :: (rdPars n (take q 32).2).1, (rdPars n (take q 32).2).2) := by
  induction n with
  | zero => rfl
  | succ n ih => rw [rdPars, ih]; rfl
theorem rdEnts_written : ∀ (l : List Ent) (t : ByteArray), (∀ e ∈ l, goodEnt e = true) → rdEnts l.length ⟨encEnts l ++ t, false⟩ = (l, ⟨t, false⟩)
  | [], t, _ => by rw [encEnts, empty_append]; rfl
  | e :: l, t, h => by
    rw [List.length_cons, rdEnts_front, encEnts, ByteArray.append_assoc, rdEnt_written e (h e (by simp)), rdEnts_written l t fun e he => h e (List.mem_cons_of_mem _ he)]
theorem rdPars_written : ∀ (l : List ByteArray) (t : ByteArray), (∀ e ∈ l, e.size = 32) → rdPars l.length ⟨encPars l ++ t, false⟩ = (l, ⟨t, false⟩)
  | [], t, _ => by rw [encPars, empty_append]; rfl
  | e :: l, t, h => by
    rw [List.length_cons, rdPars_front, encPars, ByteArray.append_assoc, take_written e _ 32 (by have := h e (by simp); omega), rdPars_written l t fun e he => h e (List.mem_cons_of_mem _ he)]
theorem goodCommit_iff {x : Obj} : goodCommit x = true ↔ x.tree.size = 32 ∧ x.pars.length ≤ 8 ∧ goodPars empty x.pars = true ∧ 0 ≤ x.height ∧ x.height ≤ 1073741824 ∧ (x.pars.length = 0 ↔ x.height = 0) ∧ x.note.size ≤ 1000 := by
  unfold goodCommit
  simp only [Bool.and_eq_true, decide_eq_true_eq, beq_iff_eq, decide_eq_decide, and_assoc]
theorem good_kind {x : Obj} (h : good x = true) : x.kind = 1 ∨ x.kind = 2 ∨ x.kind = 3 := by
  unfold good at h
  split at h
  · left; assumption
  · split at h
    · right; left; assumption
    · split at h
      · right; right; assumption
      · cases h
/-- an object's bytes, with others behind them, are read as the object -/
theorem dec_more (x : Obj) (h : good x = true) (hk : x.kind ≠ 1) (t : ByteArray) : dec (enc x ++ t) = (bare x, ⟨t, false⟩) := by
  have hk3 := good_kind h
  unfold dec enc
  rw [ByteArray.append_assoc, rdKind_written x.kind (by omega) (by omega)]
  dsimp only
  rw [if_neg hk]
  by_cases h2 : x.kind = 2
  · rw [if_pos h2]
    simp only [good, h2, if_neg (by decide : ¬ (2 : Int) = 1), if_pos, Bool.and_eq_true, decide_eq_true_eq] at h
    have hn : rdUp ⟨num4 (x.ents.length : Int) ++ (encEnts x.ents ++ t), false⟩ 256 = ((x.ents.length : Int), ⟨encEnts x.ents ++ t, false⟩) := rdUp_written _ _ (by omega) (by omega) (by omega) _
    unfold encRest bare rdTree
    rw [if_neg hk, if_pos h2, if_neg hk, if_pos h2, ByteArray.append_assoc, hn]
    simp only [Int.toNat_natCast]
    rw [rdEnts_written x.ents t (goodEnts_mem h.2)]
  · have h3 : x.kind = 3 := by omega
    rw [if_neg h2, if_pos h3]
    simp only [good, h3, if_neg (by decide : ¬ (3 : Int) = 1), if_neg (by decide : ¬ (3 : Int) = 2), if_pos] at h
    obtain ⟨g1, g2, g3, g4, g5, g6, g7⟩ := goodCommit_iff.1 h
    unfold encRest bare rdCommit txt
    rw [if_neg hk, if_neg h2, if_neg hk, if_neg h2]
    simp only [ByteArray.append_assoc]
    rw [take_written x.tree _ 32 (by omega)]
    dsimp only
    rw [rdUp_written (x.pars.length : Int) 8 (by omega) (by omega) (by omega)]
    simp only [Int.toNat_natCast]
    rw [rdPars_written x.pars _ (goodPars_mem g3)]
    dsimp only
    rw [rdUp_written x.height 1073741824 (by omega) (by omega) (by omega)]
    dsimp only
    rw [← ByteArray.append_assoc, text_written x.note t 1000 (by omega) (by omega), h3]
theorem dec_enc (x : Obj) (h : good x = true) : dec (enc x) = (bare x, ⟨empty, false⟩) := by
  by_cases hk : x.kind = 1
  · unfold dec enc
    rw [rdKind_written x.kind (by omega) (by omega)]
    dsimp only
    rw [if_pos hk]
    unfold encRest bare rdBlob left
    rw [if_pos hk, if_pos hk]
    simp only [Bool.false_eq_true, if_false]
    have := take_written x.data empty x.data.size rfl
    rw [append_empty] at this
    rw [this]
  · have := dec_more x h hk empty
    rw [append_empty] at this
    exact this

/-! ### read, then written -/
theorem cut_parts (s : ByteArray) (n : Nat) (h : n ≤ s.size) : s = s.extract 0 n ++ s.extract n s.size := by
  apply ext_toList
  rw [append_toList, extract_toList, extract_toList, List.drop_zero, Nat.sub_zero]
  rw [List.take_of_length_le (l := List.drop n s.data.toList) (by rw [List.length_drop, size_toList]; omega), List.take_append_drop]
theorem take_read {q : St} {n : Int} (h : (take q n).2.bad = false) : q.bad = false ∧ q.rest = (take q n).1 ++ (take q n).2.rest ∧ ((take q n).1.size : Int) = n := by
  cases hb : q.bad with
  | true => rw [take_stays q n hb] at h; cases h
  | false =>
    by_cases hn : n < 0 ∨ (q.rest.size : Int) < n
    · rw [take_over q n hb hn] at h; cases h
    · rw [take_ok q n hb (by omega) (by omega)]
      refine ⟨rfl, cut_parts _ _ (by omega), ?_⟩
      show ((q.rest.extract 0 n.toNat).size : Int) = n
      rw [extract_size _ _ _ (by omega)]; omega
theorem rd4_list (s : ByteArray) (h : 4 ≤ s.size) : s.extract 0 4 = num4 (rd4 s) := by
  have hl := size_toList s
  apply ext_toList
  rw [extract_toList, List.drop_zero]
  unfold rd4 byteAt num4 strOfNums
  match hs : s.data.toList, hl with
  | a :: b :: c :: d :: l, _ =>
    have ha := a.toNat_lt
    have hb := b.toNat_lt
    have hc := c.toNat_lt
    have hd := d.toNat_lt
    have e0 : ((a.toNat : Int) + b.toNat * 256 + c.toNat * 65536 + d.toNat * 16777216) % 256 = a.toNat := by omega
    have e1 : ((a.toNat : Int) + b.toNat * 256 + c.toNat * 65536 + d.toNat * 16777216) / 256 % 256 = b.toNat := by omega
    have e2 : ((a.toNat : Int) + b.toNat * 256 + c.toNat * 65536 + d.toNat * 16777216) / 65536 % 256 = c.toNat := by omega
    have e3 : ((a.toNat : Int) + b.toNat * 256 + c.toNat * 65536 + d.toNat * 16777216) / 16777216 = d.toNat := by omega
    simp [e0, e1, e2, e3]
  | [], hl => simp at hl; omega
  | [_], hl => simp at hl; omega
  | [_, _], hl => simp at hl; omega
  | [_, _, _], hl => simp at hl; omega
theorem num_read {q : St} (h : (num q).2.bad = false) : q.bad = false ∧ q.rest = num4 (num q).1 ++ (num q).2.rest ∧ 0 ≤ (num q).1 ∧ (num q).1 < 4294967296 := by
  have hr := num_range q
  cases hb : q.bad with
  | true => rw [num_stays q hb] at h; cases h
  | false =>
    rcases Nat.lt_or_ge q.rest.size 4 with g | g
    · rw [num_over q hb g] at h; cases h
    · refine ⟨rfl, ?_, hr⟩
      rw [num_ok q hb g]
      show q.rest = num4 (rd4 q.rest) ++ q.rest.extract 4 q.rest.size
      rw [← rd4_list _ g]; exact cut_parts _ _ g
theorem text_read {q : St} {n : Int} (h : (text q n).2.bad = false) : q.bad = false ∧ q.rest = txt (text q n).1 ++ (text q n).2.rest ∧ ((text q n).1.size : Int) ≤ n := by
  by_cases hn : n < (num q).1
  · have e : text q n = (empty, ⟨(num q).2.rest, true⟩) := by simp [text, hn]
    rw [e] at h; cases h
  · have e : text q n = take (num q).2 (num q).1 := by simp [text, hn]
    rw [e] at h
    obtain ⟨h1, h2, h3⟩ := take_read h
    obtain ⟨g1, g2, g3, g4⟩ := num_read h1
    refine ⟨g1, ?_, by rw [e]; omega⟩
    rw [e, txt, h3, ByteArray.append_assoc, ← h2, ← g2]
theorem rdUp_read {q : St} {n : Int} (h : (rdUp q n).2.bad = false) : q.bad = false ∧ q.rest = num4 (rdUp q n).1 ++ (rdUp q n).2.rest ∧ 0 ≤ (rdUp q n).1 ∧ (rdUp q n).1 ≤ n := by
  by_cases hn : n < (num q).1
  · have e : rdUp q n = (0, ⟨(num q).2.rest, true⟩) := by simp [rdUp, hn]
    rw [e] at h; cases h
  · have e : rdUp q n = num q := by simp [rdUp, hn]
    rw [e] at h ⊢
    obtain ⟨g1, g2, g3, g4⟩ := num_read h
    exact ⟨g1, g2, g3, by omega⟩
theorem one_byte (s : ByteArray) (h : s.size = 1) : s = b1 (byteAt s 0) := by
  have hl := size_toList s
  apply ext_toList
  unfold b1 byteAt
  match hs : s.data.toList, hl with
  | [a], _ => simp
  | [], hl => simp at hl; omega
  | _ :: _ :: _, hl => simp at hl; omega
theorem rdKind_read {q : St} (h : (rdKind q).2.bad = false) : q.bad = false ∧ q.rest = b1 (rdKind q).1 ++ (rdKind q).2.rest := by
  obtain ⟨h1, h2, h3⟩ := take_read (q := q) (n := 1) h
  refine ⟨h1, ?_⟩
  show q.rest = b1 (if (take q 1).1.size = 0 then 0 else byteAt (take q 1).1 0) ++ (take q 1).2.rest
  rw [if_neg (by omega), ← one_byte _ (by omega)]
  exact h2
theorem rdEnt_read {q : St} (h : (rdEnt q).2.bad = false) : q.bad = false ∧ q.rest = encEnt (rdEnt q).1 ++ (rdEnt q).2.rest := by
  obtain ⟨h1, h2, _⟩ := take_read (q := (text (rdKind q).2 255).2) (n := 32) h
  obtain ⟨g1, g2, _⟩ := text_read h1
  obtain ⟨k1, k2⟩ := rdKind_read g1
  refine ⟨k1, ?_⟩
  show q.rest = b1 (rdKind q).1 ++ txt (text (rdKind q).2 255).1 ++ (take (text (rdKind q).2 255).2 32).1 ++ (take (text (rdKind q).2 255).2 32).2.rest
  rw [ByteArray.append_assoc, ← h2, ByteArray.append_assoc, ← g2, ← k2]
theorem rdEnts_read {n : Nat} : ∀ {q : St}, (rdEnts n q).2.bad = false → q.bad = false ∧ q.rest = encEnts (rdEnts n q).1 ++ (rdEnts n q).2.rest ∧ (rdEnts n q).1.length = n := by
  induction n with
  | zero => intro q h; exact ⟨h, by rw [rdEnts, encEnts, empty_append], rfl⟩
  | succ n ih =>
    intro q h
    rw [rdEnts_front] at h ⊢
    obtain ⟨h1, h2, h3⟩ := ih (q := (rdEnt q).2) h
    obtain ⟨g1, g2⟩ := rdEnt_read h1
    refine ⟨g1, ?_, by simp [h3]⟩
    show q.rest = encEnt (rdEnt q).1 ++ encEnts (rdEnts n (rdEnt q).2).1 ++ (rdEnts n (rdEnt q).2).2.rest
    rw [ByteArray.append_assoc, ← h2, ← g2]
theorem rdPars_read {n : Nat} : ∀ {q : St}, (rdPars n q).2.bad = false → q.bad = false ∧ q.rest = encPars (rdPars n q).1 ++ (rdPars n q).2.rest ∧ (rdPars n q).1.length = n := by
  induction n with
  | zero => intro q h; exact ⟨h, by rw [rdPars, encPars, empty_append], rfl⟩
  | succ n ih =>
    intro q h
    rw [rdPars_front] at h ⊢
    obtain ⟨h1, h2, h3⟩ := ih (q := (take q 32).2) h
    obtain ⟨g1, g2, _⟩ := take_read h1
    refine ⟨g1, ?_, by simp [h3]⟩
    show q.rest = (take q 32).1 ++ encPars (rdPars n (take q 32).2).1 ++ (rdPars n (take q 32).2).2.rest
    rw [ByteArray.append_assoc, ← h2, ← g2]
theorem whole_iff {q : St} : whole q = true ↔ q.bad = false ∧ q.rest = empty := by
  unfold whole
  simp only [Bool.and_eq_true, Bool.not_eq_true', beq_iff_eq]
  constructor
  · rintro ⟨h, g⟩
    refine ⟨h, ext_toList ?_⟩
    have := size_toList q.rest
    exact List.length_eq_zero_iff.1 (by omega)
  · rintro ⟨h, g⟩
    refine ⟨h, by rw [g]; rfl⟩
/-- bytes that are read as an object are its bytes, and it has no other fields -/
theorem enc_dec (s : ByteArray) (h : fits s = true) : enc (dec s).1 = s ∧ bare (dec s).1 = (dec s).1 := by
  simp only [fits, Bool.and_eq_true] at h
  obtain ⟨hw, hg⟩ := h
  obtain ⟨w1, w2⟩ := whole_iff.1 hw
  have hk := good_kind hg
  unfold dec at hk hg w1 w2 ⊢
  dsimp only at hk hg w1 w2 ⊢
  by_cases h1 : (rdKind ⟨s, false⟩).1 = 1
  · rw [if_pos h1] at w1 w2 ⊢
    obtain ⟨a1, a2, _⟩ := take_read (q := (rdKind ⟨s, false⟩).2) (n := left (rdKind ⟨s, false⟩).2) w1
    obtain ⟨_, b2⟩ := rdKind_read a1
    have e : (take (rdKind ⟨s, false⟩).2 (left (rdKind ⟨s, false⟩).2)).2.rest = empty := w2
    rw [e, append_empty] at a2
    refine ⟨?_, rfl⟩
    show b1 1 ++ (take (rdKind ⟨s, false⟩).2 (left (rdKind ⟨s, false⟩).2)).1 = s
    rw [← a2, ← h1, ← b2]
  · rw [if_neg h1] at hk hg w1 w2 ⊢
    by_cases h2 : (rdKind ⟨s, false⟩).1 = 2
    · rw [if_pos h2] at w1 w2 ⊢
      obtain ⟨a1, a2, a3⟩ := rdEnts_read (q := (rdUp (rdKind ⟨s, false⟩).2 256).2) (n := (rdUp (rdKind ⟨s, false⟩).2 256).1.toNat) w1
      obtain ⟨b1', b2, b3, b4⟩ := rdUp_read a1
      obtain ⟨_, c2⟩ := rdKind_read b1'
      have e : (rdEnts (rdUp (rdKind ⟨s, false⟩).2 256).1.toNat (rdUp (rdKind ⟨s, false⟩).2 256).2).2.rest = empty := w2
      rw [e, append_empty] at a2
      refine ⟨?_, rfl⟩
      show b1 2 ++ (num4 ((rdEnts (rdUp (rdKind ⟨s, false⟩).2 256).1.toNat (rdUp (rdKind ⟨s, false⟩).2 256).2).1.length : Int) ++ encEnts (rdEnts (rdUp (rdKind ⟨s, false⟩).2 256).1.toNat (rdUp (rdKind ⟨s, false⟩).2 256).2).1) = s
      rw [a3, ← a2, Int.toNat_of_nonneg b3, ← b2, ← h2, ← c2]
    · rw [if_neg h2] at hk hg w1 w2 ⊢
      by_cases h3 : (rdKind ⟨s, false⟩).1 = 3
      · rw [if_pos h3] at w1 w2 ⊢
        generalize hq : (rdKind ⟨s, false⟩).2 = q at *
        unfold rdCommit at w1 w2 ⊢
        dsimp only at w1 w2 ⊢
        obtain ⟨m1, m2, _⟩ := text_read w1
        obtain ⟨h1', h2', h3', _⟩ := rdUp_read m1
        obtain ⟨p1, p2, p3⟩ := rdPars_read h1'
        obtain ⟨n1, n2, n3, _⟩ := rdUp_read p1
        obtain ⟨t1, t2, _⟩ := take_read n1
        subst hq
        obtain ⟨_, c2⟩ := rdKind_read t1
        rw [w2, append_empty] at m2
        refine ⟨?_, rfl⟩
        unfold enc encRest
        dsimp only
        rw [if_neg (by decide), if_neg (by decide)]
        rw [p3, Int.toNat_of_nonneg n3]
        simp only [ByteArray.append_assoc]
        rw [← m2, ← h2', ← p2, ← n2, ← t2, ← h3, ← c2]
      · rw [if_neg h3] at hk
        dsimp only at hk
        omega
theorem good_bare (x : Obj) : good (bare x) = good x := by
  unfold bare good
  by_cases h1 : x.kind = 1
  · rw [if_pos h1]; simp [h1]
  · rw [if_neg h1]
    by_cases h2 : x.kind = 2
    · rw [if_pos h2]; simp [h2]
    · rw [if_neg h2]
      simp only [h1, h2, if_false]
      rfl
theorem enc_bare (x : Obj) : enc (bare x) = enc x := by
  unfold bare enc encRest
  by_cases h1 : x.kind = 1
  · rw [if_pos h1]; simp [h1]
  · rw [if_neg h1]
    by_cases h2 : x.kind = 2
    · rw [if_pos h2]; simp [h2]
    · rw [if_neg h2]
      simp only [h1, h2, if_false]
theorem fits_enc {x : Obj} (h : good x = true) : fits (enc x) = true := by
  unfold fits
  rw [dec_enc x h]
  dsimp only
  rw [good_bare, h]
  rfl
/-- unlike objects have unlike bytes -/
theorem enc_inj {x y : Obj} (hx : good x = true) (hy : good y = true) : enc x = enc y ↔ bare x = bare y := by
  constructor
  · intro h
    have a := dec_enc x hx
    have b := dec_enc y hy
    rw [h] at a
    exact (Prod.mk.inj (a.symm.trans b)).1
  · intro h
    rw [← enc_bare x, h, enc_bare]
theorem dec_good {s : ByteArray} (h : fits s = true) : good (dec s).1 = true := by
  simp only [fits, Bool.and_eq_true] at h; exact h.2
/-- bytes cut off are none's -/
theorem fits_cut (x : Obj) (h : good x = true) (hk : x.kind ≠ 1) (k : Nat) (hlt : k < (enc x).size) : fits ((enc x).extract 0 k) = false := by
  cases hf : fits ((enc x).extract 0 k) with
  | false => rfl
  | true =>
    exfalso
    obtain ⟨e1, e2⟩ := enc_dec _ hf
    have hg := dec_good hf
    generalize (dec ((enc x).extract 0 k)).1 = y at *
    have hp := cut_parts (enc x) k (by omega)
    rw [← e1] at hp
    have hyk : y.kind = x.kind := by
      have a := rdKind_written x.kind (by have := good_kind h; omega) (by have := good_kind h; omega) (encRest x)
      have b := rdKind_written y.kind (by have := good_kind hg; omega) (by have := good_kind hg; omega) (encRest y ++ (enc x).extract k (enc x).size)
      rw [← ByteArray.append_assoc] at b
      have c : b1 x.kind ++ encRest x = b1 y.kind ++ encRest y ++ (enc x).extract k (enc x).size := hp
      rw [c, b] at a
      exact (Prod.mk.inj a).1
    have a := dec_more y hg (by rw [hyk]; exact hk) ((enc x).extract k (enc x).size)
    have b := dec_enc x h
    rw [← hp, b] at a
    have := congrArg (fun z => z.2.rest.size) a
    dsimp only at this
    rw [extract_size _ _ _ (Nat.le_refl _)] at this
    have z : (empty : ByteArray).size = 0 := rfl
    omega
/-- bytes with others behind them are none's -/
theorem fits_more (x : Obj) (h : good x = true) (hk : x.kind ≠ 1) (t : ByteArray) (ht : t.size ≠ 0) : fits (enc x ++ t) = false := by
  unfold fits
  rw [dec_more x h hk t]
  cases hw : whole ⟨t, false⟩ with
  | false => rfl
  | true =>
    have := (whole_iff.1 hw).2
    exact absurd (by rw [show t = empty from this]; rfl) ht
end Go.Proofs.YtmbbnabongnojaaDoor.Ob
