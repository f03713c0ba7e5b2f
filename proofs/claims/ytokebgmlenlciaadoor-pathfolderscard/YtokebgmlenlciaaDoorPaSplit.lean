/-
  path's Split and Join answer as the plain descriptions say; old memory stays. Conditions: texts and lists of the form's reach.
-/
import Derived.Test.YtokebgmlenlciaaDoorRows
import Derived.Test.YtokebgmlenlciaaDoorPaPlain
import Derived.Test.YtokebgmlenlciaaDoorPaLib
import Derived.Test.YtokebgmlenlciaaDoorPaRune
import Derived.Test.YtokebgmlenlciaaDoorPaShelf
import Derived.Test.YtokebgmlenlciaaDoorPaGood
import Derived.Test.YtokebgmlenlciaaDoorOctKit
import Derived.WalkKit
import Derived.WalkSpells
import Derived.WalkLawsBesides
import Derived.ProofKit
import Derived.OpenShut
import Derived.Laws.BytesArg
import Derived.Laws.Externs
import Derived.Deep.QuietTactic
import Derived.BigQuiet
import Derived.BigRegion
import Derived.Lib.Hide
import Derived.Lib.Bytealg
import Derived.IntWalk
import Derived.Deep.LoopGhost
namespace Go.Proofs.YtokebgmlenlciaaDoor.Pa
open Go.RowKit
open Oct (TextsAt)

theorem texts_below {w w' : World} {a : Option Addr} {b off len : Nat} {T : Nat → ByteArray} (h : TextsAt w a b off len T) (t : Below w.heap.size w w') : TextsAt w' a b off len T :=
  ⟨h.addr, fun i hi => (t.cell (p := ⟨b, off + i, none⟩) (Oct.lt_of_cell (h.cell i hi))).trans (h.cell i hi), h.size⟩
/-! ### strings.Split at a slash -/
theorem splitK_pieces : ∀ (k : Nat) (l : Tx), l.count 47 ≤ k → Lib.splitK [47] 0 k l = pieces l
  | 0, l, h => by
    have no : 47 ∉ l := List.count_eq_zero.1 (Nat.le_zero.1 h)
    rw [pieces_one _ no]; rfl
  | k + 1, l, h => by
    unfold Lib.splitK
    rw [Lib.index_one]
    rcases idx_cases l with ⟨h1, h2⟩ | ⟨a, b, h1, h2, h3⟩
    · rw [h1, pieces_one _ h2]; rfl
    · have hne : ¬ (((a.length : Int) == -1) = true) := by rw [beq_iff_eq]; omega
      rw [h3, if_neg hne]
      have hc : b.count 47 ≤ k := by
        rw [h1, List.count_append, List.count_cons_self] at h; omega
      have e1 : l.take ((a.length : Int).toNat + 0) = a := by rw [h1]; simp
      have e2 : l.drop ((a.length : Int).toNat + ([47] : Tx).length) = b := by
        rw [h1, show (a.length : Int).toNat + ([47] : Tx).length = a.length + 1 by simp]
        rw [show a ++ 47 :: b = (a ++ [47]) ++ b by simp, List.drop_left' (by simp)]
      rw [e1, e2, splitK_pieces k b hc, h1, pieces_slash _ _ h2]
theorem joined_len : ∀ ps : List Tx, (∀ p ∈ ps, p.length ≤ 255) → (joined ps).length ≤ 256 * ps.length
  | [], _ => by simp [joined]
  | [x], h => by have := h x (by simp); simp [joined]; omega
  | x :: y :: l, h => by
    have h1 := h x (by simp)
    have h2 := joined_len (y :: l) fun p hp => h p (List.mem_cons_of_mem _ hp)
    simp only [joined, List.length_append, List.length_cons] at h2 ⊢
    omega
theorem path_len {l : Tx} (h : isPath l) : l.length ≤ 16384 := by
  obtain ⟨h1, h2⟩ := isPath_iff.1 h
  have := joined_len (pieces l) fun p hp => name_len (h1 p hp)
  rw [joined_pieces] at this
  omega
/-- the texts of a list, as a list -/
def tx (T : Nat → ByteArray) (len : Nat) : List Tx := (List.range len).map fun i => (T i).data.toList
theorem tx_length (T : Nat → ByteArray) (len : Nat) : (tx T len).length = len := by simp [tx]
theorem tx_get {T : Nat → ByteArray} {len i : Nat} (h : i < len) : (tx T len)[i]? = some (T i).data.toList := by
  simp [tx, h]
theorem tx_mem {T : Nat → ByteArray} {len : Nat} {p : Tx} : p ∈ tx T len ↔ ∃ i, i < len ∧ (T i).data.toList = p := by
  simp [tx]
theorem tx_getD (l : List ByteArray) : tx (fun i => l.getD i ByteArray.empty) l.length = l.map fun s => s.data.toList := by
  apply List.ext_getElem?
  intro i
  by_cases h : i < l.length
  · rw [tx_get h, List.getElem?_map, List.getD_eq_getElem?_getD, List.getElem?_eq_getElem h]; rfl
  · rw [List.getElem?_eq_none (by rw [tx_length]; omega), List.getElem?_eq_none (by rw [List.length_map]; omega)]
theorem size_extract_le (s : ByteArray) (i j : Nat) : (s.extract i j).size ≤ s.size := by rw [ByteArray.size_extract]; omega
theorem splitB_sizes (sep : ByteArray) (sv : Nat) : ∀ (k : Nat) (s x : ByteArray), x ∈ Lib.splitB sep sv k s → x.size ≤ s.size
  | 0, s, x, h => by rw [Lib.splitB_zero] at h; simp at h; rw [h]; exact Nat.le_refl _
  | k + 1, s, x, h => by
    unfold Lib.splitB at h
    split at h
    · simp at h; rw [h]; exact Nat.le_refl _
    · rcases List.mem_cons.1 h with h | h
      · rw [h]; exact size_extract_le _ _ _
      · exact Nat.le_trans (splitB_sizes sep sv k _ x h) (size_extract_le _ _ _)
set_option maxRecDepth 100000 in
theorem stringsSplit_calls (s : ByteArray) (w : World) (hs : s.size < 4294967281) :
    Calls Tryd.prog 25 #[.string s, .string ⟨#[47]⟩] w fun e w' => (∃ T : Nat → ByteArray, e = .returned (.slice (some ⟨w.heap.size, 0, none⟩) (pieces s.data.toList).length (pieces s.data.toList).length) ∧ TextsAt w' (some ⟨w.heap.size, 0, none⟩) w.heap.size 0 (pieces s.data.toList).length T ∧ tx T (pieces s.data.toList).length = pieces s.data.toList) ∧ Below w.heap.size w w' := by
  have hi9 : (Tryd.prog.info? 9).map (fun i => (i.zero, i.size, i.bytes)) = some (some (.string ByteArray.empty), 1, 16) := by kernel_rfl
  have h1 : 1 ≤ (ByteArray.mk #[47]).size := by decide
  have hcnt : Lib.countB s ⟨#[47]⟩ = s.data.toList.count 47 := Lib.count_one 47 s.data.toList
  have hle := Lib.countB_le ⟨#[47]⟩ h1 s.size s (Nat.le_refl _)
  have hlen := Lib.splitB_all ⟨#[47]⟩ h1 0 _ s rfl
  have hdata := Lib.splitB_data ⟨#[47]⟩ 0 (Lib.countB s ⟨#[47]⟩) s
  have hp : (Lib.splitB ⟨#[47]⟩ 0 (Lib.countB s ⟨#[47]⟩) s).map (fun x => x.data.toList) = pieces s.data.toList := by
    rw [hdata]; exact splitK_pieces _ _ (by rw [hcnt]; exact Nat.le_refl _)
  have c := Any.strings_genSplit_core Tryd.lays221 hi9 s ⟨#[47]⟩ 0 (-1) (Lib.countB s ⟨#[47]⟩ + 1) w hs h1 (Nat.zero_le _)
    (fun x c hx => (Any.strings_Index_one { Tryd.lays221 with } x 47 _).mono fun e w' ⟨he, hw⟩ => ⟨by rw [he]; show _ = Ending.returned (Value.int .i64 (Lib.index x.data.toList [47])); rw [Lib.index_one], hw⟩)
    ((Any.strings_Count_one { Tryd.lays221 with } s 47 w).mono fun e w' ⟨he, hw⟩ => ⟨by rw [he, hcnt]; rfl, hw⟩)
    (by decide) (by decide) (by rw [if_pos (by decide)]; omega)
  have hlp : (pieces s.data.toList).length = Lib.countB s ⟨#[47]⟩ + 1 := by rw [← hp, List.length_map, hlen]
  have sz := splitB_sizes ⟨#[47]⟩ 0 (Lib.countB s ⟨#[47]⟩) s
  rw [Nat.add_sub_cancel, hlen] at c
  have e2 : Lib.cellsOf (Lib.splitB ⟨#[47]⟩ 0 (Lib.countB s ⟨#[47]⟩) s) (Lib.countB s ⟨#[47]⟩ + 1) = ((Lib.splitB ⟨#[47]⟩ 0 (Lib.countB s ⟨#[47]⟩) s).map Value.string).toArray := by rw [← hlen]; exact Lib.cellsOf_full _
  rw [e2, ← hlp] at c
  rw [← hlp] at hlen
  clear hdata hle hcnt e2 hlp hi9
  generalize Lib.splitB ⟨#[47]⟩ 0 (Lib.countB s ⟨#[47]⟩) s = L at *
  replace hp := Lib.hid hp
  replace hlen := Lib.hid hlen
  replace sz := Lib.hid sz
  generalize hq : (pieces s.data.toList).length = q at *
  replace hq := Lib.hid hq
  go_enter Tryd.func25, Tryd.ntmps25
  go_wp2_with fail
  refine c.mono ?_
  rintro e w' ⟨rfl, hw⟩
  have fin : Hid (∃ T : Nat → ByteArray, TextsAt w' (some ⟨w.heap.size, 0, none⟩) w.heap.size 0 q T ∧ tx T q = pieces s.data.toList) := by
    refine Lib.hid ⟨fun i => L.getD i ByteArray.empty, ⟨fun _ => rfl, fun i hi => ?_, fun i => ?_⟩, ?_⟩
    · rw [hw, World.cell?_alloc_at _ _ _ _ (by simp)]
      have hi' : i < L.length := by rw [hlen.out]; exact hi
      simp [List.getD_eq_getElem?_getD, List.getElem?_eq_getElem hi']
    · by_cases hi : i < L.length
      · rw [List.getD_eq_getElem?_getD, List.getElem?_eq_getElem hi]
        have := sz.out _ (List.getElem_mem hi)
        simp only [Option.getD_some]; omega
      · rw [List.getD_eq_getElem?_getD, List.getElem?_eq_none (by omega)]; show (0 : Nat) ≤ _; omega
    · rw [← hlen.out, tx_getD]; exact hp.out
  have bel : Hid (Below w.heap.size w w') := Lib.hid (by rw [hw]; exact (Below.refl _ _).alloc (Nat.le_refl _) _)
  clear hw
  go_wp2
  go_ret
  obtain ⟨T, h2, h3⟩ := fin.out
  exact ⟨⟨T, rfl, h2, h3⟩, bel.out⟩
set_option maxRecDepth 100000 in
/-- path.Split: the error, or the names -/
theorem Split_calls (s : ByteArray) (w : World) (hs : s.size ≤ 140737488351232) :
    Calls Tryd.prog 11 #[.string s] w fun e w' => (∃ (a : Option Addr) (len cap b off : Nat) (T : Nat → ByteArray), e = .returned (.tuple #[.slice a len cap, .int .i64 (fault s.data.toList)]) ∧ TextsAt w' a b off len T ∧ len ≤ cap ∧ len ≤ 16385 ∧ (fault s.data.toList ≠ 0 → len = 0) ∧ (fault s.data.toList = 0 → tx T len = pieces s.data.toList)) ∧ Below w.heap.size w w' := by
  have hf := fault_calls s w hs
  have hpl : fault s.data.toList = 0 → s.size < 4294967281 ∧ (pieces s.data.toList).length ≤ 16385 := fun h => by
    have h1 := path_len h
    have h2 := pieces_le s.data.toList
    rw [size_list]; exact ⟨by omega, by omega⟩
  generalize fault s.data.toList = c at *
  by_cases h0 : c = 0
  · subst h0
    obtain ⟨p1, p2⟩ := hpl rfl
    clear hpl
    replace p2 := Lib.hid p2
    go_enter Tryd.func11, Tryd.ntmps11
    go_wp2_with fail
    refine hf.mono ?_
    rintro e w1 ⟨rfl, b1⟩
    replace b1 := Lib.hid b1
    go_wp2_with fail
    refine (stringsSplit_calls s w1 p1).mono ?_
    rintro e w2 ⟨⟨T, rfl, hT, ht⟩, b2⟩
    replace b2 := Lib.hid (b1.out.trans (b2.mono b1.out.size))
    replace hT := Lib.hid hT
    replace ht := Lib.hid ht
    generalize hq : (pieces s.data.toList).length = q at *
    replace hq := Lib.hid hq
    go_wp2
    go_ret2
    exact ⟨⟨_, _, _, _, _, T, rfl, hT.out, Nat.le_refl _, p2.out, fun h => absurd rfl h, fun _ => ht.out⟩, b2.out⟩
  · have h1 : ((c : Int) == 0) = false := by simp only [beq_eq_false_iff_ne]; omega
    clear hpl
    replace h0 := Lib.hid h0
    go_enter Tryd.func11, Tryd.ntmps11
    go_wp2_with fail
    refine hf.mono ?_
    rintro e w1 ⟨rfl, b1⟩
    replace b1 := Lib.hid b1
    go_wp2
    go_ret2
    exact ⟨⟨_, _, _, 0, 0, fun _ => ByteArray.empty, rfl, ⟨fun h => by omega, fun i h => by omega, fun _ => by show (0 : Nat) ≤ _; omega⟩, Nat.le_refl _, by omega, fun _ => rfl, fun h => absurd h h0.out⟩, b1.out⟩
/-! ### slices.IndexFunc over texts, with a function value that may write what is its own -/
/-- a function value, called at the texts in order: what it answers, and what holds of the world behind so many calls -/
structure Walks (g : Nat) (cb : Array Value) (T : Nat → ByteArray) (len : Nat) (p : Nat → Bool) (J : Nat → World → Prop) : Prop where
  enters : ∀ args w, (callFunc g args).run Tryd.prog w = .ok (.enter g args) w
  call : ∀ i w, i < len → J i w → Calls Tryd.prog g (#[.string (T i)] ++ cb) w fun e w' => e = .returned (.bool (p i)) ∧ J (i + 1) w'
set_option maxRecDepth 100000 in
theorem IndexFunc_calls (a : Option Addr) (len cap b off : Nat) (T : Nat → ByteArray) (g : Nat) (cb : Array Value) (p : Nat → Bool) (J : Nat → World → Prop) (w : World) (hlen : len ≤ 140737488351232) (hJ : Walks g cb T len p J) (hT : ∀ i w', J i w' → TextsAt w' a b off len T) (h0 : J 0 w) :
    Calls Tryd.prog 34 #[.slice a len cap, .func (.func g) #[] cb] w fun e w' => (∃ i, i < len ∧ p i = true ∧ (∀ j, j < i → p j = false) ∧ e = .returned (.int .i64 i) ∧ J (i + 1) w') ∨ ((∀ j, j < len → p j = false) ∧ e = .returned (.int .i64 (-1)) ∧ J len w') := by
  have eg := hJ.enters
  replace hJ := Lib.hid hJ
  replace hT := Lib.hid hT
  replace h0 := Lib.hid h0
  go_enter Tryd.func34, Tryd.ntmps34
  go_wp2
  go_loopw [5, 8] (fun _ i wr => ∃ k : Nat, k ≤ len ∧ i = .int .i64 k ∧ Hid (∀ j, j < k → p j = false) ∧ Hid (J k wr)) (fun _ i _ => len - (intOf i).toNat)
  case atStart => exact ⟨0, by omega, rfl, Lib.hid fun j hj => by omega, h0⟩
  case round =>
    obtain ⟨k, hk, rfl, hp, hj⟩ := hrel
    by_cases hlt : k < len
    · have i1 : (k : Int) < len := by omega
      have i0 : 0 ≤ (k : Int) := by omega
      have ht := hT.out k _ hj.out
      have ha := ht.addr (by omega)
      subst ha
      have c0 := ht.cell k hlt
      have hc := hJ.out.call k wr hlt hj.out
      replace hc := Lib.hid hc
      clear ht
      go_wp2_with fail
      refine hc.out.mono ?_
      rintro e w' ⟨rfl, hj2⟩
      replace hj2 := Lib.hid hj2
      clear c0
      generalize hx : p k = x
      cases x with
      | true =>
        replace hx := Lib.hid hx
        go_wp2
        go_ret
        exact Or.inl ⟨k, hlt, hx.out, hp.out, rfl, hj2.out⟩
      | false =>
        replace hx := Lib.hid hx
        go_wp2
        exact ⟨⟨k + 1, by omega, by go_num, Lib.hid fun j hj => by
            by_cases e : j = k
            · subst e; exact hx.out
            · exact hp.out j (by omega), hj2⟩, by simp [intOf]; omega⟩
    · have d0 : decide ((k : Int) < len) = false := decide_eq_false (by omega)
      have d1 : (len : Int) ≤ k := by omega
      obtain rfl : k = len := by omega
      go_wp2
      go_ret
      exact Or.inr ⟨hp.out, rfl, hj.out⟩
/-! ### Join -/
theorem below_tr {B : Nat} {a b c : World} (h : Below B a b) (g : Below b.heap.size b c) (hB : B ≤ b.heap.size) : Below B a c := h.trans (g.mono hB)
set_option maxRecDepth 100000 in
theorem wrong_calls (s : ByteArray) (w : World) :
    Calls Tryd.prog 26 #[.string s] w fun e w' => e = .returned (.bool (!isName s.data.toList)) ∧ Below w.heap.size w w' := by
  generalize hx : isName s.data.toList = x
  have hg := Good_calls s w
  rw [hx] at hg
  clear hx
  go_enter Tryd.func26, Tryd.ntmps26
  go_wp2_with fail
  refine hg.mono ?_
  rintro e w' ⟨rfl, b1⟩
  replace b1 := Lib.hid b1
  go_wp2
  go_ret
  exact ⟨rfl, b1.out⟩
set_option maxRecDepth 100000 in
theorem ContainsFunc_calls (a : Option Addr) (len cap b off : Nat) (T : Nat → ByteArray) (w : World) (hlen : len ≤ 140737488351232) (hT : TextsAt w a b off len T) :
    Calls Tryd.prog 27 #[.slice a len cap, .func (.func 26) #[] #[]] w fun e w' => (∃ x, e = .returned (.bool x) ∧ (x = true ↔ ¬ ∀ p ∈ tx T len, isName p = true)) ∧ Below w.heap.size w w' := by
  have key := IndexFunc_calls a len cap b off T 26 #[] (fun i => !isName (T i).data.toList) (fun _ w' => Below w.heap.size w w') w hlen
    ⟨enters_of Tryd.func26 (by kernel_rfl) rfl, fun i w' _ hb => (wrong_calls (T i) w').mono fun e w2 ⟨he, h2⟩ => ⟨he, hb.trans (h2.mono hb.size)⟩⟩
    (fun _ w' hb => texts_below hT hb) (Below.refl _ _)
  replace hT := Lib.hid hT
  go_enter Tryd.func27, Tryd.ntmps27
  go_wp2_with fail
  refine key.mono ?_
  rintro e w' (⟨i, hi, hp, hq, rfl, hb⟩ | ⟨hq, rfl, hb⟩)
  · replace hb := Lib.hid hb
    replace hp := Lib.hid hp
    have i0 : (0 : Int) ≤ i := by omega
    clear hq key
    go_wp2
    go_ret
    refine ⟨⟨_, rfl, ?_⟩, hb.out⟩
    simp only [true_iff]
    intro h
    have := h _ (tx_mem.2 ⟨i, hi, rfl⟩)
    have h2 := hp.out
    simp only [this, Bool.not_true] at h2
    exact absurd h2 (by decide)
  · replace hb := Lib.hid hb
    replace hq := Lib.hid hq
    clear key
    go_wp2
    go_ret
    refine ⟨⟨_, rfl, ?_⟩, hb.out⟩
    simp only [Bool.false_eq_true, false_iff, Classical.not_not]
    intro p hp
    obtain ⟨i, hi, rfl⟩ := tx_mem.1 hp
    have := hq.out i hi
    simpa using this
/-- what Join answers -/
inductive IsJoin (ps : List Tx) : Tx → Nat → Prop
  | bad (h : ps = [] ∨ ¬ ∀ p ∈ ps, isName p = true) : IsJoin ps [] 30
  | deep (h : ∀ p ∈ ps, isName p = true) (hd : 64 < ps.length) : IsJoin ps [] 33
  | ok (hne : ps ≠ []) (h : ∀ p ∈ ps, isName p = true) (hd : ps.length ≤ 64) : IsJoin ps (joined ps) 0
theorem IsJoin.unique {ps : List Tx} {r r' : Tx} {c c' : Nat} (h : IsJoin ps r c) (h' : IsJoin ps r' c') : r = r' ∧ c = c' := by
  cases h with
  | bad h =>
    cases h' with
    | bad => exact ⟨rfl, rfl⟩
    | deep g hd => rcases h with rfl | h; · simp at hd
                   · exact absurd g h
    | ok hne g hd => rcases h with h | h; · exact absurd h hne
                     · exact absurd g h
  | deep g hd =>
    cases h' with
    | bad h => rcases h with rfl | h; · simp at hd
               · exact absurd g h
    | deep => exact ⟨rfl, rfl⟩
    | ok _ _ hd' => omega
  | ok hne g hd =>
    cases h' with
    | bad h => rcases h with h | h; · exact absurd h hne
               · exact absurd g h
    | deep _ hd' => omega
    | ok => exact ⟨rfl, rfl⟩
theorem join_joined : ∀ ps : List Tx, Lib.join ps [47] = joined ps
  | [] => rfl
  | [x] => by simp [Lib.join, joined, List.intercalate]
  | x :: y :: l => by
    have := join_joined (y :: l)
    simp only [Lib.join, joined, List.intercalate] at this ⊢
    simp [List.intersperse] at this ⊢
    exact this
set_option maxRecDepth 100000 in
/-- path.Join -/
theorem Join_calls (a : Option Addr) (len cap b off : Nat) (T : Nat → ByteArray) (w : World) (hlen : len ≤ 140737488351232) (hcap : len ≤ cap) (hT : TextsAt w a b off len T) :
    Calls Tryd.prog 13 #[.slice a len cap] w fun e w' => (∃ (r : ByteArray) (c : Nat), e = .returned (.tuple #[.string r, .int .i64 c]) ∧ IsJoin (tx T len) r.data.toList c) ∧ Below w.heap.size w w' := by
  have hl := tx_length T len
  by_cases hz : len = 0
  · subst hz
    go_enter Tryd.func13, Tryd.ntmps13
    go_wp2
    go_ret2
    exact ⟨⟨_, 30, rfl, .bad (Or.inl rfl)⟩, Below.refl _ _⟩
  · have z1 : ((len : Int) == 0) = false := by simp only [beq_eq_false_iff_ne]; omega
    have cf := ContainsFunc_calls a len cap b off T w hlen hT
    have ha := hT.addr (by omega)
    subst ha
    replace hT := Lib.hid hT
    replace hl := Lib.hid hl
    have hne : Hid (tx T len ≠ []) := Lib.hid fun e => by have := hl.out; rw [e] at this; simp at this; omega
    replace hz := Lib.hid hz
    go_enter Tryd.func13, Tryd.ntmps13
    go_wp2_with fail
    refine cf.mono ?_
    rintro e w1 ⟨⟨x, rfl, hx⟩, b1⟩
    replace b1 := Lib.hid b1
    replace hx := Lib.hid hx
    clear cf
    cases x with
    | true =>
      go_wp2
      go_ret2
      exact ⟨⟨_, 30, rfl, .bad (Or.inr (hx.out.1 (by trivial)))⟩, b1.out⟩
    | false =>
      have hall : Hid (∀ p ∈ tx T len, isName p = true) := Lib.hid (by
        have := hx.out
        simp only [Bool.false_eq_true, false_iff, Classical.not_not] at this
        exact this)
      clear hx
      by_cases h64 : 64 < len
      · have d0 : (64 : Int) < len := by omega
        go_wp2
        go_ret2
        exact ⟨⟨_, 33, rfl, .deep hall.out (by rw [hl.out]; exact h64)⟩, b1.out⟩
      · have d0 : ¬ (64 : Int) < len := by omega
        have hT1 := texts_below hT.out b1.out
        have xl : ((List.range len).map T).length = len := by simp
        have xm : ((List.range len).map T).map (fun s => s.data.toList) = tx T len := by simp [tx]
        have hj := Any.strings_Join Tryd.lays156 Tryd.Builder_Extra_156 b off cap ((List.range len).map T) ⟨#[47]⟩ w1
          (fun j x hx => by
            have hj : j < len := by
              rcases Nat.lt_or_ge j len with g | g
              · exact g
              · rw [List.getElem?_eq_none (by rw [xl]; omega)] at hx; simp at hx
            have : x = T j := by
              simp [hj] at hx; exact hx.symm
            rw [this]; exact hT1.cell j hj)
          (Oct.lt_of_cell (hT1.cell 0 (by have := hz.out; omega))) (by rw [xl]; omega) (by rw [xl]; exact hcap)
          (by
            rw [xm]
            show (Lib.join (tx T len) [47]).length ≤ _
            rw [join_joined]
            have := joined_len (tx T len) fun p hp => name_len (hall.out p hp)
            rw [hl.out] at this
            omega)
        rw [xl, xm] at hj
        rw [show Lib.join (tx T len) (ByteArray.mk #[47]).data.toList = joined (tx T len) from join_joined _] at hj
        clear hT1 xl xm
        generalize hr : joined (tx T len) = r at *
        replace hr := Lib.hid hr
        go_wp2_with fail
        refine hj.mono ?_
        rintro e w2 ⟨rfl, b2⟩
        replace b2 := Lib.hid (b1.out.trans (b2.mono b1.out.size))
        clear hj
        go_wp2
        go_ret2
        exact ⟨⟨_, 0, rfl, by rw [← hr.out]; exact .ok hne.out hall.out (by rw [hl.out]; omega)⟩, b2.out⟩
end Go.Proofs.YtokebgmlenlciaaDoor.Pa
