/-
  The reference's Decode answers what object's Decode answers: the object that bytes are, or ErrForm; old memory stays. Conditions: texts of the form's reach.
-/
import Derived.Test.YtmbbnabongnojaaDoorRows
import Derived.Test.YtmbbnabongnojaaDoorObPlain
import Derived.Test.YtmbbnabongnojaaDoorObGood
import Derived.Test.YtmbbnabongnojaaDoorObWrite
import Derived.Test.YtmbbnabongnojaaDoorObOwn
import Derived.Test.YtmbbnabongnojaaDoorObRead
import Derived.Test.YtmbbnabongnojaaDoorObDec
import Derived.Test.YtmbbnabongnojaaDoorObHave
import Derived.Test.YtmbbnabongnojaaDoorObSame
import Derived.Test.YtmbbnabongnojaaDoorObRefA
import Derived.Test.YtmbbnabongnojaaDoorObRefC
import Derived.Test.YtmbbnabongnojaaDoorObRefD
import Derived.Test.YtmbbnabongnojaaDoorOctRefR
import Derived.Test.YtmbbnabongnojaaDoorOctKit
import Derived.WalkKit
import Derived.WalkSpells
import Derived.WalkLawsBesides
import Derived.ProofKit
import Derived.OpenShut
import Derived.Laws.BytesArg
import Derived.Laws.Externs
import Derived.Deep.QuietTactic
import Derived.BigQuiet
import Derived.BigRegion
import Derived.Lib.Hide
import Derived.IntWalk
import Derived.Deep.LoopGhost
import Derived.Laws.AppendOwn
import Derived.Deep.RegionLaw
namespace Go.Proofs.YtmbbnabongnojaaDoor.Ob
open Go Go.RowKit
open Oct (empty num4 St RR Only take num text byteAt)

theorem first_byte (s : ByteArray) (h : 0 < s.size) : ((s[0]'h).toNat : Int) = byteAt s 0 := by
  unfold Oct.byteAt
  have h2 : 0 < s.data.toList.length := by rw [Oct.size_toList]; exact h
  rw [List.getD_eq_getElem?_getD, List.getElem?_eq_getElem h2]
  rfl
theorem rdKind_first (s : ByteArray) (h : 0 < s.size) : rdKind ⟨s, false⟩ = (byteAt s 0, ⟨s.extract 1 s.size, false⟩) := by
  have ht : take ⟨s, false⟩ 1 = (s.extract 0 1, ⟨s.extract 1 s.size, false⟩) := Oct.take_ok ⟨s, false⟩ 1 rfl (by omega) (by show (1 : Int) ≤ s.size; omega)
  unfold rdKind
  rw [ht]
  dsimp only
  rw [if_neg (by rw [Oct.extract_size _ _ _ (by omega)]; decide), Oct.byteAt_extract s 1 0 (by decide)]
theorem dec_none (s : ByteArray) (h : s.size = 0) : fits s = false := by
  obtain rfl : s = empty := Oct.ext_toList (List.length_eq_zero_iff.1 (by rw [Oct.size_toList]; exact h))
  rfl
/-- what was read lies in its block, and says whether bytes fit -/
structure Got2 (s : ByteArray) (w w4 : World) (o : Obj) (ea : Option Addr) (ec : Nat) (pa : Option Addr) (pc : Nat) : Prop where
  fits : fits s = good o
  dec : good o = true → (dec s).1 = o
  blk : Blk w4 (w.heap.size + 1) #[.int .i64 o.kind, .string o.data, .slice ea o.ents.length ec, .string o.tree, .slice pa o.pars.length pc, .int .i64 o.height, .string o.note] 25
  ents : ∃ b off, EntsAt w4 ea b off o.ents ∧ (0 < o.ents.length → w.heap.size < b)
  pars : ∃ b off, ParsAt w4 pa b off o.pars ∧ (0 < o.pars.length → w.heap.size < b)
  ecap : o.ents.length ≤ ec
  pcap : o.pars.length ≤ pc
  el : o.ents.length ≤ maxLen
  pl : o.pars.length ≤ maxLen
theorem Got2.at_ {s : ByteArray} {w w4 : World} {o : Obj} {ea : Option Addr} {ec : Nat} {pa : Option Addr} {pc : Nat} (h : Got2 s w w4 o ea ec pa pc) : ObAt w4 o ea ec pa pc :=
  ⟨by obtain ⟨b, f, g, _⟩ := h.ents; exact ⟨b, f, g⟩, by obtain ⟨b, f, g, _⟩ := h.pars; exact ⟨b, f, g⟩, h.ecap, h.pcap⟩
theorem Got2.after {s : ByteArray} {w w4 w5 : World} {o : Obj} {ea : Option Addr} {ec : Nat} {pa : Option Addr} {pc : Nat} (h : Got2 s w w4 o ea ec pa pc) (hg : good o = true) (t : Below w4.heap.size w4 w5) : Lists s w.heap.size w5 o ea ec pa pc :=
  ⟨h.dec hg, by obtain ⟨b, f, g, l⟩ := h.ents; exact ⟨b, f, g.below t, l⟩, by obtain ⟨b, f, g, l⟩ := h.pars; exact ⟨b, f, g.below t, l⟩, h.ecap, h.pcap⟩
theorem rends_zero {s : ByteArray} {r : Nat} {w w4 w9 : World} {tmps : Array Value} {df : List Deferred} (hend : Blk w9 r #[.int .i64 0, .string ⟨#[]⟩, .slice none 0 0, .string ⟨#[]⟩, .slice none 0 0, .int .i64 0, .string ⟨#[]⟩] 25) (hf : fits s = false) (h9 : Below r w4 w9) (h4 : Below r w w4)
    (hx : tmps.getD 2 undef = .pointer (some ⟨r, 0, none⟩) := by rfl) (hv : tmps.getD 3 undef = .int .i64 4 := by rfl) (hdf : df = [] := by rfl) :
    bodyPost Tryd.prog Tryd.f20 (fun e w' => Reads s e w' ∧ Below r w w') .ret ⟨tmps, df⟩ w9 := by
  subst hdf
  exact bodyPost_ret (results_two Tryd.results20 hx hv (blk_range (cs := [.int .i64 0, .string ⟨#[]⟩, .slice none 0 0, .string ⟨#[]⟩, .slice none 0 0, .int .i64 0, .string ⟨#[]⟩]) hend) Tryd.underlying25 rfl sizeObject) rfl ⟨⟨fun h => absurd (hf.symm.trans h) (by decide), fun _ => rfl⟩, h4.trans h9⟩
theorem rends_object {s : ByteArray} {r : Nat} {w w4 w9 : World} {tmps : Array Value} {df : List Deferred} {o : Obj} {ea : Option Addr} {ec : Nat} {pa : Option Addr} {pc : Nat} (hend : Blk w9 r #[.int .i64 o.kind, .string o.data, .slice ea o.ents.length ec, .string o.tree, .slice pa o.pars.length pc, .int .i64 o.height, .string o.note] 25) (hf : fits s = true) (hL : Lists s r w4 o ea ec pa pc) (h9 : Only r w4 w9) (h4 : Below r w w4)
    (hx : tmps.getD 2 undef = .pointer (some ⟨r, 0, none⟩) := by rfl) (hv : tmps.getD 3 undef = .int .i64 0 := by rfl) (hdf : df = [] := by rfl) :
    bodyPost Tryd.prog Tryd.f20 (fun e w' => Reads s e w' ∧ Below r w w') .ret ⟨tmps, df⟩ w9 := by
  subst hdf
  refine bodyPost_ret (results_two Tryd.results20 hx hv (blk_range (cs := [.int .i64 o.kind, .string o.data, .slice ea o.ents.length ec, .string o.tree, .slice pa o.pars.length pc, .int .i64 o.height, .string o.note]) hend) Tryd.underlying25 rfl sizeObject) rfl ⟨⟨fun _ => ⟨ea, ec, pa, pc, ?_, ?_⟩, fun h => absurd (hf.symm.trans h) (by decide)⟩, h4.trans (h9.below (Nat.le_refl _))⟩
  · rw [hL.dec]
  · rw [hL.dec]
    exact ⟨by obtain ⟨b, f, g, l⟩ := hL.ents; exact ⟨b, f, g.only h9 l⟩, by obtain ⟨b, f, g, l⟩ := hL.pars; exact ⟨b, f, g.only h9 l⟩, hL.ecap, hL.pcap⟩
/-- what a tree's bytes come to -/
theorem fits_tree {s : ByteArray} {q q' : St} {L : List Ent} (hd : dec s = rdTree q) (hT : TreeEnd q L q') : (Oct.whole q' = false → fits s = false) ∧ (Oct.whole q' = true → fits s = good ⟨2, empty, L, empty, [], 0, empty⟩ ∧ (dec s).1 = ⟨2, empty, L, empty, [], 0, empty⟩) := by
  have hk : (rdTree q).1 = ⟨2, empty, (rdTree q).1.ents, empty, [], 0, empty⟩ := rfl
  constructor
  · intro hw
    unfold fits
    rw [hd]
    cases hb : q'.bad with
    | true => have := hT.no hb; unfold Oct.whole; rw [this]; rfl
    | false => rw [← (hT.yes hb).2, hw]; rfl
  · intro hw
    have hb := (whole_iff.1 hw).1
    obtain ⟨h1, h2⟩ := hT.yes hb
    unfold fits
    rw [hd, ← h2, hw, hk, ← h1]
    exact ⟨by simp, rfl⟩
theorem fits_commit {s : ByteArray} {q q' : St} {x : Obj} (hk3 : x.kind = 3) (hd : dec s = rdCommit q) (hT : CommitEnd q x q') : (Oct.whole q' = false → fits s = false) ∧ (Oct.whole q' = true → fits s = good x ∧ (good x = true → (dec s).1 = x)) := by
  have hlow : good x = true → x.height ≤ 1073741824 := fun h => by
    unfold good at h
    rw [hk3, if_neg (by decide), if_neg (by decide), if_pos rfl] at h
    exact (goodCommit_iff.1 h).2.2.2.2.1
  constructor
  · intro hw
    unfold fits
    rw [hd]
    cases hb : q'.bad with
    | true => have := hT.no (Or.inl hb); unfold Oct.whole; rw [this]; rfl
    | false =>
      by_cases hh : x.height ≤ 1073741824
      · rw [hT.yes hb hh]; dsimp only; rw [hw]; rfl
      · have := hT.no (Or.inr (by omega)); unfold Oct.whole; rw [this]; rfl
  · intro hw
    have hb := (whole_iff.1 hw).1
    by_cases hh : x.height ≤ 1073741824
    · unfold fits
      rw [hd, hT.yes hb hh]
      dsimp only
      rw [hw]
      exact ⟨rfl, fun _ => rfl⟩
    · have h1 := hT.no (Or.inr (by omega))
      have h2 : good x = false := by
        cases hg : good x with
        | false => rfl
        | true => exact absurd (hlow hg) hh
      refine ⟨?_, fun h => by rw [h2] at h; cases h⟩
      unfold fits Oct.whole
      rw [hd, h1, h2]; rfl
theorem below_next2 {w u v : World} (h : Below w.heap.size w u) (g : Below u.heap.size u v) : Below w.heap.size w v := below_next h g
set_option maxRecDepth 100000 in
set_option maxHeartbeats 4000000 in
theorem RDecode_calls (s : ByteArray) (w : World) (hs : s.size ≤ 140737488351232) :
    Calls Tryd.prog 20 #[.string s] w fun e w' => Reads s e w' ∧ Below w.heap.size w w' := by
  by_cases h0 : s.size = 0
  · have hf := Lib.hid (dec_none s h0)
    obtain rfl : s = empty := Oct.ext_toList (List.length_eq_zero_iff.1 (by rw [Oct.size_toList]; exact h0))
    go_enter Tryd.func20, Tryd.ntmps20
    go_wp2
    exact rends_zero (Blk.new w #[.int .i64 0, .string ⟨#[]⟩, .slice none 0 0, .string ⟨#[]⟩, .slice none 0 0, .int .i64 0, .string ⟨#[]⟩] 25) hf.out (Below.refl _ _) (b_alloc w _)
  · have he : s.toList.isEmpty = false := by
      rw [ByteArray.toList_eq]
      cases hl : s.data.toList with
      | nil => exact absurd (by rw [← Oct.size_toList, hl]; rfl) h0
      | cons a l => rfl
    have i1 : (0 : Int) < s.size := by omega
    have i2 : 0 < s.size := by omega
    have i3 : (1 : Int) ≤ s.size := by omega
    have hfb := first_byte s i2
    have hk0 : Hid (dec s = if byteAt s 0 = 1 then rdBlob ⟨s.extract 1 s.size, false⟩ else if byteAt s 0 = 2 then rdTree ⟨s.extract 1 s.size, false⟩ else if byteAt s 0 = 3 then rdCommit ⟨s.extract 1 s.size, false⟩ else (⟨byteAt s 0, empty, [], empty, [], 0, empty⟩, ⟨s.extract 1 s.size, false⟩)) := Lib.hid (by
      unfold dec
      rw [rdKind_first s i2])
    have hr := Lib.hid ((Blk.new w #[.int .i64 0, .string ⟨#[]⟩, .slice none 0 0, .string ⟨#[]⟩, .slice none 0 0, .int .i64 0, .string ⟨#[]⟩] 25).alloc (.cells #[.int .i64 0, .string ⟨#[]⟩, .slice none 0 0, .string ⟨#[]⟩, .slice none 0 0, .int .i64 0, .string ⟨#[]⟩] 25))
    have hx := Lib.hid (new_two w (.cells #[.int .i64 0, .string ⟨#[]⟩, .slice none 0 0, .string ⟨#[]⟩, .slice none 0 0, .int .i64 0, .string ⟨#[]⟩] 25) #[.int .i64 0, .string ⟨#[]⟩, .slice none 0 0, .string ⟨#[]⟩, .slice none 0 0, .int .i64 0, .string ⟨#[]⟩] 25)
    have hB := Lib.hid (below_next (b_alloc w (.cells #[.int .i64 0, .string ⟨#[]⟩, .slice none 0 0, .string ⟨#[]⟩, .slice none 0 0, .int .i64 0, .string ⟨#[]⟩] 25)) (b_alloc _ (.cells #[.int .i64 0, .string ⟨#[]⟩, .slice none 0 0, .string ⟨#[]⟩, .slice none 0 0, .int .i64 0, .string ⟨#[]⟩] 25)))
    have hsz : Hid (((w.alloc (.cells #[.int .i64 0, .string ⟨#[]⟩, .slice none 0 0, .string ⟨#[]⟩, .slice none 0 0, .int .i64 0, .string ⟨#[]⟩] 25)).alloc (.cells #[.int .i64 0, .string ⟨#[]⟩, .slice none 0 0, .string ⟨#[]⟩, .slice none 0 0, .int .i64 0, .string ⟨#[]⟩] 25)).heap.size = w.heap.size + 2) := Lib.hid (by simp)
    rw [← hfb] at hk0
    replace h0 := Lib.hid h0
    replace hfb := Lib.hid hfb
    by_cases k1 : ((s[0]'i2).toNat : Int) = 1
    · have d1 : (((s[0]'i2).toNat : Int) == 1) = true := by simpa using k1
      have hlen := Oct.extract_size s 1 s.size (Nat.le_refl _)
      have hfin : dec s = (⟨1, s.extract 1 s.size, [], empty, [], 0, empty⟩, ⟨empty, false⟩) := by
        rw [hk0.out, if_pos k1]
        unfold rdBlob Oct.left
        simp only [Bool.false_eq_true, if_false]
        have := take_written (s.extract 1 s.size) empty (s.extract 1 s.size).size rfl
        rw [append_empty] at this
        rw [this]
      have hr' := Lib.hid ((Blk.new w #[.int .i64 0, .string ⟨#[]⟩, .slice none 0 0, .string ⟨#[]⟩, .slice none 0 0, .int .i64 0, .string ⟨#[]⟩] 25).alloc (.cells #[.int .i64 1, .string (s.extract 1 s.size), .slice none 0 0, .string ⟨#[]⟩, .slice none 0 0, .int .i64 0, .string ⟨#[]⟩] 25))
      have hB' := Lib.hid (below_next (b_alloc w (.cells #[.int .i64 0, .string ⟨#[]⟩, .slice none 0 0, .string ⟨#[]⟩, .slice none 0 0, .int .i64 0, .string ⟨#[]⟩] 25)) (b_alloc _ (.cells #[.int .i64 1, .string (s.extract 1 s.size), .slice none 0 0, .string ⟨#[]⟩, .slice none 0 0, .int .i64 0, .string ⟨#[]⟩] 25)))
      obtain ⟨o, ea, ec, pa, pc, hgot⟩ : ∃ (o : Obj) (ea : Option Addr) (ec : Nat) (pa : Option Addr) (pc : Nat), Hid (Got2 s w ((w.alloc (.cells #[.int .i64 0, .string ⟨#[]⟩, .slice none 0 0, .string ⟨#[]⟩, .slice none 0 0, .int .i64 0, .string ⟨#[]⟩] 25)).alloc (.cells #[.int .i64 1, .string (s.extract 1 s.size), .slice none 0 0, .string ⟨#[]⟩, .slice none 0 0, .int .i64 0, .string ⟨#[]⟩] 25)) o ea ec pa pc) :=
        ⟨⟨1, s.extract 1 s.size, [], empty, [], 0, empty⟩, none, 0, none, 0, Lib.hid ⟨by unfold fits; rw [hfin]; rfl, fun _ => by rw [hfin], new_two _ _ _ _, ⟨0, 0, EntsAt.nil _, fun h => absurd h (Nat.lt_irrefl _)⟩, ⟨0, 0, ParsAt.nil _, fun h => absurd h (Nat.lt_irrefl _)⟩, Nat.le_refl _, Nat.le_refl _, Nat.zero_le _, Nat.zero_le _⟩⟩
      replace k1 := Lib.hid k1
      clear hk0 hfin hr hx hB hsz hlen
      go_enter Tryd.func20, Tryd.ntmps20
      go_upto_region 15 with (fail)
      generalize (w.alloc (.cells #[.int .i64 0, .string ⟨#[]⟩, .slice none 0 0, .string ⟨#[]⟩, .slice none 0 0, .int .i64 0, .string ⟨#[]⟩] 25)).alloc (.cells #[.int .i64 1, .string (s.extract 1 s.size), .slice none 0 0, .string ⟨#[]⟩, .slice none 0 0, .int .i64 0, .string ⟨#[]⟩] 25) = w4 at *
      have hr := hr'
      have hB := hB'
      clear hr' hB'
      have x0 := hgot.out.blk.cell 0 (v := .int .i64 o.kind) rfl
      have x1 := hgot.out.blk.cell 1 (v := .string o.data) rfl
      have x2 := hgot.out.blk.cell 2 (v := .slice ea o.ents.length ec) rfl
      have x3 := hgot.out.blk.cell 3 (v := .string o.tree) rfl
      have x4 := hgot.out.blk.cell 4 (v := .slice pa o.pars.length pc) rfl
      have x5 := hgot.out.blk.cell 5 (v := .int .i64 o.height) rfl
      have x6 := hgot.out.blk.cell 6 (v := .string o.note) rfl
      have hG := Lib.hid (RGood_calls o ea ec pa pc w4 hgot.out.at_ hgot.out.el hgot.out.pl)
      go_wp2_with fail
      refine hG.out.mono ?_
      rintro e w6 ⟨rfl, b6⟩
      have hr6 : Hid (Blk w6 w.heap.size #[.int .i64 0, .string ⟨#[]⟩, .slice none 0 0, .string ⟨#[]⟩, .slice none 0 0, .int .i64 0, .string ⟨#[]⟩] 25) := Lib.hid (hr.out.below b6 hr.out.lt)
      have hx6 := Lib.hid (hgot.out.blk.below b6 hgot.out.blk.lt)
      have hB6 := Lib.hid (below_next2 hB.out b6)
      have hE6 := Lib.hid (fun hg => hgot.out.after hg b6)
      have hfit := Lib.hid hgot.out.fits
      clear x0 x1 x2 x3 x4 x5 x6 hG hr hB b6 hgot
      have d0 := hr6.out.cell 0 (v := .int .i64 0) rfl
      have d1 := hr6.out.cell 1 (v := .string ⟨#[]⟩) rfl
      have d2 := hr6.out.cell 2 (v := .slice none 0 0) rfl
      have d3 := hr6.out.cell 3 (v := .string ⟨#[]⟩) rfl
      have d4 := hr6.out.cell 4 (v := .slice none 0 0) rfl
      have d5 := hr6.out.cell 5 (v := .int .i64 0) rfl
      have d6 := hr6.out.cell 6 (v := .string ⟨#[]⟩) rfl
      have e0 := hr6.out.frozen 0
      have e1 := hr6.out.frozen 1
      have e2 := hr6.out.frozen 2
      have e3 := hr6.out.frozen 3
      have e4 := hr6.out.frozen 4
      have e5 := hr6.out.frozen 5
      have e6 := hr6.out.frozen 6
      have x0 := hx6.out.cell 0 (v := .int .i64 o.kind) rfl
      have x1 := hx6.out.cell 1 (v := .string o.data) rfl
      have x2 := hx6.out.cell 2 (v := .slice ea o.ents.length ec) rfl
      have x3 := hx6.out.cell 3 (v := .string o.tree) rfl
      have x4 := hx6.out.cell 4 (v := .slice pa o.pars.length pc) rfl
      have x5 := hx6.out.cell 5 (v := .int .i64 o.height) rfl
      have x6 := hx6.out.cell 6 (v := .string o.note) rfl
      cases hg : good o with
      | false =>
        replace hfit : Hid (fits s = false) := Lib.hid (by rw [hfit.out, hg])
        go_wp2
        have hend : Blk (((((((w6.setCell ⟨w.heap.size, 0, none⟩ (.int .i64 0)).setCell ⟨w.heap.size, 1, none⟩ (.string ⟨#[]⟩)).setCell ⟨w.heap.size, 2, none⟩ (.slice none 0 0)).setCell ⟨w.heap.size, 3, none⟩ (.string ⟨#[]⟩)).setCell ⟨w.heap.size, 4, none⟩ (.slice none 0 0)).setCell ⟨w.heap.size, 5, none⟩ (.int .i64 0)).setCell ⟨w.heap.size, 6, none⟩ (.string ⟨#[]⟩)) w.heap.size #[.int .i64 0, .string ⟨#[]⟩, .slice none 0 0, .string ⟨#[]⟩, .slice none 0 0, .int .i64 0, .string ⟨#[]⟩] 25 := (Blk.set (Blk.set (Blk.set (Blk.set (Blk.set (Blk.set (Blk.set hr6.out 0 (.int .i64 0)) 1 (.string ⟨#[]⟩)) 2 (.slice none 0 0)) 3 (.string ⟨#[]⟩)) 4 (.slice none 0 0)) 5 (.int .i64 0)) 6 (.string ⟨#[]⟩))
        exact rends_zero hend hfit.out ((only7 w.heap.size w6 _ _ _ _ _ _ _).below (Nat.le_refl _)) hB6.out
      | true =>
        replace hfit : Hid (fits s = true) := Lib.hid (by rw [hfit.out, hg])
        replace hE6 := Lib.hid (hE6.out hg)
        go_wp2
        have hend : Blk (((((((w6.setCell ⟨w.heap.size, 0, none⟩ (.int .i64 o.kind)).setCell ⟨w.heap.size, 1, none⟩ (.string o.data)).setCell ⟨w.heap.size, 2, none⟩ (.slice ea o.ents.length ec)).setCell ⟨w.heap.size, 3, none⟩ (.string o.tree)).setCell ⟨w.heap.size, 4, none⟩ (.slice pa o.pars.length pc)).setCell ⟨w.heap.size, 5, none⟩ (.int .i64 o.height)).setCell ⟨w.heap.size, 6, none⟩ (.string o.note)) w.heap.size #[.int .i64 o.kind, .string o.data, .slice ea o.ents.length ec, .string o.tree, .slice pa o.pars.length pc, .int .i64 o.height, .string o.note] 25 := (Blk.set (Blk.set (Blk.set (Blk.set (Blk.set (Blk.set (Blk.set hr6.out 0 (.int .i64 o.kind)) 1 (.string o.data)) 2 (.slice ea o.ents.length ec)) 3 (.string o.tree)) 4 (.slice pa o.pars.length pc)) 5 (.int .i64 o.height)) 6 (.string o.note))
        exact rends_object hend hfit.out hE6.out (only7 w.heap.size w6 _ _ _ _ _ _ _) hB6.out
    · have d1 : (((s[0]'i2).toNat : Int) == 1) = false := by simpa using k1
      by_cases k23 : ((s[0]'i2).toNat : Int) = 2 ∨ ((s[0]'i2).toNat : Int) = 3
      · have hrd := Lib.hid (Oct.RR.new (s.extract 1 s.size) ((w.alloc (.cells #[.int .i64 0, .string ⟨#[]⟩, .slice none 0 0, .string ⟨#[]⟩, .slice none 0 0, .int .i64 0, .string ⟨#[]⟩] 25)).alloc (.cells #[.int .i64 0, .string ⟨#[]⟩, .slice none 0 0, .string ⟨#[]⟩, .slice none 0 0, .int .i64 0, .string ⟨#[]⟩] 25)))
        have hb3 := Lib.hid (b_alloc ((w.alloc (.cells #[.int .i64 0, .string ⟨#[]⟩, .slice none 0 0, .string ⟨#[]⟩, .slice none 0 0, .int .i64 0, .string ⟨#[]⟩] 25)).alloc (.cells #[.int .i64 0, .string ⟨#[]⟩, .slice none 0 0, .string ⟨#[]⟩, .slice none 0 0, .int .i64 0, .string ⟨#[]⟩] 25)) (.cells #[.string (s.extract 1 s.size), .int .i64 0, .bool false] 90))
        have hNew := Lib.hid (fun w => Oct.RefNew_calls (s.extract 1 s.size) w)
        have hSz : Hid ((s.extract 1 s.size).size ≤ 140737488351232) := Lib.hid (by rw [Oct.extract_size s 1 s.size (Nat.le_refl _)]; omega)
        rw [hsz.out] at hrd
        have hsz3 : Hid ((((w.alloc (.cells #[.int .i64 0, .string ⟨#[]⟩, .slice none 0 0, .string ⟨#[]⟩, .slice none 0 0, .int .i64 0, .string ⟨#[]⟩] 25)).alloc (.cells #[.int .i64 0, .string ⟨#[]⟩, .slice none 0 0, .string ⟨#[]⟩, .slice none 0 0, .int .i64 0, .string ⟨#[]⟩] 25)).alloc (.cells #[.string (s.extract 1 s.size), .int .i64 0, .bool false] 90)).heap.size = w.heap.size + 3) := Lib.hid (by simp)
        replace hr := Lib.hid (hr.out.alloc (.cells #[.string (s.extract 1 s.size), .int .i64 0, .bool false] 90))
        replace hx := Lib.hid (hx.out.alloc (.cells #[.string (s.extract 1 s.size), .int .i64 0, .bool false] 90))
        replace hB := Lib.hid (below_next hB.out hb3.out)
        clear hb3
        by_cases k2 : ((s[0]'i2).toNat : Int) = 2
        · have d2 : (((s[0]'i2).toNat : Int) == 2) = true := by simpa using k2
          replace hk0 : Hid (dec s = rdTree ⟨s.extract 1 s.size, false⟩) := Lib.hid (by rw [hk0.out, if_neg k1, if_pos k2])
          replace k1 := Lib.hid k1
          replace k2 := Lib.hid k2
          clear k23
          go_enter Tryd.func20, Tryd.ntmps20
          go_wp2_with fail
          refine (hNew.out _).mono ?_
          rintro e w3 ⟨rfl, rfl⟩
          go_wp2_with fail
          generalize s.extract 1 s.size = S at *
          generalize ((w.alloc (.cells #[.int .i64 0, .string ⟨#[]⟩, .slice none 0 0, .string ⟨#[]⟩, .slice none 0 0, .int .i64 0, .string ⟨#[]⟩] 25)).alloc (.cells #[.int .i64 0, .string ⟨#[]⟩, .slice none 0 0, .string ⟨#[]⟩, .slice none 0 0, .int .i64 0, .string ⟨#[]⟩] 25)).alloc (.cells #[.string S, .int .i64 0, .bool false] 90) = w3 at *
          refine (Rtree_calls (w.heap.size + 2) S ⟨S, false⟩ w3 hSz.out hrd.out).mono ?_
          rintro e w4 ⟨⟨L, q', ea, ec, eb, eo, rfl, hE, hec, heb, hq, hT, hLm⟩, hbt⟩
          have hft := Lib.hid (fits_tree hk0.out hT)
          replace hft := hft.out
          clear hT hk0 d2 d1
          have hxb : Hid (Blk w4 (w.heap.size + 1) #[.int .i64 0, .string ⟨#[]⟩, .slice none 0 0, .string ⟨#[]⟩, .slice none 0 0, .int .i64 0, .string ⟨#[]⟩] 25) := Lib.hid ((hbt.block (w.heap.size + 1) (by have := hsz3.out; omega) (by omega)).trans hx.out)
          have hrb : Hid (Blk w4 w.heap.size #[.int .i64 0, .string ⟨#[]⟩, .slice none 0 0, .string ⟨#[]⟩, .slice none 0 0, .int .i64 0, .string ⟨#[]⟩] 25) := Lib.hid ((hbt.block w.heap.size (by have := hsz3.out; omega) (by omega)).trans hr.out)
          have hB4 := Lib.hid (hB.out.trans (hbt.toBelow (B := w.heap.size) (by omega) (by have := hsz3.out; omega)))
          have d0 := hxb.out.cell 0 (v := .int .i64 0) rfl
          have d1 := hxb.out.cell 1 (v := .string ⟨#[]⟩) rfl
          have d2 := hxb.out.cell 2 (v := .slice none 0 0) rfl
          have d3 := hxb.out.cell 3 (v := .string ⟨#[]⟩) rfl
          have d4 := hxb.out.cell 4 (v := .slice none 0 0) rfl
          have d5 := hxb.out.cell 5 (v := .int .i64 0) rfl
          have d6 := hxb.out.cell 6 (v := .string ⟨#[]⟩) rfl
          have e0 := hxb.out.frozen 0
          have e1 := hxb.out.frozen 1
          have e2 := hxb.out.frozen 2
          have e3 := hxb.out.frozen 3
          have e4 := hxb.out.frozen 4
          have e5 := hxb.out.frozen 5
          have e6 := hxb.out.frozen 6
          have ho5 := Lib.hid (only7 (w.heap.size + 1) w4 (.int .i64 2) (.string ⟨#[]⟩) (.slice ea L.length ec) (.string ⟨#[]⟩) (.slice none 0 0) (.int .i64 0) (.string ⟨#[]⟩))
          have hx5 : Hid (Blk (((((((w4.setCell ⟨w.heap.size + 1, 0, none⟩ (.int .i64 2)).setCell ⟨w.heap.size + 1, 1, none⟩ (.string ⟨#[]⟩)).setCell ⟨w.heap.size + 1, 2, none⟩ (.slice ea L.length ec)).setCell ⟨w.heap.size + 1, 3, none⟩ (.string ⟨#[]⟩)).setCell ⟨w.heap.size + 1, 4, none⟩ (.slice none 0 0)).setCell ⟨w.heap.size + 1, 5, none⟩ (.int .i64 0)).setCell ⟨w.heap.size + 1, 6, none⟩ (.string ⟨#[]⟩)) (w.heap.size + 1) #[.int .i64 2, .string ⟨#[]⟩, .slice ea L.length ec, .string ⟨#[]⟩, .slice none 0 0, .int .i64 0, .string ⟨#[]⟩] 25) := Lib.hid (Blk.set (Blk.set (Blk.set (Blk.set (Blk.set (Blk.set (Blk.set hxb.out 0 (.int .i64 2)) 1 (.string ⟨#[]⟩)) 2 (.slice ea L.length ec)) 3 (.string ⟨#[]⟩)) 4 (.slice none 0 0)) 5 (.int .i64 0)) 6 (.string ⟨#[]⟩))
          have hr5 := Lib.hid (hrb.out.only ho5.out (by omega))
          have hB5 := Lib.hid (hB4.out.trans (ho5.out.below (Nat.le_succ _)))
          have hq5 := Lib.hid (hq.only ho5.out (by omega))
          have hE5 := Lib.hid (hE.only ho5.out (fun h => by have := heb h; have := hsz3.out; omega))
          have heb5 : Hid (0 < L.length → w.heap.size < eb) := Lib.hid (fun h => by have := heb h; have := hsz3.out; omega)
          clear hbt hE heb hq hB hr hx hrb hB4 hrd hNew
          go_upto_region 13 with (fail)
          generalize (((((((w4.setCell ⟨w.heap.size + 1, 0, none⟩ (.int .i64 2)).setCell ⟨w.heap.size + 1, 1, none⟩ (.string ⟨#[]⟩)).setCell ⟨w.heap.size + 1, 2, none⟩ (.slice ea L.length ec)).setCell ⟨w.heap.size + 1, 3, none⟩ (.string ⟨#[]⟩)).setCell ⟨w.heap.size + 1, 4, none⟩ (.slice none 0 0)).setCell ⟨w.heap.size + 1, 5, none⟩ (.int .i64 0)).setCell ⟨w.heap.size + 1, 6, none⟩ (.string ⟨#[]⟩)) = w5 at *
          clear d0 d1 d2 d3 d4 d5 d6 e0 e1 e2 e3 e4 e5 e6 hxb ho5
          go_wp2_with fail
          refine (Oct.RefWhole_calls (w.heap.size + 2) S q' w5 hSz.out hq5.out).mono ?_
          rintro e w6' ⟨rfl, nd, rfl⟩
          have hr : Hid (Blk (w5.drewN nd) w.heap.size #[.int .i64 0, .string ⟨#[]⟩, .slice none 0 0, .string ⟨#[]⟩, .slice none 0 0, .int .i64 0, .string ⟨#[]⟩] 25) := Lib.hid (hr5.out.below (drewN_below w5 nd) hr5.out.lt)
          have hB := Lib.hid (below_next hB5.out (drewN_below w5 nd))
          cases hw : Oct.whole q' with
          | false =>
            have hfit := Lib.hid (hft.1 hw)
            clear hft
            have d0 := hr.out.cell 0 (v := .int .i64 0) rfl
            have d1 := hr.out.cell 1 (v := .string ⟨#[]⟩) rfl
            have d2 := hr.out.cell 2 (v := .slice none 0 0) rfl
            have d3 := hr.out.cell 3 (v := .string ⟨#[]⟩) rfl
            have d4 := hr.out.cell 4 (v := .slice none 0 0) rfl
            have d5 := hr.out.cell 5 (v := .int .i64 0) rfl
            have d6 := hr.out.cell 6 (v := .string ⟨#[]⟩) rfl
            have e0 := hr.out.frozen 0
            have e1 := hr.out.frozen 1
            have e2 := hr.out.frozen 2
            have e3 := hr.out.frozen 3
            have e4 := hr.out.frozen 4
            have e5 := hr.out.frozen 5
            have e6 := hr.out.frozen 6
            go_wp2
            have hend : Blk ((((((((w5.drewN nd).setCell ⟨w.heap.size, 0, none⟩ (.int .i64 0)).setCell ⟨w.heap.size, 1, none⟩ (.string ⟨#[]⟩)).setCell ⟨w.heap.size, 2, none⟩ (.slice none 0 0)).setCell ⟨w.heap.size, 3, none⟩ (.string ⟨#[]⟩)).setCell ⟨w.heap.size, 4, none⟩ (.slice none 0 0)).setCell ⟨w.heap.size, 5, none⟩ (.int .i64 0)).setCell ⟨w.heap.size, 6, none⟩ (.string ⟨#[]⟩)) w.heap.size #[.int .i64 0, .string ⟨#[]⟩, .slice none 0 0, .string ⟨#[]⟩, .slice none 0 0, .int .i64 0, .string ⟨#[]⟩] 25 := (Blk.set (Blk.set (Blk.set (Blk.set (Blk.set (Blk.set (Blk.set hr.out 0 (.int .i64 0)) 1 (.string ⟨#[]⟩)) 2 (.slice none 0 0)) 3 (.string ⟨#[]⟩)) 4 (.slice none 0 0)) 5 (.int .i64 0)) 6 (.string ⟨#[]⟩))
            exact rends_zero hend hfit.out ((only7 w.heap.size (w5.drewN nd) _ _ _ _ _ _ _).below (Nat.le_refl _)) hB.out
          | true =>
            obtain ⟨hf1, hf2⟩ := hft.2 hw
            obtain ⟨o, ea, ec, pa, pc, hgot⟩ : ∃ (o : Obj) (ea : Option Addr) (ec : Nat) (pa : Option Addr) (pc : Nat), Hid (Got2 s w (w5.drewN nd) o ea ec pa pc) := ⟨⟨2, empty, L, empty, [], 0, empty⟩, ea, ec, none, 0, Lib.hid ⟨hf1, fun _ => hf2, hx5.out.below (drewN_below w5 nd) hx5.out.lt, ⟨eb, eo, hE5.out.below (drewN_below w5 nd), heb5.out⟩, ⟨0, 0, ParsAt.nil _, fun h => absurd h (Nat.lt_irrefl _)⟩, hec, Nat.le_refl _, hLm, Nat.zero_le _⟩⟩
            clear hft hx5 hE5 hf1 hf2 hr5 hB5 hq5
            generalize w5.drewN nd = w7 at *
            have x0 := hgot.out.blk.cell 0 (v := .int .i64 o.kind) rfl
            have x1 := hgot.out.blk.cell 1 (v := .string o.data) rfl
            have x2 := hgot.out.blk.cell 2 (v := .slice ea o.ents.length ec) rfl
            have x3 := hgot.out.blk.cell 3 (v := .string o.tree) rfl
            have x4 := hgot.out.blk.cell 4 (v := .slice pa o.pars.length pc) rfl
            have x5 := hgot.out.blk.cell 5 (v := .int .i64 o.height) rfl
            have x6 := hgot.out.blk.cell 6 (v := .string o.note) rfl
            have hG := Lib.hid (RGood_calls o ea ec pa pc w7 hgot.out.at_ hgot.out.el hgot.out.pl)
            go_wp2_with fail
            refine hG.out.mono ?_
            rintro e w6 ⟨rfl, b6⟩
            have hr6 : Hid (Blk w6 w.heap.size #[.int .i64 0, .string ⟨#[]⟩, .slice none 0 0, .string ⟨#[]⟩, .slice none 0 0, .int .i64 0, .string ⟨#[]⟩] 25) := Lib.hid (hr.out.below b6 hr.out.lt)
            have hx6 := Lib.hid (hgot.out.blk.below b6 hgot.out.blk.lt)
            have hB6 := Lib.hid (below_next2 hB.out b6)
            have hE6 := Lib.hid (fun hg => hgot.out.after hg b6)
            have hfit := Lib.hid hgot.out.fits
            clear x0 x1 x2 x3 x4 x5 x6 hG hr hB b6 hgot
            have d0 := hr6.out.cell 0 (v := .int .i64 0) rfl
            have d1 := hr6.out.cell 1 (v := .string ⟨#[]⟩) rfl
            have d2 := hr6.out.cell 2 (v := .slice none 0 0) rfl
            have d3 := hr6.out.cell 3 (v := .string ⟨#[]⟩) rfl
            have d4 := hr6.out.cell 4 (v := .slice none 0 0) rfl
            have d5 := hr6.out.cell 5 (v := .int .i64 0) rfl
            have d6 := hr6.out.cell 6 (v := .string ⟨#[]⟩) rfl
            have e0 := hr6.out.frozen 0
            have e1 := hr6.out.frozen 1
            have e2 := hr6.out.frozen 2
            have e3 := hr6.out.frozen 3
            have e4 := hr6.out.frozen 4
            have e5 := hr6.out.frozen 5
            have e6 := hr6.out.frozen 6
            have x0 := hx6.out.cell 0 (v := .int .i64 o.kind) rfl
            have x1 := hx6.out.cell 1 (v := .string o.data) rfl
            have x2 := hx6.out.cell 2 (v := .slice ea o.ents.length ec) rfl
            have x3 := hx6.out.cell 3 (v := .string o.tree) rfl
            have x4 := hx6.out.cell 4 (v := .slice pa o.pars.length pc) rfl
            have x5 := hx6.out.cell 5 (v := .int .i64 o.height) rfl
            have x6 := hx6.out.cell 6 (v := .string o.note) rfl
            cases hg : good o with
            | false =>
              replace hfit : Hid (fits s = false) := Lib.hid (by rw [hfit.out, hg])
              go_wp2
              have hend : Blk (((((((w6.setCell ⟨w.heap.size, 0, none⟩ (.int .i64 0)).setCell ⟨w.heap.size, 1, none⟩ (.string ⟨#[]⟩)).setCell ⟨w.heap.size, 2, none⟩ (.slice none 0 0)).setCell ⟨w.heap.size, 3, none⟩ (.string ⟨#[]⟩)).setCell ⟨w.heap.size, 4, none⟩ (.slice none 0 0)).setCell ⟨w.heap.size, 5, none⟩ (.int .i64 0)).setCell ⟨w.heap.size, 6, none⟩ (.string ⟨#[]⟩)) w.heap.size #[.int .i64 0, .string ⟨#[]⟩, .slice none 0 0, .string ⟨#[]⟩, .slice none 0 0, .int .i64 0, .string ⟨#[]⟩] 25 := (Blk.set (Blk.set (Blk.set (Blk.set (Blk.set (Blk.set (Blk.set hr6.out 0 (.int .i64 0)) 1 (.string ⟨#[]⟩)) 2 (.slice none 0 0)) 3 (.string ⟨#[]⟩)) 4 (.slice none 0 0)) 5 (.int .i64 0)) 6 (.string ⟨#[]⟩))
              exact rends_zero hend hfit.out ((only7 w.heap.size w6 _ _ _ _ _ _ _).below (Nat.le_refl _)) hB6.out
            | true =>
              replace hfit : Hid (fits s = true) := Lib.hid (by rw [hfit.out, hg])
              replace hE6 := Lib.hid (hE6.out hg)
              go_wp2
              have hend : Blk (((((((w6.setCell ⟨w.heap.size, 0, none⟩ (.int .i64 o.kind)).setCell ⟨w.heap.size, 1, none⟩ (.string o.data)).setCell ⟨w.heap.size, 2, none⟩ (.slice ea o.ents.length ec)).setCell ⟨w.heap.size, 3, none⟩ (.string o.tree)).setCell ⟨w.heap.size, 4, none⟩ (.slice pa o.pars.length pc)).setCell ⟨w.heap.size, 5, none⟩ (.int .i64 o.height)).setCell ⟨w.heap.size, 6, none⟩ (.string o.note)) w.heap.size #[.int .i64 o.kind, .string o.data, .slice ea o.ents.length ec, .string o.tree, .slice pa o.pars.length pc, .int .i64 o.height, .string o.note] 25 := (Blk.set (Blk.set (Blk.set (Blk.set (Blk.set (Blk.set (Blk.set hr6.out 0 (.int .i64 o.kind)) 1 (.string o.data)) 2 (.slice ea o.ents.length ec)) 3 (.string o.tree)) 4 (.slice pa o.pars.length pc)) 5 (.int .i64 o.height)) 6 (.string o.note))
              exact rends_object hend hfit.out hE6.out (only7 w.heap.size w6 _ _ _ _ _ _ _) hB6.out
        · have d2 : (((s[0]'i2).toNat : Int) == 2) = false := by simpa using k2
          have k3 := k23.resolve_left k2
          have d3 : (((s[0]'i2).toNat : Int) == 3) = true := by simpa using k3
          replace hk0 : Hid (dec s = rdCommit ⟨s.extract 1 s.size, false⟩) := Lib.hid (by rw [hk0.out, if_neg k1, if_neg k2, if_pos k3])
          replace k1 := Lib.hid k1
          replace k2 := Lib.hid k2
          replace k3 := Lib.hid k3
          clear k23
          go_enter Tryd.func20, Tryd.ntmps20
          go_wp2_with fail
          refine (hNew.out _).mono ?_
          rintro e w3 ⟨rfl, rfl⟩
          go_wp2_with fail
          generalize s.extract 1 s.size = S at *
          generalize ((w.alloc (.cells #[.int .i64 0, .string ⟨#[]⟩, .slice none 0 0, .string ⟨#[]⟩, .slice none 0 0, .int .i64 0, .string ⟨#[]⟩] 25)).alloc (.cells #[.int .i64 0, .string ⟨#[]⟩, .slice none 0 0, .string ⟨#[]⟩, .slice none 0 0, .int .i64 0, .string ⟨#[]⟩] 25)).alloc (.cells #[.string S, .int .i64 0, .bool false] 90) = w3 at *
          refine (Rcommit_calls (w.heap.size + 2) S ⟨S, false⟩ w3 hSz.out hrd.out).mono ?_
          rintro e w4 ⟨⟨tr, nt, M, ht, q', pa, pc, pb, po, rfl, hE, hec, heb, hq, hT, hLm⟩, hbt⟩
          have hft := fits_commit rfl hk0.out hT
          clear hT hk0 d2 d1 d3
          have hxb : Hid (Blk w4 (w.heap.size + 1) #[.int .i64 0, .string ⟨#[]⟩, .slice none 0 0, .string ⟨#[]⟩, .slice none 0 0, .int .i64 0, .string ⟨#[]⟩] 25) := Lib.hid ((hbt.block (w.heap.size + 1) (by have := hsz3.out; omega) (by omega)).trans hx.out)
          have hrb : Hid (Blk w4 w.heap.size #[.int .i64 0, .string ⟨#[]⟩, .slice none 0 0, .string ⟨#[]⟩, .slice none 0 0, .int .i64 0, .string ⟨#[]⟩] 25) := Lib.hid ((hbt.block w.heap.size (by have := hsz3.out; omega) (by omega)).trans hr.out)
          have hB4 := Lib.hid (hB.out.trans (hbt.toBelow (B := w.heap.size) (by omega) (by have := hsz3.out; omega)))
          have d0 := hxb.out.cell 0 (v := .int .i64 0) rfl
          have d1 := hxb.out.cell 1 (v := .string ⟨#[]⟩) rfl
          have d2 := hxb.out.cell 2 (v := .slice none 0 0) rfl
          have d3 := hxb.out.cell 3 (v := .string ⟨#[]⟩) rfl
          have d4 := hxb.out.cell 4 (v := .slice none 0 0) rfl
          have d5 := hxb.out.cell 5 (v := .int .i64 0) rfl
          have d6 := hxb.out.cell 6 (v := .string ⟨#[]⟩) rfl
          have e0 := hxb.out.frozen 0
          have e1 := hxb.out.frozen 1
          have e2 := hxb.out.frozen 2
          have e3 := hxb.out.frozen 3
          have e4 := hxb.out.frozen 4
          have e5 := hxb.out.frozen 5
          have e6 := hxb.out.frozen 6
          have ho5 := Lib.hid (only7 (w.heap.size + 1) w4 (.int .i64 3) (.string ⟨#[]⟩) (.slice none 0 0) (.string tr) (.slice pa M.length pc) (.int .i64 ht) (.string nt))
          have hx5 : Hid (Blk (((((((w4.setCell ⟨w.heap.size + 1, 0, none⟩ (.int .i64 3)).setCell ⟨w.heap.size + 1, 1, none⟩ (.string ⟨#[]⟩)).setCell ⟨w.heap.size + 1, 2, none⟩ (.slice none 0 0)).setCell ⟨w.heap.size + 1, 3, none⟩ (.string tr)).setCell ⟨w.heap.size + 1, 4, none⟩ (.slice pa M.length pc)).setCell ⟨w.heap.size + 1, 5, none⟩ (.int .i64 ht)).setCell ⟨w.heap.size + 1, 6, none⟩ (.string nt)) (w.heap.size + 1) #[.int .i64 3, .string ⟨#[]⟩, .slice none 0 0, .string tr, .slice pa M.length pc, .int .i64 ht, .string nt] 25) := Lib.hid (Blk.set (Blk.set (Blk.set (Blk.set (Blk.set (Blk.set (Blk.set hxb.out 0 (.int .i64 3)) 1 (.string ⟨#[]⟩)) 2 (.slice none 0 0)) 3 (.string tr)) 4 (.slice pa M.length pc)) 5 (.int .i64 ht)) 6 (.string nt))
          have hr5 := Lib.hid (hrb.out.only ho5.out (by omega))
          have hB5 := Lib.hid (hB4.out.trans (ho5.out.below (Nat.le_succ _)))
          have hq5 := Lib.hid (hq.only ho5.out (by omega))
          have hE5 := Lib.hid (hE.only ho5.out (fun h => by have := heb h; have := hsz3.out; omega))
          have heb5 : Hid (0 < M.length → w.heap.size < pb) := Lib.hid (fun h => by have := heb h; have := hsz3.out; omega)
          clear hbt hE heb hq hB hr hx hrb hB4 hrd hNew
          go_upto_region 13 with (fail)
          generalize (((((((w4.setCell ⟨w.heap.size + 1, 0, none⟩ (.int .i64 3)).setCell ⟨w.heap.size + 1, 1, none⟩ (.string ⟨#[]⟩)).setCell ⟨w.heap.size + 1, 2, none⟩ (.slice none 0 0)).setCell ⟨w.heap.size + 1, 3, none⟩ (.string tr)).setCell ⟨w.heap.size + 1, 4, none⟩ (.slice pa M.length pc)).setCell ⟨w.heap.size + 1, 5, none⟩ (.int .i64 ht)).setCell ⟨w.heap.size + 1, 6, none⟩ (.string nt)) = w5 at *
          clear d0 d1 d2 d3 d4 d5 d6 e0 e1 e2 e3 e4 e5 e6 hxb ho5
          go_wp2_with fail
          refine (Oct.RefWhole_calls (w.heap.size + 2) S q' w5 hSz.out hq5.out).mono ?_
          rintro e w6' ⟨rfl, nd, rfl⟩
          have hr : Hid (Blk (w5.drewN nd) w.heap.size #[.int .i64 0, .string ⟨#[]⟩, .slice none 0 0, .string ⟨#[]⟩, .slice none 0 0, .int .i64 0, .string ⟨#[]⟩] 25) := Lib.hid (hr5.out.below (drewN_below w5 nd) hr5.out.lt)
          have hB := Lib.hid (below_next hB5.out (drewN_below w5 nd))
          cases hw : Oct.whole q' with
          | false =>
            have hfit := Lib.hid (hft.1 hw)
            clear hft
            have d0 := hr.out.cell 0 (v := .int .i64 0) rfl
            have d1 := hr.out.cell 1 (v := .string ⟨#[]⟩) rfl
            have d2 := hr.out.cell 2 (v := .slice none 0 0) rfl
            have d3 := hr.out.cell 3 (v := .string ⟨#[]⟩) rfl
            have d4 := hr.out.cell 4 (v := .slice none 0 0) rfl
            have d5 := hr.out.cell 5 (v := .int .i64 0) rfl
            have d6 := hr.out.cell 6 (v := .string ⟨#[]⟩) rfl
            have e0 := hr.out.frozen 0
            have e1 := hr.out.frozen 1
            have e2 := hr.out.frozen 2
            have e3 := hr.out.frozen 3
            have e4 := hr.out.frozen 4
            have e5 := hr.out.frozen 5
            have e6 := hr.out.frozen 6
            go_wp2
            have hend : Blk ((((((((w5.drewN nd).setCell ⟨w.heap.size, 0, none⟩ (.int .i64 0)).setCell ⟨w.heap.size, 1, none⟩ (.string ⟨#[]⟩)).setCell ⟨w.heap.size, 2, none⟩ (.slice none 0 0)).setCell ⟨w.heap.size, 3, none⟩ (.string ⟨#[]⟩)).setCell ⟨w.heap.size, 4, none⟩ (.slice none 0 0)).setCell ⟨w.heap.size, 5, none⟩ (.int .i64 0)).setCell ⟨w.heap.size, 6, none⟩ (.string ⟨#[]⟩)) w.heap.size #[.int .i64 0, .string ⟨#[]⟩, .slice none 0 0, .string ⟨#[]⟩, .slice none 0 0, .int .i64 0, .string ⟨#[]⟩] 25 := (Blk.set (Blk.set (Blk.set (Blk.set (Blk.set (Blk.set (Blk.set hr.out 0 (.int .i64 0)) 1 (.string ⟨#[]⟩)) 2 (.slice none 0 0)) 3 (.string ⟨#[]⟩)) 4 (.slice none 0 0)) 5 (.int .i64 0)) 6 (.string ⟨#[]⟩))
            exact rends_zero hend hfit.out ((only7 w.heap.size (w5.drewN nd) _ _ _ _ _ _ _).below (Nat.le_refl _)) hB.out
          | true =>
            obtain ⟨hf1, hf2⟩ := hft.2 hw
            obtain ⟨o, ea, ec, pa, pc, hgot⟩ : ∃ (o : Obj) (ea : Option Addr) (ec : Nat) (pa : Option Addr) (pc : Nat), Hid (Got2 s w (w5.drewN nd) o ea ec pa pc) := ⟨⟨3, empty, [], tr, M, ht, nt⟩, none, 0, pa, pc, Lib.hid ⟨hf1, hf2, hx5.out.below (drewN_below w5 nd) hx5.out.lt, ⟨0, 0, EntsAt.nil _, fun h => absurd h (Nat.lt_irrefl _)⟩, ⟨pb, po, hE5.out.below (drewN_below w5 nd), heb5.out⟩, Nat.le_refl _, hec, Nat.zero_le _, hLm⟩⟩
            clear hft hx5 hE5 hf1 hf2 hr5 hB5 hq5
            generalize w5.drewN nd = w7 at *
            have x0 := hgot.out.blk.cell 0 (v := .int .i64 o.kind) rfl
            have x1 := hgot.out.blk.cell 1 (v := .string o.data) rfl
            have x2 := hgot.out.blk.cell 2 (v := .slice ea o.ents.length ec) rfl
            have x3 := hgot.out.blk.cell 3 (v := .string o.tree) rfl
            have x4 := hgot.out.blk.cell 4 (v := .slice pa o.pars.length pc) rfl
            have x5 := hgot.out.blk.cell 5 (v := .int .i64 o.height) rfl
            have x6 := hgot.out.blk.cell 6 (v := .string o.note) rfl
            have hG := Lib.hid (RGood_calls o ea ec pa pc w7 hgot.out.at_ hgot.out.el hgot.out.pl)
            go_wp2_with fail
            refine hG.out.mono ?_
            rintro e w6 ⟨rfl, b6⟩
            have hr6 : Hid (Blk w6 w.heap.size #[.int .i64 0, .string ⟨#[]⟩, .slice none 0 0, .string ⟨#[]⟩, .slice none 0 0, .int .i64 0, .string ⟨#[]⟩] 25) := Lib.hid (hr.out.below b6 hr.out.lt)
            have hx6 := Lib.hid (hgot.out.blk.below b6 hgot.out.blk.lt)
            have hB6 := Lib.hid (below_next2 hB.out b6)
            have hE6 := Lib.hid (fun hg => hgot.out.after hg b6)
            have hfit := Lib.hid hgot.out.fits
            clear x0 x1 x2 x3 x4 x5 x6 hG hr hB b6 hgot
            have d0 := hr6.out.cell 0 (v := .int .i64 0) rfl
            have d1 := hr6.out.cell 1 (v := .string ⟨#[]⟩) rfl
            have d2 := hr6.out.cell 2 (v := .slice none 0 0) rfl
            have d3 := hr6.out.cell 3 (v := .string ⟨#[]⟩) rfl
            have d4 := hr6.out.cell 4 (v := .slice none 0 0) rfl
            have d5 := hr6.out.cell 5 (v := .int .i64 0) rfl
            have d6 := hr6.out.cell 6 (v := .string ⟨#[]⟩) rfl
            have e0 := hr6.out.frozen 0
            have e1 := hr6.out.frozen 1
            have e2 := hr6.out.frozen 2
            have e3 := hr6.out.frozen 3
            have e4 := hr6.out.frozen 4
            have e5 := hr6.out.frozen 5
            have e6 := hr6.out.frozen 6
            have x0 := hx6.out.cell 0 (v := .int .i64 o.kind) rfl
            have x1 := hx6.out.cell 1 (v := .string o.data) rfl
            have x2 := hx6.out.cell 2 (v := .slice ea o.ents.length ec) rfl
            have x3 := hx6.out.cell 3 (v := .string o.tree) rfl
            have x4 := hx6.out.cell 4 (v := .slice pa o.pars.length pc) rfl
            have x5 := hx6.out.cell 5 (v := .int .i64 o.height) rfl
            have x6 := hx6.out.cell 6 (v := .string o.note) rfl
            cases hg : good o with
            | false =>
              replace hfit : Hid (fits s = false) := Lib.hid (by rw [hfit.out, hg])
              go_wp2
              have hend : Blk (((((((w6.setCell ⟨w.heap.size, 0, none⟩ (.int .i64 0)).setCell ⟨w.heap.size, 1, none⟩ (.string ⟨#[]⟩)).setCell ⟨w.heap.size, 2, none⟩ (.slice none 0 0)).setCell ⟨w.heap.size, 3, none⟩ (.string ⟨#[]⟩)).setCell ⟨w.heap.size, 4, none⟩ (.slice none 0 0)).setCell ⟨w.heap.size, 5, none⟩ (.int .i64 0)).setCell ⟨w.heap.size, 6, none⟩ (.string ⟨#[]⟩)) w.heap.size #[.int .i64 0, .string ⟨#[]⟩, .slice none 0 0, .string ⟨#[]⟩, .slice none 0 0, .int .i64 0, .string ⟨#[]⟩] 25 := (Blk.set (Blk.set (Blk.set (Blk.set (Blk.set (Blk.set (Blk.set hr6.out 0 (.int .i64 0)) 1 (.string ⟨#[]⟩)) 2 (.slice none 0 0)) 3 (.string ⟨#[]⟩)) 4 (.slice none 0 0)) 5 (.int .i64 0)) 6 (.string ⟨#[]⟩))
              exact rends_zero hend hfit.out ((only7 w.heap.size w6 _ _ _ _ _ _ _).below (Nat.le_refl _)) hB6.out
            | true =>
              replace hfit : Hid (fits s = true) := Lib.hid (by rw [hfit.out, hg])
              replace hE6 := Lib.hid (hE6.out hg)
              go_wp2
              have hend : Blk (((((((w6.setCell ⟨w.heap.size, 0, none⟩ (.int .i64 o.kind)).setCell ⟨w.heap.size, 1, none⟩ (.string o.data)).setCell ⟨w.heap.size, 2, none⟩ (.slice ea o.ents.length ec)).setCell ⟨w.heap.size, 3, none⟩ (.string o.tree)).setCell ⟨w.heap.size, 4, none⟩ (.slice pa o.pars.length pc)).setCell ⟨w.heap.size, 5, none⟩ (.int .i64 o.height)).setCell ⟨w.heap.size, 6, none⟩ (.string o.note)) w.heap.size #[.int .i64 o.kind, .string o.data, .slice ea o.ents.length ec, .string o.tree, .slice pa o.pars.length pc, .int .i64 o.height, .string o.note] 25 := (Blk.set (Blk.set (Blk.set (Blk.set (Blk.set (Blk.set (Blk.set hr6.out 0 (.int .i64 o.kind)) 1 (.string o.data)) 2 (.slice ea o.ents.length ec)) 3 (.string o.tree)) 4 (.slice pa o.pars.length pc)) 5 (.int .i64 o.height)) 6 (.string o.note))
              exact rends_object hend hfit.out hE6.out (only7 w.heap.size w6 _ _ _ _ _ _ _) hB6.out
      · have k2 : ¬ ((s[0]'i2).toNat : Int) = 2 := fun h => k23 (Or.inl h)
        have k3 : ¬ ((s[0]'i2).toNat : Int) = 3 := fun h => k23 (Or.inr h)
        have d2 : (((s[0]'i2).toNat : Int) == 2) = false := by simpa using k2
        have d3 : (((s[0]'i2).toNat : Int) == 3) = false := by simpa using k3
        obtain ⟨o, ea, ec, pa, pc, hgot⟩ : ∃ (o : Obj) (ea : Option Addr) (ec : Nat) (pa : Option Addr) (pc : Nat), Hid (Got2 s w ((w.alloc (.cells #[.int .i64 0, .string ⟨#[]⟩, .slice none 0 0, .string ⟨#[]⟩, .slice none 0 0, .int .i64 0, .string ⟨#[]⟩] 25)).alloc (.cells #[.int .i64 0, .string ⟨#[]⟩, .slice none 0 0, .string ⟨#[]⟩, .slice none 0 0, .int .i64 0, .string ⟨#[]⟩] 25)) o ea ec pa pc) :=
          ⟨zero, none, 0, none, 0, Lib.hid ⟨by
            unfold fits
            rw [hk0.out, if_neg k1, if_neg k2, if_neg k3]
            dsimp only
            have : good ⟨((s[0]'i2).toNat : Int), empty, [], empty, [], 0, empty⟩ = false := by unfold good; dsimp only; rw [if_neg k1, if_neg k2, if_neg k3]
            rw [this, Bool.and_false]; rfl, fun h => (by cases h), new_two _ _ _ _, ⟨0, 0, EntsAt.nil _, fun h => absurd h (Nat.lt_irrefl _)⟩, ⟨0, 0, ParsAt.nil _, fun h => absurd h (Nat.lt_irrefl _)⟩, Nat.le_refl _, Nat.le_refl _, Nat.zero_le _, Nat.zero_le _⟩⟩
        replace k1 := Lib.hid k1
        replace k2 := Lib.hid k2
        replace k3 := Lib.hid k3
        clear hk0 hx hsz k23
        go_enter Tryd.func20, Tryd.ntmps20
        go_upto_region 15 with (fail)
        generalize (w.alloc (.cells #[.int .i64 0, .string ⟨#[]⟩, .slice none 0 0, .string ⟨#[]⟩, .slice none 0 0, .int .i64 0, .string ⟨#[]⟩] 25)).alloc (.cells #[.int .i64 0, .string ⟨#[]⟩, .slice none 0 0, .string ⟨#[]⟩, .slice none 0 0, .int .i64 0, .string ⟨#[]⟩] 25) = w4 at *
        have x0 := hgot.out.blk.cell 0 (v := .int .i64 o.kind) rfl
        have x1 := hgot.out.blk.cell 1 (v := .string o.data) rfl
        have x2 := hgot.out.blk.cell 2 (v := .slice ea o.ents.length ec) rfl
        have x3 := hgot.out.blk.cell 3 (v := .string o.tree) rfl
        have x4 := hgot.out.blk.cell 4 (v := .slice pa o.pars.length pc) rfl
        have x5 := hgot.out.blk.cell 5 (v := .int .i64 o.height) rfl
        have x6 := hgot.out.blk.cell 6 (v := .string o.note) rfl
        have hG := Lib.hid (RGood_calls o ea ec pa pc w4 hgot.out.at_ hgot.out.el hgot.out.pl)
        go_wp2_with fail
        refine hG.out.mono ?_
        rintro e w6 ⟨rfl, b6⟩
        have hr6 : Hid (Blk w6 w.heap.size #[.int .i64 0, .string ⟨#[]⟩, .slice none 0 0, .string ⟨#[]⟩, .slice none 0 0, .int .i64 0, .string ⟨#[]⟩] 25) := Lib.hid (hr.out.below b6 hr.out.lt)
        have hx6 := Lib.hid (hgot.out.blk.below b6 hgot.out.blk.lt)
        have hB6 := Lib.hid (below_next2 hB.out b6)
        have hE6 := Lib.hid (fun hg => hgot.out.after hg b6)
        have hfit := Lib.hid hgot.out.fits
        clear x0 x1 x2 x3 x4 x5 x6 hG hr hB b6 hgot
        have d0 := hr6.out.cell 0 (v := .int .i64 0) rfl
        have d1 := hr6.out.cell 1 (v := .string ⟨#[]⟩) rfl
        have d2 := hr6.out.cell 2 (v := .slice none 0 0) rfl
        have d3 := hr6.out.cell 3 (v := .string ⟨#[]⟩) rfl
        have d4 := hr6.out.cell 4 (v := .slice none 0 0) rfl
        have d5 := hr6.out.cell 5 (v := .int .i64 0) rfl
        have d6 := hr6.out.cell 6 (v := .string ⟨#[]⟩) rfl
        have e0 := hr6.out.frozen 0
        have e1 := hr6.out.frozen 1
        have e2 := hr6.out.frozen 2
        have e3 := hr6.out.frozen 3
        have e4 := hr6.out.frozen 4
        have e5 := hr6.out.frozen 5
        have e6 := hr6.out.frozen 6
        have x0 := hx6.out.cell 0 (v := .int .i64 o.kind) rfl
        have x1 := hx6.out.cell 1 (v := .string o.data) rfl
        have x2 := hx6.out.cell 2 (v := .slice ea o.ents.length ec) rfl
        have x3 := hx6.out.cell 3 (v := .string o.tree) rfl
        have x4 := hx6.out.cell 4 (v := .slice pa o.pars.length pc) rfl
        have x5 := hx6.out.cell 5 (v := .int .i64 o.height) rfl
        have x6 := hx6.out.cell 6 (v := .string o.note) rfl
        cases hg : good o with
        | false =>
          replace hfit : Hid (fits s = false) := Lib.hid (by rw [hfit.out, hg])
          go_wp2
          have hend : Blk (((((((w6.setCell ⟨w.heap.size, 0, none⟩ (.int .i64 0)).setCell ⟨w.heap.size, 1, none⟩ (.string ⟨#[]⟩)).setCell ⟨w.heap.size, 2, none⟩ (.slice none 0 0)).setCell ⟨w.heap.size, 3, none⟩ (.string ⟨#[]⟩)).setCell ⟨w.heap.size, 4, none⟩ (.slice none 0 0)).setCell ⟨w.heap.size, 5, none⟩ (.int .i64 0)).setCell ⟨w.heap.size, 6, none⟩ (.string ⟨#[]⟩)) w.heap.size #[.int .i64 0, .string ⟨#[]⟩, .slice none 0 0, .string ⟨#[]⟩, .slice none 0 0, .int .i64 0, .string ⟨#[]⟩] 25 := (Blk.set (Blk.set (Blk.set (Blk.set (Blk.set (Blk.set (Blk.set hr6.out 0 (.int .i64 0)) 1 (.string ⟨#[]⟩)) 2 (.slice none 0 0)) 3 (.string ⟨#[]⟩)) 4 (.slice none 0 0)) 5 (.int .i64 0)) 6 (.string ⟨#[]⟩))
          exact rends_zero hend hfit.out ((only7 w.heap.size w6 _ _ _ _ _ _ _).below (Nat.le_refl _)) hB6.out
        | true =>
          replace hfit : Hid (fits s = true) := Lib.hid (by rw [hfit.out, hg])
          replace hE6 := Lib.hid (hE6.out hg)
          go_wp2
          have hend : Blk (((((((w6.setCell ⟨w.heap.size, 0, none⟩ (.int .i64 o.kind)).setCell ⟨w.heap.size, 1, none⟩ (.string o.data)).setCell ⟨w.heap.size, 2, none⟩ (.slice ea o.ents.length ec)).setCell ⟨w.heap.size, 3, none⟩ (.string o.tree)).setCell ⟨w.heap.size, 4, none⟩ (.slice pa o.pars.length pc)).setCell ⟨w.heap.size, 5, none⟩ (.int .i64 o.height)).setCell ⟨w.heap.size, 6, none⟩ (.string o.note)) w.heap.size #[.int .i64 o.kind, .string o.data, .slice ea o.ents.length ec, .string o.tree, .slice pa o.pars.length pc, .int .i64 o.height, .string o.note] 25 := (Blk.set (Blk.set (Blk.set (Blk.set (Blk.set (Blk.set (Blk.set hr6.out 0 (.int .i64 o.kind)) 1 (.string o.data)) 2 (.slice ea o.ents.length ec)) 3 (.string o.tree)) 4 (.slice pa o.pars.length pc)) 5 (.int .i64 o.height)) 6 (.string o.note))
          exact rends_object hend hfit.out hE6.out (only7 w.heap.size w6 _ _ _ _ _ _ _) hB6.out
end Go.Proofs.YtmbbnabongnojaaDoor.Ob
