/-
  object's Decode: the object that bytes are, or ErrForm; old memory stays. Conditions: none.
-/
import Derived.Test.YtmbbnabongnojaaDoorRows
import Derived.Test.YtmbbnabongnojaaDoorObPlain
import Derived.Test.YtmbbnabongnojaaDoorObGood
import Derived.Test.YtmbbnabongnojaaDoorObWrite
import Derived.Test.YtmbbnabongnojaaDoorObOwn
import Derived.Test.YtmbbnabongnojaaDoorObRead
import Derived.Test.YtmbbnabongnojaaDoorOctCalls
import Derived.Test.YtmbbnabongnojaaDoorOctKit
import Derived.WalkKit
import Derived.WalkSpells
import Derived.WalkLawsBesides
import Derived.ProofKit
import Derived.OpenShut
import Derived.Laws.BytesArg
import Derived.Laws.Externs
import Derived.Deep.QuietTactic
import Derived.BigQuiet
import Derived.BigRegion
import Derived.Lib.Hide
import Derived.Lib.Bytealg
import Derived.IntWalk
import Derived.Deep.LoopGhost
import Derived.Laws.OwnMore
import Derived.Deep.OwnRows
import Derived.Deep.Draws
import Derived.Deep.MidRow
import Derived.Laws.AppendOwn
import Derived.Deep.RegionHeld3
import Derived.Deep.RegionLaw
namespace Go.Proofs.YtmbbnabongnojaaDoor.Ob
open Go Go.RowKit
open Oct (empty num4 St Rd Only take num text byteAt)

/-- what Decode answers -/
structure Reads (s : ByteArray) (e : Ending) (w' : World) : Prop where
  yes : fits s = true → ∃ ea ec pa pc, e = .returned (.tuple #[val (dec s).1 ea ec pa pc, .int .i64 0]) ∧ ObAt w' (dec s).1 ea ec pa pc
  no : fits s = false → e = .returned (.tuple #[val zero none 0 none 0, .int .i64 4])
theorem EntsAt.nil (w : World) : EntsAt w none 0 0 [] := ⟨fun h => absurd h (Nat.lt_irrefl _), fun i e he => by simp at he, fun i e he => by simp at he, fun i e he => by simp at he⟩
theorem ParsAt.nil (w : World) : ParsAt w none 0 0 [] := ⟨fun h => absurd h (Nat.lt_irrefl _), fun i e he => by simp at he⟩
theorem ObAt.zero (w : World) : ObAt w zero none 0 none 0 := ⟨⟨0, 0, EntsAt.nil w⟩, ⟨0, 0, ParsAt.nil w⟩, Nat.le_refl _, Nat.le_refl _⟩
/-- what has been read behind the switch: the object lies in its block, the reader stands behind it -/
structure Got (s : ByteArray) (w w3 w4 : World) (o : Obj) (q' : St) (ea : Option Addr) (ec : Nat) (pa : Option Addr) (pc : Nat) : Prop where
  dec : dec s = (o, q')
  blk : Blk w4 (w.heap.size + 2) #[.int .i64 o.kind, .string o.data, .slice ea o.ents.length ec, .string o.tree, .slice pa o.pars.length pc, .int .i64 o.height, .string o.note] 25
  ents : ∃ b off, EntsAt w4 ea b off o.ents ∧ (0 < o.ents.length → w.heap.size < b)
  pars : ∃ b off, ParsAt w4 pa b off o.pars ∧ (0 < o.pars.length → w.heap.size < b)
  ecap : o.ents.length ≤ ec
  pcap : o.pars.length ≤ pc
  rd : Rd w4 (w.heap.size + 1) q'
  mid : Mid (w.heap.size + 3) (w.heap.size + 1) (w.heap.size + 2) w3 w4
theorem ents_of_row' {w : World} {base : Nat} {v : Value} {L : List Ent} (h : w.ownsRow base 47 3 v L.length (entsCells L)) : ∃ a cap b off, v = .slice a L.length cap ∧ EntsAt w a b off L ∧ L.length ≤ cap ∧ (0 < L.length → base ≤ b) := by
  obtain ⟨a, cap, b, off, hv, hE, hle⟩ := ents_of_row h
  refine ⟨a, cap, b, off, hv, hE, hle, fun h0 => (h.lt b ?_).1⟩
  rw [hv, hE.addr h0]; rfl
theorem pars_of_row' {w : World} {base : Nat} {v : Value} {L : List ByteArray} (h : w.ownsRow base 9 1 v L.length (L.map Value.string)) : ∃ a cap b off, v = .slice a L.length cap ∧ ParsAt w a b off L ∧ L.length ≤ cap ∧ (0 < L.length → base ≤ b) := by
  obtain ⟨a, cap, b, off, hv, hE, hle⟩ := pars_of_row h
  refine ⟨a, cap, b, off, hv, hE, hle, fun h0 => (h.lt b ?_).1⟩
  rw [hv, hE.addr h0]; rfl
theorem Got.at_ {s : ByteArray} {w w3 w4 : World} {o : Obj} {q' : St} {ea : Option Addr} {ec : Nat} {pa : Option Addr} {pc : Nat} (h : Got s w w3 w4 o q' ea ec pa pc) : ObAt w4 o ea ec pa pc :=
  ⟨by obtain ⟨b, f, g, _⟩ := h.ents; exact ⟨b, f, g⟩, by obtain ⟨b, f, g, _⟩ := h.pars; exact ⟨b, f, g⟩, h.ecap, h.pcap⟩
/-- the object's lists lie elsewhere than the result -/
structure Lists (s : ByteArray) (r : Nat) (w : World) (o : Obj) (ea : Option Addr) (ec : Nat) (pa : Option Addr) (pc : Nat) : Prop where
  dec : (dec s).1 = o
  ents : ∃ b off, EntsAt w ea b off o.ents ∧ (0 < o.ents.length → r < b)
  pars : ∃ b off, ParsAt w pa b off o.pars ∧ (0 < o.pars.length → r < b)
  ecap : o.ents.length ≤ ec
  pcap : o.pars.length ≤ pc
theorem Got.after {s : ByteArray} {w w3 w4 w5 : World} {o : Obj} {q' : St} {ea : Option Addr} {ec : Nat} {pa : Option Addr} {pc : Nat} (h : Got s w w3 w4 o q' ea ec pa pc) (t : Below w4.heap.size w4 w5) : Lists s w.heap.size w5 o ea ec pa pc :=
  ⟨by rw [h.dec], by obtain ⟨b, f, g, l⟩ := h.ents; exact ⟨b, f, g.below t, l⟩, by obtain ⟨b, f, g, l⟩ := h.pars; exact ⟨b, f, g.below t, l⟩, h.ecap, h.pcap⟩
theorem EntsAt.only {w w' : World} {a : Option Addr} {b off r : Nat} {L : List Ent} (h : EntsAt w a b off L) (t : Only r w w') (hb : 0 < L.length → r < b) : EntsAt w' a b off L :=
  have hl : ∀ {i : Nat} {e : Ent}, L[i]? = some e → b ≠ r := fun he => by have := (List.getElem?_eq_some_iff.1 he).1; have := hb (by omega); omega
  ⟨h.addr, fun i e he => (t.cell (p := ⟨b, _, none⟩) (hl he)).trans (h.name i e he), fun i e he => (t.cell (p := ⟨b, _, none⟩) (hl he)).trans (h.kind i e he), fun i e he => (t.cell (p := ⟨b, _, none⟩) (hl he)).trans (h.id i e he)⟩
theorem ParsAt.only {w w' : World} {a : Option Addr} {b off r : Nat} {L : List ByteArray} (h : ParsAt w a b off L) (t : Only r w w') (hb : 0 < L.length → r < b) : ParsAt w' a b off L :=
  have hl : ∀ {i : Nat} {e : ByteArray}, L[i]? = some e → b ≠ r := fun he => by have := (List.getElem?_eq_some_iff.1 he).1; have := hb (by omega); omega
  ⟨h.addr, fun i e he => (t.cell (p := ⟨b, _, none⟩) (hl he)).trans (h.cell i e he)⟩
theorem only7 (r : Nat) (w : World) (v0 v1 v2 v3 v4 v5 v6 : Value) : Only r w (((((((w.setCell ⟨r, 0, none⟩ v0).setCell ⟨r, 1, none⟩ v1).setCell ⟨r, 2, none⟩ v2).setCell ⟨r, 3, none⟩ v3).setCell ⟨r, 4, none⟩ v4).setCell ⟨r, 5, none⟩ v5).setCell ⟨r, 6, none⟩ v6) :=
  ((((((Only.setCell r 0 w v0).trans (Only.setCell r 1 _ v1)).trans (Only.setCell r 2 _ v2)).trans (Only.setCell r 3 _ v3)).trans (Only.setCell r 4 _ v4)).trans (Only.setCell r 5 _ v5)).trans (Only.setCell r 6 _ v6)
theorem results_two {P : Program} {fn : Func} {a c : Nat} {t : TypeId} {tmps : Array Value} {w : World} {b o : Nat} {cs : List Value} {d : TypeDesc} {v : Value} (h : fn.results = #[.cell a t, .tmp c])
    (hx : tmps.getD a undef = .pointer (some ⟨b, o, none⟩)) (hv : tmps.getD c undef = v) (hc : w.rangeAt b o cs) (hu : P.underlying t = some d) (hd : d.isRow = true) (hi : (P.info? t).map (·.size) = some cs.length) :
    (results fn tmps).run P w = .ok (.tuple #[.agg cs.toArray, v]) w := by
  have e : (loadVar t ⟨b, o, none⟩).run P w = _ := run_loadVar_mid w b o t cs d hc hu hd hi
  simp only [results, h]
  simp [asAddr, -Array.getD_eq_getD_getElem?, hx, hv, e]
theorem sizeObject : (Tryd.prog.info? 25).map (·.size) = some 7 := by kernel_rfl
theorem blk_range {w : World} {b : Nat} {cs : List Value} {T : TypeId} (h : Blk w b cs.toArray T) : w.rangeAt b 0 cs := fun j v hv => by
  rw [Nat.zero_add]; exact h.cell j (by simpa using hv)
/-- Decode ends with nothing read -/
theorem ends_zero {s : ByteArray} {r : Nat} {w w4 w9 : World} {tmps : Array Value} {df : List Deferred} (hend : Blk w9 r #[.int .i64 0, .string ⟨#[]⟩, .slice none 0 0, .string ⟨#[]⟩, .slice none 0 0, .int .i64 0, .string ⟨#[]⟩] 25) (hf : fits s = false) (h9 : Below r w4 w9) (h4 : Below r w w4)
    (hx : tmps.getD 2 undef = .pointer (some ⟨r, 0, none⟩) := by rfl) (hv : tmps.getD 3 undef = .int .i64 4 := by rfl) (hdf : df = [] := by rfl) :
    bodyPost Tryd.prog Tryd.f19 (fun e w' => Reads s e w' ∧ Below r w w') .ret ⟨tmps, df⟩ w9 := by
  subst hdf
  exact bodyPost_ret (results_two Tryd.results19 hx hv (blk_range (cs := [.int .i64 0, .string ⟨#[]⟩, .slice none 0 0, .string ⟨#[]⟩, .slice none 0 0, .int .i64 0, .string ⟨#[]⟩]) hend) Tryd.underlying25 rfl sizeObject) rfl ⟨⟨fun h => absurd (hf.symm.trans h) (by decide), fun _ => rfl⟩, h4.trans h9⟩
/-- Decode ends with the object -/
theorem ends_object {s : ByteArray} {r : Nat} {w w4 w9 : World} {tmps : Array Value} {df : List Deferred} {o : Obj} {ea : Option Addr} {ec : Nat} {pa : Option Addr} {pc : Nat} (hend : Blk w9 r #[.int .i64 o.kind, .string o.data, .slice ea o.ents.length ec, .string o.tree, .slice pa o.pars.length pc, .int .i64 o.height, .string o.note] 25) (hf : fits s = true) (hL : Lists s r w4 o ea ec pa pc) (h9 : Only r w4 w9) (h4 : Below r w w4)
    (hx : tmps.getD 2 undef = .pointer (some ⟨r, 0, none⟩) := by rfl) (hv : tmps.getD 3 undef = .int .i64 0 := by rfl) (hdf : df = [] := by rfl) :
    bodyPost Tryd.prog Tryd.f19 (fun e w' => Reads s e w' ∧ Below r w w') .ret ⟨tmps, df⟩ w9 := by
  subst hdf
  refine bodyPost_ret (results_two Tryd.results19 hx hv (blk_range (cs := [.int .i64 o.kind, .string o.data, .slice ea o.ents.length ec, .string o.tree, .slice pa o.pars.length pc, .int .i64 o.height, .string o.note]) hend) Tryd.underlying25 rfl sizeObject) rfl ⟨⟨fun _ => ⟨ea, ec, pa, pc, ?_, ?_⟩, fun h => absurd (hf.symm.trans h) (by decide)⟩, h4.trans (h9.below (Nat.le_refl _))⟩
  · rw [hL.dec]
  · rw [hL.dec]
    exact ⟨by obtain ⟨b, f, g, l⟩ := hL.ents; exact ⟨b, f, g.only h9 l⟩, by obtain ⟨b, f, g, l⟩ := hL.pars; exact ⟨b, f, g.only h9 l⟩, hL.ecap, hL.pcap⟩
set_option maxRecDepth 100000 in
set_option maxHeartbeats 2000000 in
theorem Decode_calls (s : ByteArray) (w : World) :
    Calls Tryd.prog 19 #[.string s] w fun e w' => Reads s e w' ∧ Below w.heap.size w w' := by
  have hN := Lib.hid (fun w => Oct.New_calls s w)
  have hr0 := Lib.hid (Blk.new w #[.int .i64 0, .string ⟨#[]⟩, .slice none 0 0, .string ⟨#[]⟩, .slice none 0 0, .int .i64 0, .string ⟨#[]⟩] 25)
  have hb0 := Lib.hid (b_alloc w (.cells #[.int .i64 0, .string ⟨#[]⟩, .slice none 0 0, .string ⟨#[]⟩, .slice none 0 0, .int .i64 0, .string ⟨#[]⟩] 25))
  have hz0 : Hid ((w.alloc (.cells #[.int .i64 0, .string ⟨#[]⟩, .slice none 0 0, .string ⟨#[]⟩, .slice none 0 0, .int .i64 0, .string ⟨#[]⟩] 25)).heap.size = w.heap.size + 1) := Lib.hid (by simp)
  have hq1 := Lib.hid (Oct.Rd.new s (w.alloc (.cells #[.int .i64 0, .string ⟨#[]⟩, .slice none 0 0, .string ⟨#[]⟩, .slice none 0 0, .int .i64 0, .string ⟨#[]⟩] 25)))
  have hb1 := Lib.hid (hb0.out.trans ((b_alloc (w.alloc (.cells #[.int .i64 0, .string ⟨#[]⟩, .slice none 0 0, .string ⟨#[]⟩, .slice none 0 0, .int .i64 0, .string ⟨#[]⟩] 25)) (.cells #[.string s, .bool false] 87)).mono hb0.out.size))
  have hr1 := Lib.hid (hr0.out.alloc (.cells #[.string s, .bool false] 87))
  rw [hz0.out] at hq1
  have hz1 : Hid (((w.alloc (.cells #[.int .i64 0, .string ⟨#[]⟩, .slice none 0 0, .string ⟨#[]⟩, .slice none 0 0, .int .i64 0, .string ⟨#[]⟩] 25)).alloc (.cells #[.string s, .bool false] 87)).heap.size = w.heap.size + 2) := Lib.hid (by simp)
  clear hr0 hb0 hz0
  go_enter Tryd.func19, Tryd.ntmps19
  go_wp2_with fail
  refine (hN.out _).mono ?_
  rintro e w1 ⟨rfl, rfl⟩
  go_wp2_with fail
  generalize (w.alloc (.cells #[.int .i64 0, .string ⟨#[]⟩, .slice none 0 0, .string ⟨#[]⟩, .slice none 0 0, .int .i64 0, .string ⟨#[]⟩] 25)).alloc (.cells #[.string s, .bool false] 87) = w1 at *
  refine (readKind_calls (w.heap.size + 1) ⟨s, false⟩ w1 hq1.out).mono ?_
  rintro e w2 ⟨rfl, hq2, ho2⟩
  have hk0 : Hid (dec s = if (rdKind ⟨s, false⟩).1 = 1 then rdBlob (rdKind ⟨s, false⟩).2 else if (rdKind ⟨s, false⟩).1 = 2 then rdTree (rdKind ⟨s, false⟩).2 else if (rdKind ⟨s, false⟩).1 = 3 then rdCommit (rdKind ⟨s, false⟩).2 else (⟨(rdKind ⟨s, false⟩).1, empty, [], empty, [], 0, empty⟩, (rdKind ⟨s, false⟩).2)) := Lib.hid rfl
  generalize rdKind ⟨s, false⟩ = rk at *
  obtain ⟨k, q⟩ := rk
  dsimp only at hq2 hk0 ⊢
  have hs2 : w2.heap.size = w.heap.size + 2 := by rw [ho2.size]; exact hz1.out
  have hr2 := Lib.hid (hr1.out.only ho2 (by omega))
  have hB2 := Lib.hid (hb1.out.trans (ho2.below (Nat.le_succ _)))
  -- the object's block
  have hx3 := Lib.hid (Blk.new w2 #[.int .i64 k, .string ⟨#[]⟩, .slice none 0 0, .string ⟨#[]⟩, .slice none 0 0, .int .i64 0, .string ⟨#[]⟩] 25)
  have hr3 := Lib.hid (hr2.out.alloc (.cells #[.int .i64 k, .string ⟨#[]⟩, .slice none 0 0, .string ⟨#[]⟩, .slice none 0 0, .int .i64 0, .string ⟨#[]⟩] 25))
  have hq3 := Lib.hid (hq2.below (b_alloc w2 (.cells #[.int .i64 k, .string ⟨#[]⟩, .slice none 0 0, .string ⟨#[]⟩, .slice none 0 0, .int .i64 0, .string ⟨#[]⟩] 25)) (by omega))
  have hB3 := Lib.hid (hB2.out.trans ((b_alloc w2 (.cells #[.int .i64 k, .string ⟨#[]⟩, .slice none 0 0, .string ⟨#[]⟩, .slice none 0 0, .int .i64 0, .string ⟨#[]⟩] 25)).mono (by omega)))
  have hs3 : Hid ((w2.alloc (.cells #[.int .i64 k, .string ⟨#[]⟩, .slice none 0 0, .string ⟨#[]⟩, .slice none 0 0, .int .i64 0, .string ⟨#[]⟩] 25)).heap.size = w.heap.size + 3) := Lib.hid (by simp [hs2])
  rw [hs2] at hx3
  clear hN hq1 hb1 hr1 hz1 hq2 ho2 hr2 hB2
  go_upto_region 3 with (fail)
  generalize w2.alloc (.cells #[.int .i64 k, .string ⟨#[]⟩, .slice none 0 0, .string ⟨#[]⟩, .slice none 0 0, .int .i64 0, .string ⟨#[]⟩] 25) = w3 at *
  clear hs2
  have cx0 := hx3.out.cell 0 (v := .int .i64 k) rfl
  by_cases k1 : k = 1
  · subst k1
    have hL := Lib.hid (Oct.Left_calls (w.heap.size + 1) q w3 hq3.out)
    have hT := Lib.hid (Oct.Take_calls (w.heap.size + 1) (Oct.left q) q w3 hq3.out)
    replace hk0 : Hid (dec s = (⟨1, (take q (Oct.left q)).1, [], empty, [], 0, empty⟩, (take q (Oct.left q)).2)) := Lib.hid (by rw [hk0.out, if_pos rfl]; rfl)
    generalize take q (Oct.left q) = rt at *
    obtain ⟨da, q'⟩ := rt
    dsimp only at hT hk0
    have hs3' := hs3.out
    go_wp2_with fail
    refine hL.out.mono ?_
    rintro e w4 ⟨rfl, rfl⟩
    go_wp2_with fail
    refine hT.out.mono ?_
    rintro e w4 ⟨rfl, hq4, ho4⟩
    have hx4 := Lib.hid (hx3.out.only ho4 (by omega))
    have f4 := hx4.out.frozen 1
    have c4 := hx4.out.cell 1 (v := .string ⟨#[]⟩) rfl
    obtain ⟨o, ea, ec, pa, pc, hgot⟩ : ∃ (o : Obj) (ea : Option Addr) (ec : Nat) (pa : Option Addr) (pc : Nat), Hid (Got s w w3 (w4.setCell ⟨w.heap.size + 2, 1, none⟩ (.string da)) o q' ea ec pa pc) :=
      ⟨⟨1, da, [], empty, [], 0, empty⟩, none, 0, none, 0, Lib.hid ⟨hk0.out, hx4.out.set 1 (.string da), ⟨0, 0, EntsAt.nil _, fun h => absurd h (Nat.lt_irrefl _)⟩, ⟨0, 0, ParsAt.nil _, fun h => absurd h (Nat.lt_irrefl _)⟩, Nat.le_refl _, Nat.le_refl _, Rd.other hq4 _ _ _ (by omega), (Mid.but (But.only ho4) (by omega)).trans (Mid.set _ _ _ _ _ _)⟩⟩
    clear hk0 hq3 hx3 hL hT hx4 hq4 ho4 hs3'
    go_upto_region 10 with (fail)
    generalize w4.setCell ⟨w.heap.size + 2, 1, none⟩ (.string da) = w5 at *
    clear f4 c4 cx0
    have hs4 := hgot.out.mid.size
    have hr4 : Hid (Blk w5 w.heap.size #[.int .i64 0, .string ⟨#[]⟩, .slice none 0 0, .string ⟨#[]⟩, .slice none 0 0, .int .i64 0, .string ⟨#[]⟩] 25) := Lib.hid ((hgot.out.mid.block w.heap.size (by omega) (by omega) (by omega)).trans hr3.out)
    have hB4 := Lib.hid (hB3.out.trans (hgot.out.mid.toBelow (B := w.heap.size) (by omega) (by omega) (by omega)))
    have hfit : Hid (fits s = (Oct.whole q' && good o)) := Lib.hid (by unfold fits; rw [hgot.out.dec])
    have hc0 := hgot.out.blk.cell 0 (v := .int .i64 o.kind) rfl
    have hc1 := hgot.out.blk.cell 1 (v := .string o.data) rfl
    have hc2 := hgot.out.blk.cell 2 (v := .slice ea o.ents.length ec) rfl
    have hc3 := hgot.out.blk.cell 3 (v := .string o.tree) rfl
    have hc4 := hgot.out.blk.cell 4 (v := .slice pa o.pars.length pc) rfl
    have hc5 := hgot.out.blk.cell 5 (v := .int .i64 o.height) rfl
    have hc6 := hgot.out.blk.cell 6 (v := .string o.note) rfl
    clear hr3 hB3
    go_wp2_with fail
    refine (Oct.Whole_calls (w.heap.size + 1) q' w5 hgot.out.rd).mono ?_
    rintro e w55 ⟨rfl, rfl⟩
    cases hw : Oct.whole q' with
    | false =>
      replace hfit : Hid (fits s = false) := Lib.hid (by rw [hfit.out, hw]; rfl)
      have d0 := hr4.out.cell 0 (v := .int .i64 0) rfl
      have d1 := hr4.out.cell 1 (v := .string ⟨#[]⟩) rfl
      have d2 := hr4.out.cell 2 (v := .slice none 0 0) rfl
      have d3 := hr4.out.cell 3 (v := .string ⟨#[]⟩) rfl
      have d4 := hr4.out.cell 4 (v := .slice none 0 0) rfl
      have d5 := hr4.out.cell 5 (v := .int .i64 0) rfl
      have d6 := hr4.out.cell 6 (v := .string ⟨#[]⟩) rfl
      have e0 := hr4.out.frozen 0
      have e1 := hr4.out.frozen 1
      have e2 := hr4.out.frozen 2
      have e3 := hr4.out.frozen 3
      have e4 := hr4.out.frozen 4
      have e5 := hr4.out.frozen 5
      have e6 := hr4.out.frozen 6
      go_wp2
      have hend : Blk (((((((w5.setCell ⟨w.heap.size, 0, none⟩ (.int .i64 0)).setCell ⟨w.heap.size, 1, none⟩ (.string ⟨#[]⟩)).setCell ⟨w.heap.size, 2, none⟩ (.slice none 0 0)).setCell ⟨w.heap.size, 3, none⟩ (.string ⟨#[]⟩)).setCell ⟨w.heap.size, 4, none⟩ (.slice none 0 0)).setCell ⟨w.heap.size, 5, none⟩ (.int .i64 0)).setCell ⟨w.heap.size, 6, none⟩ (.string ⟨#[]⟩)) w.heap.size #[.int .i64 0, .string ⟨#[]⟩, .slice none 0 0, .string ⟨#[]⟩, .slice none 0 0, .int .i64 0, .string ⟨#[]⟩] 25 := (Blk.set (Blk.set (Blk.set (Blk.set (Blk.set (Blk.set (Blk.set hr4.out 0 (.int .i64 0)) 1 (.string ⟨#[]⟩)) 2 (.slice none 0 0)) 3 (.string ⟨#[]⟩)) 4 (.slice none 0 0)) 5 (.int .i64 0)) 6 (.string ⟨#[]⟩))
      exact ends_zero hend hfit.out ((only7 w.heap.size w5 _ _ _ _ _ _ _).below (Nat.le_refl _)) hB4.out
    | true =>
      replace hfit : Hid (fits s = good o) := Lib.hid (by rw [hfit.out, hw]; rfl)
      have hG := Lib.hid (Good_calls o ea ec pa pc w5 hgot.out.at_)
      go_wp2_with fail
      refine hG.out.mono ?_
      rintro e w6 ⟨rfl, b6⟩
      have hr6 : Hid (Blk w6 w.heap.size #[.int .i64 0, .string ⟨#[]⟩, .slice none 0 0, .string ⟨#[]⟩, .slice none 0 0, .int .i64 0, .string ⟨#[]⟩] 25) := Lib.hid (hr4.out.below b6 hr4.out.lt)
      have hx6 := Lib.hid (hgot.out.blk.below b6 hgot.out.blk.lt)
      have hB6 := Lib.hid (hB4.out.trans (b6.mono hB4.out.size))
      have hE6 := Lib.hid (hgot.out.after b6)
      have d0 := hr6.out.cell 0 (v := .int .i64 0) rfl
      have d1 := hr6.out.cell 1 (v := .string ⟨#[]⟩) rfl
      have d2 := hr6.out.cell 2 (v := .slice none 0 0) rfl
      have d3 := hr6.out.cell 3 (v := .string ⟨#[]⟩) rfl
      have d4 := hr6.out.cell 4 (v := .slice none 0 0) rfl
      have d5 := hr6.out.cell 5 (v := .int .i64 0) rfl
      have d6 := hr6.out.cell 6 (v := .string ⟨#[]⟩) rfl
      have e0 := hr6.out.frozen 0
      have e1 := hr6.out.frozen 1
      have e2 := hr6.out.frozen 2
      have e3 := hr6.out.frozen 3
      have e4 := hr6.out.frozen 4
      have e5 := hr6.out.frozen 5
      have e6 := hr6.out.frozen 6
      clear hc0 hc1 hc2 hc3 hc4 hc5 hc6 hG hr4 hB4
      have hc0 := hx6.out.cell 0 (v := .int .i64 o.kind) rfl
      have hc1 := hx6.out.cell 1 (v := .string o.data) rfl
      have hc2 := hx6.out.cell 2 (v := .slice ea o.ents.length ec) rfl
      have hc3 := hx6.out.cell 3 (v := .string o.tree) rfl
      have hc4 := hx6.out.cell 4 (v := .slice pa o.pars.length pc) rfl
      have hc5 := hx6.out.cell 5 (v := .int .i64 o.height) rfl
      have hc6 := hx6.out.cell 6 (v := .string o.note) rfl
      clear b6
      cases hg : good o with
      | false =>
        replace hfit : Hid (fits s = false) := Lib.hid (by rw [hfit.out, hg])
        go_wp2
        have hend : Blk (((((((w6.setCell ⟨w.heap.size, 0, none⟩ (.int .i64 0)).setCell ⟨w.heap.size, 1, none⟩ (.string ⟨#[]⟩)).setCell ⟨w.heap.size, 2, none⟩ (.slice none 0 0)).setCell ⟨w.heap.size, 3, none⟩ (.string ⟨#[]⟩)).setCell ⟨w.heap.size, 4, none⟩ (.slice none 0 0)).setCell ⟨w.heap.size, 5, none⟩ (.int .i64 0)).setCell ⟨w.heap.size, 6, none⟩ (.string ⟨#[]⟩)) w.heap.size #[.int .i64 0, .string ⟨#[]⟩, .slice none 0 0, .string ⟨#[]⟩, .slice none 0 0, .int .i64 0, .string ⟨#[]⟩] 25 := (Blk.set (Blk.set (Blk.set (Blk.set (Blk.set (Blk.set (Blk.set hr6.out 0 (.int .i64 0)) 1 (.string ⟨#[]⟩)) 2 (.slice none 0 0)) 3 (.string ⟨#[]⟩)) 4 (.slice none 0 0)) 5 (.int .i64 0)) 6 (.string ⟨#[]⟩))
        exact ends_zero hend hfit.out ((only7 w.heap.size w6 _ _ _ _ _ _ _).below (Nat.le_refl _)) hB6.out
      | true =>
        replace hfit : Hid (fits s = true) := Lib.hid (by rw [hfit.out, hg])
        go_wp2
        have hend : Blk (((((((w6.setCell ⟨w.heap.size, 0, none⟩ (.int .i64 o.kind)).setCell ⟨w.heap.size, 1, none⟩ (.string o.data)).setCell ⟨w.heap.size, 2, none⟩ (.slice ea o.ents.length ec)).setCell ⟨w.heap.size, 3, none⟩ (.string o.tree)).setCell ⟨w.heap.size, 4, none⟩ (.slice pa o.pars.length pc)).setCell ⟨w.heap.size, 5, none⟩ (.int .i64 o.height)).setCell ⟨w.heap.size, 6, none⟩ (.string o.note)) w.heap.size #[.int .i64 o.kind, .string o.data, .slice ea o.ents.length ec, .string o.tree, .slice pa o.pars.length pc, .int .i64 o.height, .string o.note] 25 := (Blk.set (Blk.set (Blk.set (Blk.set (Blk.set (Blk.set (Blk.set hr6.out 0 (.int .i64 o.kind)) 1 (.string o.data)) 2 (.slice ea o.ents.length ec)) 3 (.string o.tree)) 4 (.slice pa o.pars.length pc)) 5 (.int .i64 o.height)) 6 (.string o.note))
        exact ends_object hend hfit.out hE6.out (only7 w.heap.size w6 _ _ _ _ _ _ _) hB6.out
  · have n1 : (k == 1) = false := by simpa using k1
    by_cases k2 : k = 2
    · subst k2
      clear n1
      have hs3' := hs3.out
      have hT := Lib.hid (readTree_calls (w.heap.size + 3) (w.heap.size + 1) (w.heap.size + 2) q 2 0 ⟨#[]⟩ ⟨#[]⟩ ⟨#[]⟩ (.slice none 0 0) w3 hq3.out hx3.out (by omega) (by omega) (by omega) (by omega))
      replace hk0 : Hid (dec s = rdTree q) := Lib.hid (by rw [hk0.out, if_neg k1, if_pos rfl])
      replace k1 := Lib.hid k1
      go_wp2_with fail
      refine hT.out.mono ?_
      rintro e w4 ⟨rfl, hq4, hM4, v, hx4, ho4⟩
      obtain ⟨o, q', ea, ec, pa, pc, hgot⟩ : ∃ (o : Obj) (q' : St) (ea : Option Addr) (ec : Nat) (pa : Option Addr) (pc : Nat), Hid (Got s w w3 w4 o q' ea ec pa pc) := by
        obtain ⟨ea, ec, eb, eo, rfl, hE, hle, hlt⟩ := ents_of_row' ho4
        exact ⟨(rdTree q).1, (rdTree q).2, ea, ec, none, 0, Lib.hid ⟨hk0.out, hx4, ⟨eb, eo, hE, fun h => by have := hlt h; omega⟩, ⟨0, 0, ParsAt.nil _, fun h => absurd h (Nat.lt_irrefl _)⟩, hle, Nat.le_refl _, hq4, hM4⟩⟩
      clear hk0 hq3 hx3 hT hx4 hq4 ho4 hM4 hs3' cx0
      have hs4 := hgot.out.mid.size
      have hr4 : Hid (Blk w4 w.heap.size #[.int .i64 0, .string ⟨#[]⟩, .slice none 0 0, .string ⟨#[]⟩, .slice none 0 0, .int .i64 0, .string ⟨#[]⟩] 25) := Lib.hid ((hgot.out.mid.block w.heap.size (by omega) (by omega) (by omega)).trans hr3.out)
      have hB4 := Lib.hid (hB3.out.trans (hgot.out.mid.toBelow (B := w.heap.size) (by omega) (by omega) (by omega)))
      have hfit : Hid (fits s = (Oct.whole q' && good o)) := Lib.hid (by unfold fits; rw [hgot.out.dec])
      have hc0 := hgot.out.blk.cell 0 (v := .int .i64 o.kind) rfl
      have hc1 := hgot.out.blk.cell 1 (v := .string o.data) rfl
      have hc2 := hgot.out.blk.cell 2 (v := .slice ea o.ents.length ec) rfl
      have hc3 := hgot.out.blk.cell 3 (v := .string o.tree) rfl
      have hc4 := hgot.out.blk.cell 4 (v := .slice pa o.pars.length pc) rfl
      have hc5 := hgot.out.blk.cell 5 (v := .int .i64 o.height) rfl
      have hc6 := hgot.out.blk.cell 6 (v := .string o.note) rfl
      clear hr3 hB3
      go_wp2_with fail
      refine (Oct.Whole_calls (w.heap.size + 1) q' w4 hgot.out.rd).mono ?_
      rintro e w5 ⟨rfl, rfl⟩
      cases hw : Oct.whole q' with
      | false =>
        replace hfit : Hid (fits s = false) := Lib.hid (by rw [hfit.out, hw]; rfl)
        have d0 := hr4.out.cell 0 (v := .int .i64 0) rfl
        have d1 := hr4.out.cell 1 (v := .string ⟨#[]⟩) rfl
        have d2 := hr4.out.cell 2 (v := .slice none 0 0) rfl
        have d3 := hr4.out.cell 3 (v := .string ⟨#[]⟩) rfl
        have d4 := hr4.out.cell 4 (v := .slice none 0 0) rfl
        have d5 := hr4.out.cell 5 (v := .int .i64 0) rfl
        have d6 := hr4.out.cell 6 (v := .string ⟨#[]⟩) rfl
        have e0 := hr4.out.frozen 0
        have e1 := hr4.out.frozen 1
        have e2 := hr4.out.frozen 2
        have e3 := hr4.out.frozen 3
        have e4 := hr4.out.frozen 4
        have e5 := hr4.out.frozen 5
        have e6 := hr4.out.frozen 6
        go_wp2
        have hend : Blk (((((((w4.setCell ⟨w.heap.size, 0, none⟩ (.int .i64 0)).setCell ⟨w.heap.size, 1, none⟩ (.string ⟨#[]⟩)).setCell ⟨w.heap.size, 2, none⟩ (.slice none 0 0)).setCell ⟨w.heap.size, 3, none⟩ (.string ⟨#[]⟩)).setCell ⟨w.heap.size, 4, none⟩ (.slice none 0 0)).setCell ⟨w.heap.size, 5, none⟩ (.int .i64 0)).setCell ⟨w.heap.size, 6, none⟩ (.string ⟨#[]⟩)) w.heap.size #[.int .i64 0, .string ⟨#[]⟩, .slice none 0 0, .string ⟨#[]⟩, .slice none 0 0, .int .i64 0, .string ⟨#[]⟩] 25 := (Blk.set (Blk.set (Blk.set (Blk.set (Blk.set (Blk.set (Blk.set hr4.out 0 (.int .i64 0)) 1 (.string ⟨#[]⟩)) 2 (.slice none 0 0)) 3 (.string ⟨#[]⟩)) 4 (.slice none 0 0)) 5 (.int .i64 0)) 6 (.string ⟨#[]⟩))
        exact ends_zero hend hfit.out ((only7 w.heap.size w4 _ _ _ _ _ _ _).below (Nat.le_refl _)) hB4.out
      | true =>
        replace hfit : Hid (fits s = good o) := Lib.hid (by rw [hfit.out, hw]; rfl)
        have hG := Lib.hid (Good_calls o ea ec pa pc w4 hgot.out.at_)
        go_wp2_with fail
        refine hG.out.mono ?_
        rintro e w6 ⟨rfl, b6⟩
        have hr6 : Hid (Blk w6 w.heap.size #[.int .i64 0, .string ⟨#[]⟩, .slice none 0 0, .string ⟨#[]⟩, .slice none 0 0, .int .i64 0, .string ⟨#[]⟩] 25) := Lib.hid (hr4.out.below b6 hr4.out.lt)
        have hx6 := Lib.hid (hgot.out.blk.below b6 hgot.out.blk.lt)
        have hB6 := Lib.hid (hB4.out.trans (b6.mono hB4.out.size))
        have hE6 := Lib.hid (hgot.out.after b6)
        have d0 := hr6.out.cell 0 (v := .int .i64 0) rfl
        have d1 := hr6.out.cell 1 (v := .string ⟨#[]⟩) rfl
        have d2 := hr6.out.cell 2 (v := .slice none 0 0) rfl
        have d3 := hr6.out.cell 3 (v := .string ⟨#[]⟩) rfl
        have d4 := hr6.out.cell 4 (v := .slice none 0 0) rfl
        have d5 := hr6.out.cell 5 (v := .int .i64 0) rfl
        have d6 := hr6.out.cell 6 (v := .string ⟨#[]⟩) rfl
        have e0 := hr6.out.frozen 0
        have e1 := hr6.out.frozen 1
        have e2 := hr6.out.frozen 2
        have e3 := hr6.out.frozen 3
        have e4 := hr6.out.frozen 4
        have e5 := hr6.out.frozen 5
        have e6 := hr6.out.frozen 6
        clear hc0 hc1 hc2 hc3 hc4 hc5 hc6 hG hr4 hB4
        have hc0 := hx6.out.cell 0 (v := .int .i64 o.kind) rfl
        have hc1 := hx6.out.cell 1 (v := .string o.data) rfl
        have hc2 := hx6.out.cell 2 (v := .slice ea o.ents.length ec) rfl
        have hc3 := hx6.out.cell 3 (v := .string o.tree) rfl
        have hc4 := hx6.out.cell 4 (v := .slice pa o.pars.length pc) rfl
        have hc5 := hx6.out.cell 5 (v := .int .i64 o.height) rfl
        have hc6 := hx6.out.cell 6 (v := .string o.note) rfl
        clear b6
        cases hg : good o with
        | false =>
          replace hfit : Hid (fits s = false) := Lib.hid (by rw [hfit.out, hg])
          go_wp2
          have hend : Blk (((((((w6.setCell ⟨w.heap.size, 0, none⟩ (.int .i64 0)).setCell ⟨w.heap.size, 1, none⟩ (.string ⟨#[]⟩)).setCell ⟨w.heap.size, 2, none⟩ (.slice none 0 0)).setCell ⟨w.heap.size, 3, none⟩ (.string ⟨#[]⟩)).setCell ⟨w.heap.size, 4, none⟩ (.slice none 0 0)).setCell ⟨w.heap.size, 5, none⟩ (.int .i64 0)).setCell ⟨w.heap.size, 6, none⟩ (.string ⟨#[]⟩)) w.heap.size #[.int .i64 0, .string ⟨#[]⟩, .slice none 0 0, .string ⟨#[]⟩, .slice none 0 0, .int .i64 0, .string ⟨#[]⟩] 25 := (Blk.set (Blk.set (Blk.set (Blk.set (Blk.set (Blk.set (Blk.set hr6.out 0 (.int .i64 0)) 1 (.string ⟨#[]⟩)) 2 (.slice none 0 0)) 3 (.string ⟨#[]⟩)) 4 (.slice none 0 0)) 5 (.int .i64 0)) 6 (.string ⟨#[]⟩))
          exact ends_zero hend hfit.out ((only7 w.heap.size w6 _ _ _ _ _ _ _).below (Nat.le_refl _)) hB6.out
        | true =>
          replace hfit : Hid (fits s = true) := Lib.hid (by rw [hfit.out, hg])
          go_wp2
          have hend : Blk (((((((w6.setCell ⟨w.heap.size, 0, none⟩ (.int .i64 o.kind)).setCell ⟨w.heap.size, 1, none⟩ (.string o.data)).setCell ⟨w.heap.size, 2, none⟩ (.slice ea o.ents.length ec)).setCell ⟨w.heap.size, 3, none⟩ (.string o.tree)).setCell ⟨w.heap.size, 4, none⟩ (.slice pa o.pars.length pc)).setCell ⟨w.heap.size, 5, none⟩ (.int .i64 o.height)).setCell ⟨w.heap.size, 6, none⟩ (.string o.note)) w.heap.size #[.int .i64 o.kind, .string o.data, .slice ea o.ents.length ec, .string o.tree, .slice pa o.pars.length pc, .int .i64 o.height, .string o.note] 25 := (Blk.set (Blk.set (Blk.set (Blk.set (Blk.set (Blk.set (Blk.set hr6.out 0 (.int .i64 o.kind)) 1 (.string o.data)) 2 (.slice ea o.ents.length ec)) 3 (.string o.tree)) 4 (.slice pa o.pars.length pc)) 5 (.int .i64 o.height)) 6 (.string o.note))
          exact ends_object hend hfit.out hE6.out (only7 w.heap.size w6 _ _ _ _ _ _ _) hB6.out
    · have n2 : (k == 2) = false := by simpa using k2
      by_cases k3 : k = 3
      · subst k3
        clear n1 n2
        have hs3' := hs3.out
        have hT := Lib.hid (readCommit_calls (w.heap.size + 3) (w.heap.size + 1) (w.heap.size + 2) q 3 ⟨#[]⟩ (.slice none 0 0) w3 hq3.out hx3.out (by omega) (by omega) (by omega) (by omega))
        replace hk0 : Hid (dec s = rdCommit q) := Lib.hid (by rw [hk0.out, if_neg k1, if_neg k2, if_pos rfl])
        replace k1 := Lib.hid k1
        replace k2 := Lib.hid k2
        go_wp2_with fail
        refine hT.out.mono ?_
        rintro e w4 ⟨rfl, hq4, hM4, v, hx4, ho4⟩
        obtain ⟨o, q', ea, ec, pa, pc, hgot⟩ : ∃ (o : Obj) (q' : St) (ea : Option Addr) (ec : Nat) (pa : Option Addr) (pc : Nat), Hid (Got s w w3 w4 o q' ea ec pa pc) := by
          obtain ⟨pa, pc, pb, po, rfl, hP, hle, hlt⟩ := pars_of_row' ho4
          exact ⟨(rdCommit q).1, (rdCommit q).2, none, 0, pa, pc, Lib.hid ⟨hk0.out, hx4, ⟨0, 0, EntsAt.nil _, fun h => absurd h (Nat.lt_irrefl _)⟩, ⟨pb, po, hP, fun h => by have := hlt h; omega⟩, Nat.le_refl _, hle, hq4, hM4⟩⟩
        clear hk0 hq3 hx3 hT hx4 hq4 ho4 hM4 hs3' cx0
        have hs4 := hgot.out.mid.size
        have hr4 : Hid (Blk w4 w.heap.size #[.int .i64 0, .string ⟨#[]⟩, .slice none 0 0, .string ⟨#[]⟩, .slice none 0 0, .int .i64 0, .string ⟨#[]⟩] 25) := Lib.hid ((hgot.out.mid.block w.heap.size (by omega) (by omega) (by omega)).trans hr3.out)
        have hB4 := Lib.hid (hB3.out.trans (hgot.out.mid.toBelow (B := w.heap.size) (by omega) (by omega) (by omega)))
        have hfit : Hid (fits s = (Oct.whole q' && good o)) := Lib.hid (by unfold fits; rw [hgot.out.dec])
        have hc0 := hgot.out.blk.cell 0 (v := .int .i64 o.kind) rfl
        have hc1 := hgot.out.blk.cell 1 (v := .string o.data) rfl
        have hc2 := hgot.out.blk.cell 2 (v := .slice ea o.ents.length ec) rfl
        have hc3 := hgot.out.blk.cell 3 (v := .string o.tree) rfl
        have hc4 := hgot.out.blk.cell 4 (v := .slice pa o.pars.length pc) rfl
        have hc5 := hgot.out.blk.cell 5 (v := .int .i64 o.height) rfl
        have hc6 := hgot.out.blk.cell 6 (v := .string o.note) rfl
        clear hr3 hB3
        go_wp2_with fail
        refine (Oct.Whole_calls (w.heap.size + 1) q' w4 hgot.out.rd).mono ?_
        rintro e w5 ⟨rfl, rfl⟩
        cases hw : Oct.whole q' with
        | false =>
          replace hfit : Hid (fits s = false) := Lib.hid (by rw [hfit.out, hw]; rfl)
          have d0 := hr4.out.cell 0 (v := .int .i64 0) rfl
          have d1 := hr4.out.cell 1 (v := .string ⟨#[]⟩) rfl
          have d2 := hr4.out.cell 2 (v := .slice none 0 0) rfl
          have d3 := hr4.out.cell 3 (v := .string ⟨#[]⟩) rfl
          have d4 := hr4.out.cell 4 (v := .slice none 0 0) rfl
          have d5 := hr4.out.cell 5 (v := .int .i64 0) rfl
          have d6 := hr4.out.cell 6 (v := .string ⟨#[]⟩) rfl
          have e0 := hr4.out.frozen 0
          have e1 := hr4.out.frozen 1
          have e2 := hr4.out.frozen 2
          have e3 := hr4.out.frozen 3
          have e4 := hr4.out.frozen 4
          have e5 := hr4.out.frozen 5
          have e6 := hr4.out.frozen 6
          go_wp2
          have hend : Blk (((((((w4.setCell ⟨w.heap.size, 0, none⟩ (.int .i64 0)).setCell ⟨w.heap.size, 1, none⟩ (.string ⟨#[]⟩)).setCell ⟨w.heap.size, 2, none⟩ (.slice none 0 0)).setCell ⟨w.heap.size, 3, none⟩ (.string ⟨#[]⟩)).setCell ⟨w.heap.size, 4, none⟩ (.slice none 0 0)).setCell ⟨w.heap.size, 5, none⟩ (.int .i64 0)).setCell ⟨w.heap.size, 6, none⟩ (.string ⟨#[]⟩)) w.heap.size #[.int .i64 0, .string ⟨#[]⟩, .slice none 0 0, .string ⟨#[]⟩, .slice none 0 0, .int .i64 0, .string ⟨#[]⟩] 25 := (Blk.set (Blk.set (Blk.set (Blk.set (Blk.set (Blk.set (Blk.set hr4.out 0 (.int .i64 0)) 1 (.string ⟨#[]⟩)) 2 (.slice none 0 0)) 3 (.string ⟨#[]⟩)) 4 (.slice none 0 0)) 5 (.int .i64 0)) 6 (.string ⟨#[]⟩))
          exact ends_zero hend hfit.out ((only7 w.heap.size w4 _ _ _ _ _ _ _).below (Nat.le_refl _)) hB4.out
        | true =>
          replace hfit : Hid (fits s = good o) := Lib.hid (by rw [hfit.out, hw]; rfl)
          have hG := Lib.hid (Good_calls o ea ec pa pc w4 hgot.out.at_)
          go_wp2_with fail
          refine hG.out.mono ?_
          rintro e w6 ⟨rfl, b6⟩
          have hr6 : Hid (Blk w6 w.heap.size #[.int .i64 0, .string ⟨#[]⟩, .slice none 0 0, .string ⟨#[]⟩, .slice none 0 0, .int .i64 0, .string ⟨#[]⟩] 25) := Lib.hid (hr4.out.below b6 hr4.out.lt)
          have hx6 := Lib.hid (hgot.out.blk.below b6 hgot.out.blk.lt)
          have hB6 := Lib.hid (hB4.out.trans (b6.mono hB4.out.size))
          have hE6 := Lib.hid (hgot.out.after b6)
          have d0 := hr6.out.cell 0 (v := .int .i64 0) rfl
          have d1 := hr6.out.cell 1 (v := .string ⟨#[]⟩) rfl
          have d2 := hr6.out.cell 2 (v := .slice none 0 0) rfl
          have d3 := hr6.out.cell 3 (v := .string ⟨#[]⟩) rfl
          have d4 := hr6.out.cell 4 (v := .slice none 0 0) rfl
          have d5 := hr6.out.cell 5 (v := .int .i64 0) rfl
          have d6 := hr6.out.cell 6 (v := .string ⟨#[]⟩) rfl
          have e0 := hr6.out.frozen 0
          have e1 := hr6.out.frozen 1
          have e2 := hr6.out.frozen 2
          have e3 := hr6.out.frozen 3
          have e4 := hr6.out.frozen 4
          have e5 := hr6.out.frozen 5
          have e6 := hr6.out.frozen 6
          clear hc0 hc1 hc2 hc3 hc4 hc5 hc6 hG hr4 hB4
          have hc0 := hx6.out.cell 0 (v := .int .i64 o.kind) rfl
          have hc1 := hx6.out.cell 1 (v := .string o.data) rfl
          have hc2 := hx6.out.cell 2 (v := .slice ea o.ents.length ec) rfl
          have hc3 := hx6.out.cell 3 (v := .string o.tree) rfl
          have hc4 := hx6.out.cell 4 (v := .slice pa o.pars.length pc) rfl
          have hc5 := hx6.out.cell 5 (v := .int .i64 o.height) rfl
          have hc6 := hx6.out.cell 6 (v := .string o.note) rfl
          clear b6
          cases hg : good o with
          | false =>
            replace hfit : Hid (fits s = false) := Lib.hid (by rw [hfit.out, hg])
            go_wp2
            have hend : Blk (((((((w6.setCell ⟨w.heap.size, 0, none⟩ (.int .i64 0)).setCell ⟨w.heap.size, 1, none⟩ (.string ⟨#[]⟩)).setCell ⟨w.heap.size, 2, none⟩ (.slice none 0 0)).setCell ⟨w.heap.size, 3, none⟩ (.string ⟨#[]⟩)).setCell ⟨w.heap.size, 4, none⟩ (.slice none 0 0)).setCell ⟨w.heap.size, 5, none⟩ (.int .i64 0)).setCell ⟨w.heap.size, 6, none⟩ (.string ⟨#[]⟩)) w.heap.size #[.int .i64 0, .string ⟨#[]⟩, .slice none 0 0, .string ⟨#[]⟩, .slice none 0 0, .int .i64 0, .string ⟨#[]⟩] 25 := (Blk.set (Blk.set (Blk.set (Blk.set (Blk.set (Blk.set (Blk.set hr6.out 0 (.int .i64 0)) 1 (.string ⟨#[]⟩)) 2 (.slice none 0 0)) 3 (.string ⟨#[]⟩)) 4 (.slice none 0 0)) 5 (.int .i64 0)) 6 (.string ⟨#[]⟩))
            exact ends_zero hend hfit.out ((only7 w.heap.size w6 _ _ _ _ _ _ _).below (Nat.le_refl _)) hB6.out
          | true =>
            replace hfit : Hid (fits s = true) := Lib.hid (by rw [hfit.out, hg])
            go_wp2
            have hend : Blk (((((((w6.setCell ⟨w.heap.size, 0, none⟩ (.int .i64 o.kind)).setCell ⟨w.heap.size, 1, none⟩ (.string o.data)).setCell ⟨w.heap.size, 2, none⟩ (.slice ea o.ents.length ec)).setCell ⟨w.heap.size, 3, none⟩ (.string o.tree)).setCell ⟨w.heap.size, 4, none⟩ (.slice pa o.pars.length pc)).setCell ⟨w.heap.size, 5, none⟩ (.int .i64 o.height)).setCell ⟨w.heap.size, 6, none⟩ (.string o.note)) w.heap.size #[.int .i64 o.kind, .string o.data, .slice ea o.ents.length ec, .string o.tree, .slice pa o.pars.length pc, .int .i64 o.height, .string o.note] 25 := (Blk.set (Blk.set (Blk.set (Blk.set (Blk.set (Blk.set (Blk.set hr6.out 0 (.int .i64 o.kind)) 1 (.string o.data)) 2 (.slice ea o.ents.length ec)) 3 (.string o.tree)) 4 (.slice pa o.pars.length pc)) 5 (.int .i64 o.height)) 6 (.string o.note))
            exact ends_object hend hfit.out hE6.out (only7 w.heap.size w6 _ _ _ _ _ _ _) hB6.out
      · have n3 : (k == 3) = false := by simpa using k3
        obtain ⟨o, q', ea, ec, pa, pc, hgot, hko⟩ : ∃ (o : Obj) (q' : St) (ea : Option Addr) (ec : Nat) (pa : Option Addr) (pc : Nat), Hid (Got s w w3 w3 o q' ea ec pa pc) ∧ k = o.kind :=
          ⟨⟨k, empty, [], empty, [], 0, empty⟩, q, none, 0, none, 0, Lib.hid ⟨by rw [hk0.out, if_neg k1, if_neg k2, if_neg k3], hx3.out, ⟨0, 0, EntsAt.nil _, fun h => absurd h (Nat.lt_irrefl _)⟩, ⟨0, 0, ParsAt.nil _, fun h => absurd h (Nat.lt_irrefl _)⟩, Nat.le_refl _, Nat.le_refl _, hq3.out, Mid.refl _ _ _ _⟩, rfl⟩
        subst hko
        replace k1 := Lib.hid k1
        replace k2 := Lib.hid k2
        replace k3 := Lib.hid k3
        clear hk0 hq3 hx3
        have hs4 := hgot.out.mid.size
        have hr4 : Hid (Blk w3 w.heap.size #[.int .i64 0, .string ⟨#[]⟩, .slice none 0 0, .string ⟨#[]⟩, .slice none 0 0, .int .i64 0, .string ⟨#[]⟩] 25) := Lib.hid ((hgot.out.mid.block w.heap.size (by omega) (by omega) (by omega)).trans hr3.out)
        have hB4 := Lib.hid (hB3.out.trans (hgot.out.mid.toBelow (B := w.heap.size) (by omega) (by omega) (by omega)))
        have hfit : Hid (fits s = (Oct.whole q' && good o)) := Lib.hid (by unfold fits; rw [hgot.out.dec])
        have hc0 := hgot.out.blk.cell 0 (v := .int .i64 o.kind) rfl
        have hc1 := hgot.out.blk.cell 1 (v := .string o.data) rfl
        have hc2 := hgot.out.blk.cell 2 (v := .slice ea o.ents.length ec) rfl
        have hc3 := hgot.out.blk.cell 3 (v := .string o.tree) rfl
        have hc4 := hgot.out.blk.cell 4 (v := .slice pa o.pars.length pc) rfl
        have hc5 := hgot.out.blk.cell 5 (v := .int .i64 o.height) rfl
        have hc6 := hgot.out.blk.cell 6 (v := .string o.note) rfl
        clear hr3 hB3
        go_wp2_with fail
        refine (Oct.Whole_calls (w.heap.size + 1) q' w3 hgot.out.rd).mono ?_
        rintro e w5 ⟨rfl, rfl⟩
        cases hw : Oct.whole q' with
        | false =>
          replace hfit : Hid (fits s = false) := Lib.hid (by rw [hfit.out, hw]; rfl)
          have d0 := hr4.out.cell 0 (v := .int .i64 0) rfl
          have d1 := hr4.out.cell 1 (v := .string ⟨#[]⟩) rfl
          have d2 := hr4.out.cell 2 (v := .slice none 0 0) rfl
          have d3 := hr4.out.cell 3 (v := .string ⟨#[]⟩) rfl
          have d4 := hr4.out.cell 4 (v := .slice none 0 0) rfl
          have d5 := hr4.out.cell 5 (v := .int .i64 0) rfl
          have d6 := hr4.out.cell 6 (v := .string ⟨#[]⟩) rfl
          have e0 := hr4.out.frozen 0
          have e1 := hr4.out.frozen 1
          have e2 := hr4.out.frozen 2
          have e3 := hr4.out.frozen 3
          have e4 := hr4.out.frozen 4
          have e5 := hr4.out.frozen 5
          have e6 := hr4.out.frozen 6
          go_wp2
          have hend : Blk (((((((w3.setCell ⟨w.heap.size, 0, none⟩ (.int .i64 0)).setCell ⟨w.heap.size, 1, none⟩ (.string ⟨#[]⟩)).setCell ⟨w.heap.size, 2, none⟩ (.slice none 0 0)).setCell ⟨w.heap.size, 3, none⟩ (.string ⟨#[]⟩)).setCell ⟨w.heap.size, 4, none⟩ (.slice none 0 0)).setCell ⟨w.heap.size, 5, none⟩ (.int .i64 0)).setCell ⟨w.heap.size, 6, none⟩ (.string ⟨#[]⟩)) w.heap.size #[.int .i64 0, .string ⟨#[]⟩, .slice none 0 0, .string ⟨#[]⟩, .slice none 0 0, .int .i64 0, .string ⟨#[]⟩] 25 := (Blk.set (Blk.set (Blk.set (Blk.set (Blk.set (Blk.set (Blk.set hr4.out 0 (.int .i64 0)) 1 (.string ⟨#[]⟩)) 2 (.slice none 0 0)) 3 (.string ⟨#[]⟩)) 4 (.slice none 0 0)) 5 (.int .i64 0)) 6 (.string ⟨#[]⟩))
          exact ends_zero hend hfit.out ((only7 w.heap.size w3 _ _ _ _ _ _ _).below (Nat.le_refl _)) hB4.out
        | true =>
          replace hfit : Hid (fits s = good o) := Lib.hid (by rw [hfit.out, hw]; rfl)
          have hG := Lib.hid (Good_calls o ea ec pa pc w3 hgot.out.at_)
          go_wp2_with fail
          refine hG.out.mono ?_
          rintro e w6 ⟨rfl, b6⟩
          have hr6 : Hid (Blk w6 w.heap.size #[.int .i64 0, .string ⟨#[]⟩, .slice none 0 0, .string ⟨#[]⟩, .slice none 0 0, .int .i64 0, .string ⟨#[]⟩] 25) := Lib.hid (hr4.out.below b6 hr4.out.lt)
          have hx6 := Lib.hid (hgot.out.blk.below b6 hgot.out.blk.lt)
          have hB6 := Lib.hid (hB4.out.trans (b6.mono hB4.out.size))
          have hE6 := Lib.hid (hgot.out.after b6)
          have d0 := hr6.out.cell 0 (v := .int .i64 0) rfl
          have d1 := hr6.out.cell 1 (v := .string ⟨#[]⟩) rfl
          have d2 := hr6.out.cell 2 (v := .slice none 0 0) rfl
          have d3 := hr6.out.cell 3 (v := .string ⟨#[]⟩) rfl
          have d4 := hr6.out.cell 4 (v := .slice none 0 0) rfl
          have d5 := hr6.out.cell 5 (v := .int .i64 0) rfl
          have d6 := hr6.out.cell 6 (v := .string ⟨#[]⟩) rfl
          have e0 := hr6.out.frozen 0
          have e1 := hr6.out.frozen 1
          have e2 := hr6.out.frozen 2
          have e3 := hr6.out.frozen 3
          have e4 := hr6.out.frozen 4
          have e5 := hr6.out.frozen 5
          have e6 := hr6.out.frozen 6
          clear hc0 hc1 hc2 hc3 hc4 hc5 hc6 hG hr4 hB4
          have hc0 := hx6.out.cell 0 (v := .int .i64 o.kind) rfl
          have hc1 := hx6.out.cell 1 (v := .string o.data) rfl
          have hc2 := hx6.out.cell 2 (v := .slice ea o.ents.length ec) rfl
          have hc3 := hx6.out.cell 3 (v := .string o.tree) rfl
          have hc4 := hx6.out.cell 4 (v := .slice pa o.pars.length pc) rfl
          have hc5 := hx6.out.cell 5 (v := .int .i64 o.height) rfl
          have hc6 := hx6.out.cell 6 (v := .string o.note) rfl
          clear b6
          cases hg : good o with
          | false =>
            replace hfit : Hid (fits s = false) := Lib.hid (by rw [hfit.out, hg])
            go_wp2
            have hend : Blk (((((((w6.setCell ⟨w.heap.size, 0, none⟩ (.int .i64 0)).setCell ⟨w.heap.size, 1, none⟩ (.string ⟨#[]⟩)).setCell ⟨w.heap.size, 2, none⟩ (.slice none 0 0)).setCell ⟨w.heap.size, 3, none⟩ (.string ⟨#[]⟩)).setCell ⟨w.heap.size, 4, none⟩ (.slice none 0 0)).setCell ⟨w.heap.size, 5, none⟩ (.int .i64 0)).setCell ⟨w.heap.size, 6, none⟩ (.string ⟨#[]⟩)) w.heap.size #[.int .i64 0, .string ⟨#[]⟩, .slice none 0 0, .string ⟨#[]⟩, .slice none 0 0, .int .i64 0, .string ⟨#[]⟩] 25 := (Blk.set (Blk.set (Blk.set (Blk.set (Blk.set (Blk.set (Blk.set hr6.out 0 (.int .i64 0)) 1 (.string ⟨#[]⟩)) 2 (.slice none 0 0)) 3 (.string ⟨#[]⟩)) 4 (.slice none 0 0)) 5 (.int .i64 0)) 6 (.string ⟨#[]⟩))
            exact ends_zero hend hfit.out ((only7 w.heap.size w6 _ _ _ _ _ _ _).below (Nat.le_refl _)) hB6.out
          | true =>
            replace hfit : Hid (fits s = true) := Lib.hid (by rw [hfit.out, hg])
            go_wp2
            have hend : Blk (((((((w6.setCell ⟨w.heap.size, 0, none⟩ (.int .i64 o.kind)).setCell ⟨w.heap.size, 1, none⟩ (.string o.data)).setCell ⟨w.heap.size, 2, none⟩ (.slice ea o.ents.length ec)).setCell ⟨w.heap.size, 3, none⟩ (.string o.tree)).setCell ⟨w.heap.size, 4, none⟩ (.slice pa o.pars.length pc)).setCell ⟨w.heap.size, 5, none⟩ (.int .i64 o.height)).setCell ⟨w.heap.size, 6, none⟩ (.string o.note)) w.heap.size #[.int .i64 o.kind, .string o.data, .slice ea o.ents.length ec, .string o.tree, .slice pa o.pars.length pc, .int .i64 o.height, .string o.note] 25 := (Blk.set (Blk.set (Blk.set (Blk.set (Blk.set (Blk.set (Blk.set hr6.out 0 (.int .i64 o.kind)) 1 (.string o.data)) 2 (.slice ea o.ents.length ec)) 3 (.string o.tree)) 4 (.slice pa o.pars.length pc)) 5 (.int .i64 o.height)) 6 (.string o.note))
            exact ends_object hend hfit.out hE6.out (only7 w.heap.size w6 _ _ _ _ _ _ _) hB6.out
end Go.Proofs.YtmbbnabongnojaaDoor.Ob
