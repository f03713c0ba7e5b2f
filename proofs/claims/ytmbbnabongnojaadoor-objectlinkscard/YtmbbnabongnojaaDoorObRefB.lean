/-
  The reference's Encode answers what the plain function says; old memory stays. Conditions: lists of the form's reach.
-/
import Derived.Test.YtmbbnabongnojaaDoorRows
import Derived.Test.YtmbbnabongnojaaDoorObPlain
import Derived.Test.YtmbbnabongnojaaDoorObGood
import Derived.Test.YtmbbnabongnojaaDoorObWrite
import Derived.Test.YtmbbnabongnojaaDoorObOwn
import Derived.Test.YtmbbnabongnojaaDoorObDec
import Derived.Test.YtmbbnabongnojaaDoorObHave
import Derived.Test.YtmbbnabongnojaaDoorObRefA
import Derived.Test.YtmbbnabongnojaaDoorOctRefW
import Derived.Test.YtmbbnabongnojaaDoorOctKit
import Derived.WalkKit
import Derived.WalkSpells
import Derived.WalkLawsBesides
import Derived.ProofKit
import Derived.OpenShut
import Derived.Laws.BytesArg
import Derived.Laws.Externs
import Derived.Deep.QuietTactic
import Derived.BigQuiet
import Derived.BigRegion
import Derived.Lib.Hide
import Derived.IntWalk
import Derived.Deep.LoopGhost
import Derived.Deep.RegionHeld3
import Derived.Deep.RegionWith
import Derived.Deep.RegionLaw
namespace Go.Proofs.YtmbbnabongnojaaDoor.Ob
open Go Go.RowKit
open Oct (empty num4)

theorem nums_b1 (k : Int) (h0 : 0 ≤ k) (h1 : k < 256) : strOfNums [k] = b1 k := by
  apply Oct.ext_toList
  have : k % 256 = k := by omega
  simp [strOfNums, b1, this]
/-- a byte as a text -/
theorem conv_one (k : Int) (h0 : 0 ≤ k) (h1 : k < 256) (w : World) (b : Nat) (h : w.cell? ⟨b, 0, none⟩ = some (.int .u8 k)) :
    (convert 51 9 (.slice (some ⟨b, 0, none⟩) 1 1)).run Tryd.prog w = .ok (.string (b1 k)) w := by
  rw [← nums_b1 k h0 h1]
  exact run_convert_bytes_arg w 51 5 Tryd.underlying51 Tryd.underlying5 b 0 1 1 [k] rfl (fun i hi => by
    obtain rfl : i = 0 := by omega
    exact h) 9 Tryd.underlying9
theorem RText_small (s : ByteArray) (hs : s.size ≤ 1000) (w : World) :
    Calls Tryd.prog 33 #[.string s] w fun e w' => e = .returned (.string (txt s)) ∧ ∃ c, w.alloc (.cells c 5) = w' := by
  have h := Oct.RefText_calls s (by omega) w
  rw [mod_small s.size hs] at h
  exact h
theorem b_one (w : World) (o : Go.Obj) : Below w.heap.size w (w.alloc o).drew := ⟨rfl, rfl, rfl, (b_alloc w o).size, (b_alloc w o).block⟩
theorem b_two (w : World) (o p : Go.Obj) : Below w.heap.size w ((w.alloc o).alloc p).drew :=
  have h := below_next (b_alloc w o) (b_alloc _ p)
  ⟨h.os, h.tape, h.output, h.size, h.block⟩
set_option maxRecDepth 100000 in
set_option maxHeartbeats 4000000 in
theorem REncode_calls (x : Obj) (ea : Option Addr) (ec : Nat) (pa : Option Addr) (pc : Nat) (w : World) (hO : ObAt w x ea ec pa pc) (hl1 : x.ents.length ≤ maxLen) (hl2 : x.pars.length ≤ maxLen) :
    Calls Tryd.prog 13 #[val x ea ec pa pc] w fun r w' => r = .returned (wrote x) ∧ Below w.heap.size w w' := by
  have hX := Lib.hid (Have.new hO)
  have hB := Lib.hid (b_alloc w (.cells (cellsOf x ea ec pa pc) 25))
  have hG := Lib.hid fun w hO => RGood_calls x ea ec pa pc w hO hl1 hl2
  clear hl1 hl2
  cases hgx : good x with
  | false =>
    rw [wrote_no' hgx]
    rw [hgx] at hG
    go_enter Tryd.func13, Tryd.ntmps13
    go_wp2_with fail
    refine (hG.out _ hX.out.at_).mono ?_
    rintro r w1 ⟨rfl, b1⟩
    replace hB := Lib.hid (below_next hB.out b1)
    clear b1
    go_wp2
    go_ret2
    exact ⟨rfl, hB.out⟩
  | true =>
    rw [wrote_yes hgx]
    rw [hgx] at hG
    have hkd := good_kind hgx
    have hk8 : x.kind % 256 = x.kind := by omega
    have hkr : Hid (0 ≤ x.kind ∧ x.kind < 256) := Lib.hid (by omega)
    have henc : Hid (enc x = b1 x.kind ++ encRest x) := Lib.hid rfl
    have hgood : Hid (good x = true) := Lib.hid hgx
    clear hgx
    go_enter Tryd.func13, Tryd.ntmps13
    go_wp2_with fail
    generalize w.alloc (.cells (cellsOf x ea ec pa pc) 25) = w1 at *
    refine (hG.out _ hX.out.at_).mono ?_
    rintro r w2 ⟨rfl, b2⟩
    replace hX := Lib.hid (hX.out.next b2)
    replace hB := Lib.hid (below_next hB.out b2)
    clear b2 hG
    have hX3 := Lib.hid (hX.out.next (b_alloc w2 (.cells #[.int .u8 x.kind] 5)))
    have hB3 := Lib.hid (below_next hB.out (b_alloc w2 (.cells #[.int .u8 x.kind] 5)))
    have hcv := conv_one x.kind hkr.out.1 hkr.out.2 (w2.alloc (.cells #[.int .u8 x.kind] 5)) w2.heap.size ((Blk.new w2 #[.int .u8 x.kind] 5).cell 0 rfl)
    obtain ⟨c0, c1, c2, c3, c4, c5, c6⟩ := hX.out.cells
    go_upto_region 4 with (fail)
    generalize w2.alloc (.cells #[.int .u8 x.kind] 5) = w3 at *
    clear c0 c1 c2 c3 c4 c5 c6 hcv hX hB
    obtain ⟨c0, c1, c2, c3, c4, c5, c6⟩ := hX3.out.cells
    by_cases k1 : x.kind = 1
    · have d1 : (x.kind == 1) = true := by simpa using k1
      replace henc : Hid (enc x = b1 x.kind ++ x.data) := Lib.hid (by rw [henc.out, encRest, if_pos k1])
      have hsz : x.data.size ≤ 65536 := by have := hgood.out; unfold good at this; rw [if_pos k1] at this; exact of_decide_eq_true this
      have hq : ¬ 9223372036854775807 < (b1 x.kind).size + x.data.size := by rw [b1_size]; omega
      replace k1 := Lib.hid k1
      go_wp2
      go_ret2
      exact ⟨by rw [henc.out]; rfl, hB3.out⟩
    · have d1 : (x.kind == 1) = false := by simpa using k1
      by_cases k2 : x.kind = 2
      · have d2 : (x.kind == 2) = true := by simpa using k2
        have hgt : x.ents.length ≤ 256 ∧ ∀ e ∈ x.ents, goodEnt e = true := by
          have := hgood.out; unfold good at this; rw [if_neg k1, if_pos k2, Bool.and_eq_true, decide_eq_true_eq] at this
          exact ⟨this.1, goodEnts_mem this.2⟩
        obtain ⟨hl, hg⟩ := hgt
        replace hg := Lib.hid hg
        replace henc : Hid (enc x = b1 x.kind ++ (num4 x.ents.length ++ encEnts x.ents)) := Lib.hid (by rw [henc.out, encRest, if_neg k1, if_pos k2])
        replace k1 := Lib.hid k1
        replace k2 := Lib.hid k2
        have hm := mod_small x.ents.length (by omega)
        have hq0 : ¬ 9223372036854775807 < (b1 x.kind).size + 4 := by rw [b1_size]; omega
        go_wp2_with fail
        refine (Oct.RefNum_calls (x.ents.length : Int) (by omega) (by omega) w3).mono ?_
        rintro r w4 ⟨rfl, c, rfl⟩
        have hX4 := Lib.hid (hX3.out.next (b_alloc w3 (.cells c 5)))
        have hB4 := Lib.hid (below_next hB3.out (b_alloc w3 (.cells c 5)))
        generalize w3.alloc (.cells c 5) = w4 at *
        clear c0 c1 c2 c3 c4 c5 c6 hX3 hB3 hm
        go_wp2
        go_loopw [4, 5, 6] (fun a i _ wr => ∃ k : Nat, k ≤ x.ents.length ∧ a = .string (b1 x.kind ++ num4 x.ents.length ++ encEnts (x.ents.take k)) ∧ i = .int .i64 k ∧ Have w.heap.size wr x ea ec pa pc ∧ Below w.heap.size w wr) (fun _ i _ _ => x.ents.length - (intOf i).toNat)
        case atStart => exact ⟨0, by omega, by rw [List.take_zero, encEnts, append_empty], rfl, hX4.out, hB4.out⟩
        case round =>
          clear hX4 hB4
          obtain ⟨k, hk, rfl, rfl, hX, hB⟩ := hrel
          have cx2 := hX.cells.2.2.1
          by_cases hlt : k < x.ents.length
          · have i1 : (k : Int) < x.ents.length := by omega
            have i0 : 0 ≤ (k : Int) := by omega
            obtain ⟨eb, eo, hE⟩ := hX.at_.ents
            obtain rfl := hE.addr (by omega)
            have c0 := hE.name k _ (List.getElem?_eq_getElem hlt)
            have c1 := hE.kind k _ (List.getElem?_eq_getElem hlt)
            have c2 := hE.id k _ (List.getElem?_eq_getElem hlt)
            have hnext : encEnts (x.ents.take (k + 1)) = encEnts (x.ents.take k) ++ (encEnt x.ents[k] ++ empty) := by rw [take_next hlt, encEnts_append]; rfl
            rw [append_empty] at hnext
            have hge := goodEnt_iff.1 (hg.out _ (List.getElem_mem hlt))
            have hsz := encEnts_size (x.ents.take k) fun e he => hg.out e (List.mem_of_mem_take he)
            rw [List.length_take] at hsz
            generalize x.ents[k] = e at *
            obtain ⟨n, kd, i⟩ := e
            dsimp only at c0 c1 c2 hge
            obtain ⟨g1, g2, g3⟩ := hge
            have hnz := name_size g2
            have hsz1 : (b1 x.kind ++ num4 x.ents.length ++ encEnts (x.ents.take k)).size ≤ 100000 := by rw [ByteArray.size_append, ByteArray.size_append, Oct.num4_size, b1_size]; omega
            have hk9 : kd % 256 = kd := by omega
            have hkr2 : Hid (0 ≤ kd ∧ kd < 256) := Lib.hid (by omega)
            have hT := Lib.hid fun w => RText_small n (by omega) w
            have hts : (txt n).size = 4 + n.size := by unfold txt; rw [ByteArray.size_append, Oct.num4_size]
            have hX2 := Lib.hid (hX.next (b_alloc wr (.cells #[.string n, .int .i64 kd, .string i] 47)))
            have hB2 := Lib.hid (below_next hB (b_alloc wr (.cells #[.string n, .int .i64 kd, .string i] 47)))
            have hx := Lib.hid (Blk.new wr #[.string n, .int .i64 kd, .string i] 47)
            replace hX := Lib.hid hX
            replace hB := Lib.hid hB
            replace hE := Lib.hid hE
            replace hnext := Lib.hid hnext
            clear hsz g1 g2
            generalize hacc : b1 x.kind ++ num4 x.ents.length ++ encEnts (x.ents.take k) = acc at *
            go_upto_region 12 with (fail)
            generalize wr.alloc (.cells #[.string n, .int .i64 kd, .string i] 47) = w5 at *
            clear c0 c1 c2 cx2 hX hB hE
            have c0 := hx.out.cell 0 (v := .string n) rfl
            have c1 := hx.out.cell 1 (v := .int .i64 kd) rfl
            have c2 := hx.out.cell 2 (v := .string i) rfl
            have hcv := conv_one kd hkr2.out.1 hkr2.out.2
            have hcv1 : ∀ (w : World) (b : Nat), b = w.heap.size → (convert 51 9 (.slice (some ⟨b, 0, none⟩) 1 1)).run Tryd.prog (w.alloc (.cells #[.int .u8 kd] 5)) = .ok (.string (b1 kd)) (w.alloc (.cells #[.int .u8 kd] 5)) := fun w b h => by subst h; exact conv_one kd hkr2.out.1 hkr2.out.2 _ _ ((Blk.new w #[.int .u8 kd] 5).cell 0 rfl)
            have hcv2 : ∀ (w : World) (b : Nat) (c : Go.Obj), b = w.heap.size → (convert 51 9 (.slice (some ⟨b, 0, none⟩) 1 1)).run Tryd.prog ((w.alloc (.cells #[.int .u8 kd] 5)).alloc c) = .ok (.string (b1 kd)) ((w.alloc (.cells #[.int .u8 kd] 5)).alloc c) := fun w b c h => by subst h; exact conv_one kd hkr2.out.1 hkr2.out.2 _ _ (((Blk.new w #[.int .u8 kd] 5).alloc c).cell 0 rfl)
            have hq1 : ¬ 9223372036854775807 < acc.size + (b1 kd).size := by rw [b1_size]; omega
            have hq2 : ¬ 9223372036854775807 < (acc ++ b1 kd).size + (txt n).size := by rw [ByteArray.size_append, b1_size]; omega
            have hq3 : ¬ 9223372036854775807 < (acc ++ b1 kd ++ txt n).size + i.size := by rw [ByteArray.size_append, ByteArray.size_append, b1_size]; omega
            have hq4 : ¬ 9223372036854775807 < acc.size + (b1 kd).size + (txt n).size := by rw [b1_size]; omega
            have hq5 : ¬ 9223372036854775807 < acc.size + (b1 kd).size + (txt n).size + i.size := by rw [b1_size]; omega
            have hwk : IntKind.u8.wrap kd = kd := by rw [IntKind.wrap_u8]; omega
            have p0 : ∀ o, (w5.alloc o).cell? ⟨wr.heap.size, 0, none⟩ = some (.string n) := fun o => Oct.cell_alloc c0
            have p1 : ∀ o, (w5.alloc o).cell? ⟨wr.heap.size, 1, none⟩ = some (.int .i64 kd) := fun o => Oct.cell_alloc c1
            have p2 : ∀ o, (w5.alloc o).cell? ⟨wr.heap.size, 2, none⟩ = some (.string i) := fun o => Oct.cell_alloc c2
            have p3 : ∀ o p, ((w5.alloc o).alloc p).cell? ⟨wr.heap.size, 0, none⟩ = some (.string n) := fun o p => Oct.cell_alloc (Oct.cell_alloc c0)
            have p4 : ∀ o p, ((w5.alloc o).alloc p).cell? ⟨wr.heap.size, 1, none⟩ = some (.int .i64 kd) := fun o p => Oct.cell_alloc (Oct.cell_alloc c1)
            have p5 : ∀ o p, ((w5.alloc o).alloc p).cell? ⟨wr.heap.size, 2, none⟩ = some (.string i) := fun o p => Oct.cell_alloc (Oct.cell_alloc c2)
            replace g3 := Lib.hid g3
            clear hts hsz1 hnz
            go_region_law ((go_simp; go_at_call 33; refine (hT.out _).mono ?_; rintro e w6 ⟨rfl, c, rfl⟩))
            all_goals
              have hX7 := Lib.hid fun o p => hX2.out.next (b_two w5 o p)
              have hB7 := Lib.hid fun o p => below_next hB2.out (b_two w5 o p)
              have hfin : Hid (acc ++ b1 kd ++ txt n ++ i = b1 x.kind ++ num4 x.ents.length ++ encEnts (x.ents.take (k + 1))) := Lib.hid (by
                rw [hnext.out, ← ByteArray.append_assoc, hacc]
                unfold encEnt
                simp only [ByteArray.append_assoc])
              clear hX2 hB2 c0 c1 c2 hq1 hq2 hq3 hq4 hq5 hcv hcv1 hcv2 hT hx hacc p0 p1 p2 p3 p4 p5
              go_wp2
              exact ⟨⟨k + 1, by omega, by rw [hfin.out], by go_num, hX7.out _ _, hB7.out _ _⟩, by simp [intOf]; omega⟩
          · have d3 : decide ((k : Int) < x.ents.length) = false := decide_eq_false (by omega)
            have d4 : (x.ents.length : Int) ≤ k := by omega
            obtain rfl : k = x.ents.length := by omega
            rw [List.take_length]
            replace henc : Hid (enc x = b1 x.kind ++ num4 x.ents.length ++ encEnts x.ents) := Lib.hid (by rw [henc.out, ByteArray.append_assoc])
            replace hB := Lib.hid hB
            replace hX := Lib.hid hX
            go_wp2
            go_ret2
            exact ⟨by rw [henc.out]; rfl, hB.out⟩
      · have d2 : (x.kind == 2) = false := by simpa using k2
        have k3 : x.kind = 3 := by omega
        obtain ⟨ht, hl, hp, hh0, hh1, _, hn⟩ := goodCommit_iff.1 (show goodCommit x = true by have := hgood.out; unfold good at this; rw [if_neg k1, if_neg k2, if_pos k3] at this; exact this)
        replace hp := Lib.hid (goodPars_mem hp)
        replace henc : Hid (enc x = b1 x.kind ++ (x.tree ++ num4 x.pars.length ++ encPars x.pars ++ num4 x.height ++ txt x.note)) := Lib.hid (by rw [henc.out, encRest, if_neg k1, if_neg k2])
        replace k1 := Lib.hid k1
        replace k2 := Lib.hid k2
        replace k3 := Lib.hid k3
        have hm := mod_small x.pars.length (by omega)
        have hm1 : IntKind.u32.wrap (x.pars.length : Int) = x.pars.length := by rw [IntKind.wrap_u32]; omega
        have hq0 : ¬ 9223372036854775807 < (b1 x.kind).size + x.tree.size := by rw [b1_size]; omega
        have hq1 : ¬ 9223372036854775807 < (b1 x.kind).size + x.tree.size + 4 := by rw [b1_size]; omega
        have hN := Lib.hid fun w => Oct.RefNum_calls (x.pars.length : Int) (by omega) (by omega) w
        replace ht := Lib.hid ht
        go_upto_region 14 with (fail)
        go_region_held3 (fun w' => w'.cell? ⟨w.heap.size, 3, none⟩ = some (.string x.tree) ∧ w'.cell? ⟨w.heap.size, 4, none⟩ = some (.slice pa x.pars.length pc))
          (first | exact ⟨c3, c4⟩ | exact ⟨Oct.cell_alloc c3, Oct.cell_alloc c4⟩)
          ((go_at_call 32; refine (hN.out _).mono ?_; rintro e w4 ⟨rfl, c, rfl⟩))
        have hX4 := Lib.hid (hX3.out.next (b_one w3 (.cells c 5)))
        have hB4 := Lib.hid (below_next hB3.out (b_one w3 (.cells c 5)))
        rename_i hHeld
        clear c0 c1 c2 c3 c4 c5 c6 hX3 hB3 hm hq0 hq1 hN hHeld
        generalize (w3.alloc (.cells c 5)).drew = w4 at *
        go_wp2
        go_loopw [4, 7] (fun a i wr => ∃ k : Nat, k ≤ x.pars.length ∧ a = .string (b1 x.kind ++ x.tree ++ num4 x.pars.length ++ encPars (x.pars.take k)) ∧ i = .int .i64 k ∧ w4 = wr) (fun _ i _ => x.pars.length - (intOf i).toNat)
        case atStart => exact ⟨0, by omega, by rw [List.take_zero, encPars, append_empty], rfl, rfl⟩
        case round =>
          obtain ⟨k, hk, rfl, rfl, rfl⟩ := hrel
          have hsz := encPars_size (x.pars.take k) fun e he => hp.out e (List.mem_of_mem_take he)
          rw [List.length_take] at hsz
          have hsz1 : (b1 x.kind ++ x.tree ++ num4 x.pars.length ++ encPars (x.pars.take k)).size ≤ 1000 := by have := ht.out; simp only [ByteArray.size_append, Oct.num4_size, b1_size]; omega
          clear hsz
          have cx4 := hX4.out.cells.2.2.2.2.1
          by_cases hlt : k < x.pars.length
          · have i1 : (k : Int) < x.pars.length := by omega
            have i0 : 0 ≤ (k : Int) := by omega
            obtain ⟨eb, eo, hE⟩ := hX4.out.at_.pars
            obtain rfl := hE.addr (by omega)
            have c0 := hE.cell k _ (List.getElem?_eq_getElem hlt)
            have hnext : encPars (x.pars.take (k + 1)) = encPars (x.pars.take k) ++ (x.pars[k] ++ empty) := by rw [take_next hlt, encPars_append]; rfl
            rw [append_empty] at hnext
            have hge := hp.out _ (List.getElem_mem hlt)
            generalize x.pars[k] = e at *
            replace hnext := Lib.hid hnext
            replace hE := Lib.hid hE
            generalize hacc : b1 x.kind ++ x.tree ++ num4 x.pars.length ++ encPars (x.pars.take k) = acc at *
            have hq : ¬ 9223372036854775807 < acc.size + e.size := by omega
            replace hge := Lib.hid hge
            go_wp2
            exact ⟨⟨k + 1, by omega, by rw [hnext.out, ← ByteArray.append_assoc, hacc], by go_num, by first | rfl | trivial⟩, by simp [intOf]; omega⟩
          · have d3 : decide ((k : Int) < x.pars.length) = false := decide_eq_false (by omega)
            have d4 : (x.pars.length : Int) ≤ k := by omega
            obtain rfl : k = x.pars.length := by omega
            rw [List.take_length] at hsz1 ⊢
            generalize hacc : b1 x.kind ++ x.tree ++ num4 x.pars.length ++ encPars x.pars = acc at *
            have c5 := hX4.out.cells.2.2.2.2.2.1
            have c6 := hX4.out.cells.2.2.2.2.2.2
            have hts : (txt x.note).size = 4 + x.note.size := by unfold txt; rw [ByteArray.size_append, Oct.num4_size]
            have hm2 : x.height % 4294967296 = x.height := by omega
            have hm3 : IntKind.u32.wrap x.height = x.height := by rw [IntKind.wrap_u32]; omega
            have hq1 : ¬ 9223372036854775807 < acc.size + 4 := by omega
            have hq2 : ¬ 9223372036854775807 < acc.size + 4 + (txt x.note).size := by omega
            have hN := Lib.hid fun w => Oct.RefNum_calls x.height (by omega) (by omega) w
            have hT := Lib.hid fun w => RText_small x.note (by omega) w
            clear hts
            go_upto_region 19 with (fail)
            go_region_held3 (fun w' => w'.cell? ⟨w.heap.size, 5, none⟩ = some (.int .i64 x.height) ∧ w'.cell? ⟨w.heap.size, 6, none⟩ = some (.string x.note))
              (first | exact ⟨c5, c6⟩ | exact ⟨Oct.cell_alloc c5, Oct.cell_alloc c6⟩ | exact ⟨Oct.cell_alloc (Oct.cell_alloc c5), Oct.cell_alloc (Oct.cell_alloc c6)⟩)
              (first
                | (go_at_call 32; refine (hN.out _).mono ?_; rintro e w5 ⟨rfl, c, rfl⟩)
                | (go_at_call 33; refine (hT.out _).mono ?_; rintro e w6 ⟨rfl, c', rfl⟩))
            all_goals
              have hB7 := Lib.hid fun o p => below_next hB4.out (b_two w4 o p)
              replace henc : Hid (enc x = acc ++ num4 x.height ++ txt x.note) := Lib.hid (by rw [henc.out, ← hacc]; simp only [ByteArray.append_assoc])
              go_wp2
              go_ret2
              exact ⟨by rw [henc.out]; rfl, hB7.out _ _⟩
end Go.Proofs.YtmbbnabongnojaaDoor.Ob
