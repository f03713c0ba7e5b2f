/-
  Proved: for every object, ObjectLinks returns true and turns nothing of what it was given. Conditions: none beyond the form's own (the constants of the digest are what the program's text lays: the card ties them).
-/
import Derived.Test.YtmbbnabongnojaaDoorRows
import Derived.Test.YtmbbnabongnojaaDoorCards
import Derived.Test.YtmbbnabongnojaaDoorTie
import Derived.Test.YtmbbnabongnojaaDoorOctKit
import Derived.SevenTiedAt
import Derived.Test.YtmbbnabongnojaaDoorObLaid
import Derived.Test.YtmbbnabongnojaaDoorObHave
import Derived.Test.YtmbbnabongnojaaDoorObGreat
import Derived.Test.YtmbbnabongnojaaDoorObOpen
import Derived.Test.YtmbbnabongnojaaDoorObRefA
import Derived.Test.YtmbbnabongnojaaDoorObRefB
import Derived.Test.YtmbbnabongnojaaDoorLkLinks
import Derived.Test.YtmbbnabongnojaaDoorLkRef
import Derived.WalkKit
import Derived.WalkSpells
import Derived.WalkLawsBesides
import Derived.ProofKit
import Derived.OpenShut
import Derived.Laws.BytesArg
import Derived.Deep.QuietTactic
import Derived.BigQuiet
import Derived.BigRegion
import Derived.Lib.Hide
import Derived.LaidMore
import Derived.Stop.Joined
import Derived.MakeChecks
import Derived.Deep.RegionHeld3
import Derived.Deep.DeepCutAuto
import Derived.Deep.CutRange
namespace Go.Proofs.YtmbbnabongnojaaDoor.objectLinks
open Go Go.ChangeShapes Go.WideShapes Go.ChangeAt Go.RowKit Ob Lk
open Oct (empty)
open Go.ChangeMaps (open_string)

theorem drew2 (w : World) (m n : Nat) : (w.drewN m).drewN n = w.drewN (m + n) := by simp [World.drewN, Nat.add_assoc]
theorem drew3 (w : World) (l m n : Nat) : ((w.drewN l).drewN m).drewN n = w.drewN (l + m + n) := by rw [drew2, drew2, Nat.add_assoc]
theorem nodup_len : ∀ (D M : List Lnk), D.Nodup → (∀ l, l ∈ D → l ∈ M) → D.length ≤ M.length
  | [], _, _, _ => Nat.zero_le _
  | a :: D, M, h, hm => by
    obtain ⟨h1, h2⟩ := List.nodup_cons.1 h
    have ha : a ∈ M := hm a (by simp)
    have ih := nodup_len D (M.erase a) h2 fun l hl => (List.mem_erase_of_ne (fun e => h1 (by rw [← e]; exact hl))).2 (hm l (List.mem_cons_of_mem _ hl))
    rw [List.length_erase_of_mem ha] at ih
    have : 0 < M.length := List.length_pos_of_mem ha
    rw [List.length_cons]
    omega
theorem up_nodup {D : List Lnk} (h : D.Pairwise fun a b => lt a b = true) : D.Nodup := h.imp fun {a b} g e => by subst e; rw [lt_irrefl] at g; cases g
theorem same_len {M D : List Lnk} (hM : M.Nodup) (h : IsLinks M D) : D.length = M.length :=
  Nat.le_antisymm (nodup_len D M (up_nodup h.up) fun l hl => (h.mem l).1 hl) (nodup_len M D hM fun l hl => (h.mem l).2 hl)
theorem up_at {D : List Lnk} (h : D.Pairwise fun a b => lt a b = true) {i : Nat} (hi : i < D.length) (h0 : 0 < i) : lt (D[i - 1]'(by omega)) D[i] = true :=
  List.pairwise_iff_getElem.1 h (i - 1) i (by omega) hi (by omega)
/-- how the law's test of two neighbours comes out -/
theorem near {p q : Lnk} (h : lt p q = true) : (Op.bytesLess p.id.toList q.id.toList = true ∧ (p.id.toList == q.id.toList) = false) ∨ (Op.bytesLess p.id.toList q.id.toList = false ∧ (p.id.toList == q.id.toList) = true ∧ p.kind < q.kind) := by
  rcases lt_iff.1 h with g | ⟨g1, g2⟩
  · rw [← ByteArray.toList_eq, ← ByteArray.toList_eq] at g
    have hne : p.id ≠ q.id := fun e => by rw [e, Pa.less_irrefl] at g; cases g
    exact Or.inl ⟨g, str_ne hne⟩
  · exact Or.inr ⟨by rw [g1]; exact Pa.less_irrefl _, str_eq g1, g2⟩
open Go in
theorem lnk_eq (p q : Lnk) : ((p.kind == q.kind) = true ∧ (p.id.toList == q.id.toList) = true ∧ p = q) ∨ ((p.kind == q.kind) = true ∧ (p.id.toList == q.id.toList) = false ∧ p ≠ q) ∨ ((p.kind == q.kind) = false ∧ p ≠ q) := by
  by_cases e : p.kind = q.kind
  · by_cases g : p.id = q.id
    · refine Or.inl ⟨by simpa using e, str_eq g, ?_⟩
      obtain ⟨a, b⟩ := p
      obtain ⟨c, d⟩ := q
      dsimp only at e g
      rw [e, g]
    · exact Or.inr (Or.inl ⟨by simpa using e, str_ne g, fun h => g (by rw [h])⟩)
  · exact Or.inr (Or.inr ⟨by simpa using e, fun h => e (by rw [h])⟩)
theorem mem_take_succ {α : Type} (f : α → Lnk) {L : List α} {k : Nat} (h : k < L.length) (p : Lnk) : (p ∈ (L.take (k + 1)).map f) ↔ (p ∈ (L.take k).map f ∨ p = f L[k]) := by
  rw [← take_snoc f h, List.mem_append, List.mem_singleton]
theorem mem_take_d {D : List Lnk} {k : Nat} (h : k < D.length) (p : Lnk) : (p ∈ D.take (k + 1)) ↔ (p ∈ D.take k ∨ p = D[k]) := by
  rw [List.take_succ_eq_append_getElem h, List.mem_append, List.mem_singleton]
theorem pars_up : ∀ {a : ByteArray} {l : List ByteArray}, goodPars a l = true → (∀ p ∈ l, up a p = true) ∧ l.Pairwise fun p q => up p q = true
  | a, [], _ => ⟨fun p hp => by simp at hp, List.Pairwise.nil⟩
  | a, q :: l, h => by
    simp only [goodPars, Bool.and_eq_true, decide_eq_true_eq] at h
    obtain ⟨h1, h2⟩ := pars_up h.2
    refine ⟨fun p hp => ?_, List.pairwise_cons.2 ⟨h1, h2⟩⟩
    rcases List.mem_cons.1 hp with e | e
    · rw [e]; exact h.1.1
    · exact Pa.less_trans _ _ _ h.1.1 (h1 p e)
theorem commit_nodup {x : Ob.Obj} (h : good x = true) (k3 : x.kind = 3) : ((⟨2, x.tree⟩ : Lnk) :: x.pars.map fun p => (⟨3, p⟩ : Lnk)).Nodup := by
  have hg : goodCommit x = true := by unfold good at h; rw [if_neg (by omega), if_neg (by omega), if_pos k3] at h; exact h
  have hp := (pars_up (goodCommit_iff.1 hg).2.2.1).2
  refine List.nodup_cons.2 ⟨fun hm => ?_, ?_⟩
  · obtain ⟨p, _, e⟩ := List.mem_map.1 hm
    have := congrArg Lnk.kind e
    simp at this
  · refine List.pairwise_map.2 (hp.imp fun {a b} g e => ?_)
    have e2 : a = b := congrArg Lnk.id e
    subst e2
    unfold up at g
    rw [Pa.less_irrefl] at g
    cases g
set_option maxRecDepth 100000 in
set_option maxHeartbeats 8000000 in
theorem walk_tree (x : Ob.Obj) (ea : Option Addr) (ec : Nat) (pa : Option Addr) (pc : Nat) (w : World) (hO : ObAt w x ea ec pa pc) (hl1 : x.ents.length ≤ maxLen) (hl2 : x.pars.length ≤ maxLen) (k2 : Hid (x.kind = 2)) (hk : Sha.Kc w) :
    Calls Tryd.prog 7 #[val x ea ec pa pc] w fun e w' => e = .returned (.bool true) ∧ Below w.heap.size w w' := by
  have hX := Lib.hid (Have.new hO)
  have hB := Lib.hid (b_alloc w (.cells (cellsOf x ea ec pa pc) 25))
  replace hk := Lib.hid (kc_below hk hB.out)
  clear hO hl1 hl2
  go_enter Tryd.func7, Tryd.ntmps7
  go_wp2_with fail
  generalize w.alloc (.cells (cellsOf x ea ec pa pc) 25) = w1 at *
  refine (awake_calls w1 hk.out).mono ?_
  rintro e w2 ⟨rfl, b2⟩
  replace hX := Lib.hid (hX.out.next b2)
  replace hB := Lib.hid (below_next hB.out b2)
  clear b2 hk
  obtain ⟨c0, c1, c2, c3, c4, c5, c6⟩ := hX.out.cells
  go_wp2_with fail
  refine (great_calls x ea ec pa pc w2 hX.out.at_).mono ?_
  rintro e w3 ⟨⟨g, rfl⟩, b3⟩
  replace hX := Lib.hid (hX.out.next b3)
  replace hB := Lib.hid (below_next hB.out b3)
  clear b3 c0 c1 c2 c3 c4 c5 c6
  cases g with
  | true =>
    go_wp2
    go_ret
    exact ⟨rfl, hB.out⟩
  | false =>
    obtain ⟨c0, c1, c2, c3, c4, c5, c6⟩ := hX.out.cells
    go_wp2_with fail
    refine (Links_calls x ea ec pa pc w3 hX.out.at_).mono ?_
    rintro e w4 ⟨⟨D, a, cap, b, off, rfl, hK, hI⟩, b4⟩
    replace hX := Lib.hid (hX.out.next b4)
    replace hB := Lib.hid (below_next hB.out b4)
    replace hK := Lib.hid hK
    replace hI := Lib.hid hI
    clear b4 c0 c1 c2 c3 c4 c5 c6
    obtain ⟨c0, c1, c2, c3, c4, c5, c6⟩ := hX.out.cells
    go_wp2_with fail
    refine (Good_calls x ea ec pa pc w4 hX.out.at_).mono ?_
    rintro e w5 ⟨rfl, b5⟩
    replace hK := Lib.hid (hK.out.below b5)
    replace hX := Lib.hid (hX.out.next b5)
    replace hB := Lib.hid (below_next hB.out b5)
    clear b5 c0 c1 c2 c3 c4 c5 c6
    obtain ⟨c0, c1, c2, c3, c4, c5, c6⟩ := hX.out.cells
    by_cases hno : good x = false ∨ x.kind = 1
    · have hD : D.length = 0 := by
        have hn : names x = [] := by
          unfold names
          rcases hno with h | h
          · rw [h]; rfl
          · split
            · unfold ofObj; rw [if_neg (by omega), if_neg (by omega)]
            · rfl
        have := hI.out.unique (by rw [hn]; exact IsLinks.nil)
        rw [this]; rfl
      have hz : ((D.length : Int) == 0) = true := by rw [hD]; rfl
      replace hD := Lib.hid hD
      clear hK hI
      cases hg : good x with
      | false =>
        clear hno
        go_wp2
        go_ret
        exact ⟨rfl, hB.out⟩
      | true =>
        have k1 : x.kind = 1 := hno.resolve_left (by rw [hg]; decide)
        have q1 : (x.kind == 1) = true := by simpa using k1
        clear hno
        replace k1 := Lib.hid k1
        go_wp2
        go_ret
        exact ⟨rfl, hB.out⟩
    · have hg : good x = true := by
        cases h : good x with
        | true => rfl
        | false => exact absurd (Or.inl h) hno
      have k1 : x.kind ≠ 1 := fun h => hno (Or.inr h)
      clear hno
      have q1 : (x.kind == 1) = false := by simpa using k1
      have hkd := good_kind hg
      have hlen : D.length ≤ 100000 := by
        have h1 := nodup_len D _ (up_nodup hI.out.up) fun l hl => (hI.out.mem l).1 hl
        have h2 : (names x).length ≤ 1000 := by unfold names; rw [if_pos hg]; exact (of_len hg).2.2
        omega
      have hn : names x = ofObj x := by unfold names; rw [if_pos hg]
      obtain ⟨ol1, ol2, _⟩ := of_len hg
      rw [hg]
      rw [hn] at hI
      clear hn
      have k2 := k2.out
      have q2 : (x.kind == 2) = true := by simpa using k2
      have q3 : (x.kind == 3) = false := by simp [k2]
      have hl := ol1 k2
      rw [show ofObj x = x.ents.map fun e => ⟨e.kind, e.id⟩ by unfold ofObj; rw [if_pos k2]] at hI
      obtain ⟨eb, eo, hE⟩ := hX.out.at_.ents
      replace hE := Lib.hid hE
      replace hkd := Lib.hid hkd
      replace k1 := Lib.hid k1
      replace k2 := Lib.hid k2
      replace hg := Lib.hid hg
      clear ol1 ol2
      go_wp2
      go_loopw [4, 5, 6, 7] (fun i _ _ _ wr => ∃ k n : Nat, k ≤ D.length ∧ i = .int .i64 k ∧ wr = w5.drewN n) (fun i _ _ _ _ => D.length - (intOf i).toNat)
      case atStart => exact ⟨0, 0, by omega, rfl, rfl⟩
      case round =>
        obtain ⟨k, n, hk, rfl, rfl⟩ := hrel
        by_cases hlt : k < D.length
        · have i1 : (k : Int) < D.length := by omega
          have i0 : 0 ≤ (k : Int) := by omega
          obtain rfl := hK.out.addr (by omega)
          have d0 := hK.out.kind k _ (List.getElem?_eq_getElem hlt)
          have d1 := hK.out.id k _ (List.getElem?_eq_getElem hlt)
          have hmem := Lib.hid ((hI.out.mem D[k]).1 (List.getElem_mem hlt))
          have hup : 0 < k → ∃ o : Lnk, w5.cell? ⟨b, off + (k - 1) * 2, none⟩ = some (.int .i64 o.kind) ∧ w5.cell? ⟨b, off + (k - 1) * 2 + 1, none⟩ = some (.string o.id) ∧ lt o D[k] = true := fun h => ⟨D[k - 1]'(by omega), hK.out.kind (k - 1) _ (List.getElem?_eq_getElem (by omega)), hK.out.id (k - 1) _ (List.getElem?_eq_getElem (by omega)), up_at hI.out.up hlt h⟩
          generalize D[k] = p at *
          go_upto_region 11 with fail
          go_cut [77] from 28 to 151 (fun c wx => c = .bool false ∧ ∃ n, wx = w5.drewN n)
          case first =>
            by_cases hk0 : k = 0
            · have hkA : decide (0 < k) = false := decide_eq_false (by omega)
              have hkB : ¬ 0 < k := by omega
              replace hk0 := Lib.hid hk0
              clear hup
              go_quiet (fail)
              go_wp2
              go_meet
              exact ⟨rfl, _, by first | rfl | exact drew3 _ _ _ _ | exact drew2 _ _ _⟩
            · have hkA : decide (0 < k) = true := decide_eq_true (by omega)
              have hkB : 0 < k := by omega
              obtain ⟨o, e0, e1, hup⟩ := hup (by omega)
              obtain ⟨m, hm⟩ : ∃ m, k - 1 = m := ⟨_, rfl⟩
              rw [hm] at e0 e1
              have hkC : IntKind.i64.wrap ((k : Int) - 1) = (m : Int) := by rw [IntWalk.i64_in _ (by omega)]; omega
              have hkD : (m : Int) < D.length := by omega
              have hkE : 0 ≤ (m : Int) := by omega
              replace hm := Lib.hid hm
              have hnear := near hup
              replace hup := Lib.hid hup
              rcases hnear with ⟨n1, n2⟩ | ⟨n1, n2, n3⟩
              · go_quiet (fail)
                go_wp2
                go_meet
                exact ⟨rfl, _, by first | rfl | exact drew3 _ _ _ _ | exact drew2 _ _ _⟩
              · have n4 : ¬ p.kind ≤ o.kind := by omega
                have n5 : decide (p.kind ≤ o.kind) = false := decide_eq_false (by omega)
                go_quiet (fail)
                go_wp2
                go_meet
                exact ⟨rfl, _, by first | rfl | exact drew3 _ _ _ _ | exact drew2 _ _ _⟩
          case rest =>
            obtain ⟨rfl, n, rfl⟩ := hcut
            clear hup
            go_wp2_with fail
            go_quiet (fail)
            go_wp2
            go_loopw [5, 6] (fun is i wr => ∃ (j n : Nat) (dn : Bool), j ≤ x.ents.length ∧ i = .int .i64 j ∧ is = .bool dn ∧ Hid (dn = true ↔ p ∈ (x.ents.take j).map fun e => (⟨e.kind, e.id⟩ : Lnk)) ∧ wr = w5.drewN n) (fun _ i _ => x.ents.length - (intOf i).toNat)
            case atStart => exact ⟨0, _, false, by omega, rfl, rfl, Lib.hid (by simp), by first | rfl | exact drew3 _ _ _ _ | exact drew2 _ _ _⟩
            case round =>
              obtain ⟨j, n, dn, hj, rfl, rfl, hd, rfl⟩ := hrel
              by_cases hltj : j < x.ents.length
              · have j1 : (j : Int) < x.ents.length := by omega
                have j0 : 0 ≤ (j : Int) := by omega
                obtain rfl := hE.out.addr (by omega)
                have f1 := hE.out.kind j _ (List.getElem?_eq_getElem hltj)
                have f2 := hE.out.id j _ (List.getElem?_eq_getElem hltj)
                have hms := mem_take_succ (fun e : Ent => (⟨e.kind, e.id⟩ : Lnk)) hltj p
                generalize x.ents[j] = en at *
                try dsimp only at hms
                replace hms := Lib.hid hms
                cases dn with
                | true =>
                  have hd2 := Lib.hid ((hms.out).2 (Or.inl (hd.out.1 rfl)))
                  go_wp2_with fail
                  go_quiet (fail)
                  go_wp2
                  exact ⟨⟨j + 1, _, true, by omega, by go_num, rfl, Lib.hid ⟨fun _ => hd2.out, fun _ => rfl⟩, by first | rfl | exact drew3 _ _ _ _ | exact drew2 _ _ _⟩, by simp [intOf]; omega⟩
                | false =>
                  rcases lnk_eq p (⟨en.kind, en.id⟩ : Lnk) with ⟨t1, t2, t3⟩ | ⟨t1, t2, t3⟩ | ⟨t1, t3⟩
                  · have hd2 := Lib.hid ((hms.out).2 (Or.inr t3))
                    replace t3 := Lib.hid t3
                    try dsimp only at t1 t2
                    go_wp2_with fail
                    go_quiet (fail)
                    go_wp2
                    exact ⟨⟨j + 1, _, true, by omega, by go_num, rfl, Lib.hid ⟨fun _ => hd2.out, fun _ => rfl⟩, by first | rfl | exact drew3 _ _ _ _ | exact drew2 _ _ _⟩, by simp [intOf]; omega⟩
                  · have hd2 : Hid (¬ _) := Lib.hid fun h => ((hms.out).1 h).elim (fun g => absurd (hd.out.2 g) (by decide)) t3
                    replace t3 := Lib.hid t3
                    try dsimp only at t1 t2
                    go_wp2_with fail
                    go_quiet (fail)
                    go_wp2
                    exact ⟨⟨j + 1, _, false, by omega, by go_num, rfl, Lib.hid ⟨fun h => (by cases h), fun h => absurd h hd2.out⟩, by first | rfl | exact drew3 _ _ _ _ | exact drew2 _ _ _⟩, by simp [intOf]; omega⟩
                  · have hd2 : Hid (¬ _) := Lib.hid fun h => ((hms.out).1 h).elim (fun g => absurd (hd.out.2 g) (by decide)) t3
                    replace t3 := Lib.hid t3
                    try dsimp only at t1
                    go_wp2_with fail
                    go_quiet (fail)
                    go_wp2
                    exact ⟨⟨j + 1, _, false, by omega, by go_num, rfl, Lib.hid ⟨fun h => (by cases h), fun h => absurd h hd2.out⟩, by first | rfl | exact drew3 _ _ _ _ | exact drew2 _ _ _⟩, by simp [intOf]; omega⟩
              · have m0 : decide ((j : Int) < x.ents.length) = false := decide_eq_false (by omega)
                have m1 : (x.ents.length : Int) ≤ j := by omega
                obtain rfl : j = x.ents.length := by omega
                obtain rfl : dn = true := by have := hd.out; rw [List.take_length] at this; exact this.2 hmem.out
                clear hd
                go_wp2
                go_loopw [5, 7] (fun is i wr => i = .int .i64 0 ∧ is = .bool true ∧ ∃ n, wr = w5.drewN n) (fun _ i _ => 0)
                case atStart => exact ⟨rfl, rfl, _, rfl⟩
                case round =>
                  obtain ⟨rfl, rfl, n, rfl⟩ := hrel
                  by_cases hp0 : (0 : Int) < x.pars.length
                  · have hp1 : decide ((0 : Int) < x.pars.length) = true := decide_eq_true hp0
                    go_wp2
                    exact ⟨⟨k + 1, _, by omega, by go_num, rfl⟩, by simp [intOf]; omega⟩
                  · have hp1 : decide ((0 : Int) < x.pars.length) = false := decide_eq_false hp0
                    have hp2 : (x.pars.length : Int) ≤ 0 := by omega
                    go_wp2
                    exact ⟨⟨k + 1, _, by omega, by go_num, rfl⟩, by simp [intOf]; omega⟩
        · have m0 : decide ((k : Int) < D.length) = false := decide_eq_false (by omega)
          have m1 : (D.length : Int) ≤ k := by omega
          obtain rfl : k = D.length := by omega
          go_wp2
          go_loopw [8, 9, 10] (fun i _ _ wr => ∃ j n : Nat, j ≤ x.ents.length ∧ i = .int .i64 j ∧ wr = w5.drewN n) (fun i _ _ _ => x.ents.length - (intOf i).toNat)
          case atStart => exact ⟨0, _, by omega, rfl, rfl⟩
          case round =>
            obtain ⟨t, n, ht, rfl, rfl⟩ := hrel
            by_cases hltt : t < x.ents.length
            · have j1 : (t : Int) < x.ents.length := by omega
              have j0 : 0 ≤ (t : Int) := by omega
              obtain rfl := hE.out.addr (by omega)
              have f1 := hE.out.kind t _ (List.getElem?_eq_getElem hltt)
              have f2 := hE.out.id t _ (List.getElem?_eq_getElem hltt)
              have hmem := Lib.hid ((hI.out.mem ⟨(x.ents[t]).kind, (x.ents[t]).id⟩).2 (List.mem_map.2 ⟨_, List.getElem_mem hltt, rfl⟩))
              generalize x.ents[t] = en at *
              go_wp2
              go_loopw [9, 10] (fun is i wr => ∃ (j n : Nat) (dn : Bool), j ≤ D.length ∧ i = .int .i64 j ∧ is = .bool dn ∧ Hid (dn = true ↔ (⟨en.kind, en.id⟩ : Lnk) ∈ D.take j) ∧ wr = w5.drewN n) (fun _ i _ => D.length - (intOf i).toNat)
              case atStart => exact ⟨0, _, false, by omega, rfl, rfl, Lib.hid (by simp), rfl⟩
              case round =>
                obtain ⟨j, n, dn, hj, rfl, rfl, hd, rfl⟩ := hrel
                by_cases hltj : j < D.length
                · have i1 : (j : Int) < D.length := by omega
                  have i0 : 0 ≤ (j : Int) := by omega
                  obtain rfl := hK.out.addr (by omega)
                  have d0 := hK.out.kind j _ (List.getElem?_eq_getElem hltj)
                  have d1 := hK.out.id j _ (List.getElem?_eq_getElem hltj)
                  have hms := mem_take_d hltj (⟨en.kind, en.id⟩ : Lnk)
                  generalize D[j] = p at *
                  replace hms : Hid ((⟨en.kind, en.id⟩ : Lnk) ∈ D.take (j + 1) ↔ ((⟨en.kind, en.id⟩ : Lnk) ∈ D.take j ∨ p = (⟨en.kind, en.id⟩ : Lnk))) := Lib.hid (hms.trans (or_congr Iff.rfl eq_comm))
                  cases dn with
                  | true =>
                    have hd2 := Lib.hid ((hms.out).2 (Or.inl (hd.out.1 rfl)))
                    go_wp2_with fail
                    go_quiet (fail)
                    go_wp2
                    exact ⟨⟨j + 1, _, true, by omega, by go_num, rfl, Lib.hid ⟨fun _ => hd2.out, fun _ => rfl⟩, by first | rfl | exact drew3 _ _ _ _ | exact drew2 _ _ _⟩, by simp [intOf]; omega⟩
                  | false =>
                    rcases lnk_eq p (⟨en.kind, en.id⟩ : Lnk) with ⟨t1, t2, t3⟩ | ⟨t1, t2, t3⟩ | ⟨t1, t3⟩
                    · have hd2 := Lib.hid ((hms.out).2 (Or.inr t3))
                      replace t3 := Lib.hid t3
                      try dsimp only at t1 t2
                      go_wp2_with fail
                      go_quiet (fail)
                      go_wp2
                      exact ⟨⟨j + 1, _, true, by omega, by go_num, rfl, Lib.hid ⟨fun _ => hd2.out, fun _ => rfl⟩, by first | rfl | exact drew3 _ _ _ _ | exact drew2 _ _ _⟩, by simp [intOf]; omega⟩
                    · have hd2 : Hid (¬ _) := Lib.hid fun h => ((hms.out).1 h).elim (fun g => absurd (hd.out.2 g) (by decide)) t3
                      replace t3 := Lib.hid t3
                      try dsimp only at t1 t2
                      go_wp2_with fail
                      go_quiet (fail)
                      go_wp2
                      exact ⟨⟨j + 1, _, false, by omega, by go_num, rfl, Lib.hid ⟨fun h => (by cases h), fun h => absurd h hd2.out⟩, by first | rfl | exact drew3 _ _ _ _ | exact drew2 _ _ _⟩, by simp [intOf]; omega⟩
                    · have hd2 : Hid (¬ _) := Lib.hid fun h => ((hms.out).1 h).elim (fun g => absurd (hd.out.2 g) (by decide)) t3
                      replace t3 := Lib.hid t3
                      try dsimp only at t1
                      go_wp2_with fail
                      go_quiet (fail)
                      go_wp2
                      exact ⟨⟨j + 1, _, false, by omega, by go_num, rfl, Lib.hid ⟨fun h => (by cases h), fun h => absurd h hd2.out⟩, by first | rfl | exact drew3 _ _ _ _ | exact drew2 _ _ _⟩, by simp [intOf]; omega⟩
                · have m0 : decide ((j : Int) < D.length) = false := decide_eq_false (by omega)
                  have m1 : (D.length : Int) ≤ j := by omega
                  obtain rfl : j = D.length := by omega
                  obtain rfl : dn = true := by have := hd.out; rw [List.take_length] at this; exact this.2 hmem.out
                  clear hd
                  go_wp2
                  exact ⟨⟨t + 1, _, by omega, by go_num, rfl⟩, by simp [intOf]; omega⟩
            · have m0 : decide ((t : Int) < x.ents.length) = false := decide_eq_false (by omega)
              have m1 : (x.ents.length : Int) ≤ t := by omega
              obtain rfl : t = x.ents.length := by omega
              have hBe := Lib.hid (Pa.below_drewN hB.out n)
              go_wp2
              go_ret
              exact ⟨rfl, hBe.out⟩
set_option maxRecDepth 100000 in
set_option maxHeartbeats 8000000 in
theorem walk_rest (x : Ob.Obj) (ea : Option Addr) (ec : Nat) (pa : Option Addr) (pc : Nat) (w : World) (hO : ObAt w x ea ec pa pc) (hl1 : x.ents.length ≤ maxLen) (hl2 : x.pars.length ≤ maxLen) (k2 : Hid (¬ x.kind = 2)) (hk : Sha.Kc w) :
    Calls Tryd.prog 7 #[val x ea ec pa pc] w fun e w' => e = .returned (.bool true) ∧ Below w.heap.size w w' := by
  have hX := Lib.hid (Have.new hO)
  have hB := Lib.hid (b_alloc w (.cells (cellsOf x ea ec pa pc) 25))
  replace hk := Lib.hid (kc_below hk hB.out)
  clear hO hl1 hl2
  go_enter Tryd.func7, Tryd.ntmps7
  go_wp2_with fail
  generalize w.alloc (.cells (cellsOf x ea ec pa pc) 25) = w1 at *
  refine (awake_calls w1 hk.out).mono ?_
  rintro e w2 ⟨rfl, b2⟩
  replace hX := Lib.hid (hX.out.next b2)
  replace hB := Lib.hid (below_next hB.out b2)
  clear b2 hk
  obtain ⟨c0, c1, c2, c3, c4, c5, c6⟩ := hX.out.cells
  go_wp2_with fail
  refine (great_calls x ea ec pa pc w2 hX.out.at_).mono ?_
  rintro e w3 ⟨⟨g, rfl⟩, b3⟩
  replace hX := Lib.hid (hX.out.next b3)
  replace hB := Lib.hid (below_next hB.out b3)
  clear b3 c0 c1 c2 c3 c4 c5 c6
  cases g with
  | true =>
    go_wp2
    go_ret
    exact ⟨rfl, hB.out⟩
  | false =>
    obtain ⟨c0, c1, c2, c3, c4, c5, c6⟩ := hX.out.cells
    go_wp2_with fail
    refine (Links_calls x ea ec pa pc w3 hX.out.at_).mono ?_
    rintro e w4 ⟨⟨D, a, cap, b, off, rfl, hK, hI⟩, b4⟩
    replace hX := Lib.hid (hX.out.next b4)
    replace hB := Lib.hid (below_next hB.out b4)
    replace hK := Lib.hid hK
    replace hI := Lib.hid hI
    clear b4 c0 c1 c2 c3 c4 c5 c6
    obtain ⟨c0, c1, c2, c3, c4, c5, c6⟩ := hX.out.cells
    go_wp2_with fail
    refine (Good_calls x ea ec pa pc w4 hX.out.at_).mono ?_
    rintro e w5 ⟨rfl, b5⟩
    replace hK := Lib.hid (hK.out.below b5)
    replace hX := Lib.hid (hX.out.next b5)
    replace hB := Lib.hid (below_next hB.out b5)
    clear b5 c0 c1 c2 c3 c4 c5 c6
    obtain ⟨c0, c1, c2, c3, c4, c5, c6⟩ := hX.out.cells
    by_cases hno : good x = false ∨ x.kind = 1
    · have hD : D.length = 0 := by
        have hn : names x = [] := by
          unfold names
          rcases hno with h | h
          · rw [h]; rfl
          · split
            · unfold ofObj; rw [if_neg (by omega), if_neg (by omega)]
            · rfl
        have := hI.out.unique (by rw [hn]; exact IsLinks.nil)
        rw [this]; rfl
      have hz : ((D.length : Int) == 0) = true := by rw [hD]; rfl
      replace hD := Lib.hid hD
      clear hK hI
      cases hg : good x with
      | false =>
        clear hno
        go_wp2
        go_ret
        exact ⟨rfl, hB.out⟩
      | true =>
        have k1 : x.kind = 1 := hno.resolve_left (by rw [hg]; decide)
        have q1 : (x.kind == 1) = true := by simpa using k1
        clear hno
        replace k1 := Lib.hid k1
        go_wp2
        go_ret
        exact ⟨rfl, hB.out⟩
    · have hg : good x = true := by
        cases h : good x with
        | true => rfl
        | false => exact absurd (Or.inl h) hno
      have k1 : x.kind ≠ 1 := fun h => hno (Or.inr h)
      clear hno
      have q1 : (x.kind == 1) = false := by simpa using k1
      have hkd := good_kind hg
      have hlen : D.length ≤ 100000 := by
        have h1 := nodup_len D _ (up_nodup hI.out.up) fun l hl => (hI.out.mem l).1 hl
        have h2 : (names x).length ≤ 1000 := by unfold names; rw [if_pos hg]; exact (of_len hg).2.2
        omega
      have hn : names x = ofObj x := by unfold names; rw [if_pos hg]
      obtain ⟨ol1, ol2, _⟩ := of_len hg
      rw [hg]
      rw [hn] at hI
      clear hn
      have k2 := k2.out
      have k3 : x.kind = 3 := by omega
      have q2 : (x.kind == 2) = false := by simpa using k2
      have q3 : (x.kind == 3) = true := by simpa using k3
      have hl := ol2 k3
      rw [show ofObj x = (⟨2, x.tree⟩ : Lnk) :: x.pars.map fun p => (⟨3, p⟩ : Lnk) by unfold ofObj; rw [if_neg k2, if_pos k3]] at hI
      have hDl : (D.length : Int) = 1 + x.pars.length := by have := same_len (commit_nodup hg k3) hI.out; rw [List.length_cons, List.length_map] at this; omega
      have hz : ((D.length : Int) == 1 + (x.pars.length : Int)) = true := by rw [hDl]; simp
      replace hDl := Lib.hid hDl
      obtain ⟨pb, po, hP⟩ := hX.out.at_.pars
      replace hP := Lib.hid hP
      replace hkd := Lib.hid hkd
      replace k1 := Lib.hid k1
      replace k2 := Lib.hid k2
      replace k3 := Lib.hid k3
      replace hg := Lib.hid hg
      clear ol1 ol2
      go_wp2
      go_loopw [4, 5, 6, 7] (fun i _ _ _ wr => ∃ k n : Nat, k ≤ D.length ∧ i = .int .i64 k ∧ wr = w5.drewN n) (fun i _ _ _ _ => D.length - (intOf i).toNat)
      case atStart => exact ⟨0, 0, by omega, rfl, rfl⟩
      case round =>
        obtain ⟨k, n, hk, rfl, rfl⟩ := hrel
        by_cases hlt : k < D.length
        · have i1 : (k : Int) < D.length := by omega
          have i0 : 0 ≤ (k : Int) := by omega
          obtain rfl := hK.out.addr (by omega)
          have d0 := hK.out.kind k _ (List.getElem?_eq_getElem hlt)
          have d1 := hK.out.id k _ (List.getElem?_eq_getElem hlt)
          have hmem := Lib.hid ((hI.out.mem D[k]).1 (List.getElem_mem hlt))
          have hup : 0 < k → ∃ o : Lnk, w5.cell? ⟨b, off + (k - 1) * 2, none⟩ = some (.int .i64 o.kind) ∧ w5.cell? ⟨b, off + (k - 1) * 2 + 1, none⟩ = some (.string o.id) ∧ lt o D[k] = true := fun h => ⟨D[k - 1]'(by omega), hK.out.kind (k - 1) _ (List.getElem?_eq_getElem (by omega)), hK.out.id (k - 1) _ (List.getElem?_eq_getElem (by omega)), up_at hI.out.up hlt h⟩
          generalize D[k] = p at *
          go_upto_region 11 with fail
          go_cut [77] from 28 to 151 (fun c wx => c = .bool false ∧ ∃ n, wx = w5.drewN n)
          case first =>
            by_cases hk0 : k = 0
            · have hkA : decide (0 < k) = false := decide_eq_false (by omega)
              have hkB : ¬ 0 < k := by omega
              replace hk0 := Lib.hid hk0
              clear hup
              go_quiet (fail)
              go_wp2
              go_meet
              exact ⟨rfl, _, by first | rfl | exact drew3 _ _ _ _ | exact drew2 _ _ _⟩
            · have hkA : decide (0 < k) = true := decide_eq_true (by omega)
              have hkB : 0 < k := by omega
              obtain ⟨o, e0, e1, hup⟩ := hup (by omega)
              obtain ⟨m, hm⟩ : ∃ m, k - 1 = m := ⟨_, rfl⟩
              rw [hm] at e0 e1
              have hkC : IntKind.i64.wrap ((k : Int) - 1) = (m : Int) := by rw [IntWalk.i64_in _ (by omega)]; omega
              have hkD : (m : Int) < D.length := by omega
              have hkE : 0 ≤ (m : Int) := by omega
              replace hm := Lib.hid hm
              have hnear := near hup
              replace hup := Lib.hid hup
              rcases hnear with ⟨n1, n2⟩ | ⟨n1, n2, n3⟩
              · go_quiet (fail)
                go_wp2
                go_meet
                exact ⟨rfl, _, by first | rfl | exact drew3 _ _ _ _ | exact drew2 _ _ _⟩
              · have n4 : ¬ p.kind ≤ o.kind := by omega
                have n5 : decide (p.kind ≤ o.kind) = false := decide_eq_false (by omega)
                go_quiet (fail)
                go_wp2
                go_meet
                exact ⟨rfl, _, by first | rfl | exact drew3 _ _ _ _ | exact drew2 _ _ _⟩
          case rest =>
            obtain ⟨rfl, n, rfl⟩ := hcut
            clear hup
            go_wp2_with fail
            go_upto_region 13 with fail
            go_cut [5] from 28 to 151 (fun is wx => ∃ (d0n : Bool) (n : Nat), is = .bool d0n ∧ Hid (d0n = true ↔ p = (⟨2, x.tree⟩ : Lnk)) ∧ wx = w5.drewN n)
            case first =>
              rcases lnk_eq p (⟨2, x.tree⟩ : Lnk) with ⟨t1, t2, t3⟩ | ⟨t1, t2, t3⟩ | ⟨t1, t3⟩
              · have ht := Lib.hid ((iff_true_intro t3).symm)
                replace t3 := Lib.hid t3
                try dsimp only at t1 t2
                go_quiet (fail)
                go_wp2
                go_meet
                exact ⟨true, _, rfl, Lib.hid ⟨fun _ => t3.out, fun _ => rfl⟩, by first | rfl | exact drew3 _ _ _ _ | exact drew2 _ _ _⟩
              · replace t3 := Lib.hid t3
                try dsimp only at t1 t2
                go_quiet (fail)
                go_wp2
                go_meet
                exact ⟨false, _, rfl, Lib.hid ⟨fun h => (by cases h), fun h => absurd h t3.out⟩, by first | rfl | exact drew3 _ _ _ _ | exact drew2 _ _ _⟩
              · replace t3 := Lib.hid t3
                try dsimp only at t1
                go_quiet (fail)
                go_wp2
                go_meet
                exact ⟨false, _, rfl, Lib.hid ⟨fun h => (by cases h), fun h => absurd h t3.out⟩, by first | rfl | exact drew3 _ _ _ _ | exact drew2 _ _ _⟩
            case rest =>
              obtain ⟨d0n, n, rfl, hd0, rfl⟩ := hcut
              go_wp2
              go_loopw [5, 6] (fun is i wr => i = .int .i64 0 ∧ is = .bool d0n ∧ ∃ n, wr = w5.drewN n) (fun _ i _ => 0)
              case atStart => exact ⟨rfl, rfl, _, by first | rfl | exact drew3 _ _ _ _ | exact drew2 _ _ _⟩
              case round =>
                obtain ⟨rfl, rfl, n, rfl⟩ := hrel
                by_cases hp0 : (0 : Int) < x.ents.length
                all_goals
                  first
                  | have hp1 : decide ((0 : Int) < x.ents.length) = true := decide_eq_true hp0
                  | (have hp1 : decide ((0 : Int) < x.ents.length) = false := decide_eq_false hp0
                     have hp2 : (x.ents.length : Int) ≤ 0 := by omega)
                  go_wp2
                  go_loopw [5, 7] (fun is i wr => ∃ (j n : Nat) (dn : Bool), j ≤ x.pars.length ∧ i = .int .i64 j ∧ is = .bool dn ∧ Hid (dn = true ↔ (d0n = true ∨ p ∈ (x.pars.take j).map fun e => (⟨3, e⟩ : Lnk))) ∧ wr = w5.drewN n) (fun _ i _ => x.pars.length - (intOf i).toNat)
                  case atStart => exact ⟨0, _, d0n, by omega, rfl, rfl, Lib.hid (by simp), by first | rfl | exact drew3 _ _ _ _ | exact drew2 _ _ _⟩
                  case round =>
                    obtain ⟨j, n, dn, hj, rfl, rfl, hd, rfl⟩ := hrel
                    by_cases hltj : j < x.pars.length
                    · have j1 : (j : Int) < x.pars.length := by omega
                      have j0 : 0 ≤ (j : Int) := by omega
                      obtain rfl := hP.out.addr (by omega)
                      have f1 := hP.out.cell j _ (List.getElem?_eq_getElem hltj)
                      have hms := mem_take_succ (fun e : ByteArray => (⟨3, e⟩ : Lnk)) hltj p
                      generalize x.pars[j] = en at *
                      try dsimp only at hms
                      replace hms : Hid ((d0n = true ∨ p ∈ (x.pars.take (j + 1)).map fun e => (⟨3, e⟩ : Lnk)) ↔ ((d0n = true ∨ p ∈ (x.pars.take j).map fun e => (⟨3, e⟩ : Lnk)) ∨ p = (⟨3, en⟩ : Lnk))) := Lib.hid ((or_congr Iff.rfl hms).trans or_assoc.symm)
                      cases dn with
                      | true =>
                        have hd2 := Lib.hid ((hms.out).2 (Or.inl (hd.out.1 rfl)))
                        go_wp2_with fail
                        go_quiet (fail)
                        go_wp2
                        exact ⟨⟨j + 1, _, true, by omega, by go_num, rfl, Lib.hid ⟨fun _ => hd2.out, fun _ => rfl⟩, by first | rfl | exact drew3 _ _ _ _ | exact drew2 _ _ _⟩, by simp [intOf]; omega⟩
                      | false =>
                        rcases lnk_eq p (⟨3, en⟩ : Lnk) with ⟨t1, t2, t3⟩ | ⟨t1, t2, t3⟩ | ⟨t1, t3⟩
                        · have hd2 := Lib.hid ((hms.out).2 (Or.inr t3))
                          replace t3 := Lib.hid t3
                          try dsimp only at t1 t2
                          go_wp2_with fail
                          go_quiet (fail)
                          go_wp2
                          exact ⟨⟨j + 1, _, true, by omega, by go_num, rfl, Lib.hid ⟨fun _ => hd2.out, fun _ => rfl⟩, by first | rfl | exact drew3 _ _ _ _ | exact drew2 _ _ _⟩, by simp [intOf]; omega⟩
                        · have hd2 : Hid (¬ _) := Lib.hid fun h => ((hms.out).1 h).elim (fun g => absurd (hd.out.2 g) (by decide)) t3
                          replace t3 := Lib.hid t3
                          try dsimp only at t1 t2
                          go_wp2_with fail
                          go_quiet (fail)
                          go_wp2
                          exact ⟨⟨j + 1, _, false, by omega, by go_num, rfl, Lib.hid ⟨fun h => (by cases h), fun h => absurd h hd2.out⟩, by first | rfl | exact drew3 _ _ _ _ | exact drew2 _ _ _⟩, by simp [intOf]; omega⟩
                        · have hd2 : Hid (¬ _) := Lib.hid fun h => ((hms.out).1 h).elim (fun g => absurd (hd.out.2 g) (by decide)) t3
                          replace t3 := Lib.hid t3
                          try dsimp only at t1
                          go_wp2_with fail
                          go_quiet (fail)
                          go_wp2
                          exact ⟨⟨j + 1, _, false, by omega, by go_num, rfl, Lib.hid ⟨fun h => (by cases h), fun h => absurd h hd2.out⟩, by first | rfl | exact drew3 _ _ _ _ | exact drew2 _ _ _⟩, by simp [intOf]; omega⟩
                    · have m0 : decide ((j : Int) < x.pars.length) = false := decide_eq_false (by omega)
                      have m1 : (x.pars.length : Int) ≤ j := by omega
                      obtain rfl : j = x.pars.length := by omega
                      obtain rfl : dn = true := by
                        have := hd.out
                        rw [List.take_length] at this
                        exact this.2 ((List.mem_cons.1 hmem.out).imp hd0.out.2 fun h => h)
                      clear hd
                      go_wp2
                      exact ⟨⟨k + 1, _, by omega, by go_num, rfl⟩, by simp [intOf]; omega⟩
        · have m0 : decide ((k : Int) < D.length) = false := decide_eq_false (by omega)
          have m1 : (D.length : Int) ≤ k := by omega
          obtain rfl : k = D.length := by omega
          go_wp2
          have hBe := Lib.hid (Pa.below_drewN hB.out n)
          go_wp2
          go_ret
          exact ⟨rfl, hBe.out⟩
theorem walk (x : Ob.Obj) (ea : Option Addr) (ec : Nat) (pa : Option Addr) (pc : Nat) (w : World) (hO : ObAt w x ea ec pa pc) (hl1 : x.ents.length ≤ maxLen) (hl2 : x.pars.length ≤ maxLen) (hk : Sha.Kc w) :
    Calls Tryd.prog 7 #[val x ea ec pa pc] w fun e w' => e = .returned (.bool true) ∧ Below w.heap.size w w' :=
  if h : x.kind = 2 then walk_tree x ea ec pa pc w hO hl1 hl2 (Lib.hid h) hk else walk_rest x ea ec pa pc w hO hl1 hl2 (Lib.hid h) hk

theorem own : ownKnob Tryd.prog.godebug = none := by kernel_rfl
theorem laidOut : laidOutB Tryd.prog = true := by kernel_rfl
set_option maxRecDepth 100000 in
theorem lifted (os : Os) (started : os.Started) (H : Type) (enc : TypeId × Value → H) :
    ReturnsInHanded {} Tryd.checked os 7 .any (fun w args => (Rows.objectLinksSpec.pre enc Tryd.prog Tryd.f7 [] false w args ∧ laidMetH Tryd.prog Rows.objectLinksRow.laid w) ∧ sizedMet enc Tryd.prog Tryd.f7 (OpenSpec.ofChange Rows.objectLinksSpec) false w args) (Rows.objectLinksSpec.post enc Tryd.prog Tryd.f7 false true false false) := by
  refine returnsInHanded_of_change_and (C := Tryd.checked) (X := (fun w _ => laidMetH Tryd.prog Rows.objectLinksRow.laid w)) (fun _ _ _ hh h => h.of_heap hh) own started (by kernel_rfl) Tryd.func7
    (ChangeSpec.witness_shaped (enc := enc) (C := Tryd.checked) (os := os) (X := (fun w _ => laidMetH Tryd.prog Rows.objectLinksRow.laid w)) false (World.doorLaid Tryd.prog 14 os) #[.agg #[.int .i64 0, .string ByteArray.empty, .slice none 0 0, .string ByteArray.empty, .slice none 0 0, .int .i64 0, .string ByteArray.empty]] 8 rfl (World.shaped_of_RefB (by kernel_rfl) (by kernel_rfl)) (by kernel_rfl) (by kernel_rfl) (by kernel_rfl) (Sha.door_met os _)) ?_
  intro W base args ds gs before hval0 hW hcnd hsz0 hL _
  have hval : ∀ (j : Nat) t v, Tryd.f7.params[j]? = some t → args[j]? = some v → Value.okWide Tryd.prog W .any base t v := hval0
  have hsz : (DataW.weightsEach Tryd.prog (Tryd.f7.params.toList ++ Rows.objectLinksSpec.plain.varTypes Tryd.prog) (ds ++ gs)).all (· ≤ reachBytes) = true := hsz0
  have hW' := hW
  obtain ⟨p, q, hA0, hV, rfl, hfz, hnd⟩ := hW
  have hA : DataW.TrodAll enc Tryd.prog W 0 (fun _ => true) true Tryd.f7.params.toList args.toList ds p := hA0
  rw [Tryd.params7] at hA hval hsz
  obtain ⟨v0, vs0, d0, ds0, p0, q0, hargs, rfl, rfl, h0, r0⟩ := trodAll_cons hA
  obtain ⟨rfl, rfl, rfl⟩ := trodAll_nil r0
  obtain rfl : args = #[v0] := by cases args; simp_all
  obtain ⟨rfl, rfl⟩ := trodVars_none hV
  have k0 := h0
  have lt0 : ∀ x ∈ p0, x.block < W.heap.size := by obtain ⟨m, hm⟩ := k0; exact DataW.trod_lt m _ _ _ hm
  have ok0 := hval 0 25 v0 rfl rfl
  clear hA0 hval0 hsz0
  obtain ⟨x, ea, ec, pa, pc, rfl, hO, hl1, hl2⟩ := open_obj ok0 h0
  refine (walk x ea ec pa pc W hO hl1 hl2 (Sha.kc_of_laid hL)).mono fun e W' ⟨he, bel⟩ => ?_
  subst he
  exact ⟨_, rfl, _, _, _, [], _, [], hW', trodAll_mk1 (shut_bool Tryd.underlying4 _), (trodAll_cons_mk (Below.trod laidOut (by kernel_rfl) (of_decide_eq_true (by kernel_rfl)) k0 bel lt0) trodAll_mk0), rfl, bel.frame _, fun h => by cases h⟩

/-- the row -/
theorem row_proved : Rows.ObjectLinksSaid :=
  OpenClaim.holds_of_wide 7 Tryd.f7 rfl rfl rfl rfl rfl rfl rfl ⟨rfl, rfl, rfl, rfl, rfl⟩ rfl rfl rfl rfl rfl (by kernel_rfl) Tryd.func7 (by kernel_rfl)
    (of_decide_eq_true (by kernel_rfl)) (by unfold Func.isWrapper; first | (rw [if_pos (by decide +kernel)]; kernel_rfl) | (rw [if_neg (by decide +kernel)]; exact ⟨rfl, rfl⟩))
    (fun os started H enc _ => lifted os started H enc)
/-- the statement: the tied card -/
theorem proved : Rows.ObjectLinksCardSaid :=
  Claim7.holds_tied_plain_at .later [] Rows.objectLinksCard.laidKinds true Rows.objectLinksCard.stood.harness Rows.objectLinksCard.stood.looks row_proved (fun _ h => by cases h) (by kernel_rfl) (fun _ h => by cases h) objectLinks_row_tie rfl ⟨rfl, rfl⟩ (by kernel_rfl) rfl
    (fun f fn hf hfn => by
      obtain rfl : f = 7 := Option.some.inj ((show Tryd.prog.funcNamed Rows.objectLinksRow.func = some 7 by kernel_rfl).symm.trans hf) |>.symm
      obtain rfl : fn = Tryd.f7 := (Option.some.inj (Tryd.func7.symm.trans hfn)).symm
      exact ⟨by kernel_rfl, fun j t ht => by
        rw [Tryd.params7] at ht
        have hm : t ∈ [25] := by simpa using Array.mem_of_getElem? ht
        have hall : ([25].all fun u => !Tryd.prog.wantsStandIn u) = true := by kernel_rfl
        exact (show Tryd.prog.wantsStandIn t = false by simpa using List.all_eq_true.1 hall t hm)⟩)
    (by kernel_rfl)
end Go.Proofs.YtmbbnabongnojaaDoor.objectLinks
