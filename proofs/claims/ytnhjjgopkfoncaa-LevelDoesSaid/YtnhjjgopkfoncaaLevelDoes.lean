/-
  For every node's number and every script of Finds that are heard, and losses, of at most 200 calls, each answer of package level, the level, the parent, and what is told, are the document's; a number that can't be is refused; of a nil node there is nothing.
  The walk is the prover's own; the frame of the row's step follows the kit's template.
-/
import Derived.Test.YtnhjjgopkfoncaaRows
import Derived.Test.YtnhjjgopkfoncaaLawKit
import Derived.Test.YtnhjjgopkfoncaaFlat
import Derived.Test.YtnhjjgopkfoncaaLvD
import Derived.LoopTactic
import Derived.Deep.CutBlock
import Derived.BigQuiet
namespace Go.Proofs.Ytnhjjgopkfoncaa.levelDoes
open Go.ChangeShapes Go.WideShapes Go.ChangeAt Go.RowKit Go.ChangeMaps Go.WideElems
set_option linter.unusedVariables false

theorem cells1 {W : World} {vs : List Value} (h : Fit W [.bool, .int .i64, .int .i64] vs) : ∃ (s0 : Bool) (s1 : Int) (s2 : Int), vs = [.bool s0, .int .i64 s1, .int .i64 s2] ∧ (Lit.int .i64 s1).wf = true ∧ (Lit.int .i64 s2).wf = true := by
  match vs, h.length, h with
  | [y0, y1, y2], _, h =>
    obtain ⟨⟨x0, rfl⟩, ⟨x1, rfl, h1⟩, ⟨x2, rfl, h2⟩, _⟩ := h
    exact ⟨x0, x1, x2, rfl, h1, h2⟩
theorem own : ownKnob Try.prog.godebug = none := by kernel_rfl
set_option linter.unusedSimpArgs false in
set_option maxHeartbeats 8000000 in
set_option maxRecDepth 100000 in
theorem walk (a0 : Int) (A1 : Option Addr) (n1 c1 : Nat) (f1 : Nat → List Value) (w : World) (w0 : (Lit.int .i64 a0).wf = true) (w1 : FlatRow w [.bool, .int .i64, .int .i64] A1 n1 c1 f1) :
    Calls Try.prog 3 #[.int .i64 a0, .slice A1 n1 c1] w fun e w' => e = .returned (.bool true) ∧ Below w.heap.size w w' := by
  by_cases h200 : 200 < n1
  · have d3 : decide ((200 : Int) < (n1 : Int)) = true := decide_eq_true (by omega)
    go_enter Try.func3, Try.ntmps3
    go_wp2_with (go_at_call 6; refine (alive_yes _).mono ?_; rintro e w1 ⟨rfl, hb1⟩)
    go_ret
    exact ⟨rfl, hb1⟩
  have d3 : decide ((200 : Int) < (n1 : Int)) = false := decide_eq_false (by omega)
  have hcap := w1.cap_le
  have hmx := w1.max
  unfold maxLen at hmx
  have R := Lib.hid w1
  clear w1
  have fa0 := fits_wf w0
  by_cases hbad : a0 < 0 ∨ 63 < a0
  · have hnew := fun W => lnew_no W a0 hbad
    have hcase : decide (a0 < 0) = true ∨ decide (a0 < 0) = false ∧ decide (63 < a0) = true := by
      by_cases e : a0 < 0
      · exact .inl (decide_eq_true e)
      · exact .inr ⟨decide_eq_false e, decide_eq_true (by omega)⟩
    clear hbad w0 fa0
    rcases hcase with k1 | ⟨k1, k2⟩ <;>
    · go_enter Try.func3, Try.ntmps3
      go_wp2_with (first
        | (go_at_call 6; refine (alive_yes _).mono ?_; rintro e w1 ⟨rfl, hb1⟩; have HB1 := Lib.hid hb1; clear hb1)
        | (go_at_call 7; refine (hnew _).mono ?_; rintro e wx ⟨rfl, hwx⟩; subst wx)
        | (go_at_call 8; refine (llose_nil _).mono ?_; rintro e wx ⟨rfl, hwx⟩; subst wx)
        | (go_at_call 9; refine (lself_nil _).mono ?_; rintro e w2 ⟨rfl, hb2⟩; have HB2 := Lib.hid ((HB1.out.trans (hb2.mono HB1.out.size)).alloc (HB1.out.trans (hb2.mono HB1.out.size)).size (.cells #[.int .i64 0, .int .i64 0] 29)); clear hb2)
        | (go_at_call 10; refine (llevel_nil _).mono ?_; rintro e wx ⟨rfl, hwx⟩; subst wx)
        | (go_at_call 11; refine (lparent_nil _).mono ?_; rintro e wx ⟨rfl, hwx⟩; subst wx)
        | (go_at_call 12; refine (lhear_nil _ _ _).mono ?_; rintro e w3 ⟨rfl, hb3⟩; have HB3 := Lib.hid (HB2.out.trans (hb3.mono HB2.out.size)); clear hb3))
      go_ret
      exact ⟨rfl, HB3.out⟩
  have hme : 0 ≤ a0 ∧ a0 ≤ 63 := by omega
  have k1 : decide (a0 < 0) = false := decide_eq_false (by omega)
  have k2 : decide (63 < a0) = false := decide_eq_false (by omega)
  have hnew := fun W => lnew_yes W a0 hme
  have hnil := fun W => lhear_nil W 0 0
  have HN := Lib.hid (LInv.new hme)
  clear hbad w0
  go_enter Try.func3, Try.ntmps3
  go_wp2_with (first
    | (go_at_call 6; refine (alive_yes _).mono ?_; rintro e w1 ⟨rfl, hb1⟩; have HB1 := Lib.hid hb1; clear hb1)
    | (go_at_call 7; refine (hnew _).mono ?_; rintro e w2 ⟨rfl, hE, hb2⟩; have HL2 := Lib.hid (⟨hE, HB1.out.trans (hb2.mono HB1.out.size), HB1.out.size⟩ : L1 w w2 w1.heap.size (newL a0)); clear hE hb2)
    | (go_at_call 8; refine (llose_nil _).mono ?_; rintro e wx ⟨rfl, hwx⟩; subst wx)
    | (go_at_call 9; refine (lself_nil _).mono ?_; rintro e w3 ⟨rfl, hb3⟩; have HL3 := Lib.hid ((HL2.out.more hb3).alloc (.cells #[.int .i64 0, .int .i64 0] 29)); clear hb3)
    | (go_at_call 10; refine (llevel_nil _).mono ?_; rintro e wx ⟨rfl, hwx⟩; subst wx)
    | (go_at_call 11; refine (lparent_nil _).mono ?_; rintro e wx ⟨rfl, hwx⟩; subst wx)
    | (go_at_call 12; (with_reducible refine (hnil _).mono ?_); rintro e w4 ⟨rfl, hb4⟩; have HL4 := Lib.hid (HL3.out.more hb4); clear hb4)
    | (go_at_call 13; refine (rlnew_any _ _).mono ?_; rintro e w5 ⟨rfl, hd5, hb5⟩; have HL5 := Lib.hid (L2.fresh HL4.out hd5 hb5); clear hd5 hb5))
  clear hnew hnil HL2 HL3 HL4
  obtain ⟨g, hg⟩ : ∃ g, w1.heap.size = g := ⟨_, rfl⟩
  obtain ⟨gm0, hgm⟩ : ∃ gm0, w4.heap.size = gm0 := ⟨_, rfl⟩
  rw [hg, hgm] at HL5
  simp only [hg, hgm]
  clear hg hgm HB1
  go_loopw [10, 66] (fun mp i wr => ∃ (k gm : Nat) (L P : Int), k ≤ n1 ∧ i = .int .i64 k ∧ mp = .pointer (some ⟨gm, 0, none⟩) ∧ LInv ⟨a0, L, P⟩ ∧ L2 w wr g gm ⟨a0, L, P⟩ ⟨a0, L, P⟩) (fun _ i _ => n1 - (intOf i).toNat)
  case atStart => exact ⟨0, gm0, -1, -1, Nat.zero_le _, rfl, rfl, HN.out, HL5.out⟩
  case round =>
    obtain ⟨k, gm, L, P, hk, rfl, rfl, hi, hL⟩ := hrel
    have HL := Lib.hid hL
    clear hL HL5 HN
    by_cases hlt : k < n1
    · obtain ⟨b, off, rfl, hb', hc⟩ := (R.out.below HL.out.one.below).at 3 rfl hlt
      obtain ⟨s0, s1, s2, hf, hw1, hw2⟩ := cells1 (R.out.fit k hlt)
      have q0 : wr.cell? ⟨b, off + k * 3, none⟩ = some (.bool s0) := hc 0 _ (by rw [hf]; rfl)
      have q1 : wr.cell? ⟨b, off + k * 3 + 1, none⟩ = some (.int .i64 s1) := hc 1 _ (by rw [hf]; rfl)
      have q2 : wr.cell? ⟨b, off + k * 3 + 2, none⟩ = some (.int .i64 s2) := hc 2 _ (by rw [hf]; rfl)
      have fs1 := fits_wf hw1
      have fs2 := fits_wf hw2
      have ew := IntWalk.i64_in ((k : Int) + 1) (by omega)
      have HL1 := Lib.hid (HL.out.alloc (.cells #[.bool s0, .int .i64 s1, .int .i64 s2] 37))
      have HO := Lib.hid (Holds.new wr 37 #[.bool s0, .int .i64 s1, .int .i64 s2])
      have HI := Lib.hid hi
      clear hc hf hw1 hw2 HL hi
      obtain ⟨S, hS⟩ : ∃ S, S = hearL ⟨a0, L, P⟩ s1 s2 := ⟨_, rfl⟩
      obtain ⟨O, hO⟩ : ∃ O, otherL ⟨a0, L, P⟩ S = O := ⟨_, rfl⟩
      have hIS : LInv S := by rw [hS]; exact HI.out.hear s1 s2
      have hmS : S.me = a0 := by rw [hS, hearL_me]
      obtain ⟨m', L', P'⟩ := S
      obtain rfl : m' = a0 := hmS
      have hoo : (O != O) = false := by simp
      have HIS := Lib.hid hIS
      have hhear : ∀ W, Lev W g ⟨m', L, P⟩ → Calls Try.prog 12 #[.pointer (some ⟨g, 0, none⟩), .agg #[.int .i64 s1, .int .i64 s2]] W fun e w' => e = .returned (.bool O) ∧ LGoes g ⟨m', L', P'⟩ W w' := fun W h => by
        have := lhear_any W g _ h s1 s2 fs1 fs2
        rw [← hS, hO] at this
        exact this
      have hrhear : ∀ W, Dl W gm ⟨m', L, P⟩ → Calls Try.prog 14 #[.pointer (some ⟨gm, 0, none⟩), .int .i64 s1, .int .i64 s2] W fun e w' => e = .returned (.bool O) ∧ DGoes gm ⟨m', L', P'⟩ W w' := fun W h => by
        have := rlhear_any W gm _ h HI.out s1 s2 fs1 fs2
        rw [← hS, hO] at this
        exact this
      have HH := Lib.hid hhear
      have HRH := Lib.hid hrhear
      have HM := Lib.hid hme
      clear hhear hrhear hS hO hIS fs1 fs2 HI hme fa0
      cases s0
      case' false =>
        have HW1 := Lib.hid HL1.out
        go_upto_region 20 with fail
        obtain ⟨xo, hxo⟩ : ∃ xo, wr.heap.size = xo := ⟨_, rfl⟩
        rw [hxo] at HO
        simp only [hxo]
        clear hxo
        obtain ⟨W1, hW1⟩ : ∃ W1, W1 = wr.alloc (.cells #[.bool false, .int .i64 s1, .int .i64 s2] 37) := ⟨_, rfl⟩
        rw [← hW1] at HL1 HO HW1 ⊢
        clear hW1 q0 q1 q2
        have HLa := Lib.hid (HL1.out.drewN 1)
        have HOa := Lib.hid (HO.out.drewN 1)
        have nx : xo ≠ g ∧ xo ≠ gm := ⟨HO.out.apart HL1.out.one.node (by decide), HO.out.apart HL1.out.doc (by decide)⟩
        have NX := Lib.hid nx
        clear HL1 HO HW1 nx
        refine region_turns (fun (w' : World) => w'.cell? ⟨xo, 1, none⟩ = some (.int .i64 s1) ∧ w'.cell? ⟨xo, 2, none⟩ = some (.int .i64 s2)) (fun j => decide (13 ≤ j)) (by kernel_rfl) (⟨HOa.out.cell 1, HOa.out.cell 2⟩) (fun hS => ?_)
        refine Turns.take hS 0 _ rfl (by kernel_rfl) (by kernel_rfl) (by kernel_rfl) (by kernel_rfl) (fun _ _ _ h => h) (by rfl) (fun w' hS' => by (try dsimp only at hS'); go_split_ands; go_simp; (try with_reducible rfl)) ?_
        simp only [Act.put, List.getElem_toArray, List.getElem_cons_succ, List.getElem_cons_zero, List.setIfInBounds_toArray, List.set_cons_zero, List.set_cons_succ]
        refine Turns.take hS 1 _ rfl (by kernel_rfl) (by kernel_rfl) (by kernel_rfl) (by kernel_rfl) (fun _ _ _ h => h) (by rfl) (fun w' hS' => by (try dsimp only at hS'); go_split_ands; go_simp; (try with_reducible rfl)) ?_
        simp only [Act.put, List.getElem_toArray, List.getElem_cons_succ, List.getElem_cons_zero, List.setIfInBounds_toArray, List.set_cons_zero, List.set_cons_succ]
        refine Turns.take hS 2 _ rfl (by kernel_rfl) (by kernel_rfl) (by kernel_rfl) (by kernel_rfl) (fun _ _ _ h => h) (by rfl) (fun w' hS' => by (try dsimp only at hS'); go_split_ands; go_simp; (try with_reducible rfl)) ?_
        simp only [Act.put, List.getElem_toArray, List.getElem_cons_succ, List.getElem_cons_zero, List.setIfInBounds_toArray, List.set_cons_zero, List.set_cons_succ]
        refine Turns.take hS 4 _ rfl (by kernel_rfl) (by kernel_rfl) (by kernel_rfl) (by kernel_rfl) (fun _ _ _ h => h) (by rfl) (fun w' hS' => by (try dsimp only at hS'); go_split_ands; go_simp; (try with_reducible rfl)) ?_
        simp only [Act.put, List.getElem_toArray, List.getElem_cons_succ, List.getElem_cons_zero, List.setIfInBounds_toArray, List.set_cons_zero, List.set_cons_succ]
        refine Turns.take hS 5 _ rfl (by kernel_rfl) (by kernel_rfl) (by kernel_rfl) (by kernel_rfl) (fun _ _ _ h => h) (by rfl) (fun w' hS' => by (try dsimp only at hS'); go_split_ands; go_simp; (try with_reducible rfl)) ?_
        simp only [Act.put, List.getElem_toArray, List.getElem_cons_succ, List.getElem_cons_zero, List.setIfInBounds_toArray, List.set_cons_zero, List.set_cons_succ]
        refine Turns.take hS 6 _ rfl (by kernel_rfl) (by kernel_rfl) (by kernel_rfl) (by kernel_rfl) (fun _ _ _ h => h) (by rfl) (fun w' hS' => by (try dsimp only at hS'); go_split_ands; go_simp; (try with_reducible rfl)) ?_
        simp only [Act.put, List.getElem_toArray, List.getElem_cons_succ, List.getElem_cons_zero, List.setIfInBounds_toArray, List.set_cons_zero, List.set_cons_succ]
        refine Turns.take hS 7 _ rfl (by kernel_rfl) (by kernel_rfl) (by kernel_rfl) (by kernel_rfl) (fun _ _ _ h => h) (by rfl) (fun w' hS' => by (try dsimp only at hS'); go_split_ands; go_simp; (try with_reducible rfl)) ?_
        simp only [Act.put, List.getElem_toArray, List.getElem_cons_succ, List.getElem_cons_zero, List.setIfInBounds_toArray, List.set_cons_zero, List.set_cons_succ]
        refine Turns.take hS 8 _ rfl (by kernel_rfl) (by kernel_rfl) (by kernel_rfl) (by kernel_rfl) (fun _ _ _ h => h) (by rfl) (fun w' hS' => by (try dsimp only at hS'); go_split_ands; go_simp; (try with_reducible rfl)) ?_
        simp only [Act.put, List.getElem_toArray, List.getElem_cons_succ, List.getElem_cons_zero, List.setIfInBounds_toArray, List.set_cons_zero, List.set_cons_succ]
        refine Turns.take hS 9 _ rfl (by kernel_rfl) (by kernel_rfl) (by kernel_rfl) (by kernel_rfl) (fun _ _ _ h => h) (by rfl) (fun w' hS' => by (try dsimp only at hS'); go_split_ands; go_simp; (try with_reducible rfl)) ?_
        simp only [Act.put, List.getElem_toArray, List.getElem_cons_succ, List.getElem_cons_zero, List.setIfInBounds_toArray, List.set_cons_zero, List.set_cons_succ]
        refine Turns.take hS 10 _ rfl (by kernel_rfl) (by kernel_rfl) (by kernel_rfl) (by kernel_rfl) (fun _ _ _ h => h) (by rfl) (fun w' hS' => by (try dsimp only at hS'); go_split_ands; go_simp; (try with_reducible rfl)) ?_
        simp only [Act.put, List.getElem_toArray, List.getElem_cons_succ, List.getElem_cons_zero, List.setIfInBounds_toArray, List.set_cons_zero, List.set_cons_succ]
        refine Turns.next 3 rfl (by kernel_rfl) (by rfl) (fun K hK => ?_)
        go_simp
        go_at_call 12
        refine (HH.out _ HLa.out.one.node).mono ?_
        rintro e w5 ⟨rfl, hg5⟩
        have HLb := Lib.hid (HLa.out.next hg5)
        have HOb := Lib.hid (HOa.out.chg hg5.2 NX.out.1)
        clear hg5
        refine hK.out _ _ (show (fun (w' : World) => w'.cell? ⟨xo, 1, none⟩ = some (.int .i64 s1) ∧ w'.cell? ⟨xo, 2, none⟩ = some (.int .i64 s2)) _ from ⟨HOb.out.cell 1, HOb.out.cell 2⟩) ?_
        clear hK K hS
        have hS := (show (fun (w' : World) => w'.cell? ⟨xo, 1, none⟩ = some (.int .i64 s1) ∧ w'.cell? ⟨xo, 2, none⟩ = some (.int .i64 s2)) _ from ⟨HOb.out.cell 1, HOb.out.cell 2⟩)
        refine Turns.next 11 rfl (by kernel_rfl) (by rfl) (fun K hK => ?_)
        go_simp
        go_at_call 14
        refine (HRH.out _ HLb.out.doc).mono ?_
        rintro e w6 ⟨rfl, hg6⟩
        have HLc := Lib.hid (HLb.out.nextd hg6)
        have HOc := Lib.hid (HOb.out.chg hg6.2 NX.out.2)
        clear hg6
        refine hK.out _ _ (show (fun (w' : World) => w'.cell? ⟨xo, 1, none⟩ = some (.int .i64 s1) ∧ w'.cell? ⟨xo, 2, none⟩ = some (.int .i64 s2)) _ from ⟨HOc.out.cell 1, HOc.out.cell 2⟩) ?_
        clear hK K hS
        have hS := (show (fun (w' : World) => w'.cell? ⟨xo, 1, none⟩ = some (.int .i64 s1) ∧ w'.cell? ⟨xo, 2, none⟩ = some (.int .i64 s2)) _ from ⟨HOc.out.cell 1, HOc.out.cell 2⟩)
        refine Turns.take hS 12 _ rfl (by kernel_rfl) (by kernel_rfl) (by kernel_rfl) (by kernel_rfl) (fun _ _ _ h => h) (by rfl) (fun w' hS' => by (try dsimp only at hS'); go_split_ands; go_simp; (try with_reducible rfl)) ?_
        simp only [Act.put, List.getElem_toArray, List.getElem_cons_succ, List.getElem_cons_zero, List.setIfInBounds_toArray, List.set_cons_zero, List.set_cons_succ]
        refine Turns.rest (late_done (by kernel_rfl)) ?_
        refine any_tail 13 (by rfl) (by kernel_rfl) ?_
        simp only [List.drop_succ_cons, List.drop_zero]
        clear hS
        clear HOa HOb HOc HLa HLb HH HRH NX
        have hlv : ∃ (F G : Int) (ok : Bool), Hid (∀ W, Lev W g ⟨m', L', P'⟩ → Calls Try.prog 9 #[.pointer (some ⟨g, 0, none⟩), .bool false] W fun e w' => e = .returned (.tuple #[.agg #[.int .i64 F, .int .i64 G], .bool ok]) ∧ Below W.heap.size W w') ∧ ((ok = true ∧ F = m' ∧ G = (L' : Int) ∧ decide (0 ≤ (L' : Int)) = true) ∨ (ok = false ∧ F = 0 ∧ G = 0 ∧ decide (0 ≤ (L' : Int)) = false)) := by
          by_cases e : (L' : Int) = -1
          · exact ⟨0, 0, false, Lib.hid (fun W h => by subst e; exact ltell_none W g _ _ h), .inr ⟨rfl, rfl, rfl, decide_eq_false (by omega)⟩⟩
          · exact ⟨m', L', true, Lib.hid (fun W h => ltell_has W g _ _ _ h e), .inl ⟨rfl, rfl, rfl, decide_eq_true (by rcases HIS.out.has with ⟨h, _⟩ | ⟨h, _⟩ <;> simp only [] at h <;> omega)⟩⟩
        obtain ⟨F, G, ok, HT, hcase⟩ := hlv
        have htf := HT.out w6 HLc.out.one.node
        clear HT
        go_upto_region 23 with (go_at_call 9; (with_reducible refine htf.mono ?_); rintro e w6 ⟨rfl, hb6⟩; have HL6 := Lib.hid ((HLc.out.more hb6).alloc (.cells #[.int .i64 F, .int .i64 G] 29)); have HF6 := Lib.hid (Holds.new w6 29 #[.int .i64 F, .int .i64 G]); clear hb6 htf)
        obtain ⟨xf, hxf⟩ : ∃ xf, w6.heap.size = xf := ⟨_, rfl⟩
        rw [hxf] at HF6
        simp only [hxf]
        clear hxf
        obtain ⟨W6, hW6⟩ : ∃ W6, W6 = w6.alloc (.cells #[.int .i64 F, .int .i64 G] 29) := ⟨_, rfl⟩
        rw [← hW6] at HL6 HF6 ⊢
        clear hW6
        have htt := ltell_self W6 g _ _ _ HL6.out.one.node
        go_upto_region 24 with (go_at_call 9; (with_reducible refine htt.mono ?_); rintro e w7 ⟨rfl, hb7⟩; have HL7 := Lib.hid ((HL6.out.more hb7).alloc (.cells #[.int .i64 m', .int .i64 0] 29)); have HF7 := Lib.hid ((HF6.out.below hb7 HF6.out.lt).alloc (.cells #[.int .i64 m', .int .i64 0] 29)); have HG7 := Lib.hid (Holds.new w7 29 #[.int .i64 m', .int .i64 0]); clear hb7 htt)
        obtain ⟨xg, hxg⟩ : ∃ xg, w7.heap.size = xg := ⟨_, rfl⟩
        rw [hxg] at HG7
        simp only [hxg]
        clear hxg
        obtain ⟨W7, hW7⟩ : ∃ W7, W7 = w7.alloc (.cells #[.int .i64 m', .int .i64 0] 29) := ⟨_, rfl⟩
        rw [← hW7] at HL7 HF7 HG7 ⊢
        clear hW7
        have hlev := fun m => llevel_any (W7.drewN m) g _ (HL7.out.one.node.drewN m)
        have hpar := fun m => lparent_any (W7.drewN m) g _ (HL7.out.one.node.drewN m)
        simp only [] at hlev hpar
        have c1 : W7.cell? ⟨gm, 1, none⟩ = some (.int .i64 L') := HL7.out.doc.c1
        have c2 : W7.cell? ⟨gm, 2, none⟩ = some (.int .i64 P') := HL7.out.doc.c2
        have x0 := HF7.out.cell 0
        have x1 := HF7.out.cell 1
        have y0 := HG7.out.cell 0
        have y1 := HG7.out.cell 1
        have e1 : ((L' : Int) != (L' : Int)) = false := by simp
        have e2 : ((P' : Int) != (P' : Int)) = false := by simp
        clear HF7 HG7 HF6 HL6
        rcases hcase with ⟨rfl, rfl, rfl, dl⟩ | ⟨rfl, rfl, rfl, dl⟩
        all_goals
          go_quiet (first
            | (go_at_call 10; refine (hlev _).mono ?_; rintro e wx ⟨rfl, rfl⟩; exact ⟨rfl, _, rfl⟩)
            | (go_at_call 11; refine (hpar _).mono ?_; rintro e wx ⟨rfl, rfl⟩; exact ⟨rfl, _, rfl⟩))
          go_wp2
          go_roundw
          case rel => exact ⟨k + 1, gm, _, _, by omega, by go_num, rfl, HIS.out, HL7.out.drewN _⟩
          case measure => simp [intOf]; omega
      case' true =>
        have hlo := llose_any _ _ _ HL1.out.one.node
        have HN := Lib.hid (LInv.new HM.out)
        clear HH HRH HIS
        go_upto_region 22 with (first
          | (go_at_call 8; (with_reducible refine hlo.mono ?_); rintro e w5 ⟨rfl, hg5⟩; have HL5 := Lib.hid (HL1.out.next hg5); clear hg5 hlo)
          | (go_at_call 13; refine (rlnew_any _ _).mono ?_; rintro e w6 ⟨rfl, hd6, hb6⟩; have HL6 := Lib.hid (L2.fresh HL5.out.one hd6 hb6); clear hd6 hb6))
        obtain ⟨gn, hgn⟩ : ∃ gn, w5.heap.size = gn := ⟨_, rfl⟩
        rw [hgn] at HL6
        simp only [hgn]
        obtain ⟨Ln, Pn, hLn, hIn⟩ : ∃ Ln Pn : Int, L2 w w6 g gn ⟨m', Ln, Pn⟩ ⟨m', Ln, Pn⟩ ∧ LInv ⟨m', Ln, Pn⟩ := ⟨-1, -1, HL6.out, HN.out⟩
        have HLn := Lib.hid hLn
        have HIn := Lib.hid hIn
        clear hLn hIn
        clear hgn HL6 HL5 HL1 HN HO q0 q1 q2
        have hlv : ∃ (F G : Int) (ok : Bool), Hid (∀ W, Lev W g ⟨m', Ln, Pn⟩ → Calls Try.prog 9 #[.pointer (some ⟨g, 0, none⟩), .bool false] W fun e w' => e = .returned (.tuple #[.agg #[.int .i64 F, .int .i64 G], .bool ok]) ∧ Below W.heap.size W w') ∧ ((ok = true ∧ F = m' ∧ G = (Ln : Int) ∧ decide (0 ≤ (Ln : Int)) = true) ∨ (ok = false ∧ F = 0 ∧ G = 0 ∧ decide (0 ≤ (Ln : Int)) = false)) := by
          by_cases e : (Ln : Int) = -1
          · exact ⟨0, 0, false, Lib.hid (fun W h => by subst e; exact ltell_none W g _ _ h), .inr ⟨rfl, rfl, rfl, decide_eq_false (by omega)⟩⟩
          · exact ⟨m', Ln, true, Lib.hid (fun W h => ltell_has W g _ _ _ h e), .inl ⟨rfl, rfl, rfl, decide_eq_true (by rcases HIn.out.has with ⟨h, _⟩ | ⟨h, _⟩ <;> simp only [] at h <;> omega)⟩⟩
        obtain ⟨F, G, ok, HT, hcase⟩ := hlv
        have htf := HT.out w6 HLn.out.one.node
        clear HT
        go_upto_region 23 with (go_at_call 9; (with_reducible refine htf.mono ?_); rintro e w6 ⟨rfl, hb6⟩; have HL6 := Lib.hid ((HLn.out.more hb6).alloc (.cells #[.int .i64 F, .int .i64 G] 29)); have HF6 := Lib.hid (Holds.new w6 29 #[.int .i64 F, .int .i64 G]); clear hb6 htf)
        obtain ⟨xf, hxf⟩ : ∃ xf, w6.heap.size = xf := ⟨_, rfl⟩
        rw [hxf] at HF6
        simp only [hxf]
        clear hxf
        obtain ⟨W6, hW6⟩ : ∃ W6, W6 = w6.alloc (.cells #[.int .i64 F, .int .i64 G] 29) := ⟨_, rfl⟩
        rw [← hW6] at HL6 HF6 ⊢
        clear hW6
        have htt := ltell_self W6 g _ _ _ HL6.out.one.node
        go_upto_region 24 with (go_at_call 9; (with_reducible refine htt.mono ?_); rintro e w7 ⟨rfl, hb7⟩; have HL7 := Lib.hid ((HL6.out.more hb7).alloc (.cells #[.int .i64 m', .int .i64 0] 29)); have HF7 := Lib.hid ((HF6.out.below hb7 HF6.out.lt).alloc (.cells #[.int .i64 m', .int .i64 0] 29)); have HG7 := Lib.hid (Holds.new w7 29 #[.int .i64 m', .int .i64 0]); clear hb7 htt)
        obtain ⟨xg, hxg⟩ : ∃ xg, w7.heap.size = xg := ⟨_, rfl⟩
        rw [hxg] at HG7
        simp only [hxg]
        clear hxg
        obtain ⟨W7, hW7⟩ : ∃ W7, W7 = w7.alloc (.cells #[.int .i64 m', .int .i64 0] 29) := ⟨_, rfl⟩
        rw [← hW7] at HL7 HF7 HG7 ⊢
        clear hW7
        have hlev := fun m => llevel_any (W7.drewN m) g _ (HL7.out.one.node.drewN m)
        have hpar := fun m => lparent_any (W7.drewN m) g _ (HL7.out.one.node.drewN m)
        simp only [] at hlev hpar
        have c1 : W7.cell? ⟨gn, 1, none⟩ = some (.int .i64 Ln) := HL7.out.doc.c1
        have c2 : W7.cell? ⟨gn, 2, none⟩ = some (.int .i64 Pn) := HL7.out.doc.c2
        have x0 := HF7.out.cell 0
        have x1 := HF7.out.cell 1
        have y0 := HG7.out.cell 0
        have y1 := HG7.out.cell 1
        have e1 : ((Ln : Int) != (Ln : Int)) = false := by simp
        have e2 : ((Pn : Int) != (Pn : Int)) = false := by simp
        clear HF7 HG7 HF6 HL6
        rcases hcase with ⟨rfl, rfl, rfl, dl⟩ | ⟨rfl, rfl, rfl, dl⟩
        all_goals
          go_quiet (first
            | (go_at_call 10; refine (hlev _).mono ?_; rintro e wx ⟨rfl, rfl⟩; exact ⟨rfl, _, rfl⟩)
            | (go_at_call 11; refine (hpar _).mono ?_; rintro e wx ⟨rfl, rfl⟩; exact ⟨rfl, _, rfl⟩))
          go_wp2
          go_roundw
          case rel => exact ⟨k + 1, gn, _, _, by omega, by go_num, rfl, HIn.out, HL7.out.drewN _⟩
          case measure => simp [intOf]; omega
    · have hkn : k = n1 := by omega
      have hlt' : decide ((k : Int) < (n1 : Int)) = false := decide_eq_false (by omega)
      go_wp2
      go_ret
      exact ⟨rfl, HL.out.one.below⟩

set_option maxRecDepth 100000 in
theorem lifted (os : Os) (started : os.Started) (H : Type) (enc : TypeId × Value → H) :
    ReturnsInHanded {} Try.checked os 3 .any (Rows.levelDoesSpec.pre6 enc Try.prog Try.f3 Rows.levelDoesRow.domain false) (Rows.levelDoesSpec.post enc Try.prog Try.f3 false true false false) := by
  refine returnsInHanded_of_change (C := Try.checked) own started (by kernel_rfl) Try.func3
    (ChangeSpec.witness6 (enc := enc) (C := Try.checked) false ⟨#[], #[.int .i64 0, .slice none 0 0], []⟩ 8 (by kernel_rfl) (by kernel_rfl) (by kernel_rfl) (by kernel_rfl)) ?_
  intro W base args ds gs before hval0 hW hcnd _
  have hval : ∀ (j : Nat) t v, Try.f3.params[j]? = some t → args[j]? = some v → Value.okWide Try.prog W .any base t v := hval0
  have hW' := hW
  obtain ⟨p, q, hA0, hV, rfl, hfz, hnd⟩ := hW
  have hA : DataW.TrodAll enc Try.prog W 0 (fun _ => true) true Try.f3.params.toList args.toList ds p := hA0
  have hAk := hA
  rw [Try.params3] at hA hval
  obtain ⟨v0, vs0, d0, ds0, p0, q0, hargs, rfl, hp, h0, r0⟩ := trodAll_cons hA
  obtain ⟨v1, vs1, d1, ds1, p1, q1, rfl, rfl, rfl, h1, r1⟩ := trodAll_cons r0
  obtain ⟨rfl, rfl, rfl⟩ := trodAll_nil r1
  obtain rfl : args = #[v0, v1] := by cases args; simp_all
  obtain ⟨rfl, rfl⟩ := trodVars_none hV
  clear hA0 hval0 hargs
  simp only [List.append_nil] at hW'
  have hend : ∀ W' : World, Below W.heap.size W W' → Rows.levelDoesSpec.post enc Try.prog Try.f3 false true false false W #[v0, v1] (.bool true) W' := fun W' hb =>
    law_post (tb := 4) hW' hAk rfl (by kernel_rfl) (by kernel_rfl) (by kernel_rfl) Try.underlying4 rfl rfl rfl hb
  clear hW' hAk hp
  obtain ⟨a0, rfl, rfl, rfl, w0⟩ := open_int Try.underlying3 (hval 0 3 v0 rfl rfl) h0
  obtain ⟨A1, n1, c1, f1, rfl, w1⟩ := flats_arg (ks := [.bool, .int .i64, .int .i64]) 9 Try.underlying22 (by kernel_rfl) (by kernel_rfl) (by decide) (hval 1 22 v1 rfl rfl) h1
  refine (walk a0 A1 n1 c1 f1 W w0 w1).mono fun e W' ⟨he, hg⟩ => ?_
  subst he
  exact ⟨_, rfl, hend W' hg⟩

theorem over : Rows.levelDoesRow.holds Try.pinned (OpenSpec.ofChange Rows.levelDoesSpec) :=
  OpenClaim.holds_of_wide 3 Try.f3 rfl rfl rfl rfl rfl rfl rfl ⟨rfl, rfl, rfl, rfl, rfl⟩ rfl rfl rfl rfl rfl (by kernel_rfl) Try.func3 (by kernel_rfl)
    (of_decide_eq_true (by kernel_rfl)) (by unfold Func.isWrapper; first | (rw [if_pos (by decide +kernel)]; kernel_rfl) | (rw [if_neg (by decide +kernel)]; exact ⟨rfl, rfl⟩))
    (fun os started H enc _ => lifted os started H enc)

/-- THE STATEMENT -/
theorem proved : Rows.LevelDoesSaid :=
  over
#print axioms proved
end Go.Proofs.Ytnhjjgopkfoncaa.levelDoes
