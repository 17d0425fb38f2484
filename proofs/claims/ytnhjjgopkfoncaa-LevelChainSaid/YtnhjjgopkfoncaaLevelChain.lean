/-
  For all n from 1 to 60, in a row of n nodes, of which each hears the one ahead of it, and the first one somebody who knows the time, levels count on; who is farther away changes nothing.
  The walk is the prover's own; the frame of the row's step follows the kit's template.
-/
import Derived.Test.YtnhjjgopkfoncaaRows
import Derived.Test.YtnhjjgopkfoncaaLawKit
import Derived.Test.YtnhjjgopkfoncaaLvD
import Derived.LoopTactic
import Derived.Deep.CutBlock
import Derived.BigQuiet
namespace Go.Proofs.Ytnhjjgopkfoncaa.levelChain
open Go.ChangeShapes Go.WideShapes Go.ChangeAt Go.RowKit Go.ChangeMaps Go.WideElems
set_option linter.unusedVariables false

theorem own : ownKnob Try.prog.godebug = none := by kernel_rfl
/-- A node that heard a first word. -/
theorem chain_first {i wf : Int} (hi : 0 ≤ i ∧ i < 60) (hw : 0 ≤ wf ∧ wf ≤ 63 ∧ wf ≠ i) : hearL (newL i) wf i = ⟨i, i + 1, wf⟩ ∧ otherL (newL i) ⟨i, i + 1, wf⟩ = true := by
  have hf : findB wf i = true := (findB_iff _ _).2 ⟨⟨hw.1, hw.2.1⟩, hi.1, by omega⟩
  constructor
  · unfold hearL heardB newL
    rw [hf]
    simp only [Bool.true_and]
    rw [if_pos (by simpa using hw.2.2)]
    unfold heedL
    simp only []
    rw [if_neg (by omega), if_pos (Or.inr (Or.inl True.intro))]
  · unfold otherL newL
    have e : ((i + 1 : Int) != -1) = true := by
      rw [bne_iff_ne]
      omega
    simp only [e, Bool.true_or]
theorem chain_again {i wf a : Int} (hi : 0 ≤ i ∧ i < 60) (ha : a = wf) : hearL ⟨i, i + 1, wf⟩ a i = ⟨i, i + 1, wf⟩ := by
  unfold hearL
  split
  · unfold heedL
    simp only []
    rw [if_neg (by omega), if_pos (.inl ha), ha]
  · rfl
theorem chain_far {i wf a : Int} (hi : 0 ≤ i ∧ i < 60) (ha : a ≠ wf) : hearL ⟨i, i + 1, wf⟩ a (i + 1) = ⟨i, i + 1, wf⟩ := by
  unfold hearL
  split
  · unfold heedL
    simp only []
    rw [if_neg (by omega), if_neg (by omega)]
  · rfl
theorem chain_same (s : LS) : otherL s s = false := by unfold otherL; simp
set_option linter.unusedSimpArgs false in
set_option maxHeartbeats 8000000 in
set_option maxRecDepth 100000 in
theorem walk (a0 : Int) (a1 : Int) (w : World) (w0 : (Lit.int .i64 a0).wf = true) (w1 : (Lit.int .i64 a1).wf = true) :
    Calls Try.prog 5 #[.int .i64 a0, .int .i64 a1] w fun e w' => e = .returned (.bool true) ∧ Below w.heap.size w w' := by
  have fa0 := fits_wf w0
  have fa1 := fits_wf w1
  clear w0 w1
  by_cases hout : a0 < 1 ∨ 60 < a0 ∨ a1 < 0 ∨ 63 < a1
  · have hcase : decide (a0 < 1) = true ∨ decide (a0 < 1) = false ∧ decide (60 < a0) = true ∨ decide (a0 < 1) = false ∧ decide (60 < a0) = false ∧ decide (a1 < 0) = true ∨ decide (a0 < 1) = false ∧ decide (60 < a0) = false ∧ decide (a1 < 0) = false ∧ decide (63 < a1) = true := by
      by_cases e1 : a0 < 1 <;> by_cases e2 : 60 < a0 <;> by_cases e3 : a1 < 0 <;> by_cases e4 : 63 < a1 <;> simp [e1, e2, e3, e4] at hout ⊢
    clear hout fa0 fa1
    rcases hcase with k1 | ⟨k1, k2⟩ | ⟨k1, k2, k3⟩ | ⟨k1, k2, k3, k4⟩ <;>
    · go_enter Try.func5, Try.ntmps5
      go_wp2_with (go_at_call 6; refine (alive_yes _).mono ?_; rintro e w1 ⟨rfl, hb1⟩)
      go_ret
      exact ⟨rfl, hb1⟩
  have k1 : decide (a0 < 1) = false := decide_eq_false (by omega)
  have k2 : decide (60 < a0) = false := decide_eq_false (by omega)
  have k3 : decide (a1 < 0) = false := decide_eq_false (by omega)
  have k4 : decide (63 < a1) = false := decide_eq_false (by omega)
  obtain ⟨n, rfl⟩ : ∃ n : Nat, a0 = n := ⟨a0.toNat, by omega⟩
  have hn : n ≤ 60 := by omega
  have ha1 : 0 ≤ a1 ∧ a1 ≤ 63 := by omega
  clear hout fa0
  go_enter Try.func5, Try.ntmps5
  go_wp2_with (go_at_call 6; refine (alive_yes _).mono ?_; rintro e w1 ⟨rfl, hb1⟩; have HB1 := Lib.hid (hb1.alloc hb1.size (.cells #[.int .i64 63, .int .i64 0] 29)); have HW1 := Lib.hid (Holds.new w1 29 #[.int .i64 63, .int .i64 0]); have HX := Lib.hid hb1.size; clear hb1)
  obtain ⟨xw, hxw⟩ : ∃ xw, w1.heap.size = xw := ⟨_, rfl⟩
  rw [hxw] at HW1 HX
  simp only [hxw]
  clear hxw
  go_loopw [6] (fun i wr => ∃ (k : Nat) (wf : Int), k ≤ n ∧ i = .int .i64 k ∧ (0 ≤ wf ∧ wf ≤ 63 ∧ (wf = 63 ∨ wf < k)) ∧ Holds wr xw 29 #[.int .i64 wf, .int .i64 k] ∧ Below w.heap.size w wr) (fun i _ => n - (intOf i).toNat)
  case atStart => exact ⟨0, 63, by omega, rfl, by omega, HW1.out, HB1.out⟩
  case round =>
    obtain ⟨k, wf, hk, rfl, hwf, hW, hB⟩ := hrel
    have HW := Lib.hid hW
    have HB := Lib.hid hB
    clear hW hB HW1 HB1
    by_cases hlt : k < n
    · have hki : 0 ≤ (k : Int) ∧ (k : Int) < 60 := by omega
      obtain ⟨i, hi⟩ : ∃ i : Int, (k : Int) = i := ⟨_, rfl⟩
      have dl : decide ((k : Int) < (n : Int)) = true := decide_eq_true (by omega)
      have ew := IntWalk.i64_in ((k : Int) + 1) (by omega)
      have hnew := fun W => lnew_yes W i (by omega)
      obtain ⟨hF, hFo⟩ := chain_first (i := i) (wf := wf) (by omega) (by omega)
      have hA := chain_again (i := i) (wf := wf) (a := wf) (by omega) rfl
      have hS := chain_same ⟨i, i + 1, wf⟩
      have f1 : Fits wf := ⟨by omega, by omega⟩
      have f2 : Fits i := ⟨by omega, by omega⟩
      have f3 : Fits (i + 1) := ⟨by omega, by omega⟩
      have h1 : ∀ W g, Lev W g (newL i) → Calls Try.prog 12 #[.pointer (some ⟨g, 0, none⟩), .agg #[.int .i64 wf, .int .i64 i]] W fun e w' => e = .returned (.bool true) ∧ LGoes g ⟨i, i + 1, wf⟩ W w' := fun W g h => by
        have := lhear_any W g _ h wf i f1 f2
        rw [hF, hFo] at this
        exact this
      have h2 : ∀ W g, Lev W g ⟨i, i + 1, wf⟩ → Calls Try.prog 12 #[.pointer (some ⟨g, 0, none⟩), .agg #[.int .i64 wf, .int .i64 i]] W fun e w' => e = .returned (.bool false) ∧ LGoes g ⟨i, i + 1, wf⟩ W w' := fun W g h => by
        have := lhear_any W g _ h wf i f1 f2
        rw [hA, hS] at this
        exact this
      have h3 : a1 ≠ wf → ∀ W g, Lev W g ⟨i, i + 1, wf⟩ → Calls Try.prog 12 #[.pointer (some ⟨g, 0, none⟩), .agg #[.int .i64 a1, .int .i64 (i + 1)]] W fun e w' => e = .returned (.bool false) ∧ LGoes g ⟨i, i + 1, wf⟩ W w' := fun hne W g h => by
        have := lhear_any W g _ h a1 (i + 1) fa1 f3
        rw [chain_far (by omega) hne, hS] at this
        exact this
      have H1 := Lib.hid h1
      have H2 := Lib.hid h2
      have H3 := Lib.hid h3
      have HI := Lib.hid hi
      have HWF := Lib.hid hwf
      have HK := Lib.hid hki
      have HA1 := Lib.hid ha1
      rw [hi] at HW
      have d1 : (i + 1 != i + 1) = false := by simp
      have d2 : (wf != wf) = false := by simp
      have d3 : (i != i) = false := by simp
      have di1 : -9223372036854775808 ≤ i + 1 := by omega
      rw [hi] at ew dl
      simp only [hi]
      clear h1 h2 h3 hF hFo hA hS hki hi hwf f1 f2 f3 ha1
      go_upto_region 10 with (go_at_call 7; (with_reducible refine (hnew _).mono ?_); rintro e w2 ⟨rfl, hE, hb2⟩; have HN2 := Lib.hid (⟨hE, HB.out.trans (hb2.mono HB.out.size), HB.out.size⟩ : L1 w w2 wr.heap.size (newL i)); have HW2 := Lib.hid (HW.out.below hb2 HW.out.lt); clear hE hb2)
      obtain ⟨g, hg⟩ : ∃ g, wr.heap.size = g := ⟨_, rfl⟩
      rw [hg] at HN2
      simp only [hg]
      have NE : Hid (xw ≠ g) := Lib.hid (Holds.apart HW2.out HN2.out.node (by decide))
      have HNa := Lib.hid (HN2.out.drewN 1)
      have HWa := Lib.hid (HW2.out.drewN 1)
      clear hg HN2 HW2 hnew HB HW
      refine region_turns (fun (w' : World) => w'.cell? ⟨xw, 0, none⟩ = some (.int .i64 wf) ∧ w'.cell? ⟨xw, 1, none⟩ = some (.int .i64 i)) (fun j => decide (27 ≤ j)) (by kernel_rfl) (⟨HWa.out.cell 0, HWa.out.cell 1⟩) (fun hS => ?_)
      refine Turns.take hS 0 _ rfl (by kernel_rfl) (by kernel_rfl) (by kernel_rfl) (by kernel_rfl) (fun _ _ _ h => h) (by rfl) (fun w' hS' => by (try dsimp only at hS'); go_split_ands; go_simp; (try with_reducible rfl)) ?_
      simp only [Act.put, List.getElem_toArray, List.getElem_cons_succ, List.getElem_cons_zero, List.setIfInBounds_toArray, List.set_cons_zero, List.set_cons_succ]
      refine Turns.take hS 1 _ rfl (by kernel_rfl) (by kernel_rfl) (by kernel_rfl) (by kernel_rfl) (fun _ _ _ h => h) (by rfl) (fun w' hS' => by (try dsimp only at hS'); go_split_ands; go_simp; (try with_reducible rfl)) ?_
      simp only [Act.put, List.getElem_toArray, List.getElem_cons_succ, List.getElem_cons_zero, List.setIfInBounds_toArray, List.set_cons_zero, List.set_cons_succ]
      refine Turns.take hS 2 _ rfl (by kernel_rfl) (by kernel_rfl) (by kernel_rfl) (by kernel_rfl) (fun _ _ _ h => h) (by rfl) (fun w' hS' => by (try dsimp only at hS'); go_split_ands; go_simp; (try with_reducible rfl)) ?_
      simp only [Act.put, List.getElem_toArray, List.getElem_cons_succ, List.getElem_cons_zero, List.setIfInBounds_toArray, List.set_cons_zero, List.set_cons_succ]
      refine Turns.take hS 3 _ rfl (by kernel_rfl) (by kernel_rfl) (by kernel_rfl) (by kernel_rfl) (fun _ _ _ h => h) (by rfl) (fun w' hS' => by (try dsimp only at hS'); go_split_ands; go_simp; (try with_reducible rfl)) ?_
      simp only [Act.put, List.getElem_toArray, List.getElem_cons_succ, List.getElem_cons_zero, List.setIfInBounds_toArray, List.set_cons_zero, List.set_cons_succ]
      refine Turns.take hS 4 _ rfl (by kernel_rfl) (by kernel_rfl) (by kernel_rfl) (by kernel_rfl) (fun _ _ _ h => h) (by rfl) (fun w' hS' => by (try dsimp only at hS'); go_split_ands; go_simp; (try with_reducible rfl)) ?_
      simp only [Act.put, List.getElem_toArray, List.getElem_cons_succ, List.getElem_cons_zero, List.setIfInBounds_toArray, List.set_cons_zero, List.set_cons_succ]
      refine Turns.next 5 rfl (by kernel_rfl) (by rfl) (fun K hK => ?_)
      go_simp
      go_at_call 12
      refine (H1.out _ _ HNa.out.node).mono ?_
      rintro e w5 ⟨rfl, hg5⟩
      have HN5 := Lib.hid (HNa.out.next hg5)
      have HW5 := Lib.hid (HWa.out.chg hg5.2 NE.out)
      clear hg5
      refine hK.out _ _ (show (fun (w' : World) => w'.cell? ⟨xw, 0, none⟩ = some (.int .i64 wf) ∧ w'.cell? ⟨xw, 1, none⟩ = some (.int .i64 i)) _ from ⟨HW5.out.cell 0, HW5.out.cell 1⟩) ?_
      clear hK K hS
      have hS := (show (fun (w' : World) => w'.cell? ⟨xw, 0, none⟩ = some (.int .i64 wf) ∧ w'.cell? ⟨xw, 1, none⟩ = some (.int .i64 i)) _ from ⟨HW5.out.cell 0, HW5.out.cell 1⟩)
      refine Turns.take hS 6 _ rfl (by kernel_rfl) (by kernel_rfl) (by kernel_rfl) (by kernel_rfl) (fun _ _ _ h => h) (by rfl) (fun w' hS' => by (try dsimp only at hS'); go_split_ands; go_simp; (try with_reducible rfl)) ?_
      simp only [Act.put, List.getElem_toArray, List.getElem_cons_succ, List.getElem_cons_zero, List.setIfInBounds_toArray, List.set_cons_zero, List.set_cons_succ]
      refine Turns.take hS 7 _ rfl (by kernel_rfl) (by kernel_rfl) (by kernel_rfl) (by kernel_rfl) (fun _ _ _ h => h) (by rfl) (fun w' hS' => by (try dsimp only at hS'); go_split_ands; go_simp; (try with_reducible rfl)) ?_
      simp only [Act.put, List.getElem_toArray, List.getElem_cons_succ, List.getElem_cons_zero, List.setIfInBounds_toArray, List.set_cons_zero, List.set_cons_succ]
      refine Turns.take hS 8 _ rfl (by kernel_rfl) (by kernel_rfl) (by kernel_rfl) (by kernel_rfl) (fun _ _ _ h => h) (by rfl) (fun w' hS' => by (try dsimp only at hS'); go_split_ands; go_simp; (try with_reducible rfl)) ?_
      simp only [Act.put, List.getElem_toArray, List.getElem_cons_succ, List.getElem_cons_zero, List.setIfInBounds_toArray, List.set_cons_zero, List.set_cons_succ]
      refine Turns.take hS 9 _ rfl (by kernel_rfl) (by kernel_rfl) (by kernel_rfl) (by kernel_rfl) (fun _ _ _ h => h) (by rfl) (fun w' hS' => by (try dsimp only at hS'); go_split_ands; go_simp; (try with_reducible rfl)) ?_
      simp only [Act.put, List.getElem_toArray, List.getElem_cons_succ, List.getElem_cons_zero, List.setIfInBounds_toArray, List.set_cons_zero, List.set_cons_succ]
      refine Turns.take hS 11 _ rfl (by kernel_rfl) (by kernel_rfl) (by kernel_rfl) (by kernel_rfl) (fun _ _ _ h => h) (by rfl) (fun w' hS' => by (try dsimp only at hS'); go_split_ands; go_simp; (try with_reducible rfl)) ?_
      simp only [Act.put, List.getElem_toArray, List.getElem_cons_succ, List.getElem_cons_zero, List.setIfInBounds_toArray, List.set_cons_zero, List.set_cons_succ]
      refine Turns.take hS 12 _ rfl (by kernel_rfl) (by kernel_rfl) (by kernel_rfl) (by kernel_rfl) (fun _ _ _ h => h) (by rfl) (fun w' hS' => by (try dsimp only at hS'); go_split_ands; go_simp; (try with_reducible rfl)) ?_
      simp only [Act.put, List.getElem_toArray, List.getElem_cons_succ, List.getElem_cons_zero, List.setIfInBounds_toArray, List.set_cons_zero, List.set_cons_succ]
      refine Turns.next 10 rfl (by kernel_rfl) (by rfl) (fun K hK => ?_)
      go_simp
      go_at_call 10
      refine (llevel_any _ _ _ HN5.out.node).mono ?_
      rintro e wx ⟨rfl, hwx⟩
      subst wx
      refine hK.out _ _ (show (fun (w' : World) => w'.cell? ⟨xw, 0, none⟩ = some (.int .i64 wf) ∧ w'.cell? ⟨xw, 1, none⟩ = some (.int .i64 i)) _ from ⟨HW5.out.cell 0, HW5.out.cell 1⟩) ?_
      clear hK K hS
      have hS := (show (fun (w' : World) => w'.cell? ⟨xw, 0, none⟩ = some (.int .i64 wf) ∧ w'.cell? ⟨xw, 1, none⟩ = some (.int .i64 i)) _ from ⟨HW5.out.cell 0, HW5.out.cell 1⟩)
      refine Turns.take hS 13 _ rfl (by kernel_rfl) (by kernel_rfl) (by kernel_rfl) (by kernel_rfl) (fun _ _ _ h => h) (by rfl) (fun w' hS' => by (try dsimp only at hS'); go_split_ands; go_simp; (try with_reducible rfl)) ?_
      simp only [Act.put, List.getElem_toArray, List.getElem_cons_succ, List.getElem_cons_zero, List.setIfInBounds_toArray, List.set_cons_zero, List.set_cons_succ]
      refine Turns.take hS 14 _ rfl (by kernel_rfl) (by kernel_rfl) (by kernel_rfl) (by kernel_rfl) (fun _ _ _ h => h) (by rfl) (fun w' hS' => by (try dsimp only at hS'); go_split_ands; go_simp; (try with_reducible rfl)) ?_
      simp only [Act.put, List.getElem_toArray, List.getElem_cons_succ, List.getElem_cons_zero, List.setIfInBounds_toArray, List.set_cons_zero, List.set_cons_succ]
      refine Turns.take hS 15 _ rfl (by kernel_rfl) (by kernel_rfl) (by kernel_rfl) (by kernel_rfl) (fun _ _ _ h => h) (by rfl) (fun w' hS' => by (try dsimp only at hS'); go_split_ands; go_simp; (try with_reducible rfl)) ?_
      simp only [Act.put, List.getElem_toArray, List.getElem_cons_succ, List.getElem_cons_zero, List.setIfInBounds_toArray, List.set_cons_zero, List.set_cons_succ]
      refine Turns.take hS 16 _ rfl (by kernel_rfl) (by kernel_rfl) (by kernel_rfl) (by kernel_rfl) (fun _ _ _ h => h) (by rfl) (fun w' hS' => by (try dsimp only at hS'); go_split_ands; go_simp; (try with_reducible rfl)) ?_
      simp only [Act.put, List.getElem_toArray, List.getElem_cons_succ, List.getElem_cons_zero, List.setIfInBounds_toArray, List.set_cons_zero, List.set_cons_succ]
      refine Turns.take hS 18 _ rfl (by kernel_rfl) (by kernel_rfl) (by kernel_rfl) (by kernel_rfl) (fun _ _ _ h => h) (by rfl) (fun w' hS' => by (try dsimp only at hS'); go_split_ands; go_simp; (try with_reducible rfl)) ?_
      simp only [Act.put, List.getElem_toArray, List.getElem_cons_succ, List.getElem_cons_zero, List.setIfInBounds_toArray, List.set_cons_zero, List.set_cons_succ]
      refine Turns.take hS 19 _ rfl (by kernel_rfl) (by kernel_rfl) (by kernel_rfl) (by kernel_rfl) (fun _ _ _ h => h) (by rfl) (fun w' hS' => by (try dsimp only at hS'); go_split_ands; go_simp; (try with_reducible rfl)) ?_
      simp only [Act.put, List.getElem_toArray, List.getElem_cons_succ, List.getElem_cons_zero, List.setIfInBounds_toArray, List.set_cons_zero, List.set_cons_succ]
      refine Turns.next 17 rfl (by kernel_rfl) (by rfl) (fun K hK => ?_)
      go_simp
      go_at_call 11
      refine (lparent_any _ _ _ HN5.out.node).mono ?_
      rintro e wx ⟨rfl, hwx⟩
      subst wx
      refine hK.out _ _ (show (fun (w' : World) => w'.cell? ⟨xw, 0, none⟩ = some (.int .i64 wf) ∧ w'.cell? ⟨xw, 1, none⟩ = some (.int .i64 i)) _ from ⟨HW5.out.cell 0, HW5.out.cell 1⟩) ?_
      clear hK K hS
      have hS := (show (fun (w' : World) => w'.cell? ⟨xw, 0, none⟩ = some (.int .i64 wf) ∧ w'.cell? ⟨xw, 1, none⟩ = some (.int .i64 i)) _ from ⟨HW5.out.cell 0, HW5.out.cell 1⟩)
      refine Turns.take hS 20 _ rfl (by kernel_rfl) (by kernel_rfl) (by kernel_rfl) (by kernel_rfl) (fun _ _ _ h => h) (by rfl) (fun w' hS' => by (try dsimp only at hS'); go_split_ands; go_simp; (try with_reducible rfl)) ?_
      simp only [Act.put, List.getElem_toArray, List.getElem_cons_succ, List.getElem_cons_zero, List.setIfInBounds_toArray, List.set_cons_zero, List.set_cons_succ]
      refine Turns.take hS 21 _ rfl (by kernel_rfl) (by kernel_rfl) (by kernel_rfl) (by kernel_rfl) (fun _ _ _ h => h) (by rfl) (fun w' hS' => by (try dsimp only at hS'); go_split_ands; go_simp; (try with_reducible rfl)) ?_
      simp only [Act.put, List.getElem_toArray, List.getElem_cons_succ, List.getElem_cons_zero, List.setIfInBounds_toArray, List.set_cons_zero, List.set_cons_succ]
      refine Turns.take hS 22 _ rfl (by kernel_rfl) (by kernel_rfl) (by kernel_rfl) (by kernel_rfl) (fun _ _ _ h => h) (by rfl) (fun w' hS' => by (try dsimp only at hS'); go_split_ands; go_simp; (try with_reducible rfl)) ?_
      simp only [Act.put, List.getElem_toArray, List.getElem_cons_succ, List.getElem_cons_zero, List.setIfInBounds_toArray, List.set_cons_zero, List.set_cons_succ]
      refine Turns.take hS 23 _ rfl (by kernel_rfl) (by kernel_rfl) (by kernel_rfl) (by kernel_rfl) (fun _ _ _ h => h) (by rfl) (fun w' hS' => by (try dsimp only at hS'); go_split_ands; go_simp; (try with_reducible rfl)) ?_
      simp only [Act.put, List.getElem_toArray, List.getElem_cons_succ, List.getElem_cons_zero, List.setIfInBounds_toArray, List.set_cons_zero, List.set_cons_succ]
      refine Turns.take hS 24 _ rfl (by kernel_rfl) (by kernel_rfl) (by kernel_rfl) (by kernel_rfl) (fun _ _ _ h => h) (by rfl) (fun w' hS' => by (try dsimp only at hS'); go_split_ands; go_simp; (try with_reducible rfl)) ?_
      simp only [Act.put, List.getElem_toArray, List.getElem_cons_succ, List.getElem_cons_zero, List.setIfInBounds_toArray, List.set_cons_zero, List.set_cons_succ]
      refine Turns.next 25 rfl (by kernel_rfl) (by rfl) (fun K hK => ?_)
      go_simp
      go_at_call 12
      refine (H2.out _ _ HN5.out.node).mono ?_
      rintro e w6 ⟨rfl, hg6⟩
      have HN6 := Lib.hid (HN5.out.next hg6)
      have HW6 := Lib.hid (HW5.out.chg hg6.2 NE.out)
      clear hg6
      refine hK.out _ _ (show (fun (w' : World) => w'.cell? ⟨xw, 0, none⟩ = some (.int .i64 wf) ∧ w'.cell? ⟨xw, 1, none⟩ = some (.int .i64 i)) _ from ⟨HW6.out.cell 0, HW6.out.cell 1⟩) ?_
      clear hK K hS
      have hS := (show (fun (w' : World) => w'.cell? ⟨xw, 0, none⟩ = some (.int .i64 wf) ∧ w'.cell? ⟨xw, 1, none⟩ = some (.int .i64 i)) _ from ⟨HW6.out.cell 0, HW6.out.cell 1⟩)
      refine Turns.take hS 26 _ rfl (by kernel_rfl) (by kernel_rfl) (by kernel_rfl) (by kernel_rfl) (fun _ _ _ h => h) (by rfl) (fun w' hS' => by (try dsimp only at hS'); go_split_ands; go_simp; (try with_reducible rfl)) ?_
      simp only [Act.put, List.getElem_toArray, List.getElem_cons_succ, List.getElem_cons_zero, List.setIfInBounds_toArray, List.set_cons_zero, List.set_cons_succ]
      refine Turns.rest (late_done (by kernel_rfl)) ?_
      refine any_tail 27 (by rfl) (by kernel_rfl) ?_
      simp only [List.drop_succ_cons, List.drop_zero]
      clear hS
      clear HNa HWa HN5 HW5 H1 H2
      have o0 := HW6.out.cell 0
      have o1 := HW6.out.cell 1
      have hcase : (a1 != i) = false ∨ (a1 != i) = true ∧ (a1 != wf) = false ∨ (a1 != i) = true ∧ (a1 != wf) = true ∧ a1 ≠ wf := by
        by_cases e1 : a1 = i
        · exact .inl (by simp [e1])
        · by_cases e2 : a1 = wf
          · exact .inr (.inl ⟨by simpa using e1, by simp [e2]⟩)
          · exact .inr (.inr ⟨by simpa using e1, by simpa using e2, e2⟩)
      rcases hcase with z1 | ⟨z1, z2⟩ | ⟨z1, z2, z3⟩
      case' inl =>
        go_upto_region 14 with fail
        have HN7 := HN6
        have HW7 := HW6
        obtain ⟨W7, hW7⟩ : ∃ W7, W7 = w6 := ⟨_, rfl⟩
        rw [← hW7] at HN7 HW7 ⊢
        clear z1 hW7 HN6 HW6 H3 o0 o1
      case' inr.inl =>
        go_upto_region 14 with fail
        have HN7 := HN6
        have HW7 := HW6
        obtain ⟨W7, hW7⟩ : ∃ W7, W7 = w6 := ⟨_, rfl⟩
        rw [← hW7] at HN7 HW7 ⊢
        clear z1 z2 hW7 HN6 HW6 H3 o0 o1
      case' inr.inr =>
        have hh := H3.out z3 _ _ HN6.out.node
        go_upto_region 14 with (go_at_call 12; (with_reducible refine hh.mono ?_); rintro e W7 ⟨rfl, hg7⟩; have HN7 := Lib.hid (HN6.out.next hg7); have HW7 := Lib.hid (HW6.out.chg hg7.2 NE.out); clear hg7)
        clear z1 z2 z3 hh HN6 HW6 H3 o0 o1
      all_goals
        have htl := ltell_has _ _ _ _ _ HN7.out.node (by have := HK.out; have := HI.out; omega)
        go_upto_region 17 with (go_at_call 9; (with_reducible refine htl.mono ?_); rintro e w8 ⟨rfl, hb8⟩; have HN8 := Lib.hid ((HN7.out.more hb8).alloc (.cells #[.int .i64 i, .int .i64 (i + 1)] 29)); have HW8 := Lib.hid ((HW7.out.below hb8 HW7.out.lt).alloc (.cells #[.int .i64 i, .int .i64 (i + 1)] 29)); clear hb8 htl)
        have hsp : splice ([.int .i64 wf, .int .i64 i] : List Value) 0 ([.int .i64 i, .int .i64 (i + 1)] : List Value) = [.int .i64 i, .int .i64 (i + 1)] := splice_all _ _ rfl
        have hrow := HW8.out.row [.int .i64 i, .int .i64 (i + 1)].toArray
        have hgr := grown_row (w8.alloc (.cells #[.int .i64 i, .int .i64 (i + 1)] 29)) xw [.int .i64 i, .int .i64 (i + 1)].toArray
        have hbe := Below.chg HN8.out.below (Chg.of_grown hgr (S := fun k => k = xw) (fun k e => by cases e; rfl)) HN8.out.below.size (fun k e => by have := HX.out; omega)
        have HRow := Lib.hid hrow
        have HBe := Lib.hid hbe
        clear hrow hgr hbe HN7 HW7
        go_wp2_with (refine wpList_store_at rfl 29 (.tmp 5) (.tmp 102) rfl xw 0 [.int .i64 i, .int .i64 (i + 1)] rfl rfl 29 [.int .i64 wf, .int .i64 i] HW8.out (by kernel_rfl) (Nat.le_refl 2) (find_one _ _) ?_; rw [hsp])
        have e := HI.out
        have e2 := HK.out
        have e3 : ((k + 1 : Nat) : Int) = i + 1 := by omega
        go_roundw
        case rel => exact ⟨k + 1, i, by omega, by rw [e3], by omega, by rw [e3]; exact HRow.out, HBe.out⟩
        case measure => simp [intOf]; omega
    · have hkn : k = n := by omega
      have dl : decide ((k : Int) < (n : Int)) = false := decide_eq_false (by omega)
      go_wp2
      go_ret
      exact ⟨rfl, HB.out⟩

set_option maxRecDepth 100000 in
theorem lifted (os : Os) (started : os.Started) (H : Type) (enc : TypeId × Value → H) :
    ReturnsInHanded {} Try.checked os 5 .any (Rows.levelChainSpec.pre6 enc Try.prog Try.f5 Rows.levelChainRow.domain false) (Rows.levelChainSpec.post enc Try.prog Try.f5 false true false false) := by
  refine returnsInHanded_of_change (C := Try.checked) own started (by kernel_rfl) Try.func5
    (ChangeSpec.witness6 (enc := enc) (C := Try.checked) false ⟨#[], #[.int .i64 0, .int .i64 0], []⟩ 8 (by kernel_rfl) (by kernel_rfl) (by kernel_rfl) (by kernel_rfl)) ?_
  intro W base args ds gs before hval0 hW hcnd _
  have hval : ∀ (j : Nat) t v, Try.f5.params[j]? = some t → args[j]? = some v → Value.okWide Try.prog W .any base t v := hval0
  have hW' := hW
  obtain ⟨p, q, hA0, hV, rfl, hfz, hnd⟩ := hW
  have hA : DataW.TrodAll enc Try.prog W 0 (fun _ => true) true Try.f5.params.toList args.toList ds p := hA0
  have hAk := hA
  rw [Try.params5] at hA hval
  obtain ⟨v0, vs0, d0, ds0, p0, q0, hargs, rfl, hp, h0, r0⟩ := trodAll_cons hA
  obtain ⟨v1, vs1, d1, ds1, p1, q1, rfl, rfl, rfl, h1, r1⟩ := trodAll_cons r0
  obtain ⟨rfl, rfl, rfl⟩ := trodAll_nil r1
  obtain rfl : args = #[v0, v1] := by cases args; simp_all
  obtain ⟨rfl, rfl⟩ := trodVars_none hV
  clear hA0 hval0 hargs
  simp only [List.append_nil] at hW'
  have hend : ∀ W' : World, Below W.heap.size W W' → Rows.levelChainSpec.post enc Try.prog Try.f5 false true false false W #[v0, v1] (.bool true) W' := fun W' hb =>
    law_post (tb := 4) hW' hAk rfl (by kernel_rfl) (by kernel_rfl) (by kernel_rfl) Try.underlying4 rfl rfl rfl hb
  clear hW' hAk hp
  obtain ⟨a0, rfl, rfl, rfl, w0⟩ := open_int Try.underlying3 (hval 0 3 v0 rfl rfl) h0
  obtain ⟨a1, rfl, rfl, rfl, w1⟩ := open_int Try.underlying3 (hval 1 3 v1 rfl rfl) h1
  refine (walk a0 a1 W w0 w1).mono fun e W' ⟨he, hg⟩ => ?_
  subst he
  exact ⟨_, rfl, hend W' hg⟩

theorem over : Rows.levelChainRow.holds Try.pinned (OpenSpec.ofChange Rows.levelChainSpec) :=
  OpenClaim.holds_of_wide 5 Try.f5 rfl rfl rfl rfl rfl rfl rfl ⟨rfl, rfl, rfl, rfl, rfl⟩ rfl rfl rfl rfl rfl (by kernel_rfl) Try.func5 (by kernel_rfl)
    (of_decide_eq_true (by kernel_rfl)) (by unfold Func.isWrapper; first | (rw [if_pos (by decide +kernel)]; kernel_rfl) | (rw [if_neg (by decide +kernel)]; exact ⟨rfl, rfl⟩))
    (fun os started H enc _ => lifted os started H enc)

/-- THE STATEMENT -/
theorem proved : Rows.LevelChainSaid :=
  over
#print axioms proved
end Go.Proofs.Ytnhjjgopkfoncaa.levelChain
