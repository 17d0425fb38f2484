/-
  Package leap: Make, Range, Ahead, Step, All and Text answer what the document says, of all tables and days, or which error; a nil table. Proved of the program's and the document's text. Condition: the library's tables lie as the program's text lays them (the card ties them).
  The walk is the prover's own; the frame of the row's step follows the kit's template.
-/
import Derived.Test.YtiglhmdiiajmhaaDoorRows
import Derived.Test.YtiglhmdiiajmhaaDoorLawKit
import Derived.Test.YtiglhmdiiajmhaaDoorCards
import Derived.Test.YtiglhmdiiajmhaaDoorTie
import Derived.SevenTiedAt
import Derived.Test.YtiglhmdiiajmhaaDoorFlat
import Derived.Test.YtiglhmdiiajmhaaDoorFlatS
import Derived.Test.YtiglhmdiiajmhaaDoorLpY
import Derived.Test.YtiglhmdiiajmhaaDoorLpP
import Derived.Test.YtiglhmdiiajmhaaDoorLpR
import Derived.Test.YtiglhmdiiajmhaaDoorLpO
import Derived.Test.YtiglhmdiiajmhaaDoorLpU
import Derived.Test.YtiglhmdiiajmhaaDoorLpV
import Derived.Test.YtiglhmdiiajmhaaDoorLpW
namespace Go.Proofs.YtiglhmdiiajmhaaDoor.leapMakes
open Go.ChangeShapes Go.WideShapes Go.ChangeAt Go.RowKit Go.ChangeMaps Go.WideElems
set_option linter.unusedVariables false

theorem cells0 {W : World} {vs : List Value} (h : FitS W [.p (.int .i64), .p (.int .i64), .p (.int .i64), .rows [.int .i64, .int .i64]] vs) : ∃ (s0 : Int) (s1 : Int) (s2 : Int) (A3 : Option Addr) (n3 c3 : Nat) (f3 : Nat → List Value), vs = [.int .i64 s0, .int .i64 s1, .int .i64 s2, .slice A3 n3 c3] ∧ (Lit.int .i64 s0).wf = true ∧ (Lit.int .i64 s1).wf = true ∧ (Lit.int .i64 s2).wf = true ∧ FlatRow W [.int .i64, .int .i64] A3 n3 c3 f3 := by
  match vs, h.length, h with
  | [y0, y1, y2, y3], _, h =>
    obtain ⟨⟨x0, rfl, h0⟩, ⟨x1, rfl, h1⟩, ⟨x2, rfl, h2⟩, ⟨A3, n3, c3, x3, rfl, h3⟩, _⟩ := h
    exact ⟨x0, x1, x2, A3, n3, c3, x3, rfl, h0, h1, h2, h3⟩
theorem own : ownKnob Tryd.prog.godebug = none := by kernel_rfl
set_option linter.unusedSimpArgs false
theorem same_nil (W : World) : Calls Tryd.prog 15 #[.pointer none, .agg #[.int .i64 0, .int .i64 0, .int .i64 0, .slice none 0 0]] W fun e w' => e = .returned (.bool true) ∧ Below W.heap.size W w' := same_yes W none 0 0 0 [] none 0 (src_nil W _) (prow_none W)
theorem cells4 {w0 w : World} {t : TypeId} {a b c d : Value} (h : Box w0 t #[a, b, c, d] w) : w.cell? ⟨w0.heap.size, 0, none⟩ = some a ∧ w.cell? ⟨w0.heap.size, 1, none⟩ = some b ∧ w.cell? ⟨w0.heap.size, 2, none⟩ = some c ∧ w.cell? ⟨w0.heap.size, 3, none⟩ = some d :=
  ⟨h.holds.cell 0, h.holds.cell 1, h.holds.cell 2, h.holds.cell 3⟩
set_option maxRecDepth 100000 in
set_option maxHeartbeats 8000000 in
theorem walk (s0_0 : Int) (s0_1 : Int) (s0_2 : Int) (A0_3 : Option Addr) (n0_3 c0_3 : Nat) (f0_3 : Nat → List Value) (a1 : Int) (w : World) (w0_0 : (Lit.int .i64 s0_0).wf = true) (w0_1 : (Lit.int .i64 s0_1).wf = true) (w0_2 : (Lit.int .i64 s0_2).wf = true) (w0_3 : FlatRow w [.int .i64, .int .i64] A0_3 n0_3 c0_3 f0_3) (w1 : (Lit.int .i64 a1).wf = true) (hT : Tab w) (hM : Mt w) :
    Calls Tryd.prog 3 #[.agg #[.int .i64 s0_0, .int .i64 s0_1, .int .i64 s0_2, .slice A0_3 n0_3 c0_3], .int .i64 a1] w fun e w' => e = .returned (.bool true) ∧ Below w.heap.size w w' := by
  obtain ⟨L, hrow, hfits⟩ := prow_of_flat w0_3
  have HM := Lib.hid hM
  have HT := Lib.hid hT
  have HX0 := Lib.hid (Box.start w 24 #[.int .i64 s0_0, .int .i64 s0_1, .int .i64 s0_2, .slice A0_3 n0_3 c0_3])
  have hnl := hrow.len
  clear hM hT
  by_cases h64 : 100 < n0_3
  · have d0 : decide ((100 : Int) < (n0_3 : Int)) = true := decide_eq_true (by omega)
    go_enter Tryd.func3, Tryd.ntmps3
    go_wp2_with (first
      | (go_at_call 8; refine (alive_yes _ (HM.out.below HX0.out.below)).mono ?_; rintro e w1 ⟨rfl, hb1⟩; have HX := Lib.hid (HX0.out.next hb1); obtain ⟨c0, c1, c2, c3⟩ := cells4 HX.out; clear hb1)
      | (go_at_call 9; refine (HMD.out _ HX.out.below).mono ?_; intro e w2 hp; obtain ⟨hp, hb2⟩ := hp; obtain ⟨q, rfl, hrt⟩ := HMY.out w2 _ _ hp; clear hp; have HRT := Lib.hid hrt; have HX := Lib.hid (HX.out.next hb2); clear c0 c1 c2 c3; obtain ⟨c0, c1, c2, c3⟩ := cells4 HX.out; clear hb2 hrt)
      | (go_at_call 9; refine (HMD.out _ HX.out.below).mono ?_; intro e w2 hp; obtain ⟨hp, hb2⟩ := hp; obtain rfl := HMN.out w2 _ _ hp; clear hp; have HX := Lib.hid (HX.out.next hb2); clear c0 c1 c2 c3; obtain ⟨c0, c1, c2, c3⟩ := cells4 HX.out; clear hb2)
      | (go_at_call 10; refine (HRF.out _ HX.out.below).mono ?_; rintro e w3 ⟨rfl, hb3⟩; (try have HRT := Lib.hid ((HRT.out.below hb3).mono hb3.size)); have HX := Lib.hid (HX.out.next hb3); clear c0 c1 c2 c3; obtain ⟨c0, c1, c2, c3⟩ := cells4 HX.out; clear hb3)
      | (go_at_call 12; refine (HA.out _ _ HRT.out).mono ?_; rintro e w4 ⟨rfl, hb3⟩; have HRT := Lib.hid ((HRT.out.below hb3).mono hb3.size); have HX := Lib.hid (HX.out.next hb3); clear c0 c1 c2 c3; obtain ⟨c0, c1, c2, c3⟩ := cells4 HX.out; clear hb3)
      | (go_at_call 16; refine (HRA.out _ HX.out.below).mono ?_; rintro e w5 ⟨rfl, hb3⟩; have HRT := Lib.hid ((HRT.out.below hb3).mono hb3.size); have HX := Lib.hid (HX.out.next hb3); clear c0 c1 c2 c3; obtain ⟨c0, c1, c2, c3⟩ := cells4 HX.out; clear hb3)
      | (go_at_call 12; refine (HAN.out _ _ HRT.out).mono ?_; rintro e w4 ⟨rfl, hb3⟩; have HRT := Lib.hid ((HRT.out.below hb3).mono hb3.size); have HX := Lib.hid (HX.out.next hb3); clear c0 c1 c2 c3; obtain ⟨c0, c1, c2, c3⟩ := cells4 HX.out; clear hb3)
      | (go_at_call 11; refine (HRN.out _).mono ?_; rintro e w6 ⟨rfl, n6, hw6⟩; have HX := Lib.hid (show Box w 24 #[.int .i64 s0_0, .int .i64 s0_1, .int .i64 s0_2, .slice A0_3 n0_3 c0_3] w6 by rw [hw6]; exact HX.out.drewN n6); clear hw6 c0 c1 c2 c3; obtain ⟨c0, c1, c2, c3⟩ := cells4 HX.out)
      | (go_at_call 12; refine (HAZ.out _).mono ?_; rintro e w7 ⟨rfl, hb3⟩; have HX := Lib.hid (HX.out.next hb3); clear c0 c1 c2 c3; obtain ⟨c0, c1, c2, c3⟩ := cells4 HX.out; clear hb3)
      | (go_at_call 13; refine (HSZ.out _).mono ?_; rintro e w8 ⟨rfl, hb3⟩; have HX := Lib.hid (HX.out.next hb3); clear c0 c1 c2 c3; obtain ⟨c0, c1, c2, c3⟩ := cells4 HX.out; clear hb3)
      | (go_at_call 14; refine (text_nil _).mono ?_; rintro e w9 ⟨rfl, hw9⟩; replace hw9 := hw9.symm; subst hw9)
      | (go_at_call 15; refine (same_nil _).mono ?_; rintro e w10 ⟨rfl, hb3⟩; have HX := Lib.hid (HX.out.next hb3); clear hb3))
    go_ret
    exact ⟨rfl, HX.out.below⟩
  have d0 : decide ((100 : Int) < (n0_3 : Int)) = false := decide_eq_false (by omega)
  have HN := Lib.hid (show n0_3 ≤ 1000 by omega)
  have HR := Lib.hid hrow
  have HMD := Lib.hid (fun W (hW : Below w.heap.size w W) => made_any W s0_0 s0_1 s0_2 A0_3 n0_3 c0_3 L (HR.out.below hW) HN.out)
  have HRF := Lib.hid (fun W (hW : Below w.heap.size w W) => rfault_any W s0_0 s0_1 s0_2 A0_3 n0_3 c0_3 L (HR.out.below hW) HN.out)
  unfold MadePost at HMD
  obtain ⟨F, hF⟩ : ∃ F, faultT s0_0 s0_1 s0_2 L = F := ⟨_, rfl⟩
  rw [hF] at HMD HRF
  by_cases h0 : F = 0
  · subst h0
    obtain ⟨hf, ho, hl, hord⟩ := fault_few hF
    have HMY := Lib.hid (show ∀ (W : World) (e : Ending) (w' : World), (((0 : Int) = 0 ∧ ∃ q, e = .returned (.tuple #[.pointer (some ⟨q, 0, none⟩), .int .i64 0]) ∧ Rt w' w'.heap.size q ⟨s0_0, s0_1, s0_2, L⟩) ∨ (¬ (0 : Int) = 0 ∧ e = .returned (.tuple #[.pointer none, .int .i64 0]))) → ∃ q, e = .returned (.tuple #[.pointer (some ⟨q, 0, none⟩), .int .i64 0]) ∧ Rt w' w'.heap.size q ⟨s0_0, s0_1, s0_2, L⟩ from fun W e w' h => h.elim (fun h => h.2) (fun h => absurd rfl h.1))
    have hdays : ∀ e ∈ L, -719162 ≤ e.1 ∧ e.1 ≤ 2932896 := fun e he => by have := hord.1 e he; have := hf.s1; have := hf.e2; omega
    have HS := Lib.hid (fun W q (h : Rt W W.heap.size q ⟨s0_0, s0_1, s0_2, L⟩) => step_any W _ _ _ _ a1 h.src)
    have HST := Lib.hid (fun W (hW : Below w.heap.size w W) => rstep_any W s0_0 s0_1 s0_2 A0_3 n0_3 c0_3 L a1 (HR.out.below hW) HN.out)
    have HTX := Lib.hid (fun W q (h : Rt W W.heap.size q ⟨s0_0, s0_1, s0_2, L⟩) (hW : Below w.heap.size w W) => text_some W q ⟨s0_0, s0_1, s0_2, L⟩ h (HT.out.below hW) hf hdays)
    have HRX := Lib.hid (fun W (hW : Below w.heap.size w W) => rtabtext_any W s0_0 s0_1 s0_2 A0_3 n0_3 c0_3 L (HR.out.below hW) HN.out (HT.out.below hW) hf ho hdays)
    have HSM := Lib.hid (show ∀ W q, Rt W W.heap.size q ⟨s0_0, s0_1, s0_2, L⟩ → Below w.heap.size w W → Calls Tryd.prog 15 #[.pointer (some ⟨q, 0, none⟩), .agg #[.int .i64 s0_0, .int .i64 s0_1, .int .i64 s0_2, .slice A0_3 n0_3 c0_3]] W fun e w' => e = .returned (.bool true) ∧ Below W.heap.size W w' from fun W q h hW => by
      subst hnl
      exact same_yes W _ s0_0 s0_1 s0_2 L A0_3 c0_3 h.src (HR.out.below hW))
    obtain ⟨TX, hTX⟩ : ∃ TX, textT ⟨s0_0, s0_1, s0_2, L⟩ = TX := ⟨_, rfl⟩
    rw [hTX] at HRX HTX
    obtain ⟨S1, hS1⟩ : ∃ S1, stepL L a1 = S1 := ⟨_, rfl⟩
    rw [hS1] at HS HST
    have hss : (S1 == S1) = true := beq_self_eq_true _
    have hbb : (TX.toList == TX.toList) = true := beq_self_eq_true _
    by_cases hr : s0_0 ≤ a1 ∧ a1 < s0_2
    · have ds : decide (a1 < s0_0) = false := decide_eq_false (by omega)
      have de : decide (s0_2 ≤ a1) = false := decide_eq_false (by omega)
      have HA := Lib.hid (fun W q (h : Rt W W.heap.size q ⟨s0_0, s0_1, s0_2, L⟩) => ahead_yes W q ⟨s0_0, s0_1, s0_2, L⟩ a1 h hr.1 hr.2 ho (by have := hf.a1; have := hf.a2; dsimp only; omega))
      have hab := aheadL_bd L s0_1 a1 ho
      have HRA := Lib.hid (fun W (hW : Below w.heap.size w W) => rlead_any W s0_0 s0_1 s0_2 A0_3 n0_3 c0_3 L a1 (HR.out.below hW) HN.out (IntWalk.i64_in _ (by have := hf.a1; have := hf.a2; omega)))
      rw [show IntKind.i64.wrap (aheadL s0_1 L a1) = aheadL s0_1 L a1 from IntWalk.i64_in _ (by have := hf.a1; have := hf.a2; omega)] at HRA
      dsimp only at HA
      obtain ⟨X, hX⟩ : ∃ X, aheadL s0_1 L a1 = X := ⟨_, rfl⟩
      rw [hX] at HA HRA
      have hxx : (X != X) = false := by simp
      clear hf ho hl hord hdays hTX hS1 hr hab hX h64 hnl hfits hrow hF
      go_enter Tryd.func3, Tryd.ntmps3
      go_upto_region 17 with (first
        | (go_at_call 8; refine (alive_yes _ (HM.out.below HX0.out.below)).mono ?_; rintro e w1 ⟨rfl, hb1⟩; have HX := Lib.hid (HX0.out.next hb1); obtain ⟨c0, c1, c2, c3⟩ := cells4 HX.out; clear hb1)
        | (go_at_call 9; refine (HMD.out _ HX.out.below).mono ?_; intro e w2 hp; obtain ⟨hp, hb2⟩ := hp; obtain ⟨q, rfl, hrt⟩ := HMY.out w2 _ _ hp; clear hp; have HRT := Lib.hid hrt; have HX := Lib.hid (HX.out.next hb2); clear c0 c1 c2 c3; obtain ⟨c0, c1, c2, c3⟩ := cells4 HX.out; clear hb2 hrt)
        | (go_at_call 9; refine (HMD.out _ HX.out.below).mono ?_; intro e w2 hp; obtain ⟨hp, hb2⟩ := hp; obtain rfl := HMN.out w2 _ _ hp; clear hp; have HX := Lib.hid (HX.out.next hb2); clear c0 c1 c2 c3; obtain ⟨c0, c1, c2, c3⟩ := cells4 HX.out; clear hb2)
        | (go_at_call 10; refine (HRF.out _ HX.out.below).mono ?_; rintro e w3 ⟨rfl, hb3⟩; (try have HRT := Lib.hid ((HRT.out.below hb3).mono hb3.size)); have HX := Lib.hid (HX.out.next hb3); clear c0 c1 c2 c3; obtain ⟨c0, c1, c2, c3⟩ := cells4 HX.out; clear hb3)
        | (go_at_call 12; refine (HA.out _ _ HRT.out).mono ?_; rintro e w4 ⟨rfl, hb3⟩; have HRT := Lib.hid ((HRT.out.below hb3).mono hb3.size); have HX := Lib.hid (HX.out.next hb3); clear c0 c1 c2 c3; obtain ⟨c0, c1, c2, c3⟩ := cells4 HX.out; clear hb3)
        | (go_at_call 16; refine (HRA.out _ HX.out.below).mono ?_; rintro e w5 ⟨rfl, hb3⟩; have HRT := Lib.hid ((HRT.out.below hb3).mono hb3.size); have HX := Lib.hid (HX.out.next hb3); clear c0 c1 c2 c3; obtain ⟨c0, c1, c2, c3⟩ := cells4 HX.out; clear hb3)
        | (go_at_call 12; refine (HAN.out _ _ HRT.out).mono ?_; rintro e w4 ⟨rfl, hb3⟩; have HRT := Lib.hid ((HRT.out.below hb3).mono hb3.size); have HX := Lib.hid (HX.out.next hb3); clear c0 c1 c2 c3; obtain ⟨c0, c1, c2, c3⟩ := cells4 HX.out; clear hb3)
        | (go_at_call 11; refine (HRN.out _).mono ?_; rintro e w6 ⟨rfl, n6, hw6⟩; have HX := Lib.hid (show Box w 24 #[.int .i64 s0_0, .int .i64 s0_1, .int .i64 s0_2, .slice A0_3 n0_3 c0_3] w6 by rw [hw6]; exact HX.out.drewN n6); clear hw6 c0 c1 c2 c3; obtain ⟨c0, c1, c2, c3⟩ := cells4 HX.out)
        | (go_at_call 12; refine (HAZ.out _).mono ?_; rintro e w7 ⟨rfl, hb3⟩; have HX := Lib.hid (HX.out.next hb3); clear c0 c1 c2 c3; obtain ⟨c0, c1, c2, c3⟩ := cells4 HX.out; clear hb3)
        | (go_at_call 13; refine (HSZ.out _).mono ?_; rintro e w8 ⟨rfl, hb3⟩; have HX := Lib.hid (HX.out.next hb3); clear c0 c1 c2 c3; obtain ⟨c0, c1, c2, c3⟩ := cells4 HX.out; clear hb3)
        | (go_at_call 14; refine (text_nil _).mono ?_; rintro e w9 ⟨rfl, hw9⟩; replace hw9 := hw9.symm; subst hw9)
        | (go_at_call 15; refine (same_nil _).mono ?_; rintro e w10 ⟨rfl, hb3⟩; have HX := Lib.hid (HX.out.next hb3); clear hb3))
      clear c0 c1 c2 c3
      have HX := Lib.hid HX.out.drew
      have HRT := Lib.hid (show Rt _ _ _ _ from HRT.out.below (Below.refl _ _).drew)
      refine region_turns (fun (w' : World) => w'.cell? ⟨w.heap.size, 0, none⟩ = some (.int .i64 s0_0) ∧ w'.cell? ⟨w.heap.size, 1, none⟩ = some (.int .i64 s0_1) ∧ w'.cell? ⟨w.heap.size, 2, none⟩ = some (.int .i64 s0_2) ∧ w'.cell? ⟨w.heap.size, 3, none⟩ = some (.slice A0_3 n0_3 c0_3)) (fun j => decide (24 ≤ j)) (by kernel_rfl) (cells4 HX.out) (fun hS => ?_)
      refine Turns.take hS 0 _ rfl (by kernel_rfl) (by kernel_rfl) (by kernel_rfl) (by kernel_rfl) (fun _ _ _ h => h) (by rfl) (fun w' hS' => by (try dsimp only at hS'); go_split_ands; go_simp; (try with_reducible rfl)) ?_
      simp only [Act.put, List.getElem_toArray, List.getElem_cons_succ, List.getElem_cons_zero, List.setIfInBounds_toArray, List.set_cons_zero, List.set_cons_succ]
      refine Turns.take hS 1 _ rfl (by kernel_rfl) (by kernel_rfl) (by kernel_rfl) (by kernel_rfl) (fun _ _ _ h => h) (by rfl) (fun w' hS' => by (try dsimp only at hS'); go_split_ands; go_simp; (try with_reducible rfl)) ?_
      simp only [Act.put, List.getElem_toArray, List.getElem_cons_succ, List.getElem_cons_zero, List.setIfInBounds_toArray, List.set_cons_zero, List.set_cons_succ]
      refine Turns.take hS 2 _ rfl (by kernel_rfl) (by kernel_rfl) (by kernel_rfl) (by kernel_rfl) (fun _ _ _ h => h) (by rfl) (fun w' hS' => by (try dsimp only at hS'); go_split_ands; go_simp; (try with_reducible rfl)) ?_
      simp only [Act.put, List.getElem_toArray, List.getElem_cons_succ, List.getElem_cons_zero, List.setIfInBounds_toArray, List.set_cons_zero, List.set_cons_succ]
      refine Turns.take hS 3 _ rfl (by kernel_rfl) (by kernel_rfl) (by kernel_rfl) (by kernel_rfl) (fun _ _ _ h => h) (by rfl) (fun w' hS' => by (try dsimp only at hS'); go_split_ands; go_simp; (try with_reducible rfl)) ?_
      simp only [Act.put, List.getElem_toArray, List.getElem_cons_succ, List.getElem_cons_zero, List.setIfInBounds_toArray, List.set_cons_zero, List.set_cons_succ]
      refine Turns.take hS 4 _ rfl (by kernel_rfl) (by kernel_rfl) (by kernel_rfl) (by kernel_rfl) (fun _ _ _ h => h) (by rfl) (fun w' hS' => by (try dsimp only at hS'); go_split_ands; go_simp; (try with_reducible rfl)) ?_
      simp only [Act.put, List.getElem_toArray, List.getElem_cons_succ, List.getElem_cons_zero, List.setIfInBounds_toArray, List.set_cons_zero, List.set_cons_succ]
      refine Turns.take hS 6 _ rfl (by kernel_rfl) (by kernel_rfl) (by kernel_rfl) (by kernel_rfl) (fun _ _ _ h => h) (by rfl) (fun w' hS' => by (try dsimp only at hS'); go_split_ands; go_simp; (try with_reducible rfl)) ?_
      simp only [Act.put, List.getElem_toArray, List.getElem_cons_succ, List.getElem_cons_zero, List.setIfInBounds_toArray, List.set_cons_zero, List.set_cons_succ]
      refine Turns.take hS 7 _ rfl (by kernel_rfl) (by kernel_rfl) (by kernel_rfl) (by kernel_rfl) (fun _ _ _ h => h) (by rfl) (fun w' hS' => by (try dsimp only at hS'); go_split_ands; go_simp; (try with_reducible rfl)) ?_
      simp only [Act.put, List.getElem_toArray, List.getElem_cons_succ, List.getElem_cons_zero, List.setIfInBounds_toArray, List.set_cons_zero, List.set_cons_succ]
      refine Turns.next 5 rfl (by kernel_rfl) (by rfl) (fun K hK => ?_)
      go_simp
      go_at_call 13
      refine (HS.out _ _ HRT.out).mono ?_
      rintro e w5 ⟨rfl, hb⟩
      replace HRT := Lib.hid ((HRT.out.below hb).mono hb.size)
      replace HX := Lib.hid (HX.out.next hb)
      clear hb
      refine hK.out _ _ (show (fun (w' : World) => w'.cell? ⟨w.heap.size, 0, none⟩ = some (.int .i64 s0_0) ∧ w'.cell? ⟨w.heap.size, 1, none⟩ = some (.int .i64 s0_1) ∧ w'.cell? ⟨w.heap.size, 2, none⟩ = some (.int .i64 s0_2) ∧ w'.cell? ⟨w.heap.size, 3, none⟩ = some (.slice A0_3 n0_3 c0_3)) _ from cells4 HX.out) ?_
      clear hK K hS
      have hS := (show (fun (w' : World) => w'.cell? ⟨w.heap.size, 0, none⟩ = some (.int .i64 s0_0) ∧ w'.cell? ⟨w.heap.size, 1, none⟩ = some (.int .i64 s0_1) ∧ w'.cell? ⟨w.heap.size, 2, none⟩ = some (.int .i64 s0_2) ∧ w'.cell? ⟨w.heap.size, 3, none⟩ = some (.slice A0_3 n0_3 c0_3)) _ from cells4 HX.out)
      refine Turns.next 8 rfl (by kernel_rfl) (by rfl) (fun K hK => ?_)
      go_simp
      go_at_call 17
      refine (HST.out _ HX.out.below).mono ?_
      rintro e w8 ⟨rfl, hb⟩
      replace HRT := Lib.hid ((HRT.out.below hb).mono hb.size)
      replace HX := Lib.hid (HX.out.next hb)
      clear hb
      refine hK.out _ _ (show (fun (w' : World) => w'.cell? ⟨w.heap.size, 0, none⟩ = some (.int .i64 s0_0) ∧ w'.cell? ⟨w.heap.size, 1, none⟩ = some (.int .i64 s0_1) ∧ w'.cell? ⟨w.heap.size, 2, none⟩ = some (.int .i64 s0_2) ∧ w'.cell? ⟨w.heap.size, 3, none⟩ = some (.slice A0_3 n0_3 c0_3)) _ from cells4 HX.out) ?_
      clear hK K hS
      have hS := (show (fun (w' : World) => w'.cell? ⟨w.heap.size, 0, none⟩ = some (.int .i64 s0_0) ∧ w'.cell? ⟨w.heap.size, 1, none⟩ = some (.int .i64 s0_1) ∧ w'.cell? ⟨w.heap.size, 2, none⟩ = some (.int .i64 s0_2) ∧ w'.cell? ⟨w.heap.size, 3, none⟩ = some (.slice A0_3 n0_3 c0_3)) _ from cells4 HX.out)
      refine Turns.take hS 9 _ rfl (by kernel_rfl) (by kernel_rfl) (by kernel_rfl) (by kernel_rfl) (fun _ _ _ h => h) (by rfl) (fun w' hS' => by (try dsimp only at hS'); go_split_ands; go_simp; (try with_reducible rfl)) ?_
      simp only [Act.put, List.getElem_toArray, List.getElem_cons_succ, List.getElem_cons_zero, List.setIfInBounds_toArray, List.set_cons_zero, List.set_cons_succ]
      refine Turns.take hS 10 _ rfl (by kernel_rfl) (by kernel_rfl) (by kernel_rfl) (by kernel_rfl) (fun _ _ _ h => h) (by rfl) (fun w' hS' => by (try dsimp only at hS'); go_split_ands; go_simp; (try with_reducible rfl)) ?_
      simp only [Act.put, List.getElem_toArray, List.getElem_cons_succ, List.getElem_cons_zero, List.setIfInBounds_toArray, List.set_cons_zero, List.set_cons_succ]
      refine Turns.take hS 11 _ rfl (by kernel_rfl) (by kernel_rfl) (by kernel_rfl) (by kernel_rfl) (fun _ _ _ h => h) (by rfl) (fun w' hS' => by (try dsimp only at hS'); go_split_ands; go_simp; (try with_reducible rfl)) ?_
      simp only [Act.put, List.getElem_toArray, List.getElem_cons_succ, List.getElem_cons_zero, List.setIfInBounds_toArray, List.set_cons_zero, List.set_cons_succ]
      refine Turns.take hS 12 _ rfl (by kernel_rfl) (by kernel_rfl) (by kernel_rfl) (by kernel_rfl) (fun _ _ _ h => h) (by rfl) (fun w' hS' => by (try dsimp only at hS'); go_split_ands; go_simp; (try with_reducible rfl)) ?_
      simp only [Act.put, List.getElem_toArray, List.getElem_cons_succ, List.getElem_cons_zero, List.setIfInBounds_toArray, List.set_cons_zero, List.set_cons_succ]
      refine Turns.take hS 13 _ rfl (by kernel_rfl) (by kernel_rfl) (by kernel_rfl) (by kernel_rfl) (fun _ _ _ h => h) (by rfl) (fun w' hS' => by (try dsimp only at hS'); go_split_ands; go_simp; (try with_reducible rfl)) ?_
      simp only [Act.put, List.getElem_toArray, List.getElem_cons_succ, List.getElem_cons_zero, List.setIfInBounds_toArray, List.set_cons_zero, List.set_cons_succ]
      refine Turns.next 14 rfl (by kernel_rfl) (by rfl) (fun K hK => ?_)
      go_simp
      go_at_call 15
      refine (HSM.out _ _ HRT.out HX.out.below).mono ?_
      rintro e w14 ⟨rfl, hb⟩
      replace HRT := Lib.hid ((HRT.out.below hb).mono hb.size)
      replace HX := Lib.hid (HX.out.next hb)
      clear hb
      refine hK.out _ _ (show (fun (w' : World) => w'.cell? ⟨w.heap.size, 0, none⟩ = some (.int .i64 s0_0) ∧ w'.cell? ⟨w.heap.size, 1, none⟩ = some (.int .i64 s0_1) ∧ w'.cell? ⟨w.heap.size, 2, none⟩ = some (.int .i64 s0_2) ∧ w'.cell? ⟨w.heap.size, 3, none⟩ = some (.slice A0_3 n0_3 c0_3)) _ from cells4 HX.out) ?_
      clear hK K hS
      have hS := (show (fun (w' : World) => w'.cell? ⟨w.heap.size, 0, none⟩ = some (.int .i64 s0_0) ∧ w'.cell? ⟨w.heap.size, 1, none⟩ = some (.int .i64 s0_1) ∧ w'.cell? ⟨w.heap.size, 2, none⟩ = some (.int .i64 s0_2) ∧ w'.cell? ⟨w.heap.size, 3, none⟩ = some (.slice A0_3 n0_3 c0_3)) _ from cells4 HX.out)
      refine Turns.take hS 15 _ rfl (by kernel_rfl) (by kernel_rfl) (by kernel_rfl) (by kernel_rfl) (fun _ _ _ h => h) (by rfl) (fun w' hS' => by (try dsimp only at hS'); go_split_ands; go_simp; (try with_reducible rfl)) ?_
      simp only [Act.put, List.getElem_toArray, List.getElem_cons_succ, List.getElem_cons_zero, List.setIfInBounds_toArray, List.set_cons_zero, List.set_cons_succ]
      refine Turns.take hS 16 _ rfl (by kernel_rfl) (by kernel_rfl) (by kernel_rfl) (by kernel_rfl) (fun _ _ _ h => h) (by rfl) (fun w' hS' => by (try dsimp only at hS'); go_split_ands; go_simp; (try with_reducible rfl)) ?_
      simp only [Act.put, List.getElem_toArray, List.getElem_cons_succ, List.getElem_cons_zero, List.setIfInBounds_toArray, List.set_cons_zero, List.set_cons_succ]
      refine Turns.take hS 17 _ rfl (by kernel_rfl) (by kernel_rfl) (by kernel_rfl) (by kernel_rfl) (fun _ _ _ h => h) (by rfl) (fun w' hS' => by (try dsimp only at hS'); go_split_ands; go_simp; (try with_reducible rfl)) ?_
      simp only [Act.put, List.getElem_toArray, List.getElem_cons_succ, List.getElem_cons_zero, List.setIfInBounds_toArray, List.set_cons_zero, List.set_cons_succ]
      refine Turns.take hS 19 _ rfl (by kernel_rfl) (by kernel_rfl) (by kernel_rfl) (by kernel_rfl) (fun _ _ _ h => h) (by rfl) (fun w' hS' => by (try dsimp only at hS'); go_split_ands; go_simp; (try with_reducible rfl)) ?_
      simp only [Act.put, List.getElem_toArray, List.getElem_cons_succ, List.getElem_cons_zero, List.setIfInBounds_toArray, List.set_cons_zero, List.set_cons_succ]
      refine Turns.next 18 rfl (by kernel_rfl) (by rfl) (fun K hK => ?_)
      go_simp
      go_at_call 14
      refine (HTX.out _ _ HRT.out HX.out.below).mono ?_
      rintro e w18 ⟨rfl, hb⟩
      replace HRT := Lib.hid ((HRT.out.below hb).mono hb.size)
      replace HX := Lib.hid (HX.out.next hb)
      clear hb
      refine hK.out _ _ (show (fun (w' : World) => w'.cell? ⟨w.heap.size, 0, none⟩ = some (.int .i64 s0_0) ∧ w'.cell? ⟨w.heap.size, 1, none⟩ = some (.int .i64 s0_1) ∧ w'.cell? ⟨w.heap.size, 2, none⟩ = some (.int .i64 s0_2) ∧ w'.cell? ⟨w.heap.size, 3, none⟩ = some (.slice A0_3 n0_3 c0_3)) _ from cells4 HX.out) ?_
      clear hK K hS
      have hS := (show (fun (w' : World) => w'.cell? ⟨w.heap.size, 0, none⟩ = some (.int .i64 s0_0) ∧ w'.cell? ⟨w.heap.size, 1, none⟩ = some (.int .i64 s0_1) ∧ w'.cell? ⟨w.heap.size, 2, none⟩ = some (.int .i64 s0_2) ∧ w'.cell? ⟨w.heap.size, 3, none⟩ = some (.slice A0_3 n0_3 c0_3)) _ from cells4 HX.out)
      refine Turns.next 20 rfl (by kernel_rfl) (by rfl) (fun K hK => ?_)
      go_simp
      go_at_call 18
      refine (HRX.out _ HX.out.below).mono ?_
      rintro e w20 ⟨rfl, hb⟩
      replace HX := Lib.hid (HX.out.next hb)
      clear hb
      refine hK.out _ _ (show (fun (w' : World) => w'.cell? ⟨w.heap.size, 0, none⟩ = some (.int .i64 s0_0) ∧ w'.cell? ⟨w.heap.size, 1, none⟩ = some (.int .i64 s0_1) ∧ w'.cell? ⟨w.heap.size, 2, none⟩ = some (.int .i64 s0_2) ∧ w'.cell? ⟨w.heap.size, 3, none⟩ = some (.slice A0_3 n0_3 c0_3)) _ from cells4 HX.out) ?_
      clear hK K hS
      have hS := (show (fun (w' : World) => w'.cell? ⟨w.heap.size, 0, none⟩ = some (.int .i64 s0_0) ∧ w'.cell? ⟨w.heap.size, 1, none⟩ = some (.int .i64 s0_1) ∧ w'.cell? ⟨w.heap.size, 2, none⟩ = some (.int .i64 s0_2) ∧ w'.cell? ⟨w.heap.size, 3, none⟩ = some (.slice A0_3 n0_3 c0_3)) _ from cells4 HX.out)
      refine Turns.take hS 21 _ rfl (by kernel_rfl) (by kernel_rfl) (by kernel_rfl) (by kernel_rfl) (fun _ _ _ h => h) (by rfl) (fun w' hS' => by (try dsimp only at hS'); go_split_ands; go_simp; (try with_reducible rfl)) ?_
      simp only [Act.put, List.getElem_toArray, List.getElem_cons_succ, List.getElem_cons_zero, List.setIfInBounds_toArray, List.set_cons_zero, List.set_cons_succ]
      refine Turns.take hS 22 _ rfl (by kernel_rfl) (by kernel_rfl) (by kernel_rfl) (by kernel_rfl) (fun _ _ _ h => h) (by rfl) (fun w' hS' => by (try dsimp only at hS'); go_split_ands; go_simp; (try with_reducible rfl)) ?_
      simp only [Act.put, List.getElem_toArray, List.getElem_cons_succ, List.getElem_cons_zero, List.setIfInBounds_toArray, List.set_cons_zero, List.set_cons_succ]
      refine Turns.take hS 23 _ rfl (by kernel_rfl) (by kernel_rfl) (by kernel_rfl) (by kernel_rfl) (fun _ _ _ h => h) (by rfl) (fun w' hS' => by (try dsimp only at hS'); go_split_ands; go_simp; (try with_reducible rfl)) ?_
      simp only [Act.put, List.getElem_toArray, List.getElem_cons_succ, List.getElem_cons_zero, List.setIfInBounds_toArray, List.set_cons_zero, List.set_cons_succ]
      refine Turns.rest (late_done (by kernel_rfl)) ?_
      refine any_tail 24 (by rfl) (by kernel_rfl) ?_
      simp only [List.drop_succ_cons, List.drop_zero]
      clear hS
      go_wp2
      go_ret
      exact ⟨rfl, HX.out.below⟩
    · have HAN := Lib.hid (fun W q (h : Rt W W.heap.size q ⟨s0_0, s0_1, s0_2, L⟩) => ahead_no W W.heap.size _ _ _ _ a1 h.src (by dsimp only; omega))
      by_cases hs : a1 < s0_0
      · have ds : decide (a1 < s0_0) = true := decide_eq_true hs
        clear hf ho hl hord hdays hTX hS1 hr hs h64 hnl hfits hrow hF
        go_enter Tryd.func3, Tryd.ntmps3
        go_upto_region 17 with (first
          | (go_at_call 8; refine (alive_yes _ (HM.out.below HX0.out.below)).mono ?_; rintro e w1 ⟨rfl, hb1⟩; have HX := Lib.hid (HX0.out.next hb1); obtain ⟨c0, c1, c2, c3⟩ := cells4 HX.out; clear hb1)
          | (go_at_call 9; refine (HMD.out _ HX.out.below).mono ?_; intro e w2 hp; obtain ⟨hp, hb2⟩ := hp; obtain ⟨q, rfl, hrt⟩ := HMY.out w2 _ _ hp; clear hp; have HRT := Lib.hid hrt; have HX := Lib.hid (HX.out.next hb2); clear c0 c1 c2 c3; obtain ⟨c0, c1, c2, c3⟩ := cells4 HX.out; clear hb2 hrt)
          | (go_at_call 9; refine (HMD.out _ HX.out.below).mono ?_; intro e w2 hp; obtain ⟨hp, hb2⟩ := hp; obtain rfl := HMN.out w2 _ _ hp; clear hp; have HX := Lib.hid (HX.out.next hb2); clear c0 c1 c2 c3; obtain ⟨c0, c1, c2, c3⟩ := cells4 HX.out; clear hb2)
          | (go_at_call 10; refine (HRF.out _ HX.out.below).mono ?_; rintro e w3 ⟨rfl, hb3⟩; (try have HRT := Lib.hid ((HRT.out.below hb3).mono hb3.size)); have HX := Lib.hid (HX.out.next hb3); clear c0 c1 c2 c3; obtain ⟨c0, c1, c2, c3⟩ := cells4 HX.out; clear hb3)
          | (go_at_call 12; refine (HA.out _ _ HRT.out).mono ?_; rintro e w4 ⟨rfl, hb3⟩; have HRT := Lib.hid ((HRT.out.below hb3).mono hb3.size); have HX := Lib.hid (HX.out.next hb3); clear c0 c1 c2 c3; obtain ⟨c0, c1, c2, c3⟩ := cells4 HX.out; clear hb3)
          | (go_at_call 16; refine (HRA.out _ HX.out.below).mono ?_; rintro e w5 ⟨rfl, hb3⟩; have HRT := Lib.hid ((HRT.out.below hb3).mono hb3.size); have HX := Lib.hid (HX.out.next hb3); clear c0 c1 c2 c3; obtain ⟨c0, c1, c2, c3⟩ := cells4 HX.out; clear hb3)
          | (go_at_call 12; refine (HAN.out _ _ HRT.out).mono ?_; rintro e w4 ⟨rfl, hb3⟩; have HRT := Lib.hid ((HRT.out.below hb3).mono hb3.size); have HX := Lib.hid (HX.out.next hb3); clear c0 c1 c2 c3; obtain ⟨c0, c1, c2, c3⟩ := cells4 HX.out; clear hb3)
          | (go_at_call 11; refine (HRN.out _).mono ?_; rintro e w6 ⟨rfl, n6, hw6⟩; have HX := Lib.hid (show Box w 24 #[.int .i64 s0_0, .int .i64 s0_1, .int .i64 s0_2, .slice A0_3 n0_3 c0_3] w6 by rw [hw6]; exact HX.out.drewN n6); clear hw6 c0 c1 c2 c3; obtain ⟨c0, c1, c2, c3⟩ := cells4 HX.out)
          | (go_at_call 12; refine (HAZ.out _).mono ?_; rintro e w7 ⟨rfl, hb3⟩; have HX := Lib.hid (HX.out.next hb3); clear c0 c1 c2 c3; obtain ⟨c0, c1, c2, c3⟩ := cells4 HX.out; clear hb3)
          | (go_at_call 13; refine (HSZ.out _).mono ?_; rintro e w8 ⟨rfl, hb3⟩; have HX := Lib.hid (HX.out.next hb3); clear c0 c1 c2 c3; obtain ⟨c0, c1, c2, c3⟩ := cells4 HX.out; clear hb3)
          | (go_at_call 14; refine (text_nil _).mono ?_; rintro e w9 ⟨rfl, hw9⟩; replace hw9 := hw9.symm; subst hw9)
          | (go_at_call 15; refine (same_nil _).mono ?_; rintro e w10 ⟨rfl, hb3⟩; have HX := Lib.hid (HX.out.next hb3); clear hb3))
        clear c0 c1 c2 c3
        have HX := Lib.hid HX.out.drew
        have HRT := Lib.hid (show Rt _ _ _ _ from HRT.out.below (Below.refl _ _).drew)
        refine region_turns (fun (w' : World) => w'.cell? ⟨w.heap.size, 0, none⟩ = some (.int .i64 s0_0) ∧ w'.cell? ⟨w.heap.size, 1, none⟩ = some (.int .i64 s0_1) ∧ w'.cell? ⟨w.heap.size, 2, none⟩ = some (.int .i64 s0_2) ∧ w'.cell? ⟨w.heap.size, 3, none⟩ = some (.slice A0_3 n0_3 c0_3)) (fun j => decide (24 ≤ j)) (by kernel_rfl) (cells4 HX.out) (fun hS => ?_)
        refine Turns.take hS 0 _ rfl (by kernel_rfl) (by kernel_rfl) (by kernel_rfl) (by kernel_rfl) (fun _ _ _ h => h) (by rfl) (fun w' hS' => by (try dsimp only at hS'); go_split_ands; go_simp; (try with_reducible rfl)) ?_
        simp only [Act.put, List.getElem_toArray, List.getElem_cons_succ, List.getElem_cons_zero, List.setIfInBounds_toArray, List.set_cons_zero, List.set_cons_succ]
        refine Turns.take hS 1 _ rfl (by kernel_rfl) (by kernel_rfl) (by kernel_rfl) (by kernel_rfl) (fun _ _ _ h => h) (by rfl) (fun w' hS' => by (try dsimp only at hS'); go_split_ands; go_simp; (try with_reducible rfl)) ?_
        simp only [Act.put, List.getElem_toArray, List.getElem_cons_succ, List.getElem_cons_zero, List.setIfInBounds_toArray, List.set_cons_zero, List.set_cons_succ]
        refine Turns.take hS 2 _ rfl (by kernel_rfl) (by kernel_rfl) (by kernel_rfl) (by kernel_rfl) (fun _ _ _ h => h) (by rfl) (fun w' hS' => by (try dsimp only at hS'); go_split_ands; go_simp; (try with_reducible rfl)) ?_
        simp only [Act.put, List.getElem_toArray, List.getElem_cons_succ, List.getElem_cons_zero, List.setIfInBounds_toArray, List.set_cons_zero, List.set_cons_succ]
        refine Turns.take hS 3 _ rfl (by kernel_rfl) (by kernel_rfl) (by kernel_rfl) (by kernel_rfl) (fun _ _ _ h => h) (by rfl) (fun w' hS' => by (try dsimp only at hS'); go_split_ands; go_simp; (try with_reducible rfl)) ?_
        simp only [Act.put, List.getElem_toArray, List.getElem_cons_succ, List.getElem_cons_zero, List.setIfInBounds_toArray, List.set_cons_zero, List.set_cons_succ]
        refine Turns.take hS 4 _ rfl (by kernel_rfl) (by kernel_rfl) (by kernel_rfl) (by kernel_rfl) (fun _ _ _ h => h) (by rfl) (fun w' hS' => by (try dsimp only at hS'); go_split_ands; go_simp; (try with_reducible rfl)) ?_
        simp only [Act.put, List.getElem_toArray, List.getElem_cons_succ, List.getElem_cons_zero, List.setIfInBounds_toArray, List.set_cons_zero, List.set_cons_succ]
        refine Turns.take hS 6 _ rfl (by kernel_rfl) (by kernel_rfl) (by kernel_rfl) (by kernel_rfl) (fun _ _ _ h => h) (by rfl) (fun w' hS' => by (try dsimp only at hS'); go_split_ands; go_simp; (try with_reducible rfl)) ?_
        simp only [Act.put, List.getElem_toArray, List.getElem_cons_succ, List.getElem_cons_zero, List.setIfInBounds_toArray, List.set_cons_zero, List.set_cons_succ]
        refine Turns.take hS 7 _ rfl (by kernel_rfl) (by kernel_rfl) (by kernel_rfl) (by kernel_rfl) (fun _ _ _ h => h) (by rfl) (fun w' hS' => by (try dsimp only at hS'); go_split_ands; go_simp; (try with_reducible rfl)) ?_
        simp only [Act.put, List.getElem_toArray, List.getElem_cons_succ, List.getElem_cons_zero, List.setIfInBounds_toArray, List.set_cons_zero, List.set_cons_succ]
        refine Turns.next 5 rfl (by kernel_rfl) (by rfl) (fun K hK => ?_)
        go_simp
        go_at_call 13
        refine (HS.out _ _ HRT.out).mono ?_
        rintro e w5 ⟨rfl, hb⟩
        replace HRT := Lib.hid ((HRT.out.below hb).mono hb.size)
        replace HX := Lib.hid (HX.out.next hb)
        clear hb
        refine hK.out _ _ (show (fun (w' : World) => w'.cell? ⟨w.heap.size, 0, none⟩ = some (.int .i64 s0_0) ∧ w'.cell? ⟨w.heap.size, 1, none⟩ = some (.int .i64 s0_1) ∧ w'.cell? ⟨w.heap.size, 2, none⟩ = some (.int .i64 s0_2) ∧ w'.cell? ⟨w.heap.size, 3, none⟩ = some (.slice A0_3 n0_3 c0_3)) _ from cells4 HX.out) ?_
        clear hK K hS
        have hS := (show (fun (w' : World) => w'.cell? ⟨w.heap.size, 0, none⟩ = some (.int .i64 s0_0) ∧ w'.cell? ⟨w.heap.size, 1, none⟩ = some (.int .i64 s0_1) ∧ w'.cell? ⟨w.heap.size, 2, none⟩ = some (.int .i64 s0_2) ∧ w'.cell? ⟨w.heap.size, 3, none⟩ = some (.slice A0_3 n0_3 c0_3)) _ from cells4 HX.out)
        refine Turns.next 8 rfl (by kernel_rfl) (by rfl) (fun K hK => ?_)
        go_simp
        go_at_call 17
        refine (HST.out _ HX.out.below).mono ?_
        rintro e w8 ⟨rfl, hb⟩
        replace HRT := Lib.hid ((HRT.out.below hb).mono hb.size)
        replace HX := Lib.hid (HX.out.next hb)
        clear hb
        refine hK.out _ _ (show (fun (w' : World) => w'.cell? ⟨w.heap.size, 0, none⟩ = some (.int .i64 s0_0) ∧ w'.cell? ⟨w.heap.size, 1, none⟩ = some (.int .i64 s0_1) ∧ w'.cell? ⟨w.heap.size, 2, none⟩ = some (.int .i64 s0_2) ∧ w'.cell? ⟨w.heap.size, 3, none⟩ = some (.slice A0_3 n0_3 c0_3)) _ from cells4 HX.out) ?_
        clear hK K hS
        have hS := (show (fun (w' : World) => w'.cell? ⟨w.heap.size, 0, none⟩ = some (.int .i64 s0_0) ∧ w'.cell? ⟨w.heap.size, 1, none⟩ = some (.int .i64 s0_1) ∧ w'.cell? ⟨w.heap.size, 2, none⟩ = some (.int .i64 s0_2) ∧ w'.cell? ⟨w.heap.size, 3, none⟩ = some (.slice A0_3 n0_3 c0_3)) _ from cells4 HX.out)
        refine Turns.take hS 9 _ rfl (by kernel_rfl) (by kernel_rfl) (by kernel_rfl) (by kernel_rfl) (fun _ _ _ h => h) (by rfl) (fun w' hS' => by (try dsimp only at hS'); go_split_ands; go_simp; (try with_reducible rfl)) ?_
        simp only [Act.put, List.getElem_toArray, List.getElem_cons_succ, List.getElem_cons_zero, List.setIfInBounds_toArray, List.set_cons_zero, List.set_cons_succ]
        refine Turns.take hS 10 _ rfl (by kernel_rfl) (by kernel_rfl) (by kernel_rfl) (by kernel_rfl) (fun _ _ _ h => h) (by rfl) (fun w' hS' => by (try dsimp only at hS'); go_split_ands; go_simp; (try with_reducible rfl)) ?_
        simp only [Act.put, List.getElem_toArray, List.getElem_cons_succ, List.getElem_cons_zero, List.setIfInBounds_toArray, List.set_cons_zero, List.set_cons_succ]
        refine Turns.take hS 11 _ rfl (by kernel_rfl) (by kernel_rfl) (by kernel_rfl) (by kernel_rfl) (fun _ _ _ h => h) (by rfl) (fun w' hS' => by (try dsimp only at hS'); go_split_ands; go_simp; (try with_reducible rfl)) ?_
        simp only [Act.put, List.getElem_toArray, List.getElem_cons_succ, List.getElem_cons_zero, List.setIfInBounds_toArray, List.set_cons_zero, List.set_cons_succ]
        refine Turns.take hS 12 _ rfl (by kernel_rfl) (by kernel_rfl) (by kernel_rfl) (by kernel_rfl) (fun _ _ _ h => h) (by rfl) (fun w' hS' => by (try dsimp only at hS'); go_split_ands; go_simp; (try with_reducible rfl)) ?_
        simp only [Act.put, List.getElem_toArray, List.getElem_cons_succ, List.getElem_cons_zero, List.setIfInBounds_toArray, List.set_cons_zero, List.set_cons_succ]
        refine Turns.take hS 13 _ rfl (by kernel_rfl) (by kernel_rfl) (by kernel_rfl) (by kernel_rfl) (fun _ _ _ h => h) (by rfl) (fun w' hS' => by (try dsimp only at hS'); go_split_ands; go_simp; (try with_reducible rfl)) ?_
        simp only [Act.put, List.getElem_toArray, List.getElem_cons_succ, List.getElem_cons_zero, List.setIfInBounds_toArray, List.set_cons_zero, List.set_cons_succ]
        refine Turns.next 14 rfl (by kernel_rfl) (by rfl) (fun K hK => ?_)
        go_simp
        go_at_call 15
        refine (HSM.out _ _ HRT.out HX.out.below).mono ?_
        rintro e w14 ⟨rfl, hb⟩
        replace HRT := Lib.hid ((HRT.out.below hb).mono hb.size)
        replace HX := Lib.hid (HX.out.next hb)
        clear hb
        refine hK.out _ _ (show (fun (w' : World) => w'.cell? ⟨w.heap.size, 0, none⟩ = some (.int .i64 s0_0) ∧ w'.cell? ⟨w.heap.size, 1, none⟩ = some (.int .i64 s0_1) ∧ w'.cell? ⟨w.heap.size, 2, none⟩ = some (.int .i64 s0_2) ∧ w'.cell? ⟨w.heap.size, 3, none⟩ = some (.slice A0_3 n0_3 c0_3)) _ from cells4 HX.out) ?_
        clear hK K hS
        have hS := (show (fun (w' : World) => w'.cell? ⟨w.heap.size, 0, none⟩ = some (.int .i64 s0_0) ∧ w'.cell? ⟨w.heap.size, 1, none⟩ = some (.int .i64 s0_1) ∧ w'.cell? ⟨w.heap.size, 2, none⟩ = some (.int .i64 s0_2) ∧ w'.cell? ⟨w.heap.size, 3, none⟩ = some (.slice A0_3 n0_3 c0_3)) _ from cells4 HX.out)
        refine Turns.take hS 15 _ rfl (by kernel_rfl) (by kernel_rfl) (by kernel_rfl) (by kernel_rfl) (fun _ _ _ h => h) (by rfl) (fun w' hS' => by (try dsimp only at hS'); go_split_ands; go_simp; (try with_reducible rfl)) ?_
        simp only [Act.put, List.getElem_toArray, List.getElem_cons_succ, List.getElem_cons_zero, List.setIfInBounds_toArray, List.set_cons_zero, List.set_cons_succ]
        refine Turns.take hS 16 _ rfl (by kernel_rfl) (by kernel_rfl) (by kernel_rfl) (by kernel_rfl) (fun _ _ _ h => h) (by rfl) (fun w' hS' => by (try dsimp only at hS'); go_split_ands; go_simp; (try with_reducible rfl)) ?_
        simp only [Act.put, List.getElem_toArray, List.getElem_cons_succ, List.getElem_cons_zero, List.setIfInBounds_toArray, List.set_cons_zero, List.set_cons_succ]
        refine Turns.take hS 17 _ rfl (by kernel_rfl) (by kernel_rfl) (by kernel_rfl) (by kernel_rfl) (fun _ _ _ h => h) (by rfl) (fun w' hS' => by (try dsimp only at hS'); go_split_ands; go_simp; (try with_reducible rfl)) ?_
        simp only [Act.put, List.getElem_toArray, List.getElem_cons_succ, List.getElem_cons_zero, List.setIfInBounds_toArray, List.set_cons_zero, List.set_cons_succ]
        refine Turns.take hS 19 _ rfl (by kernel_rfl) (by kernel_rfl) (by kernel_rfl) (by kernel_rfl) (fun _ _ _ h => h) (by rfl) (fun w' hS' => by (try dsimp only at hS'); go_split_ands; go_simp; (try with_reducible rfl)) ?_
        simp only [Act.put, List.getElem_toArray, List.getElem_cons_succ, List.getElem_cons_zero, List.setIfInBounds_toArray, List.set_cons_zero, List.set_cons_succ]
        refine Turns.next 18 rfl (by kernel_rfl) (by rfl) (fun K hK => ?_)
        go_simp
        go_at_call 14
        refine (HTX.out _ _ HRT.out HX.out.below).mono ?_
        rintro e w18 ⟨rfl, hb⟩
        replace HRT := Lib.hid ((HRT.out.below hb).mono hb.size)
        replace HX := Lib.hid (HX.out.next hb)
        clear hb
        refine hK.out _ _ (show (fun (w' : World) => w'.cell? ⟨w.heap.size, 0, none⟩ = some (.int .i64 s0_0) ∧ w'.cell? ⟨w.heap.size, 1, none⟩ = some (.int .i64 s0_1) ∧ w'.cell? ⟨w.heap.size, 2, none⟩ = some (.int .i64 s0_2) ∧ w'.cell? ⟨w.heap.size, 3, none⟩ = some (.slice A0_3 n0_3 c0_3)) _ from cells4 HX.out) ?_
        clear hK K hS
        have hS := (show (fun (w' : World) => w'.cell? ⟨w.heap.size, 0, none⟩ = some (.int .i64 s0_0) ∧ w'.cell? ⟨w.heap.size, 1, none⟩ = some (.int .i64 s0_1) ∧ w'.cell? ⟨w.heap.size, 2, none⟩ = some (.int .i64 s0_2) ∧ w'.cell? ⟨w.heap.size, 3, none⟩ = some (.slice A0_3 n0_3 c0_3)) _ from cells4 HX.out)
        refine Turns.next 20 rfl (by kernel_rfl) (by rfl) (fun K hK => ?_)
        go_simp
        go_at_call 18
        refine (HRX.out _ HX.out.below).mono ?_
        rintro e w20 ⟨rfl, hb⟩
        replace HX := Lib.hid (HX.out.next hb)
        clear hb
        refine hK.out _ _ (show (fun (w' : World) => w'.cell? ⟨w.heap.size, 0, none⟩ = some (.int .i64 s0_0) ∧ w'.cell? ⟨w.heap.size, 1, none⟩ = some (.int .i64 s0_1) ∧ w'.cell? ⟨w.heap.size, 2, none⟩ = some (.int .i64 s0_2) ∧ w'.cell? ⟨w.heap.size, 3, none⟩ = some (.slice A0_3 n0_3 c0_3)) _ from cells4 HX.out) ?_
        clear hK K hS
        have hS := (show (fun (w' : World) => w'.cell? ⟨w.heap.size, 0, none⟩ = some (.int .i64 s0_0) ∧ w'.cell? ⟨w.heap.size, 1, none⟩ = some (.int .i64 s0_1) ∧ w'.cell? ⟨w.heap.size, 2, none⟩ = some (.int .i64 s0_2) ∧ w'.cell? ⟨w.heap.size, 3, none⟩ = some (.slice A0_3 n0_3 c0_3)) _ from cells4 HX.out)
        refine Turns.take hS 21 _ rfl (by kernel_rfl) (by kernel_rfl) (by kernel_rfl) (by kernel_rfl) (fun _ _ _ h => h) (by rfl) (fun w' hS' => by (try dsimp only at hS'); go_split_ands; go_simp; (try with_reducible rfl)) ?_
        simp only [Act.put, List.getElem_toArray, List.getElem_cons_succ, List.getElem_cons_zero, List.setIfInBounds_toArray, List.set_cons_zero, List.set_cons_succ]
        refine Turns.take hS 22 _ rfl (by kernel_rfl) (by kernel_rfl) (by kernel_rfl) (by kernel_rfl) (fun _ _ _ h => h) (by rfl) (fun w' hS' => by (try dsimp only at hS'); go_split_ands; go_simp; (try with_reducible rfl)) ?_
        simp only [Act.put, List.getElem_toArray, List.getElem_cons_succ, List.getElem_cons_zero, List.setIfInBounds_toArray, List.set_cons_zero, List.set_cons_succ]
        refine Turns.take hS 23 _ rfl (by kernel_rfl) (by kernel_rfl) (by kernel_rfl) (by kernel_rfl) (fun _ _ _ h => h) (by rfl) (fun w' hS' => by (try dsimp only at hS'); go_split_ands; go_simp; (try with_reducible rfl)) ?_
        simp only [Act.put, List.getElem_toArray, List.getElem_cons_succ, List.getElem_cons_zero, List.setIfInBounds_toArray, List.set_cons_zero, List.set_cons_succ]
        refine Turns.rest (late_done (by kernel_rfl)) ?_
        refine any_tail 24 (by rfl) (by kernel_rfl) ?_
        simp only [List.drop_succ_cons, List.drop_zero]
        clear hS
        go_wp2
        go_ret
        exact ⟨rfl, HX.out.below⟩
      · have ds : decide (a1 < s0_0) = false := decide_eq_false hs
        have de : decide (s0_2 ≤ a1) = true := decide_eq_true (by omega)
        clear hf ho hl hord hdays hTX hS1 hr hs h64 hnl hfits hrow hF
        go_enter Tryd.func3, Tryd.ntmps3
        go_upto_region 17 with (first
          | (go_at_call 8; refine (alive_yes _ (HM.out.below HX0.out.below)).mono ?_; rintro e w1 ⟨rfl, hb1⟩; have HX := Lib.hid (HX0.out.next hb1); obtain ⟨c0, c1, c2, c3⟩ := cells4 HX.out; clear hb1)
          | (go_at_call 9; refine (HMD.out _ HX.out.below).mono ?_; intro e w2 hp; obtain ⟨hp, hb2⟩ := hp; obtain ⟨q, rfl, hrt⟩ := HMY.out w2 _ _ hp; clear hp; have HRT := Lib.hid hrt; have HX := Lib.hid (HX.out.next hb2); clear c0 c1 c2 c3; obtain ⟨c0, c1, c2, c3⟩ := cells4 HX.out; clear hb2 hrt)
          | (go_at_call 9; refine (HMD.out _ HX.out.below).mono ?_; intro e w2 hp; obtain ⟨hp, hb2⟩ := hp; obtain rfl := HMN.out w2 _ _ hp; clear hp; have HX := Lib.hid (HX.out.next hb2); clear c0 c1 c2 c3; obtain ⟨c0, c1, c2, c3⟩ := cells4 HX.out; clear hb2)
          | (go_at_call 10; refine (HRF.out _ HX.out.below).mono ?_; rintro e w3 ⟨rfl, hb3⟩; (try have HRT := Lib.hid ((HRT.out.below hb3).mono hb3.size)); have HX := Lib.hid (HX.out.next hb3); clear c0 c1 c2 c3; obtain ⟨c0, c1, c2, c3⟩ := cells4 HX.out; clear hb3)
          | (go_at_call 12; refine (HA.out _ _ HRT.out).mono ?_; rintro e w4 ⟨rfl, hb3⟩; have HRT := Lib.hid ((HRT.out.below hb3).mono hb3.size); have HX := Lib.hid (HX.out.next hb3); clear c0 c1 c2 c3; obtain ⟨c0, c1, c2, c3⟩ := cells4 HX.out; clear hb3)
          | (go_at_call 16; refine (HRA.out _ HX.out.below).mono ?_; rintro e w5 ⟨rfl, hb3⟩; have HRT := Lib.hid ((HRT.out.below hb3).mono hb3.size); have HX := Lib.hid (HX.out.next hb3); clear c0 c1 c2 c3; obtain ⟨c0, c1, c2, c3⟩ := cells4 HX.out; clear hb3)
          | (go_at_call 12; refine (HAN.out _ _ HRT.out).mono ?_; rintro e w4 ⟨rfl, hb3⟩; have HRT := Lib.hid ((HRT.out.below hb3).mono hb3.size); have HX := Lib.hid (HX.out.next hb3); clear c0 c1 c2 c3; obtain ⟨c0, c1, c2, c3⟩ := cells4 HX.out; clear hb3)
          | (go_at_call 11; refine (HRN.out _).mono ?_; rintro e w6 ⟨rfl, n6, hw6⟩; have HX := Lib.hid (show Box w 24 #[.int .i64 s0_0, .int .i64 s0_1, .int .i64 s0_2, .slice A0_3 n0_3 c0_3] w6 by rw [hw6]; exact HX.out.drewN n6); clear hw6 c0 c1 c2 c3; obtain ⟨c0, c1, c2, c3⟩ := cells4 HX.out)
          | (go_at_call 12; refine (HAZ.out _).mono ?_; rintro e w7 ⟨rfl, hb3⟩; have HX := Lib.hid (HX.out.next hb3); clear c0 c1 c2 c3; obtain ⟨c0, c1, c2, c3⟩ := cells4 HX.out; clear hb3)
          | (go_at_call 13; refine (HSZ.out _).mono ?_; rintro e w8 ⟨rfl, hb3⟩; have HX := Lib.hid (HX.out.next hb3); clear c0 c1 c2 c3; obtain ⟨c0, c1, c2, c3⟩ := cells4 HX.out; clear hb3)
          | (go_at_call 14; refine (text_nil _).mono ?_; rintro e w9 ⟨rfl, hw9⟩; replace hw9 := hw9.symm; subst hw9)
          | (go_at_call 15; refine (same_nil _).mono ?_; rintro e w10 ⟨rfl, hb3⟩; have HX := Lib.hid (HX.out.next hb3); clear hb3))
        clear c0 c1 c2 c3
        have HX := Lib.hid HX.out.drew
        have HRT := Lib.hid (show Rt _ _ _ _ from HRT.out.below (Below.refl _ _).drew)
        refine region_turns (fun (w' : World) => w'.cell? ⟨w.heap.size, 0, none⟩ = some (.int .i64 s0_0) ∧ w'.cell? ⟨w.heap.size, 1, none⟩ = some (.int .i64 s0_1) ∧ w'.cell? ⟨w.heap.size, 2, none⟩ = some (.int .i64 s0_2) ∧ w'.cell? ⟨w.heap.size, 3, none⟩ = some (.slice A0_3 n0_3 c0_3)) (fun j => decide (24 ≤ j)) (by kernel_rfl) (cells4 HX.out) (fun hS => ?_)
        refine Turns.take hS 0 _ rfl (by kernel_rfl) (by kernel_rfl) (by kernel_rfl) (by kernel_rfl) (fun _ _ _ h => h) (by rfl) (fun w' hS' => by (try dsimp only at hS'); go_split_ands; go_simp; (try with_reducible rfl)) ?_
        simp only [Act.put, List.getElem_toArray, List.getElem_cons_succ, List.getElem_cons_zero, List.setIfInBounds_toArray, List.set_cons_zero, List.set_cons_succ]
        refine Turns.take hS 1 _ rfl (by kernel_rfl) (by kernel_rfl) (by kernel_rfl) (by kernel_rfl) (fun _ _ _ h => h) (by rfl) (fun w' hS' => by (try dsimp only at hS'); go_split_ands; go_simp; (try with_reducible rfl)) ?_
        simp only [Act.put, List.getElem_toArray, List.getElem_cons_succ, List.getElem_cons_zero, List.setIfInBounds_toArray, List.set_cons_zero, List.set_cons_succ]
        refine Turns.take hS 2 _ rfl (by kernel_rfl) (by kernel_rfl) (by kernel_rfl) (by kernel_rfl) (fun _ _ _ h => h) (by rfl) (fun w' hS' => by (try dsimp only at hS'); go_split_ands; go_simp; (try with_reducible rfl)) ?_
        simp only [Act.put, List.getElem_toArray, List.getElem_cons_succ, List.getElem_cons_zero, List.setIfInBounds_toArray, List.set_cons_zero, List.set_cons_succ]
        refine Turns.take hS 3 _ rfl (by kernel_rfl) (by kernel_rfl) (by kernel_rfl) (by kernel_rfl) (fun _ _ _ h => h) (by rfl) (fun w' hS' => by (try dsimp only at hS'); go_split_ands; go_simp; (try with_reducible rfl)) ?_
        simp only [Act.put, List.getElem_toArray, List.getElem_cons_succ, List.getElem_cons_zero, List.setIfInBounds_toArray, List.set_cons_zero, List.set_cons_succ]
        refine Turns.take hS 4 _ rfl (by kernel_rfl) (by kernel_rfl) (by kernel_rfl) (by kernel_rfl) (fun _ _ _ h => h) (by rfl) (fun w' hS' => by (try dsimp only at hS'); go_split_ands; go_simp; (try with_reducible rfl)) ?_
        simp only [Act.put, List.getElem_toArray, List.getElem_cons_succ, List.getElem_cons_zero, List.setIfInBounds_toArray, List.set_cons_zero, List.set_cons_succ]
        refine Turns.take hS 6 _ rfl (by kernel_rfl) (by kernel_rfl) (by kernel_rfl) (by kernel_rfl) (fun _ _ _ h => h) (by rfl) (fun w' hS' => by (try dsimp only at hS'); go_split_ands; go_simp; (try with_reducible rfl)) ?_
        simp only [Act.put, List.getElem_toArray, List.getElem_cons_succ, List.getElem_cons_zero, List.setIfInBounds_toArray, List.set_cons_zero, List.set_cons_succ]
        refine Turns.take hS 7 _ rfl (by kernel_rfl) (by kernel_rfl) (by kernel_rfl) (by kernel_rfl) (fun _ _ _ h => h) (by rfl) (fun w' hS' => by (try dsimp only at hS'); go_split_ands; go_simp; (try with_reducible rfl)) ?_
        simp only [Act.put, List.getElem_toArray, List.getElem_cons_succ, List.getElem_cons_zero, List.setIfInBounds_toArray, List.set_cons_zero, List.set_cons_succ]
        refine Turns.next 5 rfl (by kernel_rfl) (by rfl) (fun K hK => ?_)
        go_simp
        go_at_call 13
        refine (HS.out _ _ HRT.out).mono ?_
        rintro e w5 ⟨rfl, hb⟩
        replace HRT := Lib.hid ((HRT.out.below hb).mono hb.size)
        replace HX := Lib.hid (HX.out.next hb)
        clear hb
        refine hK.out _ _ (show (fun (w' : World) => w'.cell? ⟨w.heap.size, 0, none⟩ = some (.int .i64 s0_0) ∧ w'.cell? ⟨w.heap.size, 1, none⟩ = some (.int .i64 s0_1) ∧ w'.cell? ⟨w.heap.size, 2, none⟩ = some (.int .i64 s0_2) ∧ w'.cell? ⟨w.heap.size, 3, none⟩ = some (.slice A0_3 n0_3 c0_3)) _ from cells4 HX.out) ?_
        clear hK K hS
        have hS := (show (fun (w' : World) => w'.cell? ⟨w.heap.size, 0, none⟩ = some (.int .i64 s0_0) ∧ w'.cell? ⟨w.heap.size, 1, none⟩ = some (.int .i64 s0_1) ∧ w'.cell? ⟨w.heap.size, 2, none⟩ = some (.int .i64 s0_2) ∧ w'.cell? ⟨w.heap.size, 3, none⟩ = some (.slice A0_3 n0_3 c0_3)) _ from cells4 HX.out)
        refine Turns.next 8 rfl (by kernel_rfl) (by rfl) (fun K hK => ?_)
        go_simp
        go_at_call 17
        refine (HST.out _ HX.out.below).mono ?_
        rintro e w8 ⟨rfl, hb⟩
        replace HRT := Lib.hid ((HRT.out.below hb).mono hb.size)
        replace HX := Lib.hid (HX.out.next hb)
        clear hb
        refine hK.out _ _ (show (fun (w' : World) => w'.cell? ⟨w.heap.size, 0, none⟩ = some (.int .i64 s0_0) ∧ w'.cell? ⟨w.heap.size, 1, none⟩ = some (.int .i64 s0_1) ∧ w'.cell? ⟨w.heap.size, 2, none⟩ = some (.int .i64 s0_2) ∧ w'.cell? ⟨w.heap.size, 3, none⟩ = some (.slice A0_3 n0_3 c0_3)) _ from cells4 HX.out) ?_
        clear hK K hS
        have hS := (show (fun (w' : World) => w'.cell? ⟨w.heap.size, 0, none⟩ = some (.int .i64 s0_0) ∧ w'.cell? ⟨w.heap.size, 1, none⟩ = some (.int .i64 s0_1) ∧ w'.cell? ⟨w.heap.size, 2, none⟩ = some (.int .i64 s0_2) ∧ w'.cell? ⟨w.heap.size, 3, none⟩ = some (.slice A0_3 n0_3 c0_3)) _ from cells4 HX.out)
        refine Turns.take hS 9 _ rfl (by kernel_rfl) (by kernel_rfl) (by kernel_rfl) (by kernel_rfl) (fun _ _ _ h => h) (by rfl) (fun w' hS' => by (try dsimp only at hS'); go_split_ands; go_simp; (try with_reducible rfl)) ?_
        simp only [Act.put, List.getElem_toArray, List.getElem_cons_succ, List.getElem_cons_zero, List.setIfInBounds_toArray, List.set_cons_zero, List.set_cons_succ]
        refine Turns.take hS 10 _ rfl (by kernel_rfl) (by kernel_rfl) (by kernel_rfl) (by kernel_rfl) (fun _ _ _ h => h) (by rfl) (fun w' hS' => by (try dsimp only at hS'); go_split_ands; go_simp; (try with_reducible rfl)) ?_
        simp only [Act.put, List.getElem_toArray, List.getElem_cons_succ, List.getElem_cons_zero, List.setIfInBounds_toArray, List.set_cons_zero, List.set_cons_succ]
        refine Turns.take hS 11 _ rfl (by kernel_rfl) (by kernel_rfl) (by kernel_rfl) (by kernel_rfl) (fun _ _ _ h => h) (by rfl) (fun w' hS' => by (try dsimp only at hS'); go_split_ands; go_simp; (try with_reducible rfl)) ?_
        simp only [Act.put, List.getElem_toArray, List.getElem_cons_succ, List.getElem_cons_zero, List.setIfInBounds_toArray, List.set_cons_zero, List.set_cons_succ]
        refine Turns.take hS 12 _ rfl (by kernel_rfl) (by kernel_rfl) (by kernel_rfl) (by kernel_rfl) (fun _ _ _ h => h) (by rfl) (fun w' hS' => by (try dsimp only at hS'); go_split_ands; go_simp; (try with_reducible rfl)) ?_
        simp only [Act.put, List.getElem_toArray, List.getElem_cons_succ, List.getElem_cons_zero, List.setIfInBounds_toArray, List.set_cons_zero, List.set_cons_succ]
        refine Turns.take hS 13 _ rfl (by kernel_rfl) (by kernel_rfl) (by kernel_rfl) (by kernel_rfl) (fun _ _ _ h => h) (by rfl) (fun w' hS' => by (try dsimp only at hS'); go_split_ands; go_simp; (try with_reducible rfl)) ?_
        simp only [Act.put, List.getElem_toArray, List.getElem_cons_succ, List.getElem_cons_zero, List.setIfInBounds_toArray, List.set_cons_zero, List.set_cons_succ]
        refine Turns.next 14 rfl (by kernel_rfl) (by rfl) (fun K hK => ?_)
        go_simp
        go_at_call 15
        refine (HSM.out _ _ HRT.out HX.out.below).mono ?_
        rintro e w14 ⟨rfl, hb⟩
        replace HRT := Lib.hid ((HRT.out.below hb).mono hb.size)
        replace HX := Lib.hid (HX.out.next hb)
        clear hb
        refine hK.out _ _ (show (fun (w' : World) => w'.cell? ⟨w.heap.size, 0, none⟩ = some (.int .i64 s0_0) ∧ w'.cell? ⟨w.heap.size, 1, none⟩ = some (.int .i64 s0_1) ∧ w'.cell? ⟨w.heap.size, 2, none⟩ = some (.int .i64 s0_2) ∧ w'.cell? ⟨w.heap.size, 3, none⟩ = some (.slice A0_3 n0_3 c0_3)) _ from cells4 HX.out) ?_
        clear hK K hS
        have hS := (show (fun (w' : World) => w'.cell? ⟨w.heap.size, 0, none⟩ = some (.int .i64 s0_0) ∧ w'.cell? ⟨w.heap.size, 1, none⟩ = some (.int .i64 s0_1) ∧ w'.cell? ⟨w.heap.size, 2, none⟩ = some (.int .i64 s0_2) ∧ w'.cell? ⟨w.heap.size, 3, none⟩ = some (.slice A0_3 n0_3 c0_3)) _ from cells4 HX.out)
        refine Turns.take hS 15 _ rfl (by kernel_rfl) (by kernel_rfl) (by kernel_rfl) (by kernel_rfl) (fun _ _ _ h => h) (by rfl) (fun w' hS' => by (try dsimp only at hS'); go_split_ands; go_simp; (try with_reducible rfl)) ?_
        simp only [Act.put, List.getElem_toArray, List.getElem_cons_succ, List.getElem_cons_zero, List.setIfInBounds_toArray, List.set_cons_zero, List.set_cons_succ]
        refine Turns.take hS 16 _ rfl (by kernel_rfl) (by kernel_rfl) (by kernel_rfl) (by kernel_rfl) (fun _ _ _ h => h) (by rfl) (fun w' hS' => by (try dsimp only at hS'); go_split_ands; go_simp; (try with_reducible rfl)) ?_
        simp only [Act.put, List.getElem_toArray, List.getElem_cons_succ, List.getElem_cons_zero, List.setIfInBounds_toArray, List.set_cons_zero, List.set_cons_succ]
        refine Turns.take hS 17 _ rfl (by kernel_rfl) (by kernel_rfl) (by kernel_rfl) (by kernel_rfl) (fun _ _ _ h => h) (by rfl) (fun w' hS' => by (try dsimp only at hS'); go_split_ands; go_simp; (try with_reducible rfl)) ?_
        simp only [Act.put, List.getElem_toArray, List.getElem_cons_succ, List.getElem_cons_zero, List.setIfInBounds_toArray, List.set_cons_zero, List.set_cons_succ]
        refine Turns.take hS 19 _ rfl (by kernel_rfl) (by kernel_rfl) (by kernel_rfl) (by kernel_rfl) (fun _ _ _ h => h) (by rfl) (fun w' hS' => by (try dsimp only at hS'); go_split_ands; go_simp; (try with_reducible rfl)) ?_
        simp only [Act.put, List.getElem_toArray, List.getElem_cons_succ, List.getElem_cons_zero, List.setIfInBounds_toArray, List.set_cons_zero, List.set_cons_succ]
        refine Turns.next 18 rfl (by kernel_rfl) (by rfl) (fun K hK => ?_)
        go_simp
        go_at_call 14
        refine (HTX.out _ _ HRT.out HX.out.below).mono ?_
        rintro e w18 ⟨rfl, hb⟩
        replace HRT := Lib.hid ((HRT.out.below hb).mono hb.size)
        replace HX := Lib.hid (HX.out.next hb)
        clear hb
        refine hK.out _ _ (show (fun (w' : World) => w'.cell? ⟨w.heap.size, 0, none⟩ = some (.int .i64 s0_0) ∧ w'.cell? ⟨w.heap.size, 1, none⟩ = some (.int .i64 s0_1) ∧ w'.cell? ⟨w.heap.size, 2, none⟩ = some (.int .i64 s0_2) ∧ w'.cell? ⟨w.heap.size, 3, none⟩ = some (.slice A0_3 n0_3 c0_3)) _ from cells4 HX.out) ?_
        clear hK K hS
        have hS := (show (fun (w' : World) => w'.cell? ⟨w.heap.size, 0, none⟩ = some (.int .i64 s0_0) ∧ w'.cell? ⟨w.heap.size, 1, none⟩ = some (.int .i64 s0_1) ∧ w'.cell? ⟨w.heap.size, 2, none⟩ = some (.int .i64 s0_2) ∧ w'.cell? ⟨w.heap.size, 3, none⟩ = some (.slice A0_3 n0_3 c0_3)) _ from cells4 HX.out)
        refine Turns.next 20 rfl (by kernel_rfl) (by rfl) (fun K hK => ?_)
        go_simp
        go_at_call 18
        refine (HRX.out _ HX.out.below).mono ?_
        rintro e w20 ⟨rfl, hb⟩
        replace HX := Lib.hid (HX.out.next hb)
        clear hb
        refine hK.out _ _ (show (fun (w' : World) => w'.cell? ⟨w.heap.size, 0, none⟩ = some (.int .i64 s0_0) ∧ w'.cell? ⟨w.heap.size, 1, none⟩ = some (.int .i64 s0_1) ∧ w'.cell? ⟨w.heap.size, 2, none⟩ = some (.int .i64 s0_2) ∧ w'.cell? ⟨w.heap.size, 3, none⟩ = some (.slice A0_3 n0_3 c0_3)) _ from cells4 HX.out) ?_
        clear hK K hS
        have hS := (show (fun (w' : World) => w'.cell? ⟨w.heap.size, 0, none⟩ = some (.int .i64 s0_0) ∧ w'.cell? ⟨w.heap.size, 1, none⟩ = some (.int .i64 s0_1) ∧ w'.cell? ⟨w.heap.size, 2, none⟩ = some (.int .i64 s0_2) ∧ w'.cell? ⟨w.heap.size, 3, none⟩ = some (.slice A0_3 n0_3 c0_3)) _ from cells4 HX.out)
        refine Turns.take hS 21 _ rfl (by kernel_rfl) (by kernel_rfl) (by kernel_rfl) (by kernel_rfl) (fun _ _ _ h => h) (by rfl) (fun w' hS' => by (try dsimp only at hS'); go_split_ands; go_simp; (try with_reducible rfl)) ?_
        simp only [Act.put, List.getElem_toArray, List.getElem_cons_succ, List.getElem_cons_zero, List.setIfInBounds_toArray, List.set_cons_zero, List.set_cons_succ]
        refine Turns.take hS 22 _ rfl (by kernel_rfl) (by kernel_rfl) (by kernel_rfl) (by kernel_rfl) (fun _ _ _ h => h) (by rfl) (fun w' hS' => by (try dsimp only at hS'); go_split_ands; go_simp; (try with_reducible rfl)) ?_
        simp only [Act.put, List.getElem_toArray, List.getElem_cons_succ, List.getElem_cons_zero, List.setIfInBounds_toArray, List.set_cons_zero, List.set_cons_succ]
        refine Turns.take hS 23 _ rfl (by kernel_rfl) (by kernel_rfl) (by kernel_rfl) (by kernel_rfl) (fun _ _ _ h => h) (by rfl) (fun w' hS' => by (try dsimp only at hS'); go_split_ands; go_simp; (try with_reducible rfl)) ?_
        simp only [Act.put, List.getElem_toArray, List.getElem_cons_succ, List.getElem_cons_zero, List.setIfInBounds_toArray, List.set_cons_zero, List.set_cons_succ]
        refine Turns.rest (late_done (by kernel_rfl)) ?_
        refine any_tail 24 (by rfl) (by kernel_rfl) ?_
        simp only [List.drop_succ_cons, List.drop_zero]
        clear hS
        go_wp2
        go_ret
        exact ⟨rfl, HX.out.below⟩
  · have HMN := Lib.hid (fun (W : World) (e : Ending) (w' : World) (h : ((F = 0 ∧ ∃ q, e = .returned (.tuple #[.pointer (some ⟨q, 0, none⟩), .int .i64 0]) ∧ Rt w' w'.heap.size q ⟨s0_0, s0_1, s0_2, L⟩) ∨ (¬ F = 0 ∧ e = .returned (.tuple #[.pointer none, .int .i64 F])))) => (h.resolve_left (fun h => h0 h.1)).2)
    have hne : (F != 0) = true := by simp [h0]
    have hff : (F == F) = true := beq_self_eq_true _
    have HRN := Lib.hid (fun (W : World) => range_any W W.heap.size none 0 0 [] (src_nil W _))
    have HAZ := Lib.hid (fun (W : World) => ahead_no W W.heap.size none 0 0 [] a1 (src_nil W _) (by omega))
    have HSZ := Lib.hid (fun (W : World) => step_any W none 0 0 [] a1 (src_nil W _))
    rw [show stepL [] a1 = 0 from rfl] at HSZ
    have hee : ((⟨#[]⟩ : ByteArray).toList == (⟨#[]⟩ : ByteArray).toList) = true := beq_self_eq_true _
    clear hF h0 h64 hnl hfits hrow
    go_enter Tryd.func3, Tryd.ntmps3
    go_wp2_with (first
      | (go_at_call 8; refine (alive_yes _ (HM.out.below HX0.out.below)).mono ?_; rintro e w1 ⟨rfl, hb1⟩; have HX := Lib.hid (HX0.out.next hb1); obtain ⟨c0, c1, c2, c3⟩ := cells4 HX.out; clear hb1)
      | (go_at_call 9; refine (HMD.out _ HX.out.below).mono ?_; intro e w2 hp; obtain ⟨hp, hb2⟩ := hp; obtain ⟨q, rfl, hrt⟩ := HMY.out w2 _ _ hp; clear hp; have HRT := Lib.hid hrt; have HX := Lib.hid (HX.out.next hb2); clear c0 c1 c2 c3; obtain ⟨c0, c1, c2, c3⟩ := cells4 HX.out; clear hb2 hrt)
      | (go_at_call 9; refine (HMD.out _ HX.out.below).mono ?_; intro e w2 hp; obtain ⟨hp, hb2⟩ := hp; obtain rfl := HMN.out w2 _ _ hp; clear hp; have HX := Lib.hid (HX.out.next hb2); clear c0 c1 c2 c3; obtain ⟨c0, c1, c2, c3⟩ := cells4 HX.out; clear hb2)
      | (go_at_call 10; refine (HRF.out _ HX.out.below).mono ?_; rintro e w3 ⟨rfl, hb3⟩; (try have HRT := Lib.hid ((HRT.out.below hb3).mono hb3.size)); have HX := Lib.hid (HX.out.next hb3); clear c0 c1 c2 c3; obtain ⟨c0, c1, c2, c3⟩ := cells4 HX.out; clear hb3)
      | (go_at_call 12; refine (HA.out _ _ HRT.out).mono ?_; rintro e w4 ⟨rfl, hb3⟩; have HRT := Lib.hid ((HRT.out.below hb3).mono hb3.size); have HX := Lib.hid (HX.out.next hb3); clear c0 c1 c2 c3; obtain ⟨c0, c1, c2, c3⟩ := cells4 HX.out; clear hb3)
      | (go_at_call 16; refine (HRA.out _ HX.out.below).mono ?_; rintro e w5 ⟨rfl, hb3⟩; have HRT := Lib.hid ((HRT.out.below hb3).mono hb3.size); have HX := Lib.hid (HX.out.next hb3); clear c0 c1 c2 c3; obtain ⟨c0, c1, c2, c3⟩ := cells4 HX.out; clear hb3)
      | (go_at_call 12; refine (HAN.out _ _ HRT.out).mono ?_; rintro e w4 ⟨rfl, hb3⟩; have HRT := Lib.hid ((HRT.out.below hb3).mono hb3.size); have HX := Lib.hid (HX.out.next hb3); clear c0 c1 c2 c3; obtain ⟨c0, c1, c2, c3⟩ := cells4 HX.out; clear hb3)
      | (go_at_call 11; refine (HRN.out _).mono ?_; rintro e w6 ⟨rfl, n6, hw6⟩; have HX := Lib.hid (show Box w 24 #[.int .i64 s0_0, .int .i64 s0_1, .int .i64 s0_2, .slice A0_3 n0_3 c0_3] w6 by rw [hw6]; exact HX.out.drewN n6); clear hw6 c0 c1 c2 c3; obtain ⟨c0, c1, c2, c3⟩ := cells4 HX.out)
      | (go_at_call 12; refine (HAZ.out _).mono ?_; rintro e w7 ⟨rfl, hb3⟩; have HX := Lib.hid (HX.out.next hb3); clear c0 c1 c2 c3; obtain ⟨c0, c1, c2, c3⟩ := cells4 HX.out; clear hb3)
      | (go_at_call 13; refine (HSZ.out _).mono ?_; rintro e w8 ⟨rfl, hb3⟩; have HX := Lib.hid (HX.out.next hb3); clear c0 c1 c2 c3; obtain ⟨c0, c1, c2, c3⟩ := cells4 HX.out; clear hb3)
      | (go_at_call 14; refine (text_nil _).mono ?_; rintro e w9 ⟨rfl, hw9⟩; replace hw9 := hw9.symm; subst hw9)
      | (go_at_call 15; refine (same_nil _).mono ?_; rintro e w10 ⟨rfl, hb3⟩; have HX := Lib.hid (HX.out.next hb3); clear hb3))
    go_ret
    exact ⟨rfl, HX.out.below⟩

set_option maxRecDepth 100000 in
theorem lifted (os : Os) (started : os.Started) (H : Type) (enc : TypeId × Value → H) :
    ReturnsInHanded {} Tryd.checked os 3 .any (fun w args => (Rows.leapMakesSpec.pre enc Tryd.prog Tryd.f3 [] false w args ∧ laidMetH Tryd.prog laidTab w) ∧ sizedMet enc Tryd.prog Tryd.f3 (OpenSpec.ofChange Rows.leapMakesSpec) false w args) (Rows.leapMakesSpec.post enc Tryd.prog Tryd.f3 false true false false) := by
  refine returnsInHanded_and_shaped (C := Tryd.checked) (X := fun w _ => laidMetH Tryd.prog laidTab w) (fun _ _ _ hh h => h.of_heap hh) own started (by kernel_rfl) Tryd.func3
    (ChangeSpec.witness_shaped (enc := enc) (C := Tryd.checked) (os := os) (X := fun w _ => laidMetH Tryd.prog laidTab w) false (World.laidAll Tryd.prog os laidTab) #[.agg #[.int .i64 0, .int .i64 0, .int .i64 0, .slice none 0 0], .int .i64 0] 8 (World.laidAll_os _ _ _) (World.shaped_of_ZipB (by kernel_rfl) (by kernel_rfl)) (by kernel_rfl) (by kernel_rfl) (by kernel_rfl) (door_met os _)) ?_
  intro W base args ds gs before hval0 hW hL hsh
  have hval : ∀ (j : Nat) t v, Tryd.f3.params[j]? = some t → args[j]? = some v → Value.okWide Tryd.prog W .any base t v := hval0
  have hW' := hW
  obtain ⟨p, q, hA0, hV, rfl, hfz, hnd⟩ := hW
  have hA : DataW.TrodAll enc Tryd.prog W 0 (fun _ => true) true Tryd.f3.params.toList args.toList ds p := hA0
  have hAk := hA
  rw [Tryd.params3] at hA hval
  obtain ⟨v0, vs0, d0, ds0, p0, q0, hargs, rfl, hp, h0, r0⟩ := trodAll_cons hA
  obtain ⟨v1, vs1, d1, ds1, p1, q1, rfl, rfl, rfl, h1, r1⟩ := trodAll_cons r0
  obtain ⟨rfl, rfl, rfl⟩ := trodAll_nil r1
  obtain rfl : args = #[v0, v1] := by cases args; simp_all
  obtain ⟨rfl, rfl⟩ := trodVars_none hV
  clear hA0 hval0 hargs
  simp only [List.append_nil] at hW'
  have hend : ∀ W' : World, Below W.heap.size W W' → Rows.leapMakesSpec.post enc Tryd.prog Tryd.f3 false true false false W #[v0, v1] (.bool true) W' := fun W' hb =>
    law_post (tb := 4) hW' hAk rfl (by kernel_rfl) (by kernel_rfl) (by kernel_rfl) Tryd.underlying4 rfl rfl rfl hb
  clear hW' hAk hp
  obtain ⟨vs0', rfl, hfit0⟩ := flatS_arg (ks := [.p (.int .i64), .p (.int .i64), .p (.int .i64), .rows [.int .i64, .int .i64]]) 9 Tryd.underlying24 (by kernel_rfl) (hval 0 24 v0 rfl rfl) h0
  obtain ⟨s0_0, s0_1, s0_2, A0_3, n0_3, c0_3, f0_3, rfl, w0_0, w0_1, w0_2, w0_3⟩ := cells0 hfit0
  obtain ⟨a1, rfl, rfl, rfl, w1⟩ := open_int Tryd.underlying3 (hval 1 3 v1 rfl rfl) h1
  refine (walk s0_0 s0_1 s0_2 A0_3 n0_3 c0_3 f0_3 a1 W w0_0 w0_1 w0_2 w0_3 w1 (tab_of_laid hL) (mt_of_shaped hsh)).mono fun e W' ⟨he, hg⟩ => ?_
  subst he
  exact ⟨_, rfl, hend W' hg⟩

theorem over : Rows.leapMakesRow.holds Tryd.pinned (OpenSpec.ofChange Rows.leapMakesSpec) :=
  OpenClaim.holds_of_wide 3 Tryd.f3 rfl rfl rfl rfl rfl rfl rfl ⟨rfl, rfl, rfl, rfl, rfl⟩ rfl rfl rfl rfl rfl (by kernel_rfl) Tryd.func3 (by kernel_rfl)
    (of_decide_eq_true (by kernel_rfl)) (by unfold Func.isWrapper; first | (rw [if_pos (by decide +kernel)]; kernel_rfl) | (rw [if_neg (by decide +kernel)]; exact ⟨rfl, rfl⟩))
    (fun os started H enc _ => lifted os started H enc)

/-- THE STATEMENT: the tied card -/
theorem proved : Rows.LeapMakesCardSaid :=
  Claim7.holds_tied_plain_at .later [] [.data, .data, .data, .data, .pinned] true (true, "7c37e060eaa0f112e89e4d22143b27731f1469fff835db8b9bba8390e6494458") true
    over (fun _ h => by cases h) (by kernel_rfl) (fun _ h => by cases h) leapMakes_row_tie rfl ⟨rfl, rfl⟩ (by kernel_rfl) rfl
    (fun f fn hf hfn => by
      obtain rfl : f = 3 := Option.some.inj ((show Tryd.prog.funcNamed "angelus/angeluslaw21.LeapMakes" = some 3 by kernel_rfl).symm.trans hf) |>.symm
      obtain rfl : fn = Tryd.f3 := (Option.some.inj (Tryd.func3.symm.trans hfn)).symm
      exact ⟨by kernel_rfl, fun j t ht => by
        rw [Tryd.params3] at ht
        have hm : t ∈ [24, 3] := by simpa using Array.mem_of_getElem? ht
        have hall : ([24, 3].all fun u => !Tryd.prog.wantsStandIn u) = true := by kernel_rfl
        exact (show Tryd.prog.wantsStandIn t = false by simpa using List.all_eq_true.1 hall t hm)⟩)
    (by kernel_rfl)
#print axioms proved
end Go.Proofs.YtiglhmdiiajmhaaDoor.leapMakes
