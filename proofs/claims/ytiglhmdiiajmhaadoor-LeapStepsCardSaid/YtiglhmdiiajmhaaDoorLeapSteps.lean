/-
  Package leap: from one day to the next TAI goes ahead by just the day's step. Proved of the program's and the document's text; the ground: the leaps' days rise strictly, so one leap at most is a day's.
  The walk is the prover's own; the frame of the row's step follows the kit's template.
-/
import Derived.Test.YtiglhmdiiajmhaaDoorRows
import Derived.Test.YtiglhmdiiajmhaaDoorLawKit
import Derived.Test.YtiglhmdiiajmhaaDoorCards
import Derived.Test.YtiglhmdiiajmhaaDoorTie
import Derived.SevenTiedAt
import Derived.Test.YtiglhmdiiajmhaaDoorFlat
import Derived.Test.YtiglhmdiiajmhaaDoorFlatS
import Derived.Test.YtiglhmdiiajmhaaDoorLpY
import Derived.Test.YtiglhmdiiajmhaaDoorLpP
import Derived.Test.YtiglhmdiiajmhaaDoorLpR
namespace Go.Proofs.YtiglhmdiiajmhaaDoor.leapSteps
open Go.ChangeShapes Go.WideShapes Go.ChangeAt Go.RowKit Go.ChangeMaps Go.WideElems
set_option linter.unusedVariables false

theorem cells0 {W : World} {vs : List Value} (h : FitS W [.p (.int .i64), .p (.int .i64), .p (.int .i64), .rows [.int .i64, .int .i64]] vs) : ∃ (s0 : Int) (s1 : Int) (s2 : Int) (A3 : Option Addr) (n3 c3 : Nat) (f3 : Nat → List Value), vs = [.int .i64 s0, .int .i64 s1, .int .i64 s2, .slice A3 n3 c3] ∧ (Lit.int .i64 s0).wf = true ∧ (Lit.int .i64 s1).wf = true ∧ (Lit.int .i64 s2).wf = true ∧ FlatRow W [.int .i64, .int .i64] A3 n3 c3 f3 := by
  match vs, h.length, h with
  | [y0, y1, y2, y3], _, h =>
    obtain ⟨⟨x0, rfl, h0⟩, ⟨x1, rfl, h1⟩, ⟨x2, rfl, h2⟩, ⟨A3, n3, c3, x3, rfl, h3⟩, _⟩ := h
    exact ⟨x0, x1, x2, A3, n3, c3, x3, rfl, h0, h1, h2, h3⟩
theorem own : ownKnob Tryd.prog.godebug = none := by kernel_rfl
set_option maxHeartbeats 4000000 in
theorem walk (s0_0 : Int) (s0_1 : Int) (s0_2 : Int) (A0_3 : Option Addr) (n0_3 c0_3 : Nat) (f0_3 : Nat → List Value) (a1 : Int) (w : World) (w0_0 : (Lit.int .i64 s0_0).wf = true) (w0_1 : (Lit.int .i64 s0_1).wf = true) (w0_2 : (Lit.int .i64 s0_2).wf = true) (w0_3 : FlatRow w [.int .i64, .int .i64] A0_3 n0_3 c0_3 f0_3) (w1 : (Lit.int .i64 a1).wf = true) (hM : Mt w) :
    Calls Tryd.prog 6 #[.agg #[.int .i64 s0_0, .int .i64 s0_1, .int .i64 s0_2, .slice A0_3 n0_3 c0_3], .int .i64 a1] w fun e w' => e = .returned (.bool true) ∧ Below w.heap.size w w' := by
  obtain ⟨L, hrow, hfits⟩ := prow_of_flat w0_3
  have HM := Lib.hid hM
  have HX0 := Lib.hid (Box.start w 24 #[.int .i64 s0_0, .int .i64 s0_1, .int .i64 s0_2, .slice A0_3 n0_3 c0_3])
  have hnl := hrow.len
  clear hM
  by_cases h64 : 64 < n0_3
  · have c0 := HX0.out.holds.cell 3
    have d0 : decide ((64 : Int) < (n0_3 : Int)) = true := decide_eq_true (by omega)
    go_enter Tryd.func6, Tryd.ntmps6
    go_wp2_with (first
      | (go_at_call 8; refine (alive_yes _ (HM.out.below HX0.out.below)).mono ?_; rintro e w1 ⟨rfl, hb1⟩; have HX := Lib.hid (HX0.out.next hb1); have c0 := HX.out.holds.cell 0; have c1 := HX.out.holds.cell 1; have c2 := HX.out.holds.cell 2; have c3 := HX.out.holds.cell 3; clear hb1)
      | (go_at_call 9; refine (HMD.out _ HX.out.below).mono ?_; intro e w2 hp; obtain ⟨hp, hb2⟩ := hp; obtain ⟨q, rfl, hrt⟩ := HMY.out w2 _ _ hp; clear hp; have HRT := Lib.hid hrt; have HX := Lib.hid (HX.out.next hb2); have c0 := HX.out.holds.cell 0; have c1 := HX.out.holds.cell 1; have c2 := HX.out.holds.cell 2; have c3 := HX.out.holds.cell 3; clear hb2 hrt)
      | (go_at_call 9; refine (HMD.out _ HX.out.below).mono ?_; intro e w2 hp; obtain ⟨hp, hb2⟩ := hp; obtain rfl := HMN.out w2 _ _ hp; clear hp; have HX := Lib.hid (HX.out.next hb2); have c0 := HX.out.holds.cell 0; have c1 := HX.out.holds.cell 1; have c2 := HX.out.holds.cell 2; have c3 := HX.out.holds.cell 3; clear hb2)
      | (go_at_call 12; with_reducible refine (HA.out _ _ HRT.out).mono ?_; rintro e w3 ⟨rfl, hb3⟩; have HRT := Lib.hid ((HRT.out.below hb3).mono hb3.size); have HX := Lib.hid (HX.out.next hb3); have c0 := HX.out.holds.cell 0; have c1 := HX.out.holds.cell 1; have c2 := HX.out.holds.cell 2; have c3 := HX.out.holds.cell 3; clear hb3)
      | (go_at_call 12; with_reducible refine (HB.out _ _ HRT.out).mono ?_; rintro e w4 ⟨rfl, hb3⟩; have HRT := Lib.hid ((HRT.out.below hb3).mono hb3.size); have HX := Lib.hid (HX.out.next hb3); have c0 := HX.out.holds.cell 0; have c1 := HX.out.holds.cell 1; have c2 := HX.out.holds.cell 2; have c3 := HX.out.holds.cell 3; clear hb3)
      | (go_at_call 13; refine (HS.out _ _ HRT.out).mono ?_; rintro e w5 ⟨rfl, hb3⟩; have HRT := Lib.hid ((HRT.out.below hb3).mono hb3.size); have HX := Lib.hid (HX.out.next hb3); have c0 := HX.out.holds.cell 0; have c1 := HX.out.holds.cell 1; have c2 := HX.out.holds.cell 2; have c3 := HX.out.holds.cell 3; clear hb3)
      | (go_at_call 17; refine (HT.out _ HX.out.below).mono ?_; rintro e w6 ⟨rfl, hb3⟩; have HX := Lib.hid (HX.out.next hb3); clear hb3))
    go_ret
    exact ⟨rfl, HX.out.below⟩
  have d0 : decide ((64 : Int) < (n0_3 : Int)) = false := decide_eq_false (by omega)
  have HN := Lib.hid (show n0_3 ≤ 1000 by omega)
  have HR := Lib.hid hrow
  have HMD := Lib.hid (fun W (hW : Below w.heap.size w W) => made_any W s0_0 s0_1 s0_2 A0_3 n0_3 c0_3 L (HR.out.below hW) HN.out)
  unfold MadePost at HMD
  obtain ⟨F, hF⟩ : ∃ F, faultT s0_0 s0_1 s0_2 L = F := ⟨_, rfl⟩
  rw [hF] at HMD
  by_cases h0 : F = 0
  · subst h0
    obtain ⟨hf, ho, hl, hord⟩ := fault_few hF
    have HMY := Lib.hid (show ∀ (W : World) (e : Ending) (w' : World), (((0 : Int) = 0 ∧ ∃ q, e = .returned (.tuple #[.pointer (some ⟨q, 0, none⟩), .int .i64 0]) ∧ Rt w' w'.heap.size q ⟨s0_0, s0_1, s0_2, L⟩) ∨ (¬ (0 : Int) = 0 ∧ e = .returned (.tuple #[.pointer none, .int .i64 0]))) → ∃ q, e = .returned (.tuple #[.pointer (some ⟨q, 0, none⟩), .int .i64 0]) ∧ Rt w' w'.heap.size q ⟨s0_0, s0_1, s0_2, L⟩ from fun W e w' h => h.elim (fun h => h.2) (fun h => absurd rfl h.1))
    have hw1 := IntWalk.i64_in (s0_2 - 1) (by have := hf.e1; have := hf.e2; omega)
    by_cases hs : a1 < s0_0
    · clear hf ho hl hord
      go_enter Tryd.func6, Tryd.ntmps6
      go_wp2_with (first
        | (go_at_call 8; refine (alive_yes _ (HM.out.below HX0.out.below)).mono ?_; rintro e w1 ⟨rfl, hb1⟩; have HX := Lib.hid (HX0.out.next hb1); have c0 := HX.out.holds.cell 0; have c1 := HX.out.holds.cell 1; have c2 := HX.out.holds.cell 2; have c3 := HX.out.holds.cell 3; clear hb1)
        | (go_at_call 9; refine (HMD.out _ HX.out.below).mono ?_; intro e w2 hp; obtain ⟨hp, hb2⟩ := hp; obtain ⟨q, rfl, hrt⟩ := HMY.out w2 _ _ hp; clear hp; have HRT := Lib.hid hrt; have HX := Lib.hid (HX.out.next hb2); have c0 := HX.out.holds.cell 0; have c1 := HX.out.holds.cell 1; have c2 := HX.out.holds.cell 2; have c3 := HX.out.holds.cell 3; clear hb2 hrt)
        | (go_at_call 9; refine (HMD.out _ HX.out.below).mono ?_; intro e w2 hp; obtain ⟨hp, hb2⟩ := hp; obtain rfl := HMN.out w2 _ _ hp; clear hp; have HX := Lib.hid (HX.out.next hb2); have c0 := HX.out.holds.cell 0; have c1 := HX.out.holds.cell 1; have c2 := HX.out.holds.cell 2; have c3 := HX.out.holds.cell 3; clear hb2)
        | (go_at_call 12; with_reducible refine (HA.out _ _ HRT.out).mono ?_; rintro e w3 ⟨rfl, hb3⟩; have HRT := Lib.hid ((HRT.out.below hb3).mono hb3.size); have HX := Lib.hid (HX.out.next hb3); have c0 := HX.out.holds.cell 0; have c1 := HX.out.holds.cell 1; have c2 := HX.out.holds.cell 2; have c3 := HX.out.holds.cell 3; clear hb3)
        | (go_at_call 12; with_reducible refine (HB.out _ _ HRT.out).mono ?_; rintro e w4 ⟨rfl, hb3⟩; have HRT := Lib.hid ((HRT.out.below hb3).mono hb3.size); have HX := Lib.hid (HX.out.next hb3); have c0 := HX.out.holds.cell 0; have c1 := HX.out.holds.cell 1; have c2 := HX.out.holds.cell 2; have c3 := HX.out.holds.cell 3; clear hb3)
        | (go_at_call 13; refine (HS.out _ _ HRT.out).mono ?_; rintro e w5 ⟨rfl, hb3⟩; have HRT := Lib.hid ((HRT.out.below hb3).mono hb3.size); have HX := Lib.hid (HX.out.next hb3); have c0 := HX.out.holds.cell 0; have c1 := HX.out.holds.cell 1; have c2 := HX.out.holds.cell 2; have c3 := HX.out.holds.cell 3; clear hb3)
        | (go_at_call 17; refine (HT.out _ HX.out.below).mono ?_; rintro e w6 ⟨rfl, hb3⟩; have HX := Lib.hid (HX.out.next hb3); clear hb3))
      go_ret
      exact ⟨rfl, HX.out.below⟩
    have ds : decide (a1 < s0_0) = false := decide_eq_false hs
    by_cases he : s0_2 - 1 ≤ a1
    · clear hf ho hl hord
      go_enter Tryd.func6, Tryd.ntmps6
      go_wp2_with (first
        | (go_at_call 8; refine (alive_yes _ (HM.out.below HX0.out.below)).mono ?_; rintro e w1 ⟨rfl, hb1⟩; have HX := Lib.hid (HX0.out.next hb1); have c0 := HX.out.holds.cell 0; have c1 := HX.out.holds.cell 1; have c2 := HX.out.holds.cell 2; have c3 := HX.out.holds.cell 3; clear hb1)
        | (go_at_call 9; refine (HMD.out _ HX.out.below).mono ?_; intro e w2 hp; obtain ⟨hp, hb2⟩ := hp; obtain ⟨q, rfl, hrt⟩ := HMY.out w2 _ _ hp; clear hp; have HRT := Lib.hid hrt; have HX := Lib.hid (HX.out.next hb2); have c0 := HX.out.holds.cell 0; have c1 := HX.out.holds.cell 1; have c2 := HX.out.holds.cell 2; have c3 := HX.out.holds.cell 3; clear hb2 hrt)
        | (go_at_call 9; refine (HMD.out _ HX.out.below).mono ?_; intro e w2 hp; obtain ⟨hp, hb2⟩ := hp; obtain rfl := HMN.out w2 _ _ hp; clear hp; have HX := Lib.hid (HX.out.next hb2); have c0 := HX.out.holds.cell 0; have c1 := HX.out.holds.cell 1; have c2 := HX.out.holds.cell 2; have c3 := HX.out.holds.cell 3; clear hb2)
        | (go_at_call 12; with_reducible refine (HA.out _ _ HRT.out).mono ?_; rintro e w3 ⟨rfl, hb3⟩; have HRT := Lib.hid ((HRT.out.below hb3).mono hb3.size); have HX := Lib.hid (HX.out.next hb3); have c0 := HX.out.holds.cell 0; have c1 := HX.out.holds.cell 1; have c2 := HX.out.holds.cell 2; have c3 := HX.out.holds.cell 3; clear hb3)
        | (go_at_call 12; with_reducible refine (HB.out _ _ HRT.out).mono ?_; rintro e w4 ⟨rfl, hb3⟩; have HRT := Lib.hid ((HRT.out.below hb3).mono hb3.size); have HX := Lib.hid (HX.out.next hb3); have c0 := HX.out.holds.cell 0; have c1 := HX.out.holds.cell 1; have c2 := HX.out.holds.cell 2; have c3 := HX.out.holds.cell 3; clear hb3)
        | (go_at_call 13; refine (HS.out _ _ HRT.out).mono ?_; rintro e w5 ⟨rfl, hb3⟩; have HRT := Lib.hid ((HRT.out.below hb3).mono hb3.size); have HX := Lib.hid (HX.out.next hb3); have c0 := HX.out.holds.cell 0; have c1 := HX.out.holds.cell 1; have c2 := HX.out.holds.cell 2; have c3 := HX.out.holds.cell 3; clear hb3)
        | (go_at_call 17; refine (HT.out _ HX.out.below).mono ?_; rintro e w6 ⟨rfl, hb3⟩; have HX := Lib.hid (HX.out.next hb3); clear hb3))
      go_ret
      exact ⟨rfl, HX.out.below⟩
    have de : decide (s0_2 - 1 ≤ a1) = false := decide_eq_false he
    have HA := Lib.hid (fun W q (h : Rt W W.heap.size q ⟨s0_0, s0_1, s0_2, L⟩) => ahead_yes W q ⟨s0_0, s0_1, s0_2, L⟩ a1 h (by dsimp only; omega) (by dsimp only; omega) ho (by have := hf.a1; have := hf.a2; dsimp only; omega))
    have HB := Lib.hid (fun W q (h : Rt W W.heap.size q ⟨s0_0, s0_1, s0_2, L⟩) => ahead_yes W q ⟨s0_0, s0_1, s0_2, L⟩ (a1 + 1) h (by dsimp only; omega) (by dsimp only; omega) ho (by have := hf.a1; have := hf.a2; dsimp only; omega))
    have HS := Lib.hid (fun W q (h : Rt W W.heap.size q ⟨s0_0, s0_1, s0_2, L⟩) => step_any W _ _ _ _ a1 h.src)
    dsimp only at HA HB HS
    have HT := Lib.hid (fun W (hW : Below w.heap.size w W) => rstep_any W s0_0 s0_1 s0_2 A0_3 n0_3 c0_3 L a1 (HR.out.below hW) HN.out)
    have hnx := aheadL_next L s0_1 a1 hord.2
    have hb1 := aheadL_bd L s0_1 a1 ho
    have hst := stepL_mem (d := a1) ho
    have ha1 := hf.a1
    have ha2 := hf.a2
    have hwa : IntKind.i64.wrap (a1 + 1) = a1 + 1 := IntWalk.i64_in _ (by have := hf.s1; have := hf.e2; omega)
    obtain ⟨X, hX⟩ : ∃ X, aheadL s0_1 L a1 = X := ⟨_, rfl⟩
    obtain ⟨Y, hY⟩ : ∃ Y, aheadL s0_1 L (a1 + 1) = Y := ⟨_, rfl⟩
    obtain ⟨Z, hZ⟩ : ∃ Z, stepL L a1 = Z := ⟨_, rfl⟩
    rw [hX] at HA hnx hb1
    rw [hY] at HB hnx
    rw [hZ] at HS HT hnx hst
    have hyx : IntKind.i64.wrap (Y - X) = Z := by rw [IntWalk.i64_in _ (by omega)]; omega
    have z1 : decide (-1 ≤ Z) = true := decide_eq_true (by omega)
    have z2 : decide (Z ≤ 1) = true := decide_eq_true (by omega)
    clear hf ho hl hord hX hY hZ hnx hb1 ha1 ha2
    rcases hst with rfl | rfl | rfl
    · go_enter Tryd.func6, Tryd.ntmps6
      go_wp2_with (first
        | (go_at_call 8; refine (alive_yes _ (HM.out.below HX0.out.below)).mono ?_; rintro e w1 ⟨rfl, hb1⟩; have HX := Lib.hid (HX0.out.next hb1); have c0 := HX.out.holds.cell 0; have c1 := HX.out.holds.cell 1; have c2 := HX.out.holds.cell 2; have c3 := HX.out.holds.cell 3; clear hb1)
        | (go_at_call 9; refine (HMD.out _ HX.out.below).mono ?_; intro e w2 hp; obtain ⟨hp, hb2⟩ := hp; obtain ⟨q, rfl, hrt⟩ := HMY.out w2 _ _ hp; clear hp; have HRT := Lib.hid hrt; have HX := Lib.hid (HX.out.next hb2); have c0 := HX.out.holds.cell 0; have c1 := HX.out.holds.cell 1; have c2 := HX.out.holds.cell 2; have c3 := HX.out.holds.cell 3; clear hb2 hrt)
        | (go_at_call 9; refine (HMD.out _ HX.out.below).mono ?_; intro e w2 hp; obtain ⟨hp, hb2⟩ := hp; obtain rfl := HMN.out w2 _ _ hp; clear hp; have HX := Lib.hid (HX.out.next hb2); have c0 := HX.out.holds.cell 0; have c1 := HX.out.holds.cell 1; have c2 := HX.out.holds.cell 2; have c3 := HX.out.holds.cell 3; clear hb2)
        | (go_at_call 12; with_reducible refine (HA.out _ _ HRT.out).mono ?_; rintro e w3 ⟨rfl, hb3⟩; have HRT := Lib.hid ((HRT.out.below hb3).mono hb3.size); have HX := Lib.hid (HX.out.next hb3); have c0 := HX.out.holds.cell 0; have c1 := HX.out.holds.cell 1; have c2 := HX.out.holds.cell 2; have c3 := HX.out.holds.cell 3; clear hb3)
        | (go_at_call 12; with_reducible refine (HB.out _ _ HRT.out).mono ?_; rintro e w4 ⟨rfl, hb3⟩; have HRT := Lib.hid ((HRT.out.below hb3).mono hb3.size); have HX := Lib.hid (HX.out.next hb3); have c0 := HX.out.holds.cell 0; have c1 := HX.out.holds.cell 1; have c2 := HX.out.holds.cell 2; have c3 := HX.out.holds.cell 3; clear hb3)
        | (go_at_call 13; refine (HS.out _ _ HRT.out).mono ?_; rintro e w5 ⟨rfl, hb3⟩; have HRT := Lib.hid ((HRT.out.below hb3).mono hb3.size); have HX := Lib.hid (HX.out.next hb3); have c0 := HX.out.holds.cell 0; have c1 := HX.out.holds.cell 1; have c2 := HX.out.holds.cell 2; have c3 := HX.out.holds.cell 3; clear hb3)
        | (go_at_call 17; refine (HT.out _ HX.out.below).mono ?_; rintro e w6 ⟨rfl, hb3⟩; have HX := Lib.hid (HX.out.next hb3); clear hb3))
      go_ret
      exact ⟨rfl, HX.out.below⟩
    · go_enter Tryd.func6, Tryd.ntmps6
      go_wp2_with (first
        | (go_at_call 8; refine (alive_yes _ (HM.out.below HX0.out.below)).mono ?_; rintro e w1 ⟨rfl, hb1⟩; have HX := Lib.hid (HX0.out.next hb1); have c0 := HX.out.holds.cell 0; have c1 := HX.out.holds.cell 1; have c2 := HX.out.holds.cell 2; have c3 := HX.out.holds.cell 3; clear hb1)
        | (go_at_call 9; refine (HMD.out _ HX.out.below).mono ?_; intro e w2 hp; obtain ⟨hp, hb2⟩ := hp; obtain ⟨q, rfl, hrt⟩ := HMY.out w2 _ _ hp; clear hp; have HRT := Lib.hid hrt; have HX := Lib.hid (HX.out.next hb2); have c0 := HX.out.holds.cell 0; have c1 := HX.out.holds.cell 1; have c2 := HX.out.holds.cell 2; have c3 := HX.out.holds.cell 3; clear hb2 hrt)
        | (go_at_call 9; refine (HMD.out _ HX.out.below).mono ?_; intro e w2 hp; obtain ⟨hp, hb2⟩ := hp; obtain rfl := HMN.out w2 _ _ hp; clear hp; have HX := Lib.hid (HX.out.next hb2); have c0 := HX.out.holds.cell 0; have c1 := HX.out.holds.cell 1; have c2 := HX.out.holds.cell 2; have c3 := HX.out.holds.cell 3; clear hb2)
        | (go_at_call 12; with_reducible refine (HA.out _ _ HRT.out).mono ?_; rintro e w3 ⟨rfl, hb3⟩; have HRT := Lib.hid ((HRT.out.below hb3).mono hb3.size); have HX := Lib.hid (HX.out.next hb3); have c0 := HX.out.holds.cell 0; have c1 := HX.out.holds.cell 1; have c2 := HX.out.holds.cell 2; have c3 := HX.out.holds.cell 3; clear hb3)
        | (go_at_call 12; with_reducible refine (HB.out _ _ HRT.out).mono ?_; rintro e w4 ⟨rfl, hb3⟩; have HRT := Lib.hid ((HRT.out.below hb3).mono hb3.size); have HX := Lib.hid (HX.out.next hb3); have c0 := HX.out.holds.cell 0; have c1 := HX.out.holds.cell 1; have c2 := HX.out.holds.cell 2; have c3 := HX.out.holds.cell 3; clear hb3)
        | (go_at_call 13; refine (HS.out _ _ HRT.out).mono ?_; rintro e w5 ⟨rfl, hb3⟩; have HRT := Lib.hid ((HRT.out.below hb3).mono hb3.size); have HX := Lib.hid (HX.out.next hb3); have c0 := HX.out.holds.cell 0; have c1 := HX.out.holds.cell 1; have c2 := HX.out.holds.cell 2; have c3 := HX.out.holds.cell 3; clear hb3)
        | (go_at_call 17; refine (HT.out _ HX.out.below).mono ?_; rintro e w6 ⟨rfl, hb3⟩; have HX := Lib.hid (HX.out.next hb3); clear hb3))
      go_ret
      exact ⟨rfl, HX.out.below⟩
    · go_enter Tryd.func6, Tryd.ntmps6
      go_wp2_with (first
        | (go_at_call 8; refine (alive_yes _ (HM.out.below HX0.out.below)).mono ?_; rintro e w1 ⟨rfl, hb1⟩; have HX := Lib.hid (HX0.out.next hb1); have c0 := HX.out.holds.cell 0; have c1 := HX.out.holds.cell 1; have c2 := HX.out.holds.cell 2; have c3 := HX.out.holds.cell 3; clear hb1)
        | (go_at_call 9; refine (HMD.out _ HX.out.below).mono ?_; intro e w2 hp; obtain ⟨hp, hb2⟩ := hp; obtain ⟨q, rfl, hrt⟩ := HMY.out w2 _ _ hp; clear hp; have HRT := Lib.hid hrt; have HX := Lib.hid (HX.out.next hb2); have c0 := HX.out.holds.cell 0; have c1 := HX.out.holds.cell 1; have c2 := HX.out.holds.cell 2; have c3 := HX.out.holds.cell 3; clear hb2 hrt)
        | (go_at_call 9; refine (HMD.out _ HX.out.below).mono ?_; intro e w2 hp; obtain ⟨hp, hb2⟩ := hp; obtain rfl := HMN.out w2 _ _ hp; clear hp; have HX := Lib.hid (HX.out.next hb2); have c0 := HX.out.holds.cell 0; have c1 := HX.out.holds.cell 1; have c2 := HX.out.holds.cell 2; have c3 := HX.out.holds.cell 3; clear hb2)
        | (go_at_call 12; with_reducible refine (HA.out _ _ HRT.out).mono ?_; rintro e w3 ⟨rfl, hb3⟩; have HRT := Lib.hid ((HRT.out.below hb3).mono hb3.size); have HX := Lib.hid (HX.out.next hb3); have c0 := HX.out.holds.cell 0; have c1 := HX.out.holds.cell 1; have c2 := HX.out.holds.cell 2; have c3 := HX.out.holds.cell 3; clear hb3)
        | (go_at_call 12; with_reducible refine (HB.out _ _ HRT.out).mono ?_; rintro e w4 ⟨rfl, hb3⟩; have HRT := Lib.hid ((HRT.out.below hb3).mono hb3.size); have HX := Lib.hid (HX.out.next hb3); have c0 := HX.out.holds.cell 0; have c1 := HX.out.holds.cell 1; have c2 := HX.out.holds.cell 2; have c3 := HX.out.holds.cell 3; clear hb3)
        | (go_at_call 13; refine (HS.out _ _ HRT.out).mono ?_; rintro e w5 ⟨rfl, hb3⟩; have HRT := Lib.hid ((HRT.out.below hb3).mono hb3.size); have HX := Lib.hid (HX.out.next hb3); have c0 := HX.out.holds.cell 0; have c1 := HX.out.holds.cell 1; have c2 := HX.out.holds.cell 2; have c3 := HX.out.holds.cell 3; clear hb3)
        | (go_at_call 17; refine (HT.out _ HX.out.below).mono ?_; rintro e w6 ⟨rfl, hb3⟩; have HX := Lib.hid (HX.out.next hb3); clear hb3))
      go_ret
      exact ⟨rfl, HX.out.below⟩
  · have HMN := Lib.hid (fun (W : World) (e : Ending) (w' : World) (h : ((F = 0 ∧ ∃ q, e = .returned (.tuple #[.pointer (some ⟨q, 0, none⟩), .int .i64 0]) ∧ Rt w' w'.heap.size q ⟨s0_0, s0_1, s0_2, L⟩) ∨ (¬ F = 0 ∧ e = .returned (.tuple #[.pointer none, .int .i64 F])))) => (h.resolve_left (fun h => h0 h.1)).2)
    have hne : (F != 0) = true := by simp [h0]
    clear hF h0
    go_enter Tryd.func6, Tryd.ntmps6
    go_wp2_with (first
      | (go_at_call 8; refine (alive_yes _ (HM.out.below HX0.out.below)).mono ?_; rintro e w1 ⟨rfl, hb1⟩; have HX := Lib.hid (HX0.out.next hb1); have c0 := HX.out.holds.cell 0; have c1 := HX.out.holds.cell 1; have c2 := HX.out.holds.cell 2; have c3 := HX.out.holds.cell 3; clear hb1)
      | (go_at_call 9; refine (HMD.out _ HX.out.below).mono ?_; intro e w2 hp; obtain ⟨hp, hb2⟩ := hp; obtain ⟨q, rfl, hrt⟩ := HMY.out w2 _ _ hp; clear hp; have HRT := Lib.hid hrt; have HX := Lib.hid (HX.out.next hb2); have c0 := HX.out.holds.cell 0; have c1 := HX.out.holds.cell 1; have c2 := HX.out.holds.cell 2; have c3 := HX.out.holds.cell 3; clear hb2 hrt)
      | (go_at_call 9; refine (HMD.out _ HX.out.below).mono ?_; intro e w2 hp; obtain ⟨hp, hb2⟩ := hp; obtain rfl := HMN.out w2 _ _ hp; clear hp; have HX := Lib.hid (HX.out.next hb2); have c0 := HX.out.holds.cell 0; have c1 := HX.out.holds.cell 1; have c2 := HX.out.holds.cell 2; have c3 := HX.out.holds.cell 3; clear hb2)
      | (go_at_call 12; with_reducible refine (HA.out _ _ HRT.out).mono ?_; rintro e w3 ⟨rfl, hb3⟩; have HRT := Lib.hid ((HRT.out.below hb3).mono hb3.size); have HX := Lib.hid (HX.out.next hb3); have c0 := HX.out.holds.cell 0; have c1 := HX.out.holds.cell 1; have c2 := HX.out.holds.cell 2; have c3 := HX.out.holds.cell 3; clear hb3)
      | (go_at_call 12; with_reducible refine (HB.out _ _ HRT.out).mono ?_; rintro e w4 ⟨rfl, hb3⟩; have HRT := Lib.hid ((HRT.out.below hb3).mono hb3.size); have HX := Lib.hid (HX.out.next hb3); have c0 := HX.out.holds.cell 0; have c1 := HX.out.holds.cell 1; have c2 := HX.out.holds.cell 2; have c3 := HX.out.holds.cell 3; clear hb3)
      | (go_at_call 13; refine (HS.out _ _ HRT.out).mono ?_; rintro e w5 ⟨rfl, hb3⟩; have HRT := Lib.hid ((HRT.out.below hb3).mono hb3.size); have HX := Lib.hid (HX.out.next hb3); have c0 := HX.out.holds.cell 0; have c1 := HX.out.holds.cell 1; have c2 := HX.out.holds.cell 2; have c3 := HX.out.holds.cell 3; clear hb3)
      | (go_at_call 17; refine (HT.out _ HX.out.below).mono ?_; rintro e w6 ⟨rfl, hb3⟩; have HX := Lib.hid (HX.out.next hb3); clear hb3))
    go_ret
    exact ⟨rfl, HX.out.below⟩

set_option maxRecDepth 100000 in
theorem lifted (os : Os) (started : os.Started) (H : Type) (enc : TypeId × Value → H) :
    ReturnsInHanded {} Tryd.checked os 6 .any (fun w args => (Rows.leapStepsSpec.pre enc Tryd.prog Tryd.f6 [] false w args ∧ laidMetH Tryd.prog laidTabS w) ∧ sizedMet enc Tryd.prog Tryd.f6 (OpenSpec.ofChange Rows.leapStepsSpec) false w args) (Rows.leapStepsSpec.post enc Tryd.prog Tryd.f6 false true false false) := by
  refine returnsInHanded_and_shaped (C := Tryd.checked) (X := fun w _ => laidMetH Tryd.prog laidTabS w) (fun _ _ _ hh h => h.of_heap hh) own started (by kernel_rfl) Tryd.func6
    (ChangeSpec.witness_shaped (enc := enc) (C := Tryd.checked) (os := os) (X := fun w _ => laidMetH Tryd.prog laidTabS w) false (World.laidAll Tryd.prog os laidTabS) #[.agg #[.int .i64 0, .int .i64 0, .int .i64 0, .slice none 0 0], .int .i64 0] 8 (World.laidAll_os _ _ _) (World.shaped_of_ZipB (by kernel_rfl) (by kernel_rfl)) (by kernel_rfl) (by kernel_rfl) (by kernel_rfl) (door_metS os _)) ?_
  intro W base args ds gs before hval0 hW hL hsh
  have hval : ∀ (j : Nat) t v, Tryd.f6.params[j]? = some t → args[j]? = some v → Value.okWide Tryd.prog W .any base t v := hval0
  have hW' := hW
  obtain ⟨p, q, hA0, hV, rfl, hfz, hnd⟩ := hW
  have hA : DataW.TrodAll enc Tryd.prog W 0 (fun _ => true) true Tryd.f6.params.toList args.toList ds p := hA0
  have hAk := hA
  rw [Tryd.params6] at hA hval
  obtain ⟨v0, vs0, d0, ds0, p0, q0, hargs, rfl, hp, h0, r0⟩ := trodAll_cons hA
  obtain ⟨v1, vs1, d1, ds1, p1, q1, rfl, rfl, rfl, h1, r1⟩ := trodAll_cons r0
  obtain ⟨rfl, rfl, rfl⟩ := trodAll_nil r1
  obtain rfl : args = #[v0, v1] := by cases args; simp_all
  obtain ⟨rfl, rfl⟩ := trodVars_none hV
  clear hA0 hval0 hargs
  simp only [List.append_nil] at hW'
  have hend : ∀ W' : World, Below W.heap.size W W' → Rows.leapStepsSpec.post enc Tryd.prog Tryd.f6 false true false false W #[v0, v1] (.bool true) W' := fun W' hb =>
    law_post (tb := 4) hW' hAk rfl (by kernel_rfl) (by kernel_rfl) (by kernel_rfl) Tryd.underlying4 rfl rfl rfl hb
  clear hW' hAk hp
  obtain ⟨vs0', rfl, hfit0⟩ := flatS_arg (ks := [.p (.int .i64), .p (.int .i64), .p (.int .i64), .rows [.int .i64, .int .i64]]) 9 Tryd.underlying24 (by kernel_rfl) (hval 0 24 v0 rfl rfl) h0
  obtain ⟨s0_0, s0_1, s0_2, A0_3, n0_3, c0_3, f0_3, rfl, w0_0, w0_1, w0_2, w0_3⟩ := cells0 hfit0
  obtain ⟨a1, rfl, rfl, rfl, w1⟩ := open_int Tryd.underlying3 (hval 1 3 v1 rfl rfl) h1
  refine (walk s0_0 s0_1 s0_2 A0_3 n0_3 c0_3 f0_3 a1 W w0_0 w0_1 w0_2 w0_3 w1 (mt_of_shaped hsh)).mono fun e W' ⟨he, hg⟩ => ?_
  subst he
  exact ⟨_, rfl, hend W' hg⟩

theorem over : Rows.leapStepsRow.holds Tryd.pinned (OpenSpec.ofChange Rows.leapStepsSpec) :=
  OpenClaim.holds_of_wide 6 Tryd.f6 rfl rfl rfl rfl rfl rfl rfl ⟨rfl, rfl, rfl, rfl, rfl⟩ rfl rfl rfl rfl rfl (by kernel_rfl) Tryd.func6 (by kernel_rfl)
    (of_decide_eq_true (by kernel_rfl)) (by unfold Func.isWrapper; first | (rw [if_pos (by decide +kernel)]; kernel_rfl) | (rw [if_neg (by decide +kernel)]; exact ⟨rfl, rfl⟩))
    (fun os started H enc _ => lifted os started H enc)

/-- THE STATEMENT: the tied card -/
theorem proved : Rows.LeapStepsCardSaid :=
  Claim7.holds_tied_plain_at .later [] [.data, .pinned] true (true, "7c37e060eaa0f112e89e4d22143b27731f1469fff835db8b9bba8390e6494458") true
    over (fun _ h => by cases h) (by kernel_rfl) (fun _ h => by cases h) leapSteps_row_tie rfl ⟨rfl, rfl⟩ (by kernel_rfl) rfl
    (fun f fn hf hfn => by
      obtain rfl : f = 6 := Option.some.inj ((show Tryd.prog.funcNamed "angelus/angeluslaw21.LeapSteps" = some 6 by kernel_rfl).symm.trans hf) |>.symm
      obtain rfl : fn = Tryd.f6 := (Option.some.inj (Tryd.func6.symm.trans hfn)).symm
      exact ⟨by kernel_rfl, fun j t ht => by
        rw [Tryd.params6] at ht
        have hm : t ∈ [24, 3] := by simpa using Array.mem_of_getElem? ht
        have hall : ([24, 3].all fun u => !Tryd.prog.wantsStandIn u) = true := by kernel_rfl
        exact (show Tryd.prog.wantsStandIn t = false by simpa using List.all_eq_true.1 hall t hm)⟩)
    (by kernel_rfl)
#print axioms proved
end Go.Proofs.YtiglhmdiiajmhaaDoor.leapSteps
