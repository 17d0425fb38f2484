/-
  From TAI to UTC and back one comes to the same second, and from UTC to TAI and back: for every table that can be, of at most 64 leaps, and all numbers.
  The walk is the prover's own; the frame of the row's step follows the kit's template.
-/
import Derived.Test.YtcknllkbeadmlaaDoorRows
import Derived.Test.YtcknllkbeadmlaaDoorLawKit
import Derived.Test.YtcknllkbeadmlaaDoorCards
import Derived.Test.YtcknllkbeadmlaaDoorTie
import Derived.SevenTiedAt
import Derived.Test.YtcknllkbeadmlaaDoorFlat
import Derived.Test.YtcknllkbeadmlaaDoorFlatS
import Derived.Test.YtcknllkbeadmlaaDoorUtL
namespace Go.Proofs.YtcknllkbeadmlaaDoor.utcBack
open Go.ChangeShapes Go.WideShapes Go.ChangeAt Go.RowKit Go.ChangeMaps Go.WideElems
set_option linter.unusedVariables false

theorem cells0 {W : World} {vs : List Value} (h : FitS W [.p (.int .i64), .p (.int .i64), .p (.int .i64), .rows [.int .i64, .int .i64]] vs) : ∃ (s0 : Int) (s1 : Int) (s2 : Int) (A3 : Option Addr) (n3 c3 : Nat) (f3 : Nat → List Value), vs = [.int .i64 s0, .int .i64 s1, .int .i64 s2, .slice A3 n3 c3] ∧ (Lit.int .i64 s0).wf = true ∧ (Lit.int .i64 s1).wf = true ∧ (Lit.int .i64 s2).wf = true ∧ FlatRow W [.int .i64, .int .i64] A3 n3 c3 f3 := by
  match vs, h.length, h with
  | [y0, y1, y2, y3], _, h =>
    obtain ⟨⟨x0, rfl, h0⟩, ⟨x1, rfl, h1⟩, ⟨x2, rfl, h2⟩, ⟨A3, n3, c3, x3, rfl, h3⟩, _⟩ := h
    exact ⟨x0, x1, x2, A3, n3, c3, x3, rfl, h0, h1, h2, h3⟩
theorem cells2 {W : World} {vs : List Value} (h : Fit W [.int .i64, .int .i64, .int .i64, .int .i64, .int .i64, .int .i64] vs) : ∃ (s0 : Int) (s1 : Int) (s2 : Int) (s3 : Int) (s4 : Int) (s5 : Int), vs = [.int .i64 s0, .int .i64 s1, .int .i64 s2, .int .i64 s3, .int .i64 s4, .int .i64 s5] ∧ (Lit.int .i64 s0).wf = true ∧ (Lit.int .i64 s1).wf = true ∧ (Lit.int .i64 s2).wf = true ∧ (Lit.int .i64 s3).wf = true ∧ (Lit.int .i64 s4).wf = true ∧ (Lit.int .i64 s5).wf = true := by
  match vs, h.length, h with
  | [y0, y1, y2, y3, y4, y5], _, h =>
    obtain ⟨⟨x0, rfl, h0⟩, ⟨x1, rfl, h1⟩, ⟨x2, rfl, h2⟩, ⟨x3, rfl, h3⟩, ⟨x4, rfl, h4⟩, ⟨x5, rfl, h5⟩, _⟩ := h
    exact ⟨x0, x1, x2, x3, x4, x5, rfl, h0, h1, h2, h3, h4, h5⟩
theorem own : ownKnob Tryd.prog.godebug = none := by kernel_rfl
set_option linter.unusedSimpArgs false
set_option maxRecDepth 100000 in
set_option maxHeartbeats 8000000 in
theorem walk (s0_0 : Int) (s0_1 : Int) (s0_2 : Int) (A0_3 : Option Addr) (n0_3 c0_3 : Nat) (f0_3 : Nat → List Value) (a1 : Int) (s2_0 : Int) (s2_1 : Int) (s2_2 : Int) (s2_3 : Int) (s2_4 : Int) (s2_5 : Int) (w : World) (w0_0 : (Lit.int .i64 s0_0).wf = true) (w0_1 : (Lit.int .i64 s0_1).wf = true) (w0_2 : (Lit.int .i64 s0_2).wf = true) (w0_3 : FlatRow w [.int .i64, .int .i64] A0_3 n0_3 c0_3 f0_3) (w1 : (Lit.int .i64 a1).wf = true) (w2_0 : (Lit.int .i64 s2_0).wf = true) (w2_1 : (Lit.int .i64 s2_1).wf = true) (w2_2 : (Lit.int .i64 s2_2).wf = true) (w2_3 : (Lit.int .i64 s2_3).wf = true) (w2_4 : (Lit.int .i64 s2_4).wf = true) (w2_5 : (Lit.int .i64 s2_5).wf = true) (hT : Tab w) :
    Calls Tryd.prog 4 #[.agg #[.int .i64 s0_0, .int .i64 s0_1, .int .i64 s0_2, .slice A0_3 n0_3 c0_3], .int .i64 a1, .agg #[.int .i64 s2_0, .int .i64 s2_1, .int .i64 s2_2, .int .i64 s2_3, .int .i64 s2_4, .int .i64 s2_5]] w fun e w' => e = .returned (.bool true) ∧ Below w.heap.size w w' := by
  obtain ⟨L, hrow, hfits⟩ := prow_of_flat w0_3
  have HT := Lib.hid hT
  have HX := Lib.hid (Box.start w 24 #[.int .i64 s0_0, .int .i64 s0_1, .int .i64 s0_2, .slice A0_3 n0_3 c0_3])
  have hs0 := size_alloc w (.cells #[.int .i64 s0_0, .int .i64 s0_1, .int .i64 s0_2, .slice A0_3 n0_3 c0_3] 24)
  have hy := Box.start (w.alloc (.cells #[.int .i64 s0_0, .int .i64 s0_1, .int .i64 s0_2, .slice A0_3 n0_3 c0_3] 24)) 28 #[.int .i64 s2_0, .int .i64 s2_1, .int .i64 s2_2, .int .i64 s2_3, .int .i64 s2_4, .int .i64 s2_5]
  replace HX := Lib.hid (HX.out.next hy.below)
  have HU := Lib.hid (show Holds _ (w.heap.size + 1) 28 #[.int .i64 s2_0, .int .i64 s2_1, .int .i64 s2_2, .int .i64 s2_3, .int .i64 s2_4, .int .i64 s2_5] by have := hy.holds; rwa [hs0] at this)
  clear hs0 hy
  have hnl := hrow.len
  clear hT
  obtain ⟨c0, c1, c2, c3⟩ := HX.out.tab4
  by_cases h64 : 64 < n0_3
  · have d0 : decide ((64 : Int) < (n0_3 : Int)) = true := decide_eq_true (by omega)
    go_enter Tryd.func4, Tryd.ntmps4
    go_wp2_with (first
      | (go_at_call 9; refine (alive_yes _ (HT.out.below HX.out.below)).mono ?_; rintro e w1 ⟨rfl, hb1⟩; (try replace HRT := Lib.hid ((HRT.out.below hb1).mono hb1.size)); replace HX := Lib.hid (HX.out.next hb1); (try replace HU := Lib.hid (HU.out.below hb1 HU.out.lt)); clear hb1; (try clear c0 c1 c2 c3); obtain ⟨c0, c1, c2, c3⟩ := HX.out.tab4)
      | (go_at_call 10; refine (HMD.out _ HX.out.below).mono ?_; intro e w2 hp; obtain ⟨q, rfl, hr, hb2⟩ := HMY.out _ _ _ hp; clear hp; (try replace HRT := Lib.hid ((HRT.out.below hb2).mono hb2.size)); replace HX := Lib.hid (HX.out.next hb2); (try replace HU := Lib.hid (HU.out.below hb2 HU.out.lt)); clear hb2; (try clear c0 c1 c2 c3); obtain ⟨c0, c1, c2, c3⟩ := HX.out.tab4; have HRT := Lib.hid hr; clear hr; (try clear u0 u1 u2 u3 u4 u5); have u0 := HU.out.cell 0; have u1 := HU.out.cell 1; have u2 := HU.out.cell 2; have u3 := HU.out.cell 3; have u4 := HU.out.cell 4; have u5 := HU.out.cell 5)
      | (go_at_call 10; refine (HMD.out _ HX.out.below).mono ?_; intro e w2 hp; obtain ⟨rfl, hb2⟩ := HMN.out _ _ _ hp; clear hp; (try replace HRT := Lib.hid ((HRT.out.below hb2).mono hb2.size)); replace HX := Lib.hid (HX.out.next hb2); (try replace HU := Lib.hid (HU.out.below hb2 HU.out.lt)); clear hb2; (try clear c0 c1 c2 c3); obtain ⟨c0, c1, c2, c3⟩ := HX.out.tab4)
      | (go_at_call 11; with_reducible refine (HM1.out _ _ HRT.out).mono ?_; rintro e w3 ⟨rfl, hbz⟩; have HQ := Lib.hid (Box.start w3 35 #[.int .i64 0, .int .i64 0, .int .i64 0, .int .i64 0, .int .i64 0, .int .i64 0]); have hb3 := hbz.trans (HQ.out.below.mono hbz.size); (try replace HU := Lib.hid (HU.out.below hb3 HU.out.lt)); have HA := Lib.hid HQ.out.holds; clear HQ hbz; (try replace HRT := Lib.hid ((HRT.out.below hb3).mono hb3.size)); replace HX := Lib.hid (HX.out.next hb3); clear hb3; (try clear c0 c1 c2 c3); obtain ⟨c0, c1, c2, c3⟩ := HX.out.tab4; (try clear u0 u1 u2 u3 u4 u5); have u0 := HU.out.cell 0; have u1 := HU.out.cell 1; have u2 := HU.out.cell 2; have u3 := HU.out.cell 3; have u4 := HU.out.cell 4; have u5 := HU.out.cell 5)
      | (go_at_call 11; with_reducible refine (HO1.out _ _ HRT.out).mono ?_; rintro e w3 ⟨rfl, hbz⟩; have HQ := Lib.hid (Box.start w3 35 #[.int .i64 ya, .int .i64 ma, .int .i64 da, .int .i64 Ha, .int .i64 Ma, .int .i64 Sa]); have hb3 := hbz.trans (HQ.out.below.mono hbz.size); (try replace HU := Lib.hid (HU.out.below hb3 HU.out.lt)); have HA := Lib.hid HQ.out.holds; clear HQ hbz; (try replace HRT := Lib.hid ((HRT.out.below hb3).mono hb3.size)); replace HX := Lib.hid (HX.out.next hb3); clear hb3; (try clear c0 c1 c2 c3); obtain ⟨c0, c1, c2, c3⟩ := HX.out.tab4; (try clear u0 u1 u2 u3 u4 u5); have u0 := HU.out.cell 0; have u1 := HU.out.cell 1; have u2 := HU.out.cell 2; have u3 := HU.out.cell 3; have u4 := HU.out.cell 4; have u5 := HU.out.cell 5; (try clear x0 x1 x2 x3 x4 x5); have x0 := HA.out.cell 0; have x1 := HA.out.cell 1; have x2 := HA.out.cell 2; have x3 := HA.out.cell 3; have x4 := HA.out.cell 4; have x5 := HA.out.cell 5)
      | (go_at_call 12; with_reducible refine (HT1.out _ _ HRT.out).mono ?_; rintro e w4 ⟨rfl, hb4⟩; clear HT1; (try replace HRT := Lib.hid ((HRT.out.below hb4).mono hb4.size)); replace HX := Lib.hid (HX.out.next hb4); (try replace HU := Lib.hid (HU.out.below hb4 HU.out.lt)); clear hb4; (try clear c0 c1 c2 c3); obtain ⟨c0, c1, c2, c3⟩ := HX.out.tab4; (try clear u0 u1 u2 u3 u4 u5); have u0 := HU.out.cell 0; have u1 := HU.out.cell 1; have u2 := HU.out.cell 2; have u3 := HU.out.cell 3; have u4 := HU.out.cell 4; have u5 := HU.out.cell 5)
      | (go_at_call 13; refine (of_any s2_0 s2_1 s2_2 s2_3 s2_4 s2_5 _).mono ?_; rintro e w5 ⟨rfl, hb5⟩; (try replace HRT := Lib.hid ((HRT.out.below hb5).mono hb5.size)); replace HX := Lib.hid (HX.out.next hb5); (try replace HU := Lib.hid (HU.out.below hb5 HU.out.lt)); clear hb5; (try clear c0 c1 c2 c3); obtain ⟨c0, c1, c2, c3⟩ := HX.out.tab4; (try clear u0 u1 u2 u3 u4 u5); have u0 := HU.out.cell 0; have u1 := HU.out.cell 1; have u2 := HU.out.cell 2; have u3 := HU.out.cell 3; have u4 := HU.out.cell 4; have u5 := HU.out.cell 5)
      | (go_at_call 12; with_reducible refine (HT2.out _ _ HRT.out).mono ?_; rintro e w6 ⟨rfl, hb6⟩; (try replace HRT := Lib.hid ((HRT.out.below hb6).mono hb6.size)); replace HX := Lib.hid (HX.out.next hb6); (try replace HU := Lib.hid (HU.out.below hb6 HU.out.lt)); clear hb6; (try clear c0 c1 c2 c3); obtain ⟨c0, c1, c2, c3⟩ := HX.out.tab4; (try clear u0 u1 u2 u3 u4 u5); have u0 := HU.out.cell 0; have u1 := HU.out.cell 1; have u2 := HU.out.cell 2; have u3 := HU.out.cell 3; have u4 := HU.out.cell 4; have u5 := HU.out.cell 5)
      | (go_at_call 11; with_reducible refine (HO2.out _ _ HRT.out).mono ?_; rintro e w7 ⟨rfl, hbz⟩; have HQ := Lib.hid (Box.start w7 35 #[.int .i64 s2_0, .int .i64 s2_1, .int .i64 s2_2, .int .i64 s2_3, .int .i64 s2_4, .int .i64 s2_5]); have hb7 := hbz.trans (HQ.out.below.mono hbz.size); (try replace HU := Lib.hid (HU.out.below hb7 HU.out.lt)); have HB := Lib.hid HQ.out.holds; clear HQ hbz; (try replace HRT := Lib.hid ((HRT.out.below hb7).mono hb7.size)); replace HX := Lib.hid (HX.out.next hb7); clear hb7; (try clear c0 c1 c2 c3); obtain ⟨c0, c1, c2, c3⟩ := HX.out.tab4))
    go_ret
    exact ⟨rfl, HX.out.below⟩
  have d0 : decide ((64 : Int) < (n0_3 : Int)) = false := decide_eq_false (by omega)
  have HN := Lib.hid (show n0_3 ≤ 1000 by omega)
  have HR := Lib.hid hrow
  have HMD := Lib.hid (fun W (hW : Below w.heap.size w W) => made_any W s0_0 s0_1 s0_2 A0_3 n0_3 c0_3 L (HR.out.below hW) HN.out)
  by_cases h0 : faultT s0_0 s0_1 s0_2 L = 0
  case neg =>
    have HMN := Lib.hid (fun (W : World) (e : Ending) (w' : World) (h : MadeB s0_0 s0_1 s0_2 L W e w') => made_no h0 h)
    clear hrow hfits hnl h0 h64
    go_enter Tryd.func4, Tryd.ntmps4
    go_wp2_with (first
      | (go_at_call 9; refine (alive_yes _ (HT.out.below HX.out.below)).mono ?_; rintro e w1 ⟨rfl, hb1⟩; (try replace HRT := Lib.hid ((HRT.out.below hb1).mono hb1.size)); replace HX := Lib.hid (HX.out.next hb1); (try replace HU := Lib.hid (HU.out.below hb1 HU.out.lt)); clear hb1; (try clear c0 c1 c2 c3); obtain ⟨c0, c1, c2, c3⟩ := HX.out.tab4)
      | (go_at_call 10; refine (HMD.out _ HX.out.below).mono ?_; intro e w2 hp; obtain ⟨q, rfl, hr, hb2⟩ := HMY.out _ _ _ hp; clear hp; (try replace HRT := Lib.hid ((HRT.out.below hb2).mono hb2.size)); replace HX := Lib.hid (HX.out.next hb2); (try replace HU := Lib.hid (HU.out.below hb2 HU.out.lt)); clear hb2; (try clear c0 c1 c2 c3); obtain ⟨c0, c1, c2, c3⟩ := HX.out.tab4; have HRT := Lib.hid hr; clear hr; (try clear u0 u1 u2 u3 u4 u5); have u0 := HU.out.cell 0; have u1 := HU.out.cell 1; have u2 := HU.out.cell 2; have u3 := HU.out.cell 3; have u4 := HU.out.cell 4; have u5 := HU.out.cell 5)
      | (go_at_call 10; refine (HMD.out _ HX.out.below).mono ?_; intro e w2 hp; obtain ⟨rfl, hb2⟩ := HMN.out _ _ _ hp; clear hp; (try replace HRT := Lib.hid ((HRT.out.below hb2).mono hb2.size)); replace HX := Lib.hid (HX.out.next hb2); (try replace HU := Lib.hid (HU.out.below hb2 HU.out.lt)); clear hb2; (try clear c0 c1 c2 c3); obtain ⟨c0, c1, c2, c3⟩ := HX.out.tab4)
      | (go_at_call 11; with_reducible refine (HM1.out _ _ HRT.out).mono ?_; rintro e w3 ⟨rfl, hbz⟩; have HQ := Lib.hid (Box.start w3 35 #[.int .i64 0, .int .i64 0, .int .i64 0, .int .i64 0, .int .i64 0, .int .i64 0]); have hb3 := hbz.trans (HQ.out.below.mono hbz.size); (try replace HU := Lib.hid (HU.out.below hb3 HU.out.lt)); have HA := Lib.hid HQ.out.holds; clear HQ hbz; (try replace HRT := Lib.hid ((HRT.out.below hb3).mono hb3.size)); replace HX := Lib.hid (HX.out.next hb3); clear hb3; (try clear c0 c1 c2 c3); obtain ⟨c0, c1, c2, c3⟩ := HX.out.tab4; (try clear u0 u1 u2 u3 u4 u5); have u0 := HU.out.cell 0; have u1 := HU.out.cell 1; have u2 := HU.out.cell 2; have u3 := HU.out.cell 3; have u4 := HU.out.cell 4; have u5 := HU.out.cell 5)
      | (go_at_call 11; with_reducible refine (HO1.out _ _ HRT.out).mono ?_; rintro e w3 ⟨rfl, hbz⟩; have HQ := Lib.hid (Box.start w3 35 #[.int .i64 ya, .int .i64 ma, .int .i64 da, .int .i64 Ha, .int .i64 Ma, .int .i64 Sa]); have hb3 := hbz.trans (HQ.out.below.mono hbz.size); (try replace HU := Lib.hid (HU.out.below hb3 HU.out.lt)); have HA := Lib.hid HQ.out.holds; clear HQ hbz; (try replace HRT := Lib.hid ((HRT.out.below hb3).mono hb3.size)); replace HX := Lib.hid (HX.out.next hb3); clear hb3; (try clear c0 c1 c2 c3); obtain ⟨c0, c1, c2, c3⟩ := HX.out.tab4; (try clear u0 u1 u2 u3 u4 u5); have u0 := HU.out.cell 0; have u1 := HU.out.cell 1; have u2 := HU.out.cell 2; have u3 := HU.out.cell 3; have u4 := HU.out.cell 4; have u5 := HU.out.cell 5; (try clear x0 x1 x2 x3 x4 x5); have x0 := HA.out.cell 0; have x1 := HA.out.cell 1; have x2 := HA.out.cell 2; have x3 := HA.out.cell 3; have x4 := HA.out.cell 4; have x5 := HA.out.cell 5)
      | (go_at_call 12; with_reducible refine (HT1.out _ _ HRT.out).mono ?_; rintro e w4 ⟨rfl, hb4⟩; clear HT1; (try replace HRT := Lib.hid ((HRT.out.below hb4).mono hb4.size)); replace HX := Lib.hid (HX.out.next hb4); (try replace HU := Lib.hid (HU.out.below hb4 HU.out.lt)); clear hb4; (try clear c0 c1 c2 c3); obtain ⟨c0, c1, c2, c3⟩ := HX.out.tab4; (try clear u0 u1 u2 u3 u4 u5); have u0 := HU.out.cell 0; have u1 := HU.out.cell 1; have u2 := HU.out.cell 2; have u3 := HU.out.cell 3; have u4 := HU.out.cell 4; have u5 := HU.out.cell 5)
      | (go_at_call 13; refine (of_any s2_0 s2_1 s2_2 s2_3 s2_4 s2_5 _).mono ?_; rintro e w5 ⟨rfl, hb5⟩; (try replace HRT := Lib.hid ((HRT.out.below hb5).mono hb5.size)); replace HX := Lib.hid (HX.out.next hb5); (try replace HU := Lib.hid (HU.out.below hb5 HU.out.lt)); clear hb5; (try clear c0 c1 c2 c3); obtain ⟨c0, c1, c2, c3⟩ := HX.out.tab4; (try clear u0 u1 u2 u3 u4 u5); have u0 := HU.out.cell 0; have u1 := HU.out.cell 1; have u2 := HU.out.cell 2; have u3 := HU.out.cell 3; have u4 := HU.out.cell 4; have u5 := HU.out.cell 5)
      | (go_at_call 12; with_reducible refine (HT2.out _ _ HRT.out).mono ?_; rintro e w6 ⟨rfl, hb6⟩; (try replace HRT := Lib.hid ((HRT.out.below hb6).mono hb6.size)); replace HX := Lib.hid (HX.out.next hb6); (try replace HU := Lib.hid (HU.out.below hb6 HU.out.lt)); clear hb6; (try clear c0 c1 c2 c3); obtain ⟨c0, c1, c2, c3⟩ := HX.out.tab4; (try clear u0 u1 u2 u3 u4 u5); have u0 := HU.out.cell 0; have u1 := HU.out.cell 1; have u2 := HU.out.cell 2; have u3 := HU.out.cell 3; have u4 := HU.out.cell 4; have u5 := HU.out.cell 5)
      | (go_at_call 11; with_reducible refine (HO2.out _ _ HRT.out).mono ?_; rintro e w7 ⟨rfl, hbz⟩; have HQ := Lib.hid (Box.start w7 35 #[.int .i64 s2_0, .int .i64 s2_1, .int .i64 s2_2, .int .i64 s2_3, .int .i64 s2_4, .int .i64 s2_5]); have hb7 := hbz.trans (HQ.out.below.mono hbz.size); (try replace HU := Lib.hid (HU.out.below hb7 HU.out.lt)); have HB := Lib.hid HQ.out.holds; clear HQ hbz; (try replace HRT := Lib.hid ((HRT.out.below hb7).mono hb7.size)); replace HX := Lib.hid (HX.out.next hb7); clear hb7; (try clear c0 c1 c2 c3); obtain ⟨c0, c1, c2, c3⟩ := HX.out.tab4))
    go_ret
    exact ⟨rfl, HX.out.below⟩
  case pos =>
  have HMY := Lib.hid (fun (W : World) (e : Ending) (w' : World) (h : MadeB s0_0 s0_1 s0_2 L W e w') => made_yes h0 h)
  have g := gtab_of h0
  have f1 := fits_wf w1
  obtain ⟨n, x, hxe, hx2⟩ := taiR_two s0_0 s0_1 s0_2 L s2_0 s2_1 s2_2 s2_3 s2_4 s2_5
  have HT2 := Lib.hid (fun W q (h : Rt W W.heap.size q ⟨s0_0, s0_1, s0_2, L⟩) => utai_any q s2_0 s2_1 s2_2 s2_3 s2_4 s2_5 W g h)
  rw [hxe] at HT2
  dsimp only at HT2
  by_cases ha : ∃ D, OnDay s0_0 s0_1 s0_2 L a1 D
  case neg =>
    have HM1 := Lib.hid (fun W q h => of_miss g ha f1 q W h)
    clear ha
    rcases hx2 with hx2 | ⟨hx1, hx2⟩
    · subst hx2
      obtain ⟨hi, f2⟩ := of_tai g hxe
      have HO2 := Lib.hid (fun W q h => of_hit g hi f2 q W h)
      have q1 := rutc_eq_same s2_0 s2_1 s2_2 s2_3 s2_4 s2_5
      clear g hrow hfits hnl h0 h64 f1 hxe f2 hi
      go_enter Tryd.func4, Tryd.ntmps4
      go_upto_region 17 with (first
        | (go_at_call 9; refine (alive_yes _ (HT.out.below HX.out.below)).mono ?_; rintro e w1 ⟨rfl, hb1⟩; (try replace HRT := Lib.hid ((HRT.out.below hb1).mono hb1.size)); replace HX := Lib.hid (HX.out.next hb1); (try replace HU := Lib.hid (HU.out.below hb1 HU.out.lt)); clear hb1; (try clear c0 c1 c2 c3); obtain ⟨c0, c1, c2, c3⟩ := HX.out.tab4)
        | (go_at_call 10; refine (HMD.out _ HX.out.below).mono ?_; intro e w2 hp; obtain ⟨q, rfl, hr, hb2⟩ := HMY.out _ _ _ hp; clear hp; (try replace HRT := Lib.hid ((HRT.out.below hb2).mono hb2.size)); replace HX := Lib.hid (HX.out.next hb2); (try replace HU := Lib.hid (HU.out.below hb2 HU.out.lt)); clear hb2; (try clear c0 c1 c2 c3); obtain ⟨c0, c1, c2, c3⟩ := HX.out.tab4; have HRT := Lib.hid hr; clear hr; (try clear u0 u1 u2 u3 u4 u5); have u0 := HU.out.cell 0; have u1 := HU.out.cell 1; have u2 := HU.out.cell 2; have u3 := HU.out.cell 3; have u4 := HU.out.cell 4; have u5 := HU.out.cell 5)
        | (go_at_call 10; refine (HMD.out _ HX.out.below).mono ?_; intro e w2 hp; obtain ⟨rfl, hb2⟩ := HMN.out _ _ _ hp; clear hp; (try replace HRT := Lib.hid ((HRT.out.below hb2).mono hb2.size)); replace HX := Lib.hid (HX.out.next hb2); (try replace HU := Lib.hid (HU.out.below hb2 HU.out.lt)); clear hb2; (try clear c0 c1 c2 c3); obtain ⟨c0, c1, c2, c3⟩ := HX.out.tab4)
        | (go_at_call 11; with_reducible refine (HM1.out _ _ HRT.out).mono ?_; rintro e w3 ⟨rfl, hbz⟩; have HQ := Lib.hid (Box.start w3 35 #[.int .i64 0, .int .i64 0, .int .i64 0, .int .i64 0, .int .i64 0, .int .i64 0]); have hb3 := hbz.trans (HQ.out.below.mono hbz.size); (try replace HU := Lib.hid (HU.out.below hb3 HU.out.lt)); have HA := Lib.hid HQ.out.holds; clear HQ hbz; (try replace HRT := Lib.hid ((HRT.out.below hb3).mono hb3.size)); replace HX := Lib.hid (HX.out.next hb3); clear hb3; (try clear c0 c1 c2 c3); obtain ⟨c0, c1, c2, c3⟩ := HX.out.tab4; (try clear u0 u1 u2 u3 u4 u5); have u0 := HU.out.cell 0; have u1 := HU.out.cell 1; have u2 := HU.out.cell 2; have u3 := HU.out.cell 3; have u4 := HU.out.cell 4; have u5 := HU.out.cell 5)
        | (go_at_call 11; with_reducible refine (HO1.out _ _ HRT.out).mono ?_; rintro e w3 ⟨rfl, hbz⟩; have HQ := Lib.hid (Box.start w3 35 #[.int .i64 ya, .int .i64 ma, .int .i64 da, .int .i64 Ha, .int .i64 Ma, .int .i64 Sa]); have hb3 := hbz.trans (HQ.out.below.mono hbz.size); (try replace HU := Lib.hid (HU.out.below hb3 HU.out.lt)); have HA := Lib.hid HQ.out.holds; clear HQ hbz; (try replace HRT := Lib.hid ((HRT.out.below hb3).mono hb3.size)); replace HX := Lib.hid (HX.out.next hb3); clear hb3; (try clear c0 c1 c2 c3); obtain ⟨c0, c1, c2, c3⟩ := HX.out.tab4; (try clear u0 u1 u2 u3 u4 u5); have u0 := HU.out.cell 0; have u1 := HU.out.cell 1; have u2 := HU.out.cell 2; have u3 := HU.out.cell 3; have u4 := HU.out.cell 4; have u5 := HU.out.cell 5; (try clear x0 x1 x2 x3 x4 x5); have x0 := HA.out.cell 0; have x1 := HA.out.cell 1; have x2 := HA.out.cell 2; have x3 := HA.out.cell 3; have x4 := HA.out.cell 4; have x5 := HA.out.cell 5)
        | (go_at_call 12; with_reducible refine (HT1.out _ _ HRT.out).mono ?_; rintro e w4 ⟨rfl, hb4⟩; clear HT1; (try replace HRT := Lib.hid ((HRT.out.below hb4).mono hb4.size)); replace HX := Lib.hid (HX.out.next hb4); (try replace HU := Lib.hid (HU.out.below hb4 HU.out.lt)); clear hb4; (try clear c0 c1 c2 c3); obtain ⟨c0, c1, c2, c3⟩ := HX.out.tab4; (try clear u0 u1 u2 u3 u4 u5); have u0 := HU.out.cell 0; have u1 := HU.out.cell 1; have u2 := HU.out.cell 2; have u3 := HU.out.cell 3; have u4 := HU.out.cell 4; have u5 := HU.out.cell 5)
        | (go_at_call 13; refine (of_any s2_0 s2_1 s2_2 s2_3 s2_4 s2_5 _).mono ?_; rintro e w5 ⟨rfl, hb5⟩; (try replace HRT := Lib.hid ((HRT.out.below hb5).mono hb5.size)); replace HX := Lib.hid (HX.out.next hb5); (try replace HU := Lib.hid (HU.out.below hb5 HU.out.lt)); clear hb5; (try clear c0 c1 c2 c3); obtain ⟨c0, c1, c2, c3⟩ := HX.out.tab4; (try clear u0 u1 u2 u3 u4 u5); have u0 := HU.out.cell 0; have u1 := HU.out.cell 1; have u2 := HU.out.cell 2; have u3 := HU.out.cell 3; have u4 := HU.out.cell 4; have u5 := HU.out.cell 5)
        | (go_at_call 12; with_reducible refine (HT2.out _ _ HRT.out).mono ?_; rintro e w6 ⟨rfl, hb6⟩; (try replace HRT := Lib.hid ((HRT.out.below hb6).mono hb6.size)); replace HX := Lib.hid (HX.out.next hb6); (try replace HU := Lib.hid (HU.out.below hb6 HU.out.lt)); clear hb6; (try clear c0 c1 c2 c3); obtain ⟨c0, c1, c2, c3⟩ := HX.out.tab4; (try clear u0 u1 u2 u3 u4 u5); have u0 := HU.out.cell 0; have u1 := HU.out.cell 1; have u2 := HU.out.cell 2; have u3 := HU.out.cell 3; have u4 := HU.out.cell 4; have u5 := HU.out.cell 5)
        | (go_at_call 11; with_reducible refine (HO2.out _ _ HRT.out).mono ?_; rintro e w7 ⟨rfl, hbz⟩; have HQ := Lib.hid (Box.start w7 35 #[.int .i64 s2_0, .int .i64 s2_1, .int .i64 s2_2, .int .i64 s2_3, .int .i64 s2_4, .int .i64 s2_5]); have hb7 := hbz.trans (HQ.out.below.mono hbz.size); (try replace HU := Lib.hid (HU.out.below hb7 HU.out.lt)); have HB := Lib.hid HQ.out.holds; clear HQ hbz; (try replace HRT := Lib.hid ((HRT.out.below hb7).mono hb7.size)); replace HX := Lib.hid (HX.out.next hb7); clear hb7; (try clear c0 c1 c2 c3); obtain ⟨c0, c1, c2, c3⟩ := HX.out.tab4))
      obtain ⟨bb, hbb⟩ : ∃ b, w7.heap.size = b := ⟨_, rfl⟩
      simp only [hbb] at HB ⊢
      clear hbb
      replace HX := Lib.hid HX.out.drew
      replace HU := Lib.hid (HU.out.below (Below.refl _ _).drew HU.out.lt)
      replace HB := Lib.hid (HB.out.below (Below.refl _ _).drew HB.out.lt)
      (try clear u0 u1 u2 u3 u4 u5)
      refine region_turns (fun (w' : World) => w'.cell? ⟨bb, 0, none⟩ = some (.int .i64 s2_0) ∧ w'.cell? ⟨bb, 1, none⟩ = some (.int .i64 s2_1) ∧ w'.cell? ⟨bb, 2, none⟩ = some (.int .i64 s2_2) ∧ w'.cell? ⟨bb, 3, none⟩ = some (.int .i64 s2_3) ∧ w'.cell? ⟨bb, 4, none⟩ = some (.int .i64 s2_4) ∧ w'.cell? ⟨bb, 5, none⟩ = some (.int .i64 s2_5) ∧ w'.cell? ⟨w.heap.size + 1, 0, none⟩ = some (.int .i64 s2_0) ∧ w'.cell? ⟨w.heap.size + 1, 1, none⟩ = some (.int .i64 s2_1) ∧ w'.cell? ⟨w.heap.size + 1, 2, none⟩ = some (.int .i64 s2_2) ∧ w'.cell? ⟨w.heap.size + 1, 3, none⟩ = some (.int .i64 s2_3) ∧ w'.cell? ⟨w.heap.size + 1, 4, none⟩ = some (.int .i64 s2_4) ∧ w'.cell? ⟨w.heap.size + 1, 5, none⟩ = some (.int .i64 s2_5)) (fun j => decide (9 ≤ j)) (by kernel_rfl) (⟨HB.out.cell 0, HB.out.cell 1, HB.out.cell 2, HB.out.cell 3, HB.out.cell 4, HB.out.cell 5, HU.out.cell 0, HU.out.cell 1, HU.out.cell 2, HU.out.cell 3, HU.out.cell 4, HU.out.cell 5⟩) (fun hS => ?_)
      refine Turns.take hS 0 _ rfl (by kernel_rfl) (by kernel_rfl) (by kernel_rfl) (by kernel_rfl) (fun _ _ _ h => h) (by rfl) (fun w' hS' => by (try dsimp only at hS'); go_split_ands; go_simp; (try with_reducible rfl)) ?_
      simp only [Act.put, List.getElem_toArray, List.getElem_cons_succ, List.getElem_cons_zero, List.setIfInBounds_toArray, List.set_cons_zero, List.set_cons_succ]
      refine Turns.take hS 1 _ rfl (by kernel_rfl) (by kernel_rfl) (by kernel_rfl) (by kernel_rfl) (fun _ _ _ h => h) (by rfl) (fun w' hS' => by (try dsimp only at hS'); go_split_ands; go_simp; (try with_reducible rfl)) ?_
      simp only [Act.put, List.getElem_toArray, List.getElem_cons_succ, List.getElem_cons_zero, List.setIfInBounds_toArray, List.set_cons_zero, List.set_cons_succ]
      refine Turns.take hS 2 _ rfl (by kernel_rfl) (by kernel_rfl) (by kernel_rfl) (by kernel_rfl) (fun _ _ _ h => h) (by rfl) (fun w' hS' => by (try dsimp only at hS'); go_split_ands; go_simp; (try with_reducible rfl)) ?_
      simp only [Act.put, List.getElem_toArray, List.getElem_cons_succ, List.getElem_cons_zero, List.setIfInBounds_toArray, List.set_cons_zero, List.set_cons_succ]
      refine Turns.take hS 3 _ rfl (by kernel_rfl) (by kernel_rfl) (by kernel_rfl) (by kernel_rfl) (fun _ _ _ h => h) (by rfl) (fun w' hS' => by (try dsimp only at hS'); go_split_ands; go_simp; (try with_reducible rfl)) ?_
      simp only [Act.put, List.getElem_toArray, List.getElem_cons_succ, List.getElem_cons_zero, List.setIfInBounds_toArray, List.set_cons_zero, List.set_cons_succ]
      refine Turns.take hS 5 _ rfl (by kernel_rfl) (by kernel_rfl) (by kernel_rfl) (by kernel_rfl) (fun _ _ _ h => h) (by rfl) (fun w' hS' => by (try dsimp only at hS'); go_split_ands; go_simp; (try with_reducible rfl)) ?_
      simp only [Act.put, List.getElem_toArray, List.getElem_cons_succ, List.getElem_cons_zero, List.setIfInBounds_toArray, List.set_cons_zero, List.set_cons_succ]
      refine Turns.next 4 rfl (by kernel_rfl) (by rfl) (fun K hK => ?_)
      go_simp
      go_at_call 15
      refine (plain_any s2_0 s2_1 s2_2 s2_3 s2_4 s2_5 _).mono ?_
      rintro e v4 ⟨rfl, hbt⟩
      replace HX := Lib.hid (HX.out.next hbt)
      replace HU := Lib.hid (HU.out.below hbt HU.out.lt)
      replace HB := Lib.hid (HB.out.below hbt HB.out.lt)
      clear hbt
      refine hK.out _ _ (show (fun (w' : World) => w'.cell? ⟨bb, 0, none⟩ = some (.int .i64 s2_0) ∧ w'.cell? ⟨bb, 1, none⟩ = some (.int .i64 s2_1) ∧ w'.cell? ⟨bb, 2, none⟩ = some (.int .i64 s2_2) ∧ w'.cell? ⟨bb, 3, none⟩ = some (.int .i64 s2_3) ∧ w'.cell? ⟨bb, 4, none⟩ = some (.int .i64 s2_4) ∧ w'.cell? ⟨bb, 5, none⟩ = some (.int .i64 s2_5) ∧ w'.cell? ⟨w.heap.size + 1, 0, none⟩ = some (.int .i64 s2_0) ∧ w'.cell? ⟨w.heap.size + 1, 1, none⟩ = some (.int .i64 s2_1) ∧ w'.cell? ⟨w.heap.size + 1, 2, none⟩ = some (.int .i64 s2_2) ∧ w'.cell? ⟨w.heap.size + 1, 3, none⟩ = some (.int .i64 s2_3) ∧ w'.cell? ⟨w.heap.size + 1, 4, none⟩ = some (.int .i64 s2_4) ∧ w'.cell? ⟨w.heap.size + 1, 5, none⟩ = some (.int .i64 s2_5)) _ from ⟨HB.out.cell 0, HB.out.cell 1, HB.out.cell 2, HB.out.cell 3, HB.out.cell 4, HB.out.cell 5, HU.out.cell 0, HU.out.cell 1, HU.out.cell 2, HU.out.cell 3, HU.out.cell 4, HU.out.cell 5⟩) ?_
      clear hK K hS
      have hS := (show (fun (w' : World) => w'.cell? ⟨bb, 0, none⟩ = some (.int .i64 s2_0) ∧ w'.cell? ⟨bb, 1, none⟩ = some (.int .i64 s2_1) ∧ w'.cell? ⟨bb, 2, none⟩ = some (.int .i64 s2_2) ∧ w'.cell? ⟨bb, 3, none⟩ = some (.int .i64 s2_3) ∧ w'.cell? ⟨bb, 4, none⟩ = some (.int .i64 s2_4) ∧ w'.cell? ⟨bb, 5, none⟩ = some (.int .i64 s2_5) ∧ w'.cell? ⟨w.heap.size + 1, 0, none⟩ = some (.int .i64 s2_0) ∧ w'.cell? ⟨w.heap.size + 1, 1, none⟩ = some (.int .i64 s2_1) ∧ w'.cell? ⟨w.heap.size + 1, 2, none⟩ = some (.int .i64 s2_2) ∧ w'.cell? ⟨w.heap.size + 1, 3, none⟩ = some (.int .i64 s2_3) ∧ w'.cell? ⟨w.heap.size + 1, 4, none⟩ = some (.int .i64 s2_4) ∧ w'.cell? ⟨w.heap.size + 1, 5, none⟩ = some (.int .i64 s2_5)) _ from ⟨HB.out.cell 0, HB.out.cell 1, HB.out.cell 2, HB.out.cell 3, HB.out.cell 4, HB.out.cell 5, HU.out.cell 0, HU.out.cell 1, HU.out.cell 2, HU.out.cell 3, HU.out.cell 4, HU.out.cell 5⟩)
      refine Turns.take hS 6 _ rfl (by kernel_rfl) (by kernel_rfl) (by kernel_rfl) (by kernel_rfl) (fun _ _ _ h => h) (by rfl) (fun w' hS' => by (try dsimp only at hS'); go_split_ands; go_simp; (try with_reducible rfl)) ?_
      simp only [Act.put, List.getElem_toArray, List.getElem_cons_succ, List.getElem_cons_zero, List.setIfInBounds_toArray, List.set_cons_zero, List.set_cons_succ]
      refine Turns.take hS 7 _ rfl (by kernel_rfl) (by kernel_rfl) (by kernel_rfl) (by kernel_rfl) (fun _ _ _ h => h) (by rfl) (fun w' hS' => by (try dsimp only at hS'); go_split_ands; go_simp; (try with_reducible rfl)) ?_
      simp only [Act.put, List.getElem_toArray, List.getElem_cons_succ, List.getElem_cons_zero, List.setIfInBounds_toArray, List.set_cons_zero, List.set_cons_succ]
      refine Turns.take hS 8 _ rfl (by kernel_rfl) (by kernel_rfl) (by kernel_rfl) (by kernel_rfl) (fun _ _ _ h => h) (by rfl) (fun w' hS' => by (try dsimp only at hS'); go_split_ands; go_simp; (try with_reducible rfl)) ?_
      simp only [Act.put, List.getElem_toArray, List.getElem_cons_succ, List.getElem_cons_zero, List.setIfInBounds_toArray, List.set_cons_zero, List.set_cons_succ]
      refine Turns.rest (late_done (by kernel_rfl)) ?_
      refine any_tail 9 (by rfl) (by kernel_rfl) ?_
      simp only [List.drop_succ_cons, List.drop_zero]
      clear hS
      go_wp2
      go_ret
      exact ⟨rfl, HX.out.below⟩
    · subst hx1
      have hx3 : (x != 0) = true := by simp [hx2]
      have hx4 := beq_no hx2
      clear g hrow hfits hnl h0 h64 f1 hxe
      go_enter Tryd.func4, Tryd.ntmps4
      go_wp2_with (first
        | (go_at_call 9; refine (alive_yes _ (HT.out.below HX.out.below)).mono ?_; rintro e w1 ⟨rfl, hb1⟩; (try replace HRT := Lib.hid ((HRT.out.below hb1).mono hb1.size)); replace HX := Lib.hid (HX.out.next hb1); (try replace HU := Lib.hid (HU.out.below hb1 HU.out.lt)); clear hb1; (try clear c0 c1 c2 c3); obtain ⟨c0, c1, c2, c3⟩ := HX.out.tab4)
        | (go_at_call 10; refine (HMD.out _ HX.out.below).mono ?_; intro e w2 hp; obtain ⟨q, rfl, hr, hb2⟩ := HMY.out _ _ _ hp; clear hp; (try replace HRT := Lib.hid ((HRT.out.below hb2).mono hb2.size)); replace HX := Lib.hid (HX.out.next hb2); (try replace HU := Lib.hid (HU.out.below hb2 HU.out.lt)); clear hb2; (try clear c0 c1 c2 c3); obtain ⟨c0, c1, c2, c3⟩ := HX.out.tab4; have HRT := Lib.hid hr; clear hr; (try clear u0 u1 u2 u3 u4 u5); have u0 := HU.out.cell 0; have u1 := HU.out.cell 1; have u2 := HU.out.cell 2; have u3 := HU.out.cell 3; have u4 := HU.out.cell 4; have u5 := HU.out.cell 5)
        | (go_at_call 10; refine (HMD.out _ HX.out.below).mono ?_; intro e w2 hp; obtain ⟨rfl, hb2⟩ := HMN.out _ _ _ hp; clear hp; (try replace HRT := Lib.hid ((HRT.out.below hb2).mono hb2.size)); replace HX := Lib.hid (HX.out.next hb2); (try replace HU := Lib.hid (HU.out.below hb2 HU.out.lt)); clear hb2; (try clear c0 c1 c2 c3); obtain ⟨c0, c1, c2, c3⟩ := HX.out.tab4)
        | (go_at_call 11; with_reducible refine (HM1.out _ _ HRT.out).mono ?_; rintro e w3 ⟨rfl, hbz⟩; have HQ := Lib.hid (Box.start w3 35 #[.int .i64 0, .int .i64 0, .int .i64 0, .int .i64 0, .int .i64 0, .int .i64 0]); have hb3 := hbz.trans (HQ.out.below.mono hbz.size); (try replace HU := Lib.hid (HU.out.below hb3 HU.out.lt)); have HA := Lib.hid HQ.out.holds; clear HQ hbz; (try replace HRT := Lib.hid ((HRT.out.below hb3).mono hb3.size)); replace HX := Lib.hid (HX.out.next hb3); clear hb3; (try clear c0 c1 c2 c3); obtain ⟨c0, c1, c2, c3⟩ := HX.out.tab4; (try clear u0 u1 u2 u3 u4 u5); have u0 := HU.out.cell 0; have u1 := HU.out.cell 1; have u2 := HU.out.cell 2; have u3 := HU.out.cell 3; have u4 := HU.out.cell 4; have u5 := HU.out.cell 5)
        | (go_at_call 11; with_reducible refine (HO1.out _ _ HRT.out).mono ?_; rintro e w3 ⟨rfl, hbz⟩; have HQ := Lib.hid (Box.start w3 35 #[.int .i64 ya, .int .i64 ma, .int .i64 da, .int .i64 Ha, .int .i64 Ma, .int .i64 Sa]); have hb3 := hbz.trans (HQ.out.below.mono hbz.size); (try replace HU := Lib.hid (HU.out.below hb3 HU.out.lt)); have HA := Lib.hid HQ.out.holds; clear HQ hbz; (try replace HRT := Lib.hid ((HRT.out.below hb3).mono hb3.size)); replace HX := Lib.hid (HX.out.next hb3); clear hb3; (try clear c0 c1 c2 c3); obtain ⟨c0, c1, c2, c3⟩ := HX.out.tab4; (try clear u0 u1 u2 u3 u4 u5); have u0 := HU.out.cell 0; have u1 := HU.out.cell 1; have u2 := HU.out.cell 2; have u3 := HU.out.cell 3; have u4 := HU.out.cell 4; have u5 := HU.out.cell 5; (try clear x0 x1 x2 x3 x4 x5); have x0 := HA.out.cell 0; have x1 := HA.out.cell 1; have x2 := HA.out.cell 2; have x3 := HA.out.cell 3; have x4 := HA.out.cell 4; have x5 := HA.out.cell 5)
        | (go_at_call 12; with_reducible refine (HT1.out _ _ HRT.out).mono ?_; rintro e w4 ⟨rfl, hb4⟩; clear HT1; (try replace HRT := Lib.hid ((HRT.out.below hb4).mono hb4.size)); replace HX := Lib.hid (HX.out.next hb4); (try replace HU := Lib.hid (HU.out.below hb4 HU.out.lt)); clear hb4; (try clear c0 c1 c2 c3); obtain ⟨c0, c1, c2, c3⟩ := HX.out.tab4; (try clear u0 u1 u2 u3 u4 u5); have u0 := HU.out.cell 0; have u1 := HU.out.cell 1; have u2 := HU.out.cell 2; have u3 := HU.out.cell 3; have u4 := HU.out.cell 4; have u5 := HU.out.cell 5)
        | (go_at_call 13; refine (of_any s2_0 s2_1 s2_2 s2_3 s2_4 s2_5 _).mono ?_; rintro e w5 ⟨rfl, hb5⟩; (try replace HRT := Lib.hid ((HRT.out.below hb5).mono hb5.size)); replace HX := Lib.hid (HX.out.next hb5); (try replace HU := Lib.hid (HU.out.below hb5 HU.out.lt)); clear hb5; (try clear c0 c1 c2 c3); obtain ⟨c0, c1, c2, c3⟩ := HX.out.tab4; (try clear u0 u1 u2 u3 u4 u5); have u0 := HU.out.cell 0; have u1 := HU.out.cell 1; have u2 := HU.out.cell 2; have u3 := HU.out.cell 3; have u4 := HU.out.cell 4; have u5 := HU.out.cell 5)
        | (go_at_call 12; with_reducible refine (HT2.out _ _ HRT.out).mono ?_; rintro e w6 ⟨rfl, hb6⟩; (try replace HRT := Lib.hid ((HRT.out.below hb6).mono hb6.size)); replace HX := Lib.hid (HX.out.next hb6); (try replace HU := Lib.hid (HU.out.below hb6 HU.out.lt)); clear hb6; (try clear c0 c1 c2 c3); obtain ⟨c0, c1, c2, c3⟩ := HX.out.tab4; (try clear u0 u1 u2 u3 u4 u5); have u0 := HU.out.cell 0; have u1 := HU.out.cell 1; have u2 := HU.out.cell 2; have u3 := HU.out.cell 3; have u4 := HU.out.cell 4; have u5 := HU.out.cell 5)
        | (go_at_call 11; with_reducible refine (HO2.out _ _ HRT.out).mono ?_; rintro e w7 ⟨rfl, hbz⟩; have HQ := Lib.hid (Box.start w7 35 #[.int .i64 s2_0, .int .i64 s2_1, .int .i64 s2_2, .int .i64 s2_3, .int .i64 s2_4, .int .i64 s2_5]); have hb7 := hbz.trans (HQ.out.below.mono hbz.size); (try replace HU := Lib.hid (HU.out.below hb7 HU.out.lt)); have HB := Lib.hid HQ.out.holds; clear HQ hbz; (try replace HRT := Lib.hid ((HRT.out.below hb7).mono hb7.size)); replace HX := Lib.hid (HX.out.next hb7); clear hb7; (try clear c0 c1 c2 c3); obtain ⟨c0, c1, c2, c3⟩ := HX.out.tab4))
      go_ret
      exact ⟨rfl, HX.out.below⟩
  case pos =>
  obtain ⟨D, ha⟩ := ha
  obtain ⟨ya, ma, da, Ha, Ma, Sa, ha⟩ := isOf_ex g ha
  have HO1 := Lib.hid (fun W q h => of_hit g ha f1 q W h)
  have HT1 := Lib.hid (fun W q (h : Rt W W.heap.size q ⟨s0_0, s0_1, s0_2, L⟩) => utai_any q ya ma da Ha Ma Sa W g h)
  rw [tai_of g ha] at HT1
  dsimp only at HT1
  have d1 : (a1 != a1) = false := by simp
  clear ha
  rcases hx2 with hx2 | ⟨hx1, hx2⟩
  · subst hx2
    obtain ⟨hi, f2⟩ := of_tai g hxe
    have HO2 := Lib.hid (fun W q h => of_hit g hi f2 q W h)
    have q1 := rutc_eq_same s2_0 s2_1 s2_2 s2_3 s2_4 s2_5
    clear g hrow hfits hnl h0 h64 f1 hxe f2 hi
    go_enter Tryd.func4, Tryd.ntmps4
    go_upto_region 17 with (first
      | (go_at_call 9; refine (alive_yes _ (HT.out.below HX.out.below)).mono ?_; rintro e w1 ⟨rfl, hb1⟩; (try replace HRT := Lib.hid ((HRT.out.below hb1).mono hb1.size)); replace HX := Lib.hid (HX.out.next hb1); (try replace HU := Lib.hid (HU.out.below hb1 HU.out.lt)); clear hb1; (try clear c0 c1 c2 c3); obtain ⟨c0, c1, c2, c3⟩ := HX.out.tab4)
      | (go_at_call 10; refine (HMD.out _ HX.out.below).mono ?_; intro e w2 hp; obtain ⟨q, rfl, hr, hb2⟩ := HMY.out _ _ _ hp; clear hp; (try replace HRT := Lib.hid ((HRT.out.below hb2).mono hb2.size)); replace HX := Lib.hid (HX.out.next hb2); (try replace HU := Lib.hid (HU.out.below hb2 HU.out.lt)); clear hb2; (try clear c0 c1 c2 c3); obtain ⟨c0, c1, c2, c3⟩ := HX.out.tab4; have HRT := Lib.hid hr; clear hr; (try clear u0 u1 u2 u3 u4 u5); have u0 := HU.out.cell 0; have u1 := HU.out.cell 1; have u2 := HU.out.cell 2; have u3 := HU.out.cell 3; have u4 := HU.out.cell 4; have u5 := HU.out.cell 5)
      | (go_at_call 10; refine (HMD.out _ HX.out.below).mono ?_; intro e w2 hp; obtain ⟨rfl, hb2⟩ := HMN.out _ _ _ hp; clear hp; (try replace HRT := Lib.hid ((HRT.out.below hb2).mono hb2.size)); replace HX := Lib.hid (HX.out.next hb2); (try replace HU := Lib.hid (HU.out.below hb2 HU.out.lt)); clear hb2; (try clear c0 c1 c2 c3); obtain ⟨c0, c1, c2, c3⟩ := HX.out.tab4)
      | (go_at_call 11; with_reducible refine (HM1.out _ _ HRT.out).mono ?_; rintro e w3 ⟨rfl, hbz⟩; have HQ := Lib.hid (Box.start w3 35 #[.int .i64 0, .int .i64 0, .int .i64 0, .int .i64 0, .int .i64 0, .int .i64 0]); have hb3 := hbz.trans (HQ.out.below.mono hbz.size); (try replace HU := Lib.hid (HU.out.below hb3 HU.out.lt)); have HA := Lib.hid HQ.out.holds; clear HQ hbz; (try replace HRT := Lib.hid ((HRT.out.below hb3).mono hb3.size)); replace HX := Lib.hid (HX.out.next hb3); clear hb3; (try clear c0 c1 c2 c3); obtain ⟨c0, c1, c2, c3⟩ := HX.out.tab4; (try clear u0 u1 u2 u3 u4 u5); have u0 := HU.out.cell 0; have u1 := HU.out.cell 1; have u2 := HU.out.cell 2; have u3 := HU.out.cell 3; have u4 := HU.out.cell 4; have u5 := HU.out.cell 5)
      | (go_at_call 11; with_reducible refine (HO1.out _ _ HRT.out).mono ?_; rintro e w3 ⟨rfl, hbz⟩; have HQ := Lib.hid (Box.start w3 35 #[.int .i64 ya, .int .i64 ma, .int .i64 da, .int .i64 Ha, .int .i64 Ma, .int .i64 Sa]); have hb3 := hbz.trans (HQ.out.below.mono hbz.size); (try replace HU := Lib.hid (HU.out.below hb3 HU.out.lt)); have HA := Lib.hid HQ.out.holds; clear HQ hbz; (try replace HRT := Lib.hid ((HRT.out.below hb3).mono hb3.size)); replace HX := Lib.hid (HX.out.next hb3); clear hb3; (try clear c0 c1 c2 c3); obtain ⟨c0, c1, c2, c3⟩ := HX.out.tab4; (try clear u0 u1 u2 u3 u4 u5); have u0 := HU.out.cell 0; have u1 := HU.out.cell 1; have u2 := HU.out.cell 2; have u3 := HU.out.cell 3; have u4 := HU.out.cell 4; have u5 := HU.out.cell 5; (try clear x0 x1 x2 x3 x4 x5); have x0 := HA.out.cell 0; have x1 := HA.out.cell 1; have x2 := HA.out.cell 2; have x3 := HA.out.cell 3; have x4 := HA.out.cell 4; have x5 := HA.out.cell 5)
      | (go_at_call 12; with_reducible refine (HT1.out _ _ HRT.out).mono ?_; rintro e w4 ⟨rfl, hb4⟩; clear HT1; (try replace HRT := Lib.hid ((HRT.out.below hb4).mono hb4.size)); replace HX := Lib.hid (HX.out.next hb4); (try replace HU := Lib.hid (HU.out.below hb4 HU.out.lt)); clear hb4; (try clear c0 c1 c2 c3); obtain ⟨c0, c1, c2, c3⟩ := HX.out.tab4; (try clear u0 u1 u2 u3 u4 u5); have u0 := HU.out.cell 0; have u1 := HU.out.cell 1; have u2 := HU.out.cell 2; have u3 := HU.out.cell 3; have u4 := HU.out.cell 4; have u5 := HU.out.cell 5)
      | (go_at_call 13; refine (of_any s2_0 s2_1 s2_2 s2_3 s2_4 s2_5 _).mono ?_; rintro e w5 ⟨rfl, hb5⟩; (try replace HRT := Lib.hid ((HRT.out.below hb5).mono hb5.size)); replace HX := Lib.hid (HX.out.next hb5); (try replace HU := Lib.hid (HU.out.below hb5 HU.out.lt)); clear hb5; (try clear c0 c1 c2 c3); obtain ⟨c0, c1, c2, c3⟩ := HX.out.tab4; (try clear u0 u1 u2 u3 u4 u5); have u0 := HU.out.cell 0; have u1 := HU.out.cell 1; have u2 := HU.out.cell 2; have u3 := HU.out.cell 3; have u4 := HU.out.cell 4; have u5 := HU.out.cell 5)
      | (go_at_call 12; with_reducible refine (HT2.out _ _ HRT.out).mono ?_; rintro e w6 ⟨rfl, hb6⟩; (try replace HRT := Lib.hid ((HRT.out.below hb6).mono hb6.size)); replace HX := Lib.hid (HX.out.next hb6); (try replace HU := Lib.hid (HU.out.below hb6 HU.out.lt)); clear hb6; (try clear c0 c1 c2 c3); obtain ⟨c0, c1, c2, c3⟩ := HX.out.tab4; (try clear u0 u1 u2 u3 u4 u5); have u0 := HU.out.cell 0; have u1 := HU.out.cell 1; have u2 := HU.out.cell 2; have u3 := HU.out.cell 3; have u4 := HU.out.cell 4; have u5 := HU.out.cell 5)
      | (go_at_call 11; with_reducible refine (HO2.out _ _ HRT.out).mono ?_; rintro e w7 ⟨rfl, hbz⟩; have HQ := Lib.hid (Box.start w7 35 #[.int .i64 s2_0, .int .i64 s2_1, .int .i64 s2_2, .int .i64 s2_3, .int .i64 s2_4, .int .i64 s2_5]); have hb7 := hbz.trans (HQ.out.below.mono hbz.size); (try replace HU := Lib.hid (HU.out.below hb7 HU.out.lt)); have HB := Lib.hid HQ.out.holds; clear HQ hbz; (try replace HRT := Lib.hid ((HRT.out.below hb7).mono hb7.size)); replace HX := Lib.hid (HX.out.next hb7); clear hb7; (try clear c0 c1 c2 c3); obtain ⟨c0, c1, c2, c3⟩ := HX.out.tab4))
    obtain ⟨bb, hbb⟩ : ∃ b, w7.heap.size = b := ⟨_, rfl⟩
    simp only [hbb] at HB ⊢
    clear hbb
    replace HX := Lib.hid HX.out.drew
    replace HU := Lib.hid (HU.out.below (Below.refl _ _).drew HU.out.lt)
    replace HB := Lib.hid (HB.out.below (Below.refl _ _).drew HB.out.lt)
    (try clear u0 u1 u2 u3 u4 u5)
    refine region_turns (fun (w' : World) => w'.cell? ⟨bb, 0, none⟩ = some (.int .i64 s2_0) ∧ w'.cell? ⟨bb, 1, none⟩ = some (.int .i64 s2_1) ∧ w'.cell? ⟨bb, 2, none⟩ = some (.int .i64 s2_2) ∧ w'.cell? ⟨bb, 3, none⟩ = some (.int .i64 s2_3) ∧ w'.cell? ⟨bb, 4, none⟩ = some (.int .i64 s2_4) ∧ w'.cell? ⟨bb, 5, none⟩ = some (.int .i64 s2_5) ∧ w'.cell? ⟨w.heap.size + 1, 0, none⟩ = some (.int .i64 s2_0) ∧ w'.cell? ⟨w.heap.size + 1, 1, none⟩ = some (.int .i64 s2_1) ∧ w'.cell? ⟨w.heap.size + 1, 2, none⟩ = some (.int .i64 s2_2) ∧ w'.cell? ⟨w.heap.size + 1, 3, none⟩ = some (.int .i64 s2_3) ∧ w'.cell? ⟨w.heap.size + 1, 4, none⟩ = some (.int .i64 s2_4) ∧ w'.cell? ⟨w.heap.size + 1, 5, none⟩ = some (.int .i64 s2_5)) (fun j => decide (9 ≤ j)) (by kernel_rfl) (⟨HB.out.cell 0, HB.out.cell 1, HB.out.cell 2, HB.out.cell 3, HB.out.cell 4, HB.out.cell 5, HU.out.cell 0, HU.out.cell 1, HU.out.cell 2, HU.out.cell 3, HU.out.cell 4, HU.out.cell 5⟩) (fun hS => ?_)
    refine Turns.take hS 0 _ rfl (by kernel_rfl) (by kernel_rfl) (by kernel_rfl) (by kernel_rfl) (fun _ _ _ h => h) (by rfl) (fun w' hS' => by (try dsimp only at hS'); go_split_ands; go_simp; (try with_reducible rfl)) ?_
    simp only [Act.put, List.getElem_toArray, List.getElem_cons_succ, List.getElem_cons_zero, List.setIfInBounds_toArray, List.set_cons_zero, List.set_cons_succ]
    refine Turns.take hS 1 _ rfl (by kernel_rfl) (by kernel_rfl) (by kernel_rfl) (by kernel_rfl) (fun _ _ _ h => h) (by rfl) (fun w' hS' => by (try dsimp only at hS'); go_split_ands; go_simp; (try with_reducible rfl)) ?_
    simp only [Act.put, List.getElem_toArray, List.getElem_cons_succ, List.getElem_cons_zero, List.setIfInBounds_toArray, List.set_cons_zero, List.set_cons_succ]
    refine Turns.take hS 2 _ rfl (by kernel_rfl) (by kernel_rfl) (by kernel_rfl) (by kernel_rfl) (fun _ _ _ h => h) (by rfl) (fun w' hS' => by (try dsimp only at hS'); go_split_ands; go_simp; (try with_reducible rfl)) ?_
    simp only [Act.put, List.getElem_toArray, List.getElem_cons_succ, List.getElem_cons_zero, List.setIfInBounds_toArray, List.set_cons_zero, List.set_cons_succ]
    refine Turns.take hS 3 _ rfl (by kernel_rfl) (by kernel_rfl) (by kernel_rfl) (by kernel_rfl) (fun _ _ _ h => h) (by rfl) (fun w' hS' => by (try dsimp only at hS'); go_split_ands; go_simp; (try with_reducible rfl)) ?_
    simp only [Act.put, List.getElem_toArray, List.getElem_cons_succ, List.getElem_cons_zero, List.setIfInBounds_toArray, List.set_cons_zero, List.set_cons_succ]
    refine Turns.take hS 5 _ rfl (by kernel_rfl) (by kernel_rfl) (by kernel_rfl) (by kernel_rfl) (fun _ _ _ h => h) (by rfl) (fun w' hS' => by (try dsimp only at hS'); go_split_ands; go_simp; (try with_reducible rfl)) ?_
    simp only [Act.put, List.getElem_toArray, List.getElem_cons_succ, List.getElem_cons_zero, List.setIfInBounds_toArray, List.set_cons_zero, List.set_cons_succ]
    refine Turns.next 4 rfl (by kernel_rfl) (by rfl) (fun K hK => ?_)
    go_simp
    go_at_call 15
    refine (plain_any s2_0 s2_1 s2_2 s2_3 s2_4 s2_5 _).mono ?_
    rintro e v4 ⟨rfl, hbt⟩
    replace HX := Lib.hid (HX.out.next hbt)
    replace HU := Lib.hid (HU.out.below hbt HU.out.lt)
    replace HB := Lib.hid (HB.out.below hbt HB.out.lt)
    clear hbt
    refine hK.out _ _ (show (fun (w' : World) => w'.cell? ⟨bb, 0, none⟩ = some (.int .i64 s2_0) ∧ w'.cell? ⟨bb, 1, none⟩ = some (.int .i64 s2_1) ∧ w'.cell? ⟨bb, 2, none⟩ = some (.int .i64 s2_2) ∧ w'.cell? ⟨bb, 3, none⟩ = some (.int .i64 s2_3) ∧ w'.cell? ⟨bb, 4, none⟩ = some (.int .i64 s2_4) ∧ w'.cell? ⟨bb, 5, none⟩ = some (.int .i64 s2_5) ∧ w'.cell? ⟨w.heap.size + 1, 0, none⟩ = some (.int .i64 s2_0) ∧ w'.cell? ⟨w.heap.size + 1, 1, none⟩ = some (.int .i64 s2_1) ∧ w'.cell? ⟨w.heap.size + 1, 2, none⟩ = some (.int .i64 s2_2) ∧ w'.cell? ⟨w.heap.size + 1, 3, none⟩ = some (.int .i64 s2_3) ∧ w'.cell? ⟨w.heap.size + 1, 4, none⟩ = some (.int .i64 s2_4) ∧ w'.cell? ⟨w.heap.size + 1, 5, none⟩ = some (.int .i64 s2_5)) _ from ⟨HB.out.cell 0, HB.out.cell 1, HB.out.cell 2, HB.out.cell 3, HB.out.cell 4, HB.out.cell 5, HU.out.cell 0, HU.out.cell 1, HU.out.cell 2, HU.out.cell 3, HU.out.cell 4, HU.out.cell 5⟩) ?_
    clear hK K hS
    have hS := (show (fun (w' : World) => w'.cell? ⟨bb, 0, none⟩ = some (.int .i64 s2_0) ∧ w'.cell? ⟨bb, 1, none⟩ = some (.int .i64 s2_1) ∧ w'.cell? ⟨bb, 2, none⟩ = some (.int .i64 s2_2) ∧ w'.cell? ⟨bb, 3, none⟩ = some (.int .i64 s2_3) ∧ w'.cell? ⟨bb, 4, none⟩ = some (.int .i64 s2_4) ∧ w'.cell? ⟨bb, 5, none⟩ = some (.int .i64 s2_5) ∧ w'.cell? ⟨w.heap.size + 1, 0, none⟩ = some (.int .i64 s2_0) ∧ w'.cell? ⟨w.heap.size + 1, 1, none⟩ = some (.int .i64 s2_1) ∧ w'.cell? ⟨w.heap.size + 1, 2, none⟩ = some (.int .i64 s2_2) ∧ w'.cell? ⟨w.heap.size + 1, 3, none⟩ = some (.int .i64 s2_3) ∧ w'.cell? ⟨w.heap.size + 1, 4, none⟩ = some (.int .i64 s2_4) ∧ w'.cell? ⟨w.heap.size + 1, 5, none⟩ = some (.int .i64 s2_5)) _ from ⟨HB.out.cell 0, HB.out.cell 1, HB.out.cell 2, HB.out.cell 3, HB.out.cell 4, HB.out.cell 5, HU.out.cell 0, HU.out.cell 1, HU.out.cell 2, HU.out.cell 3, HU.out.cell 4, HU.out.cell 5⟩)
    refine Turns.take hS 6 _ rfl (by kernel_rfl) (by kernel_rfl) (by kernel_rfl) (by kernel_rfl) (fun _ _ _ h => h) (by rfl) (fun w' hS' => by (try dsimp only at hS'); go_split_ands; go_simp; (try with_reducible rfl)) ?_
    simp only [Act.put, List.getElem_toArray, List.getElem_cons_succ, List.getElem_cons_zero, List.setIfInBounds_toArray, List.set_cons_zero, List.set_cons_succ]
    refine Turns.take hS 7 _ rfl (by kernel_rfl) (by kernel_rfl) (by kernel_rfl) (by kernel_rfl) (fun _ _ _ h => h) (by rfl) (fun w' hS' => by (try dsimp only at hS'); go_split_ands; go_simp; (try with_reducible rfl)) ?_
    simp only [Act.put, List.getElem_toArray, List.getElem_cons_succ, List.getElem_cons_zero, List.setIfInBounds_toArray, List.set_cons_zero, List.set_cons_succ]
    refine Turns.take hS 8 _ rfl (by kernel_rfl) (by kernel_rfl) (by kernel_rfl) (by kernel_rfl) (fun _ _ _ h => h) (by rfl) (fun w' hS' => by (try dsimp only at hS'); go_split_ands; go_simp; (try with_reducible rfl)) ?_
    simp only [Act.put, List.getElem_toArray, List.getElem_cons_succ, List.getElem_cons_zero, List.setIfInBounds_toArray, List.set_cons_zero, List.set_cons_succ]
    refine Turns.rest (late_done (by kernel_rfl)) ?_
    refine any_tail 9 (by rfl) (by kernel_rfl) ?_
    simp only [List.drop_succ_cons, List.drop_zero]
    clear hS
    go_wp2
    go_ret
    exact ⟨rfl, HX.out.below⟩
  · subst hx1
    have hx3 : (x != 0) = true := by simp [hx2]
    have hx4 := beq_no hx2
    clear g hrow hfits hnl h0 h64 f1 hxe
    go_enter Tryd.func4, Tryd.ntmps4
    go_wp2_with (first
      | (go_at_call 9; refine (alive_yes _ (HT.out.below HX.out.below)).mono ?_; rintro e w1 ⟨rfl, hb1⟩; (try replace HRT := Lib.hid ((HRT.out.below hb1).mono hb1.size)); replace HX := Lib.hid (HX.out.next hb1); (try replace HU := Lib.hid (HU.out.below hb1 HU.out.lt)); clear hb1; (try clear c0 c1 c2 c3); obtain ⟨c0, c1, c2, c3⟩ := HX.out.tab4)
      | (go_at_call 10; refine (HMD.out _ HX.out.below).mono ?_; intro e w2 hp; obtain ⟨q, rfl, hr, hb2⟩ := HMY.out _ _ _ hp; clear hp; (try replace HRT := Lib.hid ((HRT.out.below hb2).mono hb2.size)); replace HX := Lib.hid (HX.out.next hb2); (try replace HU := Lib.hid (HU.out.below hb2 HU.out.lt)); clear hb2; (try clear c0 c1 c2 c3); obtain ⟨c0, c1, c2, c3⟩ := HX.out.tab4; have HRT := Lib.hid hr; clear hr; (try clear u0 u1 u2 u3 u4 u5); have u0 := HU.out.cell 0; have u1 := HU.out.cell 1; have u2 := HU.out.cell 2; have u3 := HU.out.cell 3; have u4 := HU.out.cell 4; have u5 := HU.out.cell 5)
      | (go_at_call 10; refine (HMD.out _ HX.out.below).mono ?_; intro e w2 hp; obtain ⟨rfl, hb2⟩ := HMN.out _ _ _ hp; clear hp; (try replace HRT := Lib.hid ((HRT.out.below hb2).mono hb2.size)); replace HX := Lib.hid (HX.out.next hb2); (try replace HU := Lib.hid (HU.out.below hb2 HU.out.lt)); clear hb2; (try clear c0 c1 c2 c3); obtain ⟨c0, c1, c2, c3⟩ := HX.out.tab4)
      | (go_at_call 11; with_reducible refine (HM1.out _ _ HRT.out).mono ?_; rintro e w3 ⟨rfl, hbz⟩; have HQ := Lib.hid (Box.start w3 35 #[.int .i64 0, .int .i64 0, .int .i64 0, .int .i64 0, .int .i64 0, .int .i64 0]); have hb3 := hbz.trans (HQ.out.below.mono hbz.size); (try replace HU := Lib.hid (HU.out.below hb3 HU.out.lt)); have HA := Lib.hid HQ.out.holds; clear HQ hbz; (try replace HRT := Lib.hid ((HRT.out.below hb3).mono hb3.size)); replace HX := Lib.hid (HX.out.next hb3); clear hb3; (try clear c0 c1 c2 c3); obtain ⟨c0, c1, c2, c3⟩ := HX.out.tab4; (try clear u0 u1 u2 u3 u4 u5); have u0 := HU.out.cell 0; have u1 := HU.out.cell 1; have u2 := HU.out.cell 2; have u3 := HU.out.cell 3; have u4 := HU.out.cell 4; have u5 := HU.out.cell 5)
      | (go_at_call 11; with_reducible refine (HO1.out _ _ HRT.out).mono ?_; rintro e w3 ⟨rfl, hbz⟩; have HQ := Lib.hid (Box.start w3 35 #[.int .i64 ya, .int .i64 ma, .int .i64 da, .int .i64 Ha, .int .i64 Ma, .int .i64 Sa]); have hb3 := hbz.trans (HQ.out.below.mono hbz.size); (try replace HU := Lib.hid (HU.out.below hb3 HU.out.lt)); have HA := Lib.hid HQ.out.holds; clear HQ hbz; (try replace HRT := Lib.hid ((HRT.out.below hb3).mono hb3.size)); replace HX := Lib.hid (HX.out.next hb3); clear hb3; (try clear c0 c1 c2 c3); obtain ⟨c0, c1, c2, c3⟩ := HX.out.tab4; (try clear u0 u1 u2 u3 u4 u5); have u0 := HU.out.cell 0; have u1 := HU.out.cell 1; have u2 := HU.out.cell 2; have u3 := HU.out.cell 3; have u4 := HU.out.cell 4; have u5 := HU.out.cell 5; (try clear x0 x1 x2 x3 x4 x5); have x0 := HA.out.cell 0; have x1 := HA.out.cell 1; have x2 := HA.out.cell 2; have x3 := HA.out.cell 3; have x4 := HA.out.cell 4; have x5 := HA.out.cell 5)
      | (go_at_call 12; with_reducible refine (HT1.out _ _ HRT.out).mono ?_; rintro e w4 ⟨rfl, hb4⟩; clear HT1; (try replace HRT := Lib.hid ((HRT.out.below hb4).mono hb4.size)); replace HX := Lib.hid (HX.out.next hb4); (try replace HU := Lib.hid (HU.out.below hb4 HU.out.lt)); clear hb4; (try clear c0 c1 c2 c3); obtain ⟨c0, c1, c2, c3⟩ := HX.out.tab4; (try clear u0 u1 u2 u3 u4 u5); have u0 := HU.out.cell 0; have u1 := HU.out.cell 1; have u2 := HU.out.cell 2; have u3 := HU.out.cell 3; have u4 := HU.out.cell 4; have u5 := HU.out.cell 5)
      | (go_at_call 13; refine (of_any s2_0 s2_1 s2_2 s2_3 s2_4 s2_5 _).mono ?_; rintro e w5 ⟨rfl, hb5⟩; (try replace HRT := Lib.hid ((HRT.out.below hb5).mono hb5.size)); replace HX := Lib.hid (HX.out.next hb5); (try replace HU := Lib.hid (HU.out.below hb5 HU.out.lt)); clear hb5; (try clear c0 c1 c2 c3); obtain ⟨c0, c1, c2, c3⟩ := HX.out.tab4; (try clear u0 u1 u2 u3 u4 u5); have u0 := HU.out.cell 0; have u1 := HU.out.cell 1; have u2 := HU.out.cell 2; have u3 := HU.out.cell 3; have u4 := HU.out.cell 4; have u5 := HU.out.cell 5)
      | (go_at_call 12; with_reducible refine (HT2.out _ _ HRT.out).mono ?_; rintro e w6 ⟨rfl, hb6⟩; (try replace HRT := Lib.hid ((HRT.out.below hb6).mono hb6.size)); replace HX := Lib.hid (HX.out.next hb6); (try replace HU := Lib.hid (HU.out.below hb6 HU.out.lt)); clear hb6; (try clear c0 c1 c2 c3); obtain ⟨c0, c1, c2, c3⟩ := HX.out.tab4; (try clear u0 u1 u2 u3 u4 u5); have u0 := HU.out.cell 0; have u1 := HU.out.cell 1; have u2 := HU.out.cell 2; have u3 := HU.out.cell 3; have u4 := HU.out.cell 4; have u5 := HU.out.cell 5)
      | (go_at_call 11; with_reducible refine (HO2.out _ _ HRT.out).mono ?_; rintro e w7 ⟨rfl, hbz⟩; have HQ := Lib.hid (Box.start w7 35 #[.int .i64 s2_0, .int .i64 s2_1, .int .i64 s2_2, .int .i64 s2_3, .int .i64 s2_4, .int .i64 s2_5]); have hb7 := hbz.trans (HQ.out.below.mono hbz.size); (try replace HU := Lib.hid (HU.out.below hb7 HU.out.lt)); have HB := Lib.hid HQ.out.holds; clear HQ hbz; (try replace HRT := Lib.hid ((HRT.out.below hb7).mono hb7.size)); replace HX := Lib.hid (HX.out.next hb7); clear hb7; (try clear c0 c1 c2 c3); obtain ⟨c0, c1, c2, c3⟩ := HX.out.tab4))
    go_ret
    exact ⟨rfl, HX.out.below⟩

set_option maxRecDepth 100000 in
theorem lifted (os : Os) (started : os.Started) (H : Type) (enc : TypeId × Value → H) :
    ReturnsInHanded {} Tryd.checked os 4 .any (fun w args => (Rows.utcBackSpec.pre enc Tryd.prog Tryd.f4 [] false w args ∧ laidMetH Tryd.prog laidTab w) ∧ sizedMet enc Tryd.prog Tryd.f4 (OpenSpec.ofChange Rows.utcBackSpec) false w args) (Rows.utcBackSpec.post enc Tryd.prog Tryd.f4 false true false false) := by
  refine returnsInHanded_of_change_and (C := Tryd.checked) (X := fun w _ => laidMetH Tryd.prog laidTab w) (fun _ _ _ hh h => h.of_heap hh) own started (by kernel_rfl) Tryd.func4
    (ChangeSpec.witness_shaped (enc := enc) (C := Tryd.checked) (os := os) (X := fun w _ => laidMetH Tryd.prog laidTab w) false (World.doorLaid Tryd.prog 14 os) #[.agg #[.int .i64 0, .int .i64 0, .int .i64 0, .slice none 0 0], .int .i64 0, .agg #[.int .i64 0, .int .i64 0, .int .i64 0, .int .i64 0, .int .i64 0, .int .i64 0]] 8 rfl (World.shaped_of_RefB (by kernel_rfl) (by kernel_rfl)) (by kernel_rfl) (by kernel_rfl) (by kernel_rfl) (door_met os _)) ?_
  intro W base args ds gs before hval0 hW _ _ hL _
  have hval : ∀ (j : Nat) t v, Tryd.f4.params[j]? = some t → args[j]? = some v → Value.okWide Tryd.prog W .any base t v := hval0
  have hW' := hW
  obtain ⟨p, q, hA0, hV, rfl, hfz, hnd⟩ := hW
  have hA : DataW.TrodAll enc Tryd.prog W 0 (fun _ => true) true Tryd.f4.params.toList args.toList ds p := hA0
  have hAk := hA
  rw [Tryd.params4] at hA hval
  obtain ⟨v0, vs0, d0, ds0, p0, q0, hargs, rfl, hp, h0, r0⟩ := trodAll_cons hA
  obtain ⟨v1, vs1, d1, ds1, p1, q1, rfl, rfl, rfl, h1, r1⟩ := trodAll_cons r0
  obtain ⟨v2, vs2, d2, ds2, p2, q2, rfl, rfl, rfl, h2, r2⟩ := trodAll_cons r1
  obtain ⟨rfl, rfl, rfl⟩ := trodAll_nil r2
  obtain rfl : args = #[v0, v1, v2] := by cases args; simp_all
  obtain ⟨rfl, rfl⟩ := trodVars_none hV
  clear hA0 hval0 hargs
  simp only [List.append_nil] at hW'
  have hend : ∀ W' : World, Below W.heap.size W W' → Rows.utcBackSpec.post enc Tryd.prog Tryd.f4 false true false false W #[v0, v1, v2] (.bool true) W' := fun W' hb =>
    law_post (tb := 4) hW' hAk rfl (by kernel_rfl) (by kernel_rfl) (by kernel_rfl) Tryd.underlying4 rfl rfl rfl hb
  clear hW' hAk hp
  obtain ⟨vs0', rfl, hfit0⟩ := flatS_arg (ks := [.p (.int .i64), .p (.int .i64), .p (.int .i64), .rows [.int .i64, .int .i64]]) 9 Tryd.underlying24 (by kernel_rfl) (hval 0 24 v0 rfl rfl) h0
  obtain ⟨s0_0, s0_1, s0_2, A0_3, n0_3, c0_3, f0_3, rfl, w0_0, w0_1, w0_2, w0_3⟩ := cells0 hfit0
  obtain ⟨a1, rfl, rfl, rfl, w1⟩ := open_int Tryd.underlying3 (hval 1 3 v1 rfl rfl) h1
  obtain ⟨vs2', rfl, hfit2⟩ := flat_arg (ks := [.int .i64, .int .i64, .int .i64, .int .i64, .int .i64, .int .i64]) 9 Tryd.underlying28 (by kernel_rfl) (hval 2 28 v2 rfl rfl) h2
  obtain ⟨s2_0, s2_1, s2_2, s2_3, s2_4, s2_5, rfl, w2_0, w2_1, w2_2, w2_3, w2_4, w2_5⟩ := cells2 hfit2
  refine (walk s0_0 s0_1 s0_2 A0_3 n0_3 c0_3 f0_3 a1 s2_0 s2_1 s2_2 s2_3 s2_4 s2_5 W w0_0 w0_1 w0_2 w0_3 w1 w2_0 w2_1 w2_2 w2_3 w2_4 w2_5 (tab_of_laid hL)).mono fun e W' ⟨he, hg⟩ => ?_
  subst he
  exact ⟨_, rfl, hend W' hg⟩

theorem over : Rows.utcBackRow.holds Tryd.pinned (OpenSpec.ofChange Rows.utcBackSpec) :=
  OpenClaim.holds_of_wide 4 Tryd.f4 rfl rfl rfl rfl rfl rfl rfl ⟨rfl, rfl, rfl, rfl, rfl⟩ rfl rfl rfl rfl rfl (by kernel_rfl) Tryd.func4 (by kernel_rfl)
    (of_decide_eq_true (by kernel_rfl)) (by unfold Func.isWrapper; first | (rw [if_pos (by decide +kernel)]; kernel_rfl) | (rw [if_neg (by decide +kernel)]; exact ⟨rfl, rfl⟩))
    (fun os started H enc _ => lifted os started H enc)

/-- THE STATEMENT: the tied card -/
theorem proved : Rows.UtcBackCardSaid :=
  Claim7.holds_tied_plain_at .later [] [.data, .data, .data] true (true, "4adff61b54aac8345feb7c502e14ef75a75b01c7aacf952f94604b724cf580c8") false
    over (fun _ h => by cases h) (by kernel_rfl) (fun _ h => by cases h) utcBack_row_tie rfl ⟨rfl, rfl⟩ (by kernel_rfl) rfl
    (fun f fn hf hfn => by
      obtain rfl : f = 4 := Option.some.inj ((show Tryd.prog.funcNamed "angelus/angeluslaw22.UtcBack" = some 4 by kernel_rfl).symm.trans hf) |>.symm
      obtain rfl : fn = Tryd.f4 := (Option.some.inj (Tryd.func4.symm.trans hfn)).symm
      exact ⟨by kernel_rfl, fun j t ht => by
        rw [Tryd.params4] at ht
        have hm : t ∈ [24, 3, 28] := by simpa using Array.mem_of_getElem? ht
        have hall : ([24, 3, 28].all fun u => !Tryd.prog.wantsStandIn u) = true := by kernel_rfl
        exact (show Tryd.prog.wantsStandIn t = false by simpa using List.all_eq_true.1 hall t hm)⟩)
    (by kernel_rfl)
#print axioms proved
end Go.Proofs.YtcknllkbeadmlaaDoor.utcBack
