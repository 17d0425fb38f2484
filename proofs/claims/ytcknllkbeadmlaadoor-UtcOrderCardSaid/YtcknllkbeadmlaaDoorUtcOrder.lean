/-
  Of two seconds of TAI the later one is a later one of UTC, and its text is greater; the same one is the same: for every table that can be, of at most 64 leaps, and all numbers.
  The walk is the prover's own; the frame of the row's step follows the kit's template.
-/
import Derived.Test.YtcknllkbeadmlaaDoorRows
import Derived.Test.YtcknllkbeadmlaaDoorLawKit
import Derived.Test.YtcknllkbeadmlaaDoorCards
import Derived.Test.YtcknllkbeadmlaaDoorTie
import Derived.SevenTiedAt
import Derived.Test.YtcknllkbeadmlaaDoorFlat
import Derived.Test.YtcknllkbeadmlaaDoorFlatS
import Derived.Test.YtcknllkbeadmlaaDoorUtL
namespace Go.Proofs.YtcknllkbeadmlaaDoor.utcOrder
open Go.ChangeShapes Go.WideShapes Go.ChangeAt Go.RowKit Go.ChangeMaps Go.WideElems
set_option linter.unusedVariables false

theorem cells0 {W : World} {vs : List Value} (h : FitS W [.p (.int .i64), .p (.int .i64), .p (.int .i64), .rows [.int .i64, .int .i64]] vs) : ∃ (s0 : Int) (s1 : Int) (s2 : Int) (A3 : Option Addr) (n3 c3 : Nat) (f3 : Nat → List Value), vs = [.int .i64 s0, .int .i64 s1, .int .i64 s2, .slice A3 n3 c3] ∧ (Lit.int .i64 s0).wf = true ∧ (Lit.int .i64 s1).wf = true ∧ (Lit.int .i64 s2).wf = true ∧ FlatRow W [.int .i64, .int .i64] A3 n3 c3 f3 := by
  match vs, h.length, h with
  | [y0, y1, y2, y3], _, h =>
    obtain ⟨⟨x0, rfl, h0⟩, ⟨x1, rfl, h1⟩, ⟨x2, rfl, h2⟩, ⟨A3, n3, c3, x3, rfl, h3⟩, _⟩ := h
    exact ⟨x0, x1, x2, A3, n3, c3, x3, rfl, h0, h1, h2, h3⟩
theorem own : ownKnob Tryd.prog.godebug = none := by kernel_rfl
set_option linter.unusedSimpArgs false
set_option maxRecDepth 100000 in
set_option maxHeartbeats 8000000 in
theorem walk (s0_0 : Int) (s0_1 : Int) (s0_2 : Int) (A0_3 : Option Addr) (n0_3 c0_3 : Nat) (f0_3 : Nat → List Value) (a1 : Int) (a2 : Int) (w : World) (w0_0 : (Lit.int .i64 s0_0).wf = true) (w0_1 : (Lit.int .i64 s0_1).wf = true) (w0_2 : (Lit.int .i64 s0_2).wf = true) (w0_3 : FlatRow w [.int .i64, .int .i64] A0_3 n0_3 c0_3 f0_3) (w1 : (Lit.int .i64 a1).wf = true) (w2 : (Lit.int .i64 a2).wf = true) (hT : Tab w) :
    Calls Tryd.prog 7 #[.agg #[.int .i64 s0_0, .int .i64 s0_1, .int .i64 s0_2, .slice A0_3 n0_3 c0_3], .int .i64 a1, .int .i64 a2] w fun e w' => e = .returned (.bool true) ∧ Below w.heap.size w w' := by
  obtain ⟨L, hrow, hfits⟩ := prow_of_flat w0_3
  have HT := Lib.hid hT
  have HX := Lib.hid (Box.start w 24 #[.int .i64 s0_0, .int .i64 s0_1, .int .i64 s0_2, .slice A0_3 n0_3 c0_3])
  have hnl := hrow.len
  clear hT
  obtain ⟨c0, c1, c2, c3⟩ := HX.out.tab4
  by_cases h64 : 64 < n0_3
  · have d0 : decide ((64 : Int) < (n0_3 : Int)) = true := decide_eq_true (by omega)
    go_enter Tryd.func7, Tryd.ntmps7
    go_wp2_with (first
      | (go_at_call 9; refine (alive_yes _ (HT.out.below HX.out.below)).mono ?_; rintro e w1 ⟨rfl, hb1⟩; (try replace HRT := Lib.hid ((HRT.out.below hb1).mono hb1.size)); replace HX := Lib.hid (HX.out.next hb1); clear hb1; (try clear c0 c1 c2 c3); obtain ⟨c0, c1, c2, c3⟩ := HX.out.tab4)
      | (go_at_call 10; refine (HMD.out _ HX.out.below).mono ?_; intro e w2 hp; obtain ⟨q, rfl, hr, hb2⟩ := HMY.out _ _ _ hp; clear hp; (try replace HRT := Lib.hid ((HRT.out.below hb2).mono hb2.size)); replace HX := Lib.hid (HX.out.next hb2); clear hb2; (try clear c0 c1 c2 c3); obtain ⟨c0, c1, c2, c3⟩ := HX.out.tab4; have HRT := Lib.hid hr; clear hr)
      | (go_at_call 10; refine (HMD.out _ HX.out.below).mono ?_; intro e w2 hp; obtain ⟨rfl, hb2⟩ := HMN.out _ _ _ hp; clear hp; (try replace HRT := Lib.hid ((HRT.out.below hb2).mono hb2.size)); replace HX := Lib.hid (HX.out.next hb2); clear hb2; (try clear c0 c1 c2 c3); obtain ⟨c0, c1, c2, c3⟩ := HX.out.tab4)
      | (go_at_call 11; with_reducible refine (HM1.out _ _ HRT.out).mono ?_; rintro e w3 ⟨rfl, hbz⟩; have HQ := Lib.hid (Box.start w3 35 #[.int .i64 0, .int .i64 0, .int .i64 0, .int .i64 0, .int .i64 0, .int .i64 0]); have hb3 := hbz.trans (HQ.out.below.mono hbz.size); have HA := Lib.hid HQ.out.holds; clear HQ hbz; (try replace HRT := Lib.hid ((HRT.out.below hb3).mono hb3.size)); replace HX := Lib.hid (HX.out.next hb3); clear hb3; (try clear c0 c1 c2 c3); obtain ⟨c0, c1, c2, c3⟩ := HX.out.tab4)
      | (go_at_call 11; with_reducible refine (HM2.out _ _ HRT.out).mono ?_; rintro e w4 ⟨rfl, hbz⟩; have HQ := Lib.hid (Box.start w4 35 #[.int .i64 0, .int .i64 0, .int .i64 0, .int .i64 0, .int .i64 0, .int .i64 0]); have hb4 := hbz.trans (HQ.out.below.mono hbz.size); (try replace HA := Lib.hid (HA.out.below hb4 HA.out.lt)); have HB := Lib.hid HQ.out.holds; clear HQ hbz; (try replace HRT := Lib.hid ((HRT.out.below hb4).mono hb4.size)); replace HX := Lib.hid (HX.out.next hb4); clear hb4; (try clear c0 c1 c2 c3); obtain ⟨c0, c1, c2, c3⟩ := HX.out.tab4)
      | (go_at_call 11; with_reducible refine (HO1.out _ _ HRT.out).mono ?_; rintro e w3 ⟨rfl, hbz⟩; have HQ := Lib.hid (Box.start w3 35 #[.int .i64 ya, .int .i64 ma, .int .i64 da, .int .i64 Ha, .int .i64 Ma, .int .i64 Sa]); have hb3 := hbz.trans (HQ.out.below.mono hbz.size); have HA := Lib.hid HQ.out.holds; clear HQ hbz; (try replace HRT := Lib.hid ((HRT.out.below hb3).mono hb3.size)); replace HX := Lib.hid (HX.out.next hb3); clear hb3; (try clear c0 c1 c2 c3); obtain ⟨c0, c1, c2, c3⟩ := HX.out.tab4; clear HO1)
      | (go_at_call 11; with_reducible refine (HO2.out _ _ HRT.out).mono ?_; rintro e w4 ⟨rfl, hbz⟩; have HQ := Lib.hid (Box.start w4 35 #[.int .i64 yb, .int .i64 mb, .int .i64 db, .int .i64 Hb, .int .i64 Mb, .int .i64 Sb]); have hb4 := hbz.trans (HQ.out.below.mono hbz.size); (try replace HA := Lib.hid (HA.out.below hb4 HA.out.lt)); have HB := Lib.hid HQ.out.holds; clear HQ hbz; (try replace HRT := Lib.hid ((HRT.out.below hb4).mono hb4.size)); replace HX := Lib.hid (HX.out.next hb4); clear hb4; (try clear c0 c1 c2 c3); obtain ⟨c0, c1, c2, c3⟩ := HX.out.tab4)
      | (go_at_call 11; with_reducible refine (HO2.out _ _ HRT.out).mono ?_; rintro e w4 ⟨rfl, hbz⟩; have HQ := Lib.hid (Box.start w4 35 #[.int .i64 ya, .int .i64 ma, .int .i64 da, .int .i64 Ha, .int .i64 Ma, .int .i64 Sa]); have hb4 := hbz.trans (HQ.out.below.mono hbz.size); (try replace HA := Lib.hid (HA.out.below hb4 HA.out.lt)); have HB := Lib.hid HQ.out.holds; clear HQ hbz; (try replace HRT := Lib.hid ((HRT.out.below hb4).mono hb4.size)); replace HX := Lib.hid (HX.out.next hb4); clear hb4; (try clear c0 c1 c2 c3); obtain ⟨c0, c1, c2, c3⟩ := HX.out.tab4))
    go_ret
    exact ⟨rfl, HX.out.below⟩
  have d0 : decide ((64 : Int) < (n0_3 : Int)) = false := decide_eq_false (by omega)
  have HN := Lib.hid (show n0_3 ≤ 1000 by omega)
  have HR := Lib.hid hrow
  have HMD := Lib.hid (fun W (hW : Below w.heap.size w W) => made_any W s0_0 s0_1 s0_2 A0_3 n0_3 c0_3 L (HR.out.below hW) HN.out)
  by_cases h0 : faultT s0_0 s0_1 s0_2 L = 0
  case neg =>
    have HMN := Lib.hid (fun (W : World) (e : Ending) (w' : World) (h : MadeB s0_0 s0_1 s0_2 L W e w') => made_no h0 h)
    clear hrow hfits hnl h0 h64
    go_enter Tryd.func7, Tryd.ntmps7
    go_wp2_with (first
      | (go_at_call 9; refine (alive_yes _ (HT.out.below HX.out.below)).mono ?_; rintro e w1 ⟨rfl, hb1⟩; (try replace HRT := Lib.hid ((HRT.out.below hb1).mono hb1.size)); replace HX := Lib.hid (HX.out.next hb1); clear hb1; (try clear c0 c1 c2 c3); obtain ⟨c0, c1, c2, c3⟩ := HX.out.tab4)
      | (go_at_call 10; refine (HMD.out _ HX.out.below).mono ?_; intro e w2 hp; obtain ⟨q, rfl, hr, hb2⟩ := HMY.out _ _ _ hp; clear hp; (try replace HRT := Lib.hid ((HRT.out.below hb2).mono hb2.size)); replace HX := Lib.hid (HX.out.next hb2); clear hb2; (try clear c0 c1 c2 c3); obtain ⟨c0, c1, c2, c3⟩ := HX.out.tab4; have HRT := Lib.hid hr; clear hr)
      | (go_at_call 10; refine (HMD.out _ HX.out.below).mono ?_; intro e w2 hp; obtain ⟨rfl, hb2⟩ := HMN.out _ _ _ hp; clear hp; (try replace HRT := Lib.hid ((HRT.out.below hb2).mono hb2.size)); replace HX := Lib.hid (HX.out.next hb2); clear hb2; (try clear c0 c1 c2 c3); obtain ⟨c0, c1, c2, c3⟩ := HX.out.tab4)
      | (go_at_call 11; with_reducible refine (HM1.out _ _ HRT.out).mono ?_; rintro e w3 ⟨rfl, hbz⟩; have HQ := Lib.hid (Box.start w3 35 #[.int .i64 0, .int .i64 0, .int .i64 0, .int .i64 0, .int .i64 0, .int .i64 0]); have hb3 := hbz.trans (HQ.out.below.mono hbz.size); have HA := Lib.hid HQ.out.holds; clear HQ hbz; (try replace HRT := Lib.hid ((HRT.out.below hb3).mono hb3.size)); replace HX := Lib.hid (HX.out.next hb3); clear hb3; (try clear c0 c1 c2 c3); obtain ⟨c0, c1, c2, c3⟩ := HX.out.tab4)
      | (go_at_call 11; with_reducible refine (HM2.out _ _ HRT.out).mono ?_; rintro e w4 ⟨rfl, hbz⟩; have HQ := Lib.hid (Box.start w4 35 #[.int .i64 0, .int .i64 0, .int .i64 0, .int .i64 0, .int .i64 0, .int .i64 0]); have hb4 := hbz.trans (HQ.out.below.mono hbz.size); (try replace HA := Lib.hid (HA.out.below hb4 HA.out.lt)); have HB := Lib.hid HQ.out.holds; clear HQ hbz; (try replace HRT := Lib.hid ((HRT.out.below hb4).mono hb4.size)); replace HX := Lib.hid (HX.out.next hb4); clear hb4; (try clear c0 c1 c2 c3); obtain ⟨c0, c1, c2, c3⟩ := HX.out.tab4)
      | (go_at_call 11; with_reducible refine (HO1.out _ _ HRT.out).mono ?_; rintro e w3 ⟨rfl, hbz⟩; have HQ := Lib.hid (Box.start w3 35 #[.int .i64 ya, .int .i64 ma, .int .i64 da, .int .i64 Ha, .int .i64 Ma, .int .i64 Sa]); have hb3 := hbz.trans (HQ.out.below.mono hbz.size); have HA := Lib.hid HQ.out.holds; clear HQ hbz; (try replace HRT := Lib.hid ((HRT.out.below hb3).mono hb3.size)); replace HX := Lib.hid (HX.out.next hb3); clear hb3; (try clear c0 c1 c2 c3); obtain ⟨c0, c1, c2, c3⟩ := HX.out.tab4; clear HO1)
      | (go_at_call 11; with_reducible refine (HO2.out _ _ HRT.out).mono ?_; rintro e w4 ⟨rfl, hbz⟩; have HQ := Lib.hid (Box.start w4 35 #[.int .i64 yb, .int .i64 mb, .int .i64 db, .int .i64 Hb, .int .i64 Mb, .int .i64 Sb]); have hb4 := hbz.trans (HQ.out.below.mono hbz.size); (try replace HA := Lib.hid (HA.out.below hb4 HA.out.lt)); have HB := Lib.hid HQ.out.holds; clear HQ hbz; (try replace HRT := Lib.hid ((HRT.out.below hb4).mono hb4.size)); replace HX := Lib.hid (HX.out.next hb4); clear hb4; (try clear c0 c1 c2 c3); obtain ⟨c0, c1, c2, c3⟩ := HX.out.tab4)
      | (go_at_call 11; with_reducible refine (HO2.out _ _ HRT.out).mono ?_; rintro e w4 ⟨rfl, hbz⟩; have HQ := Lib.hid (Box.start w4 35 #[.int .i64 ya, .int .i64 ma, .int .i64 da, .int .i64 Ha, .int .i64 Ma, .int .i64 Sa]); have hb4 := hbz.trans (HQ.out.below.mono hbz.size); (try replace HA := Lib.hid (HA.out.below hb4 HA.out.lt)); have HB := Lib.hid HQ.out.holds; clear HQ hbz; (try replace HRT := Lib.hid ((HRT.out.below hb4).mono hb4.size)); replace HX := Lib.hid (HX.out.next hb4); clear hb4; (try clear c0 c1 c2 c3); obtain ⟨c0, c1, c2, c3⟩ := HX.out.tab4))
    go_ret
    exact ⟨rfl, HX.out.below⟩
  case pos =>
  have HMY := Lib.hid (fun (W : World) (e : Ending) (w' : World) (h : MadeB s0_0 s0_1 s0_2 L W e w') => made_yes h0 h)
  have g := gtab_of h0
  have f1 := fits_wf w1
  have f2 := fits_wf w2
  by_cases ha : ∃ D, OnDay s0_0 s0_1 s0_2 L a1 D
  case neg =>
    have HM1 := Lib.hid (fun W q h => of_miss g ha f1 q W h)
    by_cases hb : ∃ D, OnDay s0_0 s0_1 s0_2 L a2 D
    · obtain ⟨D, hb⟩ := hb
      obtain ⟨yb, mb, db, Hb, Mb, Sb, hb⟩ := isOf_ex g hb
      have HO2 := Lib.hid (fun W q h => of_hit g hb f2 q W h)
      clear g hrow hfits hnl h0 h64 ha hb f1 f2
      go_enter Tryd.func7, Tryd.ntmps7
      go_wp2_with (first
        | (go_at_call 9; refine (alive_yes _ (HT.out.below HX.out.below)).mono ?_; rintro e w1 ⟨rfl, hb1⟩; (try replace HRT := Lib.hid ((HRT.out.below hb1).mono hb1.size)); replace HX := Lib.hid (HX.out.next hb1); clear hb1; (try clear c0 c1 c2 c3); obtain ⟨c0, c1, c2, c3⟩ := HX.out.tab4)
        | (go_at_call 10; refine (HMD.out _ HX.out.below).mono ?_; intro e w2 hp; obtain ⟨q, rfl, hr, hb2⟩ := HMY.out _ _ _ hp; clear hp; (try replace HRT := Lib.hid ((HRT.out.below hb2).mono hb2.size)); replace HX := Lib.hid (HX.out.next hb2); clear hb2; (try clear c0 c1 c2 c3); obtain ⟨c0, c1, c2, c3⟩ := HX.out.tab4; have HRT := Lib.hid hr; clear hr)
        | (go_at_call 10; refine (HMD.out _ HX.out.below).mono ?_; intro e w2 hp; obtain ⟨rfl, hb2⟩ := HMN.out _ _ _ hp; clear hp; (try replace HRT := Lib.hid ((HRT.out.below hb2).mono hb2.size)); replace HX := Lib.hid (HX.out.next hb2); clear hb2; (try clear c0 c1 c2 c3); obtain ⟨c0, c1, c2, c3⟩ := HX.out.tab4)
        | (go_at_call 11; with_reducible refine (HM1.out _ _ HRT.out).mono ?_; rintro e w3 ⟨rfl, hbz⟩; have HQ := Lib.hid (Box.start w3 35 #[.int .i64 0, .int .i64 0, .int .i64 0, .int .i64 0, .int .i64 0, .int .i64 0]); have hb3 := hbz.trans (HQ.out.below.mono hbz.size); have HA := Lib.hid HQ.out.holds; clear HQ hbz; (try replace HRT := Lib.hid ((HRT.out.below hb3).mono hb3.size)); replace HX := Lib.hid (HX.out.next hb3); clear hb3; (try clear c0 c1 c2 c3); obtain ⟨c0, c1, c2, c3⟩ := HX.out.tab4)
        | (go_at_call 11; with_reducible refine (HM2.out _ _ HRT.out).mono ?_; rintro e w4 ⟨rfl, hbz⟩; have HQ := Lib.hid (Box.start w4 35 #[.int .i64 0, .int .i64 0, .int .i64 0, .int .i64 0, .int .i64 0, .int .i64 0]); have hb4 := hbz.trans (HQ.out.below.mono hbz.size); (try replace HA := Lib.hid (HA.out.below hb4 HA.out.lt)); have HB := Lib.hid HQ.out.holds; clear HQ hbz; (try replace HRT := Lib.hid ((HRT.out.below hb4).mono hb4.size)); replace HX := Lib.hid (HX.out.next hb4); clear hb4; (try clear c0 c1 c2 c3); obtain ⟨c0, c1, c2, c3⟩ := HX.out.tab4)
        | (go_at_call 11; with_reducible refine (HO1.out _ _ HRT.out).mono ?_; rintro e w3 ⟨rfl, hbz⟩; have HQ := Lib.hid (Box.start w3 35 #[.int .i64 ya, .int .i64 ma, .int .i64 da, .int .i64 Ha, .int .i64 Ma, .int .i64 Sa]); have hb3 := hbz.trans (HQ.out.below.mono hbz.size); have HA := Lib.hid HQ.out.holds; clear HQ hbz; (try replace HRT := Lib.hid ((HRT.out.below hb3).mono hb3.size)); replace HX := Lib.hid (HX.out.next hb3); clear hb3; (try clear c0 c1 c2 c3); obtain ⟨c0, c1, c2, c3⟩ := HX.out.tab4; clear HO1)
        | (go_at_call 11; with_reducible refine (HO2.out _ _ HRT.out).mono ?_; rintro e w4 ⟨rfl, hbz⟩; have HQ := Lib.hid (Box.start w4 35 #[.int .i64 yb, .int .i64 mb, .int .i64 db, .int .i64 Hb, .int .i64 Mb, .int .i64 Sb]); have hb4 := hbz.trans (HQ.out.below.mono hbz.size); (try replace HA := Lib.hid (HA.out.below hb4 HA.out.lt)); have HB := Lib.hid HQ.out.holds; clear HQ hbz; (try replace HRT := Lib.hid ((HRT.out.below hb4).mono hb4.size)); replace HX := Lib.hid (HX.out.next hb4); clear hb4; (try clear c0 c1 c2 c3); obtain ⟨c0, c1, c2, c3⟩ := HX.out.tab4)
        | (go_at_call 11; with_reducible refine (HO2.out _ _ HRT.out).mono ?_; rintro e w4 ⟨rfl, hbz⟩; have HQ := Lib.hid (Box.start w4 35 #[.int .i64 ya, .int .i64 ma, .int .i64 da, .int .i64 Ha, .int .i64 Ma, .int .i64 Sa]); have hb4 := hbz.trans (HQ.out.below.mono hbz.size); (try replace HA := Lib.hid (HA.out.below hb4 HA.out.lt)); have HB := Lib.hid HQ.out.holds; clear HQ hbz; (try replace HRT := Lib.hid ((HRT.out.below hb4).mono hb4.size)); replace HX := Lib.hid (HX.out.next hb4); clear hb4; (try clear c0 c1 c2 c3); obtain ⟨c0, c1, c2, c3⟩ := HX.out.tab4))
      go_ret
      exact ⟨rfl, HX.out.below⟩
    · have HM2 := Lib.hid (fun W q h => of_miss g hb f2 q W h)
      clear g hrow hfits hnl h0 h64 ha hb f1 f2
      go_enter Tryd.func7, Tryd.ntmps7
      go_wp2_with (first
        | (go_at_call 9; refine (alive_yes _ (HT.out.below HX.out.below)).mono ?_; rintro e w1 ⟨rfl, hb1⟩; (try replace HRT := Lib.hid ((HRT.out.below hb1).mono hb1.size)); replace HX := Lib.hid (HX.out.next hb1); clear hb1; (try clear c0 c1 c2 c3); obtain ⟨c0, c1, c2, c3⟩ := HX.out.tab4)
        | (go_at_call 10; refine (HMD.out _ HX.out.below).mono ?_; intro e w2 hp; obtain ⟨q, rfl, hr, hb2⟩ := HMY.out _ _ _ hp; clear hp; (try replace HRT := Lib.hid ((HRT.out.below hb2).mono hb2.size)); replace HX := Lib.hid (HX.out.next hb2); clear hb2; (try clear c0 c1 c2 c3); obtain ⟨c0, c1, c2, c3⟩ := HX.out.tab4; have HRT := Lib.hid hr; clear hr)
        | (go_at_call 10; refine (HMD.out _ HX.out.below).mono ?_; intro e w2 hp; obtain ⟨rfl, hb2⟩ := HMN.out _ _ _ hp; clear hp; (try replace HRT := Lib.hid ((HRT.out.below hb2).mono hb2.size)); replace HX := Lib.hid (HX.out.next hb2); clear hb2; (try clear c0 c1 c2 c3); obtain ⟨c0, c1, c2, c3⟩ := HX.out.tab4)
        | (go_at_call 11; with_reducible refine (HM1.out _ _ HRT.out).mono ?_; rintro e w3 ⟨rfl, hbz⟩; have HQ := Lib.hid (Box.start w3 35 #[.int .i64 0, .int .i64 0, .int .i64 0, .int .i64 0, .int .i64 0, .int .i64 0]); have hb3 := hbz.trans (HQ.out.below.mono hbz.size); have HA := Lib.hid HQ.out.holds; clear HQ hbz; (try replace HRT := Lib.hid ((HRT.out.below hb3).mono hb3.size)); replace HX := Lib.hid (HX.out.next hb3); clear hb3; (try clear c0 c1 c2 c3); obtain ⟨c0, c1, c2, c3⟩ := HX.out.tab4)
        | (go_at_call 11; with_reducible refine (HM2.out _ _ HRT.out).mono ?_; rintro e w4 ⟨rfl, hbz⟩; have HQ := Lib.hid (Box.start w4 35 #[.int .i64 0, .int .i64 0, .int .i64 0, .int .i64 0, .int .i64 0, .int .i64 0]); have hb4 := hbz.trans (HQ.out.below.mono hbz.size); (try replace HA := Lib.hid (HA.out.below hb4 HA.out.lt)); have HB := Lib.hid HQ.out.holds; clear HQ hbz; (try replace HRT := Lib.hid ((HRT.out.below hb4).mono hb4.size)); replace HX := Lib.hid (HX.out.next hb4); clear hb4; (try clear c0 c1 c2 c3); obtain ⟨c0, c1, c2, c3⟩ := HX.out.tab4)
        | (go_at_call 11; with_reducible refine (HO1.out _ _ HRT.out).mono ?_; rintro e w3 ⟨rfl, hbz⟩; have HQ := Lib.hid (Box.start w3 35 #[.int .i64 ya, .int .i64 ma, .int .i64 da, .int .i64 Ha, .int .i64 Ma, .int .i64 Sa]); have hb3 := hbz.trans (HQ.out.below.mono hbz.size); have HA := Lib.hid HQ.out.holds; clear HQ hbz; (try replace HRT := Lib.hid ((HRT.out.below hb3).mono hb3.size)); replace HX := Lib.hid (HX.out.next hb3); clear hb3; (try clear c0 c1 c2 c3); obtain ⟨c0, c1, c2, c3⟩ := HX.out.tab4; clear HO1)
        | (go_at_call 11; with_reducible refine (HO2.out _ _ HRT.out).mono ?_; rintro e w4 ⟨rfl, hbz⟩; have HQ := Lib.hid (Box.start w4 35 #[.int .i64 yb, .int .i64 mb, .int .i64 db, .int .i64 Hb, .int .i64 Mb, .int .i64 Sb]); have hb4 := hbz.trans (HQ.out.below.mono hbz.size); (try replace HA := Lib.hid (HA.out.below hb4 HA.out.lt)); have HB := Lib.hid HQ.out.holds; clear HQ hbz; (try replace HRT := Lib.hid ((HRT.out.below hb4).mono hb4.size)); replace HX := Lib.hid (HX.out.next hb4); clear hb4; (try clear c0 c1 c2 c3); obtain ⟨c0, c1, c2, c3⟩ := HX.out.tab4)
        | (go_at_call 11; with_reducible refine (HO2.out _ _ HRT.out).mono ?_; rintro e w4 ⟨rfl, hbz⟩; have HQ := Lib.hid (Box.start w4 35 #[.int .i64 ya, .int .i64 ma, .int .i64 da, .int .i64 Ha, .int .i64 Ma, .int .i64 Sa]); have hb4 := hbz.trans (HQ.out.below.mono hbz.size); (try replace HA := Lib.hid (HA.out.below hb4 HA.out.lt)); have HB := Lib.hid HQ.out.holds; clear HQ hbz; (try replace HRT := Lib.hid ((HRT.out.below hb4).mono hb4.size)); replace HX := Lib.hid (HX.out.next hb4); clear hb4; (try clear c0 c1 c2 c3); obtain ⟨c0, c1, c2, c3⟩ := HX.out.tab4))
      go_ret
      exact ⟨rfl, HX.out.below⟩
  case pos =>
  obtain ⟨D, ha⟩ := ha
  obtain ⟨ya, ma, da, Ha, Ma, Sa, ha⟩ := isOf_ex g ha
  have HO1 := Lib.hid (fun W q h => of_hit g ha f1 q W h)
  by_cases hb : ∃ D, OnDay s0_0 s0_1 s0_2 L a2 D
  case neg =>
    have HM2 := Lib.hid (fun W q h => of_miss g hb f2 q W h)
    clear g hrow hfits hnl h0 h64 ha hb f1 f2
    go_enter Tryd.func7, Tryd.ntmps7
    go_wp2_with (first
      | (go_at_call 9; refine (alive_yes _ (HT.out.below HX.out.below)).mono ?_; rintro e w1 ⟨rfl, hb1⟩; (try replace HRT := Lib.hid ((HRT.out.below hb1).mono hb1.size)); replace HX := Lib.hid (HX.out.next hb1); clear hb1; (try clear c0 c1 c2 c3); obtain ⟨c0, c1, c2, c3⟩ := HX.out.tab4)
      | (go_at_call 10; refine (HMD.out _ HX.out.below).mono ?_; intro e w2 hp; obtain ⟨q, rfl, hr, hb2⟩ := HMY.out _ _ _ hp; clear hp; (try replace HRT := Lib.hid ((HRT.out.below hb2).mono hb2.size)); replace HX := Lib.hid (HX.out.next hb2); clear hb2; (try clear c0 c1 c2 c3); obtain ⟨c0, c1, c2, c3⟩ := HX.out.tab4; have HRT := Lib.hid hr; clear hr)
      | (go_at_call 10; refine (HMD.out _ HX.out.below).mono ?_; intro e w2 hp; obtain ⟨rfl, hb2⟩ := HMN.out _ _ _ hp; clear hp; (try replace HRT := Lib.hid ((HRT.out.below hb2).mono hb2.size)); replace HX := Lib.hid (HX.out.next hb2); clear hb2; (try clear c0 c1 c2 c3); obtain ⟨c0, c1, c2, c3⟩ := HX.out.tab4)
      | (go_at_call 11; with_reducible refine (HM1.out _ _ HRT.out).mono ?_; rintro e w3 ⟨rfl, hbz⟩; have HQ := Lib.hid (Box.start w3 35 #[.int .i64 0, .int .i64 0, .int .i64 0, .int .i64 0, .int .i64 0, .int .i64 0]); have hb3 := hbz.trans (HQ.out.below.mono hbz.size); have HA := Lib.hid HQ.out.holds; clear HQ hbz; (try replace HRT := Lib.hid ((HRT.out.below hb3).mono hb3.size)); replace HX := Lib.hid (HX.out.next hb3); clear hb3; (try clear c0 c1 c2 c3); obtain ⟨c0, c1, c2, c3⟩ := HX.out.tab4)
      | (go_at_call 11; with_reducible refine (HM2.out _ _ HRT.out).mono ?_; rintro e w4 ⟨rfl, hbz⟩; have HQ := Lib.hid (Box.start w4 35 #[.int .i64 0, .int .i64 0, .int .i64 0, .int .i64 0, .int .i64 0, .int .i64 0]); have hb4 := hbz.trans (HQ.out.below.mono hbz.size); (try replace HA := Lib.hid (HA.out.below hb4 HA.out.lt)); have HB := Lib.hid HQ.out.holds; clear HQ hbz; (try replace HRT := Lib.hid ((HRT.out.below hb4).mono hb4.size)); replace HX := Lib.hid (HX.out.next hb4); clear hb4; (try clear c0 c1 c2 c3); obtain ⟨c0, c1, c2, c3⟩ := HX.out.tab4)
      | (go_at_call 11; with_reducible refine (HO1.out _ _ HRT.out).mono ?_; rintro e w3 ⟨rfl, hbz⟩; have HQ := Lib.hid (Box.start w3 35 #[.int .i64 ya, .int .i64 ma, .int .i64 da, .int .i64 Ha, .int .i64 Ma, .int .i64 Sa]); have hb3 := hbz.trans (HQ.out.below.mono hbz.size); have HA := Lib.hid HQ.out.holds; clear HQ hbz; (try replace HRT := Lib.hid ((HRT.out.below hb3).mono hb3.size)); replace HX := Lib.hid (HX.out.next hb3); clear hb3; (try clear c0 c1 c2 c3); obtain ⟨c0, c1, c2, c3⟩ := HX.out.tab4; clear HO1)
      | (go_at_call 11; with_reducible refine (HO2.out _ _ HRT.out).mono ?_; rintro e w4 ⟨rfl, hbz⟩; have HQ := Lib.hid (Box.start w4 35 #[.int .i64 yb, .int .i64 mb, .int .i64 db, .int .i64 Hb, .int .i64 Mb, .int .i64 Sb]); have hb4 := hbz.trans (HQ.out.below.mono hbz.size); (try replace HA := Lib.hid (HA.out.below hb4 HA.out.lt)); have HB := Lib.hid HQ.out.holds; clear HQ hbz; (try replace HRT := Lib.hid ((HRT.out.below hb4).mono hb4.size)); replace HX := Lib.hid (HX.out.next hb4); clear hb4; (try clear c0 c1 c2 c3); obtain ⟨c0, c1, c2, c3⟩ := HX.out.tab4)
      | (go_at_call 11; with_reducible refine (HO2.out _ _ HRT.out).mono ?_; rintro e w4 ⟨rfl, hbz⟩; have HQ := Lib.hid (Box.start w4 35 #[.int .i64 ya, .int .i64 ma, .int .i64 da, .int .i64 Ha, .int .i64 Ma, .int .i64 Sa]); have hb4 := hbz.trans (HQ.out.below.mono hbz.size); (try replace HA := Lib.hid (HA.out.below hb4 HA.out.lt)); have HB := Lib.hid HQ.out.holds; clear HQ hbz; (try replace HRT := Lib.hid ((HRT.out.below hb4).mono hb4.size)); replace HX := Lib.hid (HX.out.next hb4); clear hb4; (try clear c0 c1 c2 c3); obtain ⟨c0, c1, c2, c3⟩ := HX.out.tab4))
    go_ret
    exact ⟨rfl, HX.out.below⟩
  case pos =>
  obtain ⟨D', hb⟩ := hb
  by_cases hab : a1 = a2
  · subst hab
    have HO2 := HO1
    have HTA := Lib.hid (fun W (hW : Below w.heap.size w W) => utext_yes ya ma da Ha Ma Sa W ha.can ha.time (HT.out.below hW))
    have HTB := HTA
    have d1 := isOf_less g ha ha
    have d2 : decide (a1 < a1) = false := decide_eq_false (Int.lt_irrefl _)
    rw [d2] at d1
    have d3 : (a1 == a1) = true := beq_self_eq_true _
    have q1 := utc_eq_same ya ma da Ha Ma Sa
    obtain ⟨TA, hTA⟩ : ∃ T, textU ya ma da Ha Ma Sa = T := ⟨_, rfl⟩
    simp only [hTA] at HTA HTB d1
    clear g hrow hfits hnl h0 h64 ha hb f1 f2 hTA
    go_enter Tryd.func7, Tryd.ntmps7
    go_upto_region 12 with (first
      | (go_at_call 9; refine (alive_yes _ (HT.out.below HX.out.below)).mono ?_; rintro e w1 ⟨rfl, hb1⟩; (try replace HRT := Lib.hid ((HRT.out.below hb1).mono hb1.size)); replace HX := Lib.hid (HX.out.next hb1); clear hb1; (try clear c0 c1 c2 c3); obtain ⟨c0, c1, c2, c3⟩ := HX.out.tab4)
      | (go_at_call 10; refine (HMD.out _ HX.out.below).mono ?_; intro e w2 hp; obtain ⟨q, rfl, hr, hb2⟩ := HMY.out _ _ _ hp; clear hp; (try replace HRT := Lib.hid ((HRT.out.below hb2).mono hb2.size)); replace HX := Lib.hid (HX.out.next hb2); clear hb2; (try clear c0 c1 c2 c3); obtain ⟨c0, c1, c2, c3⟩ := HX.out.tab4; have HRT := Lib.hid hr; clear hr)
      | (go_at_call 10; refine (HMD.out _ HX.out.below).mono ?_; intro e w2 hp; obtain ⟨rfl, hb2⟩ := HMN.out _ _ _ hp; clear hp; (try replace HRT := Lib.hid ((HRT.out.below hb2).mono hb2.size)); replace HX := Lib.hid (HX.out.next hb2); clear hb2; (try clear c0 c1 c2 c3); obtain ⟨c0, c1, c2, c3⟩ := HX.out.tab4)
      | (go_at_call 11; with_reducible refine (HM1.out _ _ HRT.out).mono ?_; rintro e w3 ⟨rfl, hbz⟩; have HQ := Lib.hid (Box.start w3 35 #[.int .i64 0, .int .i64 0, .int .i64 0, .int .i64 0, .int .i64 0, .int .i64 0]); have hb3 := hbz.trans (HQ.out.below.mono hbz.size); have HA := Lib.hid HQ.out.holds; clear HQ hbz; (try replace HRT := Lib.hid ((HRT.out.below hb3).mono hb3.size)); replace HX := Lib.hid (HX.out.next hb3); clear hb3; (try clear c0 c1 c2 c3); obtain ⟨c0, c1, c2, c3⟩ := HX.out.tab4)
      | (go_at_call 11; with_reducible refine (HM2.out _ _ HRT.out).mono ?_; rintro e w4 ⟨rfl, hbz⟩; have HQ := Lib.hid (Box.start w4 35 #[.int .i64 0, .int .i64 0, .int .i64 0, .int .i64 0, .int .i64 0, .int .i64 0]); have hb4 := hbz.trans (HQ.out.below.mono hbz.size); (try replace HA := Lib.hid (HA.out.below hb4 HA.out.lt)); have HB := Lib.hid HQ.out.holds; clear HQ hbz; (try replace HRT := Lib.hid ((HRT.out.below hb4).mono hb4.size)); replace HX := Lib.hid (HX.out.next hb4); clear hb4; (try clear c0 c1 c2 c3); obtain ⟨c0, c1, c2, c3⟩ := HX.out.tab4)
      | (go_at_call 11; with_reducible refine (HO1.out _ _ HRT.out).mono ?_; rintro e w3 ⟨rfl, hbz⟩; have HQ := Lib.hid (Box.start w3 35 #[.int .i64 ya, .int .i64 ma, .int .i64 da, .int .i64 Ha, .int .i64 Ma, .int .i64 Sa]); have hb3 := hbz.trans (HQ.out.below.mono hbz.size); have HA := Lib.hid HQ.out.holds; clear HQ hbz; (try replace HRT := Lib.hid ((HRT.out.below hb3).mono hb3.size)); replace HX := Lib.hid (HX.out.next hb3); clear hb3; (try clear c0 c1 c2 c3); obtain ⟨c0, c1, c2, c3⟩ := HX.out.tab4; clear HO1)
      | (go_at_call 11; with_reducible refine (HO2.out _ _ HRT.out).mono ?_; rintro e w4 ⟨rfl, hbz⟩; have HQ := Lib.hid (Box.start w4 35 #[.int .i64 yb, .int .i64 mb, .int .i64 db, .int .i64 Hb, .int .i64 Mb, .int .i64 Sb]); have hb4 := hbz.trans (HQ.out.below.mono hbz.size); (try replace HA := Lib.hid (HA.out.below hb4 HA.out.lt)); have HB := Lib.hid HQ.out.holds; clear HQ hbz; (try replace HRT := Lib.hid ((HRT.out.below hb4).mono hb4.size)); replace HX := Lib.hid (HX.out.next hb4); clear hb4; (try clear c0 c1 c2 c3); obtain ⟨c0, c1, c2, c3⟩ := HX.out.tab4)
      | (go_at_call 11; with_reducible refine (HO2.out _ _ HRT.out).mono ?_; rintro e w4 ⟨rfl, hbz⟩; have HQ := Lib.hid (Box.start w4 35 #[.int .i64 ya, .int .i64 ma, .int .i64 da, .int .i64 Ha, .int .i64 Ma, .int .i64 Sa]); have hb4 := hbz.trans (HQ.out.below.mono hbz.size); (try replace HA := Lib.hid (HA.out.below hb4 HA.out.lt)); have HB := Lib.hid HQ.out.holds; clear HQ hbz; (try replace HRT := Lib.hid ((HRT.out.below hb4).mono hb4.size)); replace HX := Lib.hid (HX.out.next hb4); clear hb4; (try clear c0 c1 c2 c3); obtain ⟨c0, c1, c2, c3⟩ := HX.out.tab4))
    clear c0 c1 c2 c3
    obtain ⟨ba, hba⟩ : ∃ b, w3.heap.size = b := ⟨_, rfl⟩
    obtain ⟨bb, hbb⟩ : ∃ b, w4.heap.size = b := ⟨_, rfl⟩
    simp only [hba] at HA ⊢
    simp only [hbb] at HB ⊢
    clear hba hbb
    replace HX := Lib.hid HX.out.drew
    replace HA := Lib.hid (HA.out.below (Below.refl _ _).drew HA.out.lt)
    replace HB := Lib.hid (HB.out.below (Below.refl _ _).drew HB.out.lt)
    refine region_turns (fun (w' : World) => w'.cell? ⟨ba, 0, none⟩ = some (.int .i64 ya) ∧ w'.cell? ⟨ba, 1, none⟩ = some (.int .i64 ma) ∧ w'.cell? ⟨ba, 2, none⟩ = some (.int .i64 da) ∧ w'.cell? ⟨ba, 3, none⟩ = some (.int .i64 Ha) ∧ w'.cell? ⟨ba, 4, none⟩ = some (.int .i64 Ma) ∧ w'.cell? ⟨ba, 5, none⟩ = some (.int .i64 Sa) ∧ w'.cell? ⟨bb, 0, none⟩ = some (.int .i64 ya) ∧ w'.cell? ⟨bb, 1, none⟩ = some (.int .i64 ma) ∧ w'.cell? ⟨bb, 2, none⟩ = some (.int .i64 da) ∧ w'.cell? ⟨bb, 3, none⟩ = some (.int .i64 Ha) ∧ w'.cell? ⟨bb, 4, none⟩ = some (.int .i64 Ma) ∧ w'.cell? ⟨bb, 5, none⟩ = some (.int .i64 Sa)) (fun j => decide (19 ≤ j)) (by kernel_rfl) (⟨HA.out.cell 0, HA.out.cell 1, HA.out.cell 2, HA.out.cell 3, HA.out.cell 4, HA.out.cell 5, HB.out.cell 0, HB.out.cell 1, HB.out.cell 2, HB.out.cell 3, HB.out.cell 4, HB.out.cell 5⟩) (fun hS => ?_)
    refine Turns.take hS 0 _ rfl (by kernel_rfl) (by kernel_rfl) (by kernel_rfl) (by kernel_rfl) (fun _ _ _ h => h) (by rfl) (fun w' hS' => by (try dsimp only at hS'); go_split_ands; go_simp; (try with_reducible rfl)) ?_
    simp only [Act.put, List.getElem_toArray, List.getElem_cons_succ, List.getElem_cons_zero, List.setIfInBounds_toArray, List.set_cons_zero, List.set_cons_succ]
    refine Turns.take hS 2 _ rfl (by kernel_rfl) (by kernel_rfl) (by kernel_rfl) (by kernel_rfl) (fun _ _ _ h => h) (by rfl) (fun w' hS' => by (try dsimp only at hS'); go_split_ands; go_simp; (try with_reducible rfl)) ?_
    simp only [Act.put, List.getElem_toArray, List.getElem_cons_succ, List.getElem_cons_zero, List.setIfInBounds_toArray, List.set_cons_zero, List.set_cons_succ]
    refine Turns.take hS 5 _ rfl (by kernel_rfl) (by kernel_rfl) (by kernel_rfl) (by kernel_rfl) (fun _ _ _ h => h) (by rfl) (fun w' hS' => by (try dsimp only at hS'); go_split_ands; go_simp; (try with_reducible rfl)) ?_
    simp only [Act.put, List.getElem_toArray, List.getElem_cons_succ, List.getElem_cons_zero, List.setIfInBounds_toArray, List.set_cons_zero, List.set_cons_succ]
    refine Turns.take hS 6 _ rfl (by kernel_rfl) (by kernel_rfl) (by kernel_rfl) (by kernel_rfl) (fun _ _ _ h => h) (by rfl) (fun w' hS' => by (try dsimp only at hS'); go_split_ands; go_simp; (try with_reducible rfl)) ?_
    simp only [Act.put, List.getElem_toArray, List.getElem_cons_succ, List.getElem_cons_zero, List.setIfInBounds_toArray, List.set_cons_zero, List.set_cons_succ]
    refine Turns.take hS 7 _ rfl (by kernel_rfl) (by kernel_rfl) (by kernel_rfl) (by kernel_rfl) (fun _ _ _ h => h) (by rfl) (fun w' hS' => by (try dsimp only at hS'); go_split_ands; go_simp; (try with_reducible rfl)) ?_
    simp only [Act.put, List.getElem_toArray, List.getElem_cons_succ, List.getElem_cons_zero, List.setIfInBounds_toArray, List.set_cons_zero, List.set_cons_succ]
    refine Turns.next 1 rfl (by kernel_rfl) (by rfl) (fun K hK => ?_)
    go_simp
    go_at_call 19
    refine (HTA.out _ HX.out.below).mono ?_
    rintro e v1 ⟨rfl, hbt⟩
    replace HX := Lib.hid (HX.out.next hbt)
    replace HA := Lib.hid (HA.out.below hbt HA.out.lt)
    replace HB := Lib.hid (HB.out.below hbt HB.out.lt)
    clear hbt
    refine hK.out _ _ (show (fun (w' : World) => w'.cell? ⟨ba, 0, none⟩ = some (.int .i64 ya) ∧ w'.cell? ⟨ba, 1, none⟩ = some (.int .i64 ma) ∧ w'.cell? ⟨ba, 2, none⟩ = some (.int .i64 da) ∧ w'.cell? ⟨ba, 3, none⟩ = some (.int .i64 Ha) ∧ w'.cell? ⟨ba, 4, none⟩ = some (.int .i64 Ma) ∧ w'.cell? ⟨ba, 5, none⟩ = some (.int .i64 Sa) ∧ w'.cell? ⟨bb, 0, none⟩ = some (.int .i64 ya) ∧ w'.cell? ⟨bb, 1, none⟩ = some (.int .i64 ma) ∧ w'.cell? ⟨bb, 2, none⟩ = some (.int .i64 da) ∧ w'.cell? ⟨bb, 3, none⟩ = some (.int .i64 Ha) ∧ w'.cell? ⟨bb, 4, none⟩ = some (.int .i64 Ma) ∧ w'.cell? ⟨bb, 5, none⟩ = some (.int .i64 Sa)) _ from ⟨HA.out.cell 0, HA.out.cell 1, HA.out.cell 2, HA.out.cell 3, HA.out.cell 4, HA.out.cell 5, HB.out.cell 0, HB.out.cell 1, HB.out.cell 2, HB.out.cell 3, HB.out.cell 4, HB.out.cell 5⟩) ?_
    clear hK K hS
    have hS := (show (fun (w' : World) => w'.cell? ⟨ba, 0, none⟩ = some (.int .i64 ya) ∧ w'.cell? ⟨ba, 1, none⟩ = some (.int .i64 ma) ∧ w'.cell? ⟨ba, 2, none⟩ = some (.int .i64 da) ∧ w'.cell? ⟨ba, 3, none⟩ = some (.int .i64 Ha) ∧ w'.cell? ⟨ba, 4, none⟩ = some (.int .i64 Ma) ∧ w'.cell? ⟨ba, 5, none⟩ = some (.int .i64 Sa) ∧ w'.cell? ⟨bb, 0, none⟩ = some (.int .i64 ya) ∧ w'.cell? ⟨bb, 1, none⟩ = some (.int .i64 ma) ∧ w'.cell? ⟨bb, 2, none⟩ = some (.int .i64 da) ∧ w'.cell? ⟨bb, 3, none⟩ = some (.int .i64 Ha) ∧ w'.cell? ⟨bb, 4, none⟩ = some (.int .i64 Ma) ∧ w'.cell? ⟨bb, 5, none⟩ = some (.int .i64 Sa)) _ from ⟨HA.out.cell 0, HA.out.cell 1, HA.out.cell 2, HA.out.cell 3, HA.out.cell 4, HA.out.cell 5, HB.out.cell 0, HB.out.cell 1, HB.out.cell 2, HB.out.cell 3, HB.out.cell 4, HB.out.cell 5⟩)
    refine Turns.next 3 rfl (by kernel_rfl) (by rfl) (fun K hK => ?_)
    go_simp
    go_at_call 19
    refine (HTB.out _ HX.out.below).mono ?_
    rintro e v3 ⟨rfl, hbt⟩
    replace HX := Lib.hid (HX.out.next hbt)
    replace HA := Lib.hid (HA.out.below hbt HA.out.lt)
    replace HB := Lib.hid (HB.out.below hbt HB.out.lt)
    clear hbt
    refine hK.out _ _ (show (fun (w' : World) => w'.cell? ⟨ba, 0, none⟩ = some (.int .i64 ya) ∧ w'.cell? ⟨ba, 1, none⟩ = some (.int .i64 ma) ∧ w'.cell? ⟨ba, 2, none⟩ = some (.int .i64 da) ∧ w'.cell? ⟨ba, 3, none⟩ = some (.int .i64 Ha) ∧ w'.cell? ⟨ba, 4, none⟩ = some (.int .i64 Ma) ∧ w'.cell? ⟨ba, 5, none⟩ = some (.int .i64 Sa) ∧ w'.cell? ⟨bb, 0, none⟩ = some (.int .i64 ya) ∧ w'.cell? ⟨bb, 1, none⟩ = some (.int .i64 ma) ∧ w'.cell? ⟨bb, 2, none⟩ = some (.int .i64 da) ∧ w'.cell? ⟨bb, 3, none⟩ = some (.int .i64 Ha) ∧ w'.cell? ⟨bb, 4, none⟩ = some (.int .i64 Ma) ∧ w'.cell? ⟨bb, 5, none⟩ = some (.int .i64 Sa)) _ from ⟨HA.out.cell 0, HA.out.cell 1, HA.out.cell 2, HA.out.cell 3, HA.out.cell 4, HA.out.cell 5, HB.out.cell 0, HB.out.cell 1, HB.out.cell 2, HB.out.cell 3, HB.out.cell 4, HB.out.cell 5⟩) ?_
    clear hK K hS
    have hS := (show (fun (w' : World) => w'.cell? ⟨ba, 0, none⟩ = some (.int .i64 ya) ∧ w'.cell? ⟨ba, 1, none⟩ = some (.int .i64 ma) ∧ w'.cell? ⟨ba, 2, none⟩ = some (.int .i64 da) ∧ w'.cell? ⟨ba, 3, none⟩ = some (.int .i64 Ha) ∧ w'.cell? ⟨ba, 4, none⟩ = some (.int .i64 Ma) ∧ w'.cell? ⟨ba, 5, none⟩ = some (.int .i64 Sa) ∧ w'.cell? ⟨bb, 0, none⟩ = some (.int .i64 ya) ∧ w'.cell? ⟨bb, 1, none⟩ = some (.int .i64 ma) ∧ w'.cell? ⟨bb, 2, none⟩ = some (.int .i64 da) ∧ w'.cell? ⟨bb, 3, none⟩ = some (.int .i64 Ha) ∧ w'.cell? ⟨bb, 4, none⟩ = some (.int .i64 Ma) ∧ w'.cell? ⟨bb, 5, none⟩ = some (.int .i64 Sa)) _ from ⟨HA.out.cell 0, HA.out.cell 1, HA.out.cell 2, HA.out.cell 3, HA.out.cell 4, HA.out.cell 5, HB.out.cell 0, HB.out.cell 1, HB.out.cell 2, HB.out.cell 3, HB.out.cell 4, HB.out.cell 5⟩)
    refine Turns.take hS 4 _ rfl (by kernel_rfl) (by kernel_rfl) (by kernel_rfl) (by kernel_rfl) (fun _ _ _ h => h) (by rfl) (fun w' hS' => by (try dsimp only at hS'); go_split_ands; go_simp; (try with_reducible rfl)) ?_
    simp only [Act.put, List.getElem_toArray, List.getElem_cons_succ, List.getElem_cons_zero, List.setIfInBounds_toArray, List.set_cons_zero, List.set_cons_succ]
    refine Turns.take hS 8 _ rfl (by kernel_rfl) (by kernel_rfl) (by kernel_rfl) (by kernel_rfl) (fun _ _ _ h => h) (by rfl) (fun w' hS' => by (try dsimp only at hS'); go_split_ands; go_simp; (try with_reducible rfl)) ?_
    simp only [Act.put, List.getElem_toArray, List.getElem_cons_succ, List.getElem_cons_zero, List.setIfInBounds_toArray, List.set_cons_zero, List.set_cons_succ]
    refine Turns.take hS 9 _ rfl (by kernel_rfl) (by kernel_rfl) (by kernel_rfl) (by kernel_rfl) (fun _ _ _ h => h) (by rfl) (fun w' hS' => by (try dsimp only at hS'); go_split_ands; go_simp; (try with_reducible rfl)) ?_
    simp only [Act.put, List.getElem_toArray, List.getElem_cons_succ, List.getElem_cons_zero, List.setIfInBounds_toArray, List.set_cons_zero, List.set_cons_succ]
    refine Turns.take hS 10 _ rfl (by kernel_rfl) (by kernel_rfl) (by kernel_rfl) (by kernel_rfl) (fun _ _ _ h => h) (by rfl) (fun w' hS' => by (try dsimp only at hS'); go_split_ands; go_simp; (try with_reducible rfl)) ?_
    simp only [Act.put, List.getElem_toArray, List.getElem_cons_succ, List.getElem_cons_zero, List.setIfInBounds_toArray, List.set_cons_zero, List.set_cons_succ]
    refine Turns.take hS 11 _ rfl (by kernel_rfl) (by kernel_rfl) (by kernel_rfl) (by kernel_rfl) (fun _ _ _ h => h) (by rfl) (fun w' hS' => by (try dsimp only at hS'); go_split_ands; go_simp; (try with_reducible rfl)) ?_
    simp only [Act.put, List.getElem_toArray, List.getElem_cons_succ, List.getElem_cons_zero, List.setIfInBounds_toArray, List.set_cons_zero, List.set_cons_succ]
    refine Turns.take hS 12 _ rfl (by kernel_rfl) (by kernel_rfl) (by kernel_rfl) (by kernel_rfl) (fun _ _ _ h => h) (by rfl) (fun w' hS' => by (try dsimp only at hS'); go_split_ands; go_simp; (try with_reducible rfl)) ?_
    simp only [Act.put, List.getElem_toArray, List.getElem_cons_succ, List.getElem_cons_zero, List.setIfInBounds_toArray, List.set_cons_zero, List.set_cons_succ]
    refine Turns.take hS 13 _ rfl (by kernel_rfl) (by kernel_rfl) (by kernel_rfl) (by kernel_rfl) (fun _ _ _ h => h) (by rfl) (fun w' hS' => by (try dsimp only at hS'); go_split_ands; go_simp; (try with_reducible rfl)) ?_
    simp only [Act.put, List.getElem_toArray, List.getElem_cons_succ, List.getElem_cons_zero, List.setIfInBounds_toArray, List.set_cons_zero, List.set_cons_succ]
    refine Turns.take hS 14 _ rfl (by kernel_rfl) (by kernel_rfl) (by kernel_rfl) (by kernel_rfl) (fun _ _ _ h => h) (by rfl) (fun w' hS' => by (try dsimp only at hS'); go_split_ands; go_simp; (try with_reducible rfl)) ?_
    simp only [Act.put, List.getElem_toArray, List.getElem_cons_succ, List.getElem_cons_zero, List.setIfInBounds_toArray, List.set_cons_zero, List.set_cons_succ]
    refine Turns.take hS 15 _ rfl (by kernel_rfl) (by kernel_rfl) (by kernel_rfl) (by kernel_rfl) (fun _ _ _ h => h) (by rfl) (fun w' hS' => by (try dsimp only at hS'); go_split_ands; go_simp; (try with_reducible rfl)) ?_
    simp only [Act.put, List.getElem_toArray, List.getElem_cons_succ, List.getElem_cons_zero, List.setIfInBounds_toArray, List.set_cons_zero, List.set_cons_succ]
    refine Turns.take hS 16 _ rfl (by kernel_rfl) (by kernel_rfl) (by kernel_rfl) (by kernel_rfl) (fun _ _ _ h => h) (by rfl) (fun w' hS' => by (try dsimp only at hS'); go_split_ands; go_simp; (try with_reducible rfl)) ?_
    simp only [Act.put, List.getElem_toArray, List.getElem_cons_succ, List.getElem_cons_zero, List.setIfInBounds_toArray, List.set_cons_zero, List.set_cons_succ]
    refine Turns.take hS 17 _ rfl (by kernel_rfl) (by kernel_rfl) (by kernel_rfl) (by kernel_rfl) (fun _ _ _ h => h) (by rfl) (fun w' hS' => by (try dsimp only at hS'); go_split_ands; go_simp; (try with_reducible rfl)) ?_
    simp only [Act.put, List.getElem_toArray, List.getElem_cons_succ, List.getElem_cons_zero, List.setIfInBounds_toArray, List.set_cons_zero, List.set_cons_succ]
    refine Turns.take hS 18 _ rfl (by kernel_rfl) (by kernel_rfl) (by kernel_rfl) (by kernel_rfl) (fun _ _ _ h => h) (by rfl) (fun w' hS' => by (try dsimp only at hS'); go_split_ands; go_simp; (try with_reducible rfl)) ?_
    simp only [Act.put, List.getElem_toArray, List.getElem_cons_succ, List.getElem_cons_zero, List.setIfInBounds_toArray, List.set_cons_zero, List.set_cons_succ]
    refine Turns.rest (late_done (by kernel_rfl)) ?_
    refine any_tail 19 (by rfl) (by kernel_rfl) ?_
    simp only [List.drop_succ_cons, List.drop_zero]
    clear hS
    go_wp2
    go_ret
    exact ⟨rfl, HX.out.below⟩
  obtain ⟨yb, mb, db, Hb, Mb, Sb, hb⟩ := isOf_ex g hb
  have HO2 := Lib.hid (fun W q h => of_hit g hb f2 q W h)
  have HTA := Lib.hid (fun W (hW : Below w.heap.size w W) => utext_yes ya ma da Ha Ma Sa W ha.can ha.time (HT.out.below hW))
  have HTB := Lib.hid (fun W (hW : Below w.heap.size w W) => utext_yes yb mb db Hb Mb Sb W hb.can hb.time (HT.out.below hW))
  have d1 := isOf_less g ha hb
  have d3 : (a1 == a2) = false := beq_no hab
  have q1 := fun W => utc_eq_other ya ma da Ha Ma Sa yb mb db Hb Mb Sb W (fun h => by obtain ⟨⟨rfl, rfl, rfl⟩, ⟨rfl, rfl, rfl⟩⟩ := h; exact hab (isOf_one g ha hb))
  obtain ⟨TA, hTA⟩ : ∃ T, textU ya ma da Ha Ma Sa = T := ⟨_, rfl⟩
  obtain ⟨TB, hTB⟩ : ∃ T, textU yb mb db Hb Mb Sb = T := ⟨_, rfl⟩
  simp only [hTA] at HTA d1
  simp only [hTB] at HTB d1
  clear g hrow hfits hnl h0 h64 ha hb f1 f2 hTA hTB
  by_cases hlt : a1 < a2
  · have d2 : decide (a1 < a2) = true := decide_eq_true hlt
    rw [d2] at d1
    clear hlt
    go_enter Tryd.func7, Tryd.ntmps7
    go_upto_region 12 with (first
      | (go_at_call 9; refine (alive_yes _ (HT.out.below HX.out.below)).mono ?_; rintro e w1 ⟨rfl, hb1⟩; (try replace HRT := Lib.hid ((HRT.out.below hb1).mono hb1.size)); replace HX := Lib.hid (HX.out.next hb1); clear hb1; (try clear c0 c1 c2 c3); obtain ⟨c0, c1, c2, c3⟩ := HX.out.tab4)
      | (go_at_call 10; refine (HMD.out _ HX.out.below).mono ?_; intro e w2 hp; obtain ⟨q, rfl, hr, hb2⟩ := HMY.out _ _ _ hp; clear hp; (try replace HRT := Lib.hid ((HRT.out.below hb2).mono hb2.size)); replace HX := Lib.hid (HX.out.next hb2); clear hb2; (try clear c0 c1 c2 c3); obtain ⟨c0, c1, c2, c3⟩ := HX.out.tab4; have HRT := Lib.hid hr; clear hr)
      | (go_at_call 10; refine (HMD.out _ HX.out.below).mono ?_; intro e w2 hp; obtain ⟨rfl, hb2⟩ := HMN.out _ _ _ hp; clear hp; (try replace HRT := Lib.hid ((HRT.out.below hb2).mono hb2.size)); replace HX := Lib.hid (HX.out.next hb2); clear hb2; (try clear c0 c1 c2 c3); obtain ⟨c0, c1, c2, c3⟩ := HX.out.tab4)
      | (go_at_call 11; with_reducible refine (HM1.out _ _ HRT.out).mono ?_; rintro e w3 ⟨rfl, hbz⟩; have HQ := Lib.hid (Box.start w3 35 #[.int .i64 0, .int .i64 0, .int .i64 0, .int .i64 0, .int .i64 0, .int .i64 0]); have hb3 := hbz.trans (HQ.out.below.mono hbz.size); have HA := Lib.hid HQ.out.holds; clear HQ hbz; (try replace HRT := Lib.hid ((HRT.out.below hb3).mono hb3.size)); replace HX := Lib.hid (HX.out.next hb3); clear hb3; (try clear c0 c1 c2 c3); obtain ⟨c0, c1, c2, c3⟩ := HX.out.tab4)
      | (go_at_call 11; with_reducible refine (HM2.out _ _ HRT.out).mono ?_; rintro e w4 ⟨rfl, hbz⟩; have HQ := Lib.hid (Box.start w4 35 #[.int .i64 0, .int .i64 0, .int .i64 0, .int .i64 0, .int .i64 0, .int .i64 0]); have hb4 := hbz.trans (HQ.out.below.mono hbz.size); (try replace HA := Lib.hid (HA.out.below hb4 HA.out.lt)); have HB := Lib.hid HQ.out.holds; clear HQ hbz; (try replace HRT := Lib.hid ((HRT.out.below hb4).mono hb4.size)); replace HX := Lib.hid (HX.out.next hb4); clear hb4; (try clear c0 c1 c2 c3); obtain ⟨c0, c1, c2, c3⟩ := HX.out.tab4)
      | (go_at_call 11; with_reducible refine (HO1.out _ _ HRT.out).mono ?_; rintro e w3 ⟨rfl, hbz⟩; have HQ := Lib.hid (Box.start w3 35 #[.int .i64 ya, .int .i64 ma, .int .i64 da, .int .i64 Ha, .int .i64 Ma, .int .i64 Sa]); have hb3 := hbz.trans (HQ.out.below.mono hbz.size); have HA := Lib.hid HQ.out.holds; clear HQ hbz; (try replace HRT := Lib.hid ((HRT.out.below hb3).mono hb3.size)); replace HX := Lib.hid (HX.out.next hb3); clear hb3; (try clear c0 c1 c2 c3); obtain ⟨c0, c1, c2, c3⟩ := HX.out.tab4; clear HO1)
      | (go_at_call 11; with_reducible refine (HO2.out _ _ HRT.out).mono ?_; rintro e w4 ⟨rfl, hbz⟩; have HQ := Lib.hid (Box.start w4 35 #[.int .i64 yb, .int .i64 mb, .int .i64 db, .int .i64 Hb, .int .i64 Mb, .int .i64 Sb]); have hb4 := hbz.trans (HQ.out.below.mono hbz.size); (try replace HA := Lib.hid (HA.out.below hb4 HA.out.lt)); have HB := Lib.hid HQ.out.holds; clear HQ hbz; (try replace HRT := Lib.hid ((HRT.out.below hb4).mono hb4.size)); replace HX := Lib.hid (HX.out.next hb4); clear hb4; (try clear c0 c1 c2 c3); obtain ⟨c0, c1, c2, c3⟩ := HX.out.tab4)
      | (go_at_call 11; with_reducible refine (HO2.out _ _ HRT.out).mono ?_; rintro e w4 ⟨rfl, hbz⟩; have HQ := Lib.hid (Box.start w4 35 #[.int .i64 ya, .int .i64 ma, .int .i64 da, .int .i64 Ha, .int .i64 Ma, .int .i64 Sa]); have hb4 := hbz.trans (HQ.out.below.mono hbz.size); (try replace HA := Lib.hid (HA.out.below hb4 HA.out.lt)); have HB := Lib.hid HQ.out.holds; clear HQ hbz; (try replace HRT := Lib.hid ((HRT.out.below hb4).mono hb4.size)); replace HX := Lib.hid (HX.out.next hb4); clear hb4; (try clear c0 c1 c2 c3); obtain ⟨c0, c1, c2, c3⟩ := HX.out.tab4))
    clear c0 c1 c2 c3
    obtain ⟨ba, hba⟩ : ∃ b, w3.heap.size = b := ⟨_, rfl⟩
    obtain ⟨bb, hbb⟩ : ∃ b, w4.heap.size = b := ⟨_, rfl⟩
    simp only [hba] at HA ⊢
    simp only [hbb] at HB ⊢
    clear hba hbb
    replace HX := Lib.hid HX.out.drew
    replace HA := Lib.hid (HA.out.below (Below.refl _ _).drew HA.out.lt)
    replace HB := Lib.hid (HB.out.below (Below.refl _ _).drew HB.out.lt)
    refine region_turns (fun (w' : World) => w'.cell? ⟨ba, 0, none⟩ = some (.int .i64 ya) ∧ w'.cell? ⟨ba, 1, none⟩ = some (.int .i64 ma) ∧ w'.cell? ⟨ba, 2, none⟩ = some (.int .i64 da) ∧ w'.cell? ⟨ba, 3, none⟩ = some (.int .i64 Ha) ∧ w'.cell? ⟨ba, 4, none⟩ = some (.int .i64 Ma) ∧ w'.cell? ⟨ba, 5, none⟩ = some (.int .i64 Sa) ∧ w'.cell? ⟨bb, 0, none⟩ = some (.int .i64 yb) ∧ w'.cell? ⟨bb, 1, none⟩ = some (.int .i64 mb) ∧ w'.cell? ⟨bb, 2, none⟩ = some (.int .i64 db) ∧ w'.cell? ⟨bb, 3, none⟩ = some (.int .i64 Hb) ∧ w'.cell? ⟨bb, 4, none⟩ = some (.int .i64 Mb) ∧ w'.cell? ⟨bb, 5, none⟩ = some (.int .i64 Sb)) (fun j => decide (19 ≤ j)) (by kernel_rfl) (⟨HA.out.cell 0, HA.out.cell 1, HA.out.cell 2, HA.out.cell 3, HA.out.cell 4, HA.out.cell 5, HB.out.cell 0, HB.out.cell 1, HB.out.cell 2, HB.out.cell 3, HB.out.cell 4, HB.out.cell 5⟩) (fun hS => ?_)
    refine Turns.take hS 0 _ rfl (by kernel_rfl) (by kernel_rfl) (by kernel_rfl) (by kernel_rfl) (fun _ _ _ h => h) (by rfl) (fun w' hS' => by (try dsimp only at hS'); go_split_ands; go_simp; (try with_reducible rfl)) ?_
    simp only [Act.put, List.getElem_toArray, List.getElem_cons_succ, List.getElem_cons_zero, List.setIfInBounds_toArray, List.set_cons_zero, List.set_cons_succ]
    refine Turns.take hS 2 _ rfl (by kernel_rfl) (by kernel_rfl) (by kernel_rfl) (by kernel_rfl) (fun _ _ _ h => h) (by rfl) (fun w' hS' => by (try dsimp only at hS'); go_split_ands; go_simp; (try with_reducible rfl)) ?_
    simp only [Act.put, List.getElem_toArray, List.getElem_cons_succ, List.getElem_cons_zero, List.setIfInBounds_toArray, List.set_cons_zero, List.set_cons_succ]
    refine Turns.take hS 5 _ rfl (by kernel_rfl) (by kernel_rfl) (by kernel_rfl) (by kernel_rfl) (fun _ _ _ h => h) (by rfl) (fun w' hS' => by (try dsimp only at hS'); go_split_ands; go_simp; (try with_reducible rfl)) ?_
    simp only [Act.put, List.getElem_toArray, List.getElem_cons_succ, List.getElem_cons_zero, List.setIfInBounds_toArray, List.set_cons_zero, List.set_cons_succ]
    refine Turns.take hS 6 _ rfl (by kernel_rfl) (by kernel_rfl) (by kernel_rfl) (by kernel_rfl) (fun _ _ _ h => h) (by rfl) (fun w' hS' => by (try dsimp only at hS'); go_split_ands; go_simp; (try with_reducible rfl)) ?_
    simp only [Act.put, List.getElem_toArray, List.getElem_cons_succ, List.getElem_cons_zero, List.setIfInBounds_toArray, List.set_cons_zero, List.set_cons_succ]
    refine Turns.take hS 7 _ rfl (by kernel_rfl) (by kernel_rfl) (by kernel_rfl) (by kernel_rfl) (fun _ _ _ h => h) (by rfl) (fun w' hS' => by (try dsimp only at hS'); go_split_ands; go_simp; (try with_reducible rfl)) ?_
    simp only [Act.put, List.getElem_toArray, List.getElem_cons_succ, List.getElem_cons_zero, List.setIfInBounds_toArray, List.set_cons_zero, List.set_cons_succ]
    refine Turns.next 1 rfl (by kernel_rfl) (by rfl) (fun K hK => ?_)
    go_simp
    go_at_call 19
    refine (HTA.out _ HX.out.below).mono ?_
    rintro e v1 ⟨rfl, hbt⟩
    replace HX := Lib.hid (HX.out.next hbt)
    replace HA := Lib.hid (HA.out.below hbt HA.out.lt)
    replace HB := Lib.hid (HB.out.below hbt HB.out.lt)
    clear hbt
    refine hK.out _ _ (show (fun (w' : World) => w'.cell? ⟨ba, 0, none⟩ = some (.int .i64 ya) ∧ w'.cell? ⟨ba, 1, none⟩ = some (.int .i64 ma) ∧ w'.cell? ⟨ba, 2, none⟩ = some (.int .i64 da) ∧ w'.cell? ⟨ba, 3, none⟩ = some (.int .i64 Ha) ∧ w'.cell? ⟨ba, 4, none⟩ = some (.int .i64 Ma) ∧ w'.cell? ⟨ba, 5, none⟩ = some (.int .i64 Sa) ∧ w'.cell? ⟨bb, 0, none⟩ = some (.int .i64 yb) ∧ w'.cell? ⟨bb, 1, none⟩ = some (.int .i64 mb) ∧ w'.cell? ⟨bb, 2, none⟩ = some (.int .i64 db) ∧ w'.cell? ⟨bb, 3, none⟩ = some (.int .i64 Hb) ∧ w'.cell? ⟨bb, 4, none⟩ = some (.int .i64 Mb) ∧ w'.cell? ⟨bb, 5, none⟩ = some (.int .i64 Sb)) _ from ⟨HA.out.cell 0, HA.out.cell 1, HA.out.cell 2, HA.out.cell 3, HA.out.cell 4, HA.out.cell 5, HB.out.cell 0, HB.out.cell 1, HB.out.cell 2, HB.out.cell 3, HB.out.cell 4, HB.out.cell 5⟩) ?_
    clear hK K hS
    have hS := (show (fun (w' : World) => w'.cell? ⟨ba, 0, none⟩ = some (.int .i64 ya) ∧ w'.cell? ⟨ba, 1, none⟩ = some (.int .i64 ma) ∧ w'.cell? ⟨ba, 2, none⟩ = some (.int .i64 da) ∧ w'.cell? ⟨ba, 3, none⟩ = some (.int .i64 Ha) ∧ w'.cell? ⟨ba, 4, none⟩ = some (.int .i64 Ma) ∧ w'.cell? ⟨ba, 5, none⟩ = some (.int .i64 Sa) ∧ w'.cell? ⟨bb, 0, none⟩ = some (.int .i64 yb) ∧ w'.cell? ⟨bb, 1, none⟩ = some (.int .i64 mb) ∧ w'.cell? ⟨bb, 2, none⟩ = some (.int .i64 db) ∧ w'.cell? ⟨bb, 3, none⟩ = some (.int .i64 Hb) ∧ w'.cell? ⟨bb, 4, none⟩ = some (.int .i64 Mb) ∧ w'.cell? ⟨bb, 5, none⟩ = some (.int .i64 Sb)) _ from ⟨HA.out.cell 0, HA.out.cell 1, HA.out.cell 2, HA.out.cell 3, HA.out.cell 4, HA.out.cell 5, HB.out.cell 0, HB.out.cell 1, HB.out.cell 2, HB.out.cell 3, HB.out.cell 4, HB.out.cell 5⟩)
    refine Turns.next 3 rfl (by kernel_rfl) (by rfl) (fun K hK => ?_)
    go_simp
    go_at_call 19
    refine (HTB.out _ HX.out.below).mono ?_
    rintro e v3 ⟨rfl, hbt⟩
    replace HX := Lib.hid (HX.out.next hbt)
    replace HA := Lib.hid (HA.out.below hbt HA.out.lt)
    replace HB := Lib.hid (HB.out.below hbt HB.out.lt)
    clear hbt
    refine hK.out _ _ (show (fun (w' : World) => w'.cell? ⟨ba, 0, none⟩ = some (.int .i64 ya) ∧ w'.cell? ⟨ba, 1, none⟩ = some (.int .i64 ma) ∧ w'.cell? ⟨ba, 2, none⟩ = some (.int .i64 da) ∧ w'.cell? ⟨ba, 3, none⟩ = some (.int .i64 Ha) ∧ w'.cell? ⟨ba, 4, none⟩ = some (.int .i64 Ma) ∧ w'.cell? ⟨ba, 5, none⟩ = some (.int .i64 Sa) ∧ w'.cell? ⟨bb, 0, none⟩ = some (.int .i64 yb) ∧ w'.cell? ⟨bb, 1, none⟩ = some (.int .i64 mb) ∧ w'.cell? ⟨bb, 2, none⟩ = some (.int .i64 db) ∧ w'.cell? ⟨bb, 3, none⟩ = some (.int .i64 Hb) ∧ w'.cell? ⟨bb, 4, none⟩ = some (.int .i64 Mb) ∧ w'.cell? ⟨bb, 5, none⟩ = some (.int .i64 Sb)) _ from ⟨HA.out.cell 0, HA.out.cell 1, HA.out.cell 2, HA.out.cell 3, HA.out.cell 4, HA.out.cell 5, HB.out.cell 0, HB.out.cell 1, HB.out.cell 2, HB.out.cell 3, HB.out.cell 4, HB.out.cell 5⟩) ?_
    clear hK K hS
    have hS := (show (fun (w' : World) => w'.cell? ⟨ba, 0, none⟩ = some (.int .i64 ya) ∧ w'.cell? ⟨ba, 1, none⟩ = some (.int .i64 ma) ∧ w'.cell? ⟨ba, 2, none⟩ = some (.int .i64 da) ∧ w'.cell? ⟨ba, 3, none⟩ = some (.int .i64 Ha) ∧ w'.cell? ⟨ba, 4, none⟩ = some (.int .i64 Ma) ∧ w'.cell? ⟨ba, 5, none⟩ = some (.int .i64 Sa) ∧ w'.cell? ⟨bb, 0, none⟩ = some (.int .i64 yb) ∧ w'.cell? ⟨bb, 1, none⟩ = some (.int .i64 mb) ∧ w'.cell? ⟨bb, 2, none⟩ = some (.int .i64 db) ∧ w'.cell? ⟨bb, 3, none⟩ = some (.int .i64 Hb) ∧ w'.cell? ⟨bb, 4, none⟩ = some (.int .i64 Mb) ∧ w'.cell? ⟨bb, 5, none⟩ = some (.int .i64 Sb)) _ from ⟨HA.out.cell 0, HA.out.cell 1, HA.out.cell 2, HA.out.cell 3, HA.out.cell 4, HA.out.cell 5, HB.out.cell 0, HB.out.cell 1, HB.out.cell 2, HB.out.cell 3, HB.out.cell 4, HB.out.cell 5⟩)
    refine Turns.take hS 4 _ rfl (by kernel_rfl) (by kernel_rfl) (by kernel_rfl) (by kernel_rfl) (fun _ _ _ h => h) (by rfl) (fun w' hS' => by (try dsimp only at hS'); go_split_ands; go_simp; (try with_reducible rfl)) ?_
    simp only [Act.put, List.getElem_toArray, List.getElem_cons_succ, List.getElem_cons_zero, List.setIfInBounds_toArray, List.set_cons_zero, List.set_cons_succ]
    refine Turns.take hS 8 _ rfl (by kernel_rfl) (by kernel_rfl) (by kernel_rfl) (by kernel_rfl) (fun _ _ _ h => h) (by rfl) (fun w' hS' => by (try dsimp only at hS'); go_split_ands; go_simp; (try with_reducible rfl)) ?_
    simp only [Act.put, List.getElem_toArray, List.getElem_cons_succ, List.getElem_cons_zero, List.setIfInBounds_toArray, List.set_cons_zero, List.set_cons_succ]
    refine Turns.take hS 9 _ rfl (by kernel_rfl) (by kernel_rfl) (by kernel_rfl) (by kernel_rfl) (fun _ _ _ h => h) (by rfl) (fun w' hS' => by (try dsimp only at hS'); go_split_ands; go_simp; (try with_reducible rfl)) ?_
    simp only [Act.put, List.getElem_toArray, List.getElem_cons_succ, List.getElem_cons_zero, List.setIfInBounds_toArray, List.set_cons_zero, List.set_cons_succ]
    refine Turns.take hS 10 _ rfl (by kernel_rfl) (by kernel_rfl) (by kernel_rfl) (by kernel_rfl) (fun _ _ _ h => h) (by rfl) (fun w' hS' => by (try dsimp only at hS'); go_split_ands; go_simp; (try with_reducible rfl)) ?_
    simp only [Act.put, List.getElem_toArray, List.getElem_cons_succ, List.getElem_cons_zero, List.setIfInBounds_toArray, List.set_cons_zero, List.set_cons_succ]
    refine Turns.take hS 11 _ rfl (by kernel_rfl) (by kernel_rfl) (by kernel_rfl) (by kernel_rfl) (fun _ _ _ h => h) (by rfl) (fun w' hS' => by (try dsimp only at hS'); go_split_ands; go_simp; (try with_reducible rfl)) ?_
    simp only [Act.put, List.getElem_toArray, List.getElem_cons_succ, List.getElem_cons_zero, List.setIfInBounds_toArray, List.set_cons_zero, List.set_cons_succ]
    refine Turns.take hS 12 _ rfl (by kernel_rfl) (by kernel_rfl) (by kernel_rfl) (by kernel_rfl) (fun _ _ _ h => h) (by rfl) (fun w' hS' => by (try dsimp only at hS'); go_split_ands; go_simp; (try with_reducible rfl)) ?_
    simp only [Act.put, List.getElem_toArray, List.getElem_cons_succ, List.getElem_cons_zero, List.setIfInBounds_toArray, List.set_cons_zero, List.set_cons_succ]
    refine Turns.take hS 13 _ rfl (by kernel_rfl) (by kernel_rfl) (by kernel_rfl) (by kernel_rfl) (fun _ _ _ h => h) (by rfl) (fun w' hS' => by (try dsimp only at hS'); go_split_ands; go_simp; (try with_reducible rfl)) ?_
    simp only [Act.put, List.getElem_toArray, List.getElem_cons_succ, List.getElem_cons_zero, List.setIfInBounds_toArray, List.set_cons_zero, List.set_cons_succ]
    refine Turns.take hS 14 _ rfl (by kernel_rfl) (by kernel_rfl) (by kernel_rfl) (by kernel_rfl) (fun _ _ _ h => h) (by rfl) (fun w' hS' => by (try dsimp only at hS'); go_split_ands; go_simp; (try with_reducible rfl)) ?_
    simp only [Act.put, List.getElem_toArray, List.getElem_cons_succ, List.getElem_cons_zero, List.setIfInBounds_toArray, List.set_cons_zero, List.set_cons_succ]
    refine Turns.take hS 15 _ rfl (by kernel_rfl) (by kernel_rfl) (by kernel_rfl) (by kernel_rfl) (fun _ _ _ h => h) (by rfl) (fun w' hS' => by (try dsimp only at hS'); go_split_ands; go_simp; (try with_reducible rfl)) ?_
    simp only [Act.put, List.getElem_toArray, List.getElem_cons_succ, List.getElem_cons_zero, List.setIfInBounds_toArray, List.set_cons_zero, List.set_cons_succ]
    refine Turns.take hS 16 _ rfl (by kernel_rfl) (by kernel_rfl) (by kernel_rfl) (by kernel_rfl) (fun _ _ _ h => h) (by rfl) (fun w' hS' => by (try dsimp only at hS'); go_split_ands; go_simp; (try with_reducible rfl)) ?_
    simp only [Act.put, List.getElem_toArray, List.getElem_cons_succ, List.getElem_cons_zero, List.setIfInBounds_toArray, List.set_cons_zero, List.set_cons_succ]
    refine Turns.take hS 17 _ rfl (by kernel_rfl) (by kernel_rfl) (by kernel_rfl) (by kernel_rfl) (fun _ _ _ h => h) (by rfl) (fun w' hS' => by (try dsimp only at hS'); go_split_ands; go_simp; (try with_reducible rfl)) ?_
    simp only [Act.put, List.getElem_toArray, List.getElem_cons_succ, List.getElem_cons_zero, List.setIfInBounds_toArray, List.set_cons_zero, List.set_cons_succ]
    refine Turns.take hS 18 _ rfl (by kernel_rfl) (by kernel_rfl) (by kernel_rfl) (by kernel_rfl) (fun _ _ _ h => h) (by rfl) (fun w' hS' => by (try dsimp only at hS'); go_split_ands; go_simp; (try with_reducible rfl)) ?_
    simp only [Act.put, List.getElem_toArray, List.getElem_cons_succ, List.getElem_cons_zero, List.setIfInBounds_toArray, List.set_cons_zero, List.set_cons_succ]
    refine Turns.rest (late_done (by kernel_rfl)) ?_
    refine any_tail 19 (by rfl) (by kernel_rfl) ?_
    simp only [List.drop_succ_cons, List.drop_zero]
    clear hS
    go_wp2
    go_ret
    exact ⟨rfl, HX.out.below⟩
  · have d2 : decide (a1 < a2) = false := decide_eq_false hlt
    rw [d2] at d1
    clear hlt
    go_enter Tryd.func7, Tryd.ntmps7
    go_upto_region 12 with (first
      | (go_at_call 9; refine (alive_yes _ (HT.out.below HX.out.below)).mono ?_; rintro e w1 ⟨rfl, hb1⟩; (try replace HRT := Lib.hid ((HRT.out.below hb1).mono hb1.size)); replace HX := Lib.hid (HX.out.next hb1); clear hb1; (try clear c0 c1 c2 c3); obtain ⟨c0, c1, c2, c3⟩ := HX.out.tab4)
      | (go_at_call 10; refine (HMD.out _ HX.out.below).mono ?_; intro e w2 hp; obtain ⟨q, rfl, hr, hb2⟩ := HMY.out _ _ _ hp; clear hp; (try replace HRT := Lib.hid ((HRT.out.below hb2).mono hb2.size)); replace HX := Lib.hid (HX.out.next hb2); clear hb2; (try clear c0 c1 c2 c3); obtain ⟨c0, c1, c2, c3⟩ := HX.out.tab4; have HRT := Lib.hid hr; clear hr)
      | (go_at_call 10; refine (HMD.out _ HX.out.below).mono ?_; intro e w2 hp; obtain ⟨rfl, hb2⟩ := HMN.out _ _ _ hp; clear hp; (try replace HRT := Lib.hid ((HRT.out.below hb2).mono hb2.size)); replace HX := Lib.hid (HX.out.next hb2); clear hb2; (try clear c0 c1 c2 c3); obtain ⟨c0, c1, c2, c3⟩ := HX.out.tab4)
      | (go_at_call 11; with_reducible refine (HM1.out _ _ HRT.out).mono ?_; rintro e w3 ⟨rfl, hbz⟩; have HQ := Lib.hid (Box.start w3 35 #[.int .i64 0, .int .i64 0, .int .i64 0, .int .i64 0, .int .i64 0, .int .i64 0]); have hb3 := hbz.trans (HQ.out.below.mono hbz.size); have HA := Lib.hid HQ.out.holds; clear HQ hbz; (try replace HRT := Lib.hid ((HRT.out.below hb3).mono hb3.size)); replace HX := Lib.hid (HX.out.next hb3); clear hb3; (try clear c0 c1 c2 c3); obtain ⟨c0, c1, c2, c3⟩ := HX.out.tab4)
      | (go_at_call 11; with_reducible refine (HM2.out _ _ HRT.out).mono ?_; rintro e w4 ⟨rfl, hbz⟩; have HQ := Lib.hid (Box.start w4 35 #[.int .i64 0, .int .i64 0, .int .i64 0, .int .i64 0, .int .i64 0, .int .i64 0]); have hb4 := hbz.trans (HQ.out.below.mono hbz.size); (try replace HA := Lib.hid (HA.out.below hb4 HA.out.lt)); have HB := Lib.hid HQ.out.holds; clear HQ hbz; (try replace HRT := Lib.hid ((HRT.out.below hb4).mono hb4.size)); replace HX := Lib.hid (HX.out.next hb4); clear hb4; (try clear c0 c1 c2 c3); obtain ⟨c0, c1, c2, c3⟩ := HX.out.tab4)
      | (go_at_call 11; with_reducible refine (HO1.out _ _ HRT.out).mono ?_; rintro e w3 ⟨rfl, hbz⟩; have HQ := Lib.hid (Box.start w3 35 #[.int .i64 ya, .int .i64 ma, .int .i64 da, .int .i64 Ha, .int .i64 Ma, .int .i64 Sa]); have hb3 := hbz.trans (HQ.out.below.mono hbz.size); have HA := Lib.hid HQ.out.holds; clear HQ hbz; (try replace HRT := Lib.hid ((HRT.out.below hb3).mono hb3.size)); replace HX := Lib.hid (HX.out.next hb3); clear hb3; (try clear c0 c1 c2 c3); obtain ⟨c0, c1, c2, c3⟩ := HX.out.tab4; clear HO1)
      | (go_at_call 11; with_reducible refine (HO2.out _ _ HRT.out).mono ?_; rintro e w4 ⟨rfl, hbz⟩; have HQ := Lib.hid (Box.start w4 35 #[.int .i64 yb, .int .i64 mb, .int .i64 db, .int .i64 Hb, .int .i64 Mb, .int .i64 Sb]); have hb4 := hbz.trans (HQ.out.below.mono hbz.size); (try replace HA := Lib.hid (HA.out.below hb4 HA.out.lt)); have HB := Lib.hid HQ.out.holds; clear HQ hbz; (try replace HRT := Lib.hid ((HRT.out.below hb4).mono hb4.size)); replace HX := Lib.hid (HX.out.next hb4); clear hb4; (try clear c0 c1 c2 c3); obtain ⟨c0, c1, c2, c3⟩ := HX.out.tab4)
      | (go_at_call 11; with_reducible refine (HO2.out _ _ HRT.out).mono ?_; rintro e w4 ⟨rfl, hbz⟩; have HQ := Lib.hid (Box.start w4 35 #[.int .i64 ya, .int .i64 ma, .int .i64 da, .int .i64 Ha, .int .i64 Ma, .int .i64 Sa]); have hb4 := hbz.trans (HQ.out.below.mono hbz.size); (try replace HA := Lib.hid (HA.out.below hb4 HA.out.lt)); have HB := Lib.hid HQ.out.holds; clear HQ hbz; (try replace HRT := Lib.hid ((HRT.out.below hb4).mono hb4.size)); replace HX := Lib.hid (HX.out.next hb4); clear hb4; (try clear c0 c1 c2 c3); obtain ⟨c0, c1, c2, c3⟩ := HX.out.tab4))
    clear c0 c1 c2 c3
    obtain ⟨ba, hba⟩ : ∃ b, w3.heap.size = b := ⟨_, rfl⟩
    obtain ⟨bb, hbb⟩ : ∃ b, w4.heap.size = b := ⟨_, rfl⟩
    simp only [hba] at HA ⊢
    simp only [hbb] at HB ⊢
    clear hba hbb
    replace HX := Lib.hid HX.out.drew
    replace HA := Lib.hid (HA.out.below (Below.refl _ _).drew HA.out.lt)
    replace HB := Lib.hid (HB.out.below (Below.refl _ _).drew HB.out.lt)
    refine region_turns (fun (w' : World) => w'.cell? ⟨ba, 0, none⟩ = some (.int .i64 ya) ∧ w'.cell? ⟨ba, 1, none⟩ = some (.int .i64 ma) ∧ w'.cell? ⟨ba, 2, none⟩ = some (.int .i64 da) ∧ w'.cell? ⟨ba, 3, none⟩ = some (.int .i64 Ha) ∧ w'.cell? ⟨ba, 4, none⟩ = some (.int .i64 Ma) ∧ w'.cell? ⟨ba, 5, none⟩ = some (.int .i64 Sa) ∧ w'.cell? ⟨bb, 0, none⟩ = some (.int .i64 yb) ∧ w'.cell? ⟨bb, 1, none⟩ = some (.int .i64 mb) ∧ w'.cell? ⟨bb, 2, none⟩ = some (.int .i64 db) ∧ w'.cell? ⟨bb, 3, none⟩ = some (.int .i64 Hb) ∧ w'.cell? ⟨bb, 4, none⟩ = some (.int .i64 Mb) ∧ w'.cell? ⟨bb, 5, none⟩ = some (.int .i64 Sb)) (fun j => decide (19 ≤ j)) (by kernel_rfl) (⟨HA.out.cell 0, HA.out.cell 1, HA.out.cell 2, HA.out.cell 3, HA.out.cell 4, HA.out.cell 5, HB.out.cell 0, HB.out.cell 1, HB.out.cell 2, HB.out.cell 3, HB.out.cell 4, HB.out.cell 5⟩) (fun hS => ?_)
    refine Turns.take hS 0 _ rfl (by kernel_rfl) (by kernel_rfl) (by kernel_rfl) (by kernel_rfl) (fun _ _ _ h => h) (by rfl) (fun w' hS' => by (try dsimp only at hS'); go_split_ands; go_simp; (try with_reducible rfl)) ?_
    simp only [Act.put, List.getElem_toArray, List.getElem_cons_succ, List.getElem_cons_zero, List.setIfInBounds_toArray, List.set_cons_zero, List.set_cons_succ]
    refine Turns.take hS 2 _ rfl (by kernel_rfl) (by kernel_rfl) (by kernel_rfl) (by kernel_rfl) (fun _ _ _ h => h) (by rfl) (fun w' hS' => by (try dsimp only at hS'); go_split_ands; go_simp; (try with_reducible rfl)) ?_
    simp only [Act.put, List.getElem_toArray, List.getElem_cons_succ, List.getElem_cons_zero, List.setIfInBounds_toArray, List.set_cons_zero, List.set_cons_succ]
    refine Turns.take hS 5 _ rfl (by kernel_rfl) (by kernel_rfl) (by kernel_rfl) (by kernel_rfl) (fun _ _ _ h => h) (by rfl) (fun w' hS' => by (try dsimp only at hS'); go_split_ands; go_simp; (try with_reducible rfl)) ?_
    simp only [Act.put, List.getElem_toArray, List.getElem_cons_succ, List.getElem_cons_zero, List.setIfInBounds_toArray, List.set_cons_zero, List.set_cons_succ]
    refine Turns.take hS 6 _ rfl (by kernel_rfl) (by kernel_rfl) (by kernel_rfl) (by kernel_rfl) (fun _ _ _ h => h) (by rfl) (fun w' hS' => by (try dsimp only at hS'); go_split_ands; go_simp; (try with_reducible rfl)) ?_
    simp only [Act.put, List.getElem_toArray, List.getElem_cons_succ, List.getElem_cons_zero, List.setIfInBounds_toArray, List.set_cons_zero, List.set_cons_succ]
    refine Turns.take hS 7 _ rfl (by kernel_rfl) (by kernel_rfl) (by kernel_rfl) (by kernel_rfl) (fun _ _ _ h => h) (by rfl) (fun w' hS' => by (try dsimp only at hS'); go_split_ands; go_simp; (try with_reducible rfl)) ?_
    simp only [Act.put, List.getElem_toArray, List.getElem_cons_succ, List.getElem_cons_zero, List.setIfInBounds_toArray, List.set_cons_zero, List.set_cons_succ]
    refine Turns.next 1 rfl (by kernel_rfl) (by rfl) (fun K hK => ?_)
    go_simp
    go_at_call 19
    refine (HTA.out _ HX.out.below).mono ?_
    rintro e v1 ⟨rfl, hbt⟩
    replace HX := Lib.hid (HX.out.next hbt)
    replace HA := Lib.hid (HA.out.below hbt HA.out.lt)
    replace HB := Lib.hid (HB.out.below hbt HB.out.lt)
    clear hbt
    refine hK.out _ _ (show (fun (w' : World) => w'.cell? ⟨ba, 0, none⟩ = some (.int .i64 ya) ∧ w'.cell? ⟨ba, 1, none⟩ = some (.int .i64 ma) ∧ w'.cell? ⟨ba, 2, none⟩ = some (.int .i64 da) ∧ w'.cell? ⟨ba, 3, none⟩ = some (.int .i64 Ha) ∧ w'.cell? ⟨ba, 4, none⟩ = some (.int .i64 Ma) ∧ w'.cell? ⟨ba, 5, none⟩ = some (.int .i64 Sa) ∧ w'.cell? ⟨bb, 0, none⟩ = some (.int .i64 yb) ∧ w'.cell? ⟨bb, 1, none⟩ = some (.int .i64 mb) ∧ w'.cell? ⟨bb, 2, none⟩ = some (.int .i64 db) ∧ w'.cell? ⟨bb, 3, none⟩ = some (.int .i64 Hb) ∧ w'.cell? ⟨bb, 4, none⟩ = some (.int .i64 Mb) ∧ w'.cell? ⟨bb, 5, none⟩ = some (.int .i64 Sb)) _ from ⟨HA.out.cell 0, HA.out.cell 1, HA.out.cell 2, HA.out.cell 3, HA.out.cell 4, HA.out.cell 5, HB.out.cell 0, HB.out.cell 1, HB.out.cell 2, HB.out.cell 3, HB.out.cell 4, HB.out.cell 5⟩) ?_
    clear hK K hS
    have hS := (show (fun (w' : World) => w'.cell? ⟨ba, 0, none⟩ = some (.int .i64 ya) ∧ w'.cell? ⟨ba, 1, none⟩ = some (.int .i64 ma) ∧ w'.cell? ⟨ba, 2, none⟩ = some (.int .i64 da) ∧ w'.cell? ⟨ba, 3, none⟩ = some (.int .i64 Ha) ∧ w'.cell? ⟨ba, 4, none⟩ = some (.int .i64 Ma) ∧ w'.cell? ⟨ba, 5, none⟩ = some (.int .i64 Sa) ∧ w'.cell? ⟨bb, 0, none⟩ = some (.int .i64 yb) ∧ w'.cell? ⟨bb, 1, none⟩ = some (.int .i64 mb) ∧ w'.cell? ⟨bb, 2, none⟩ = some (.int .i64 db) ∧ w'.cell? ⟨bb, 3, none⟩ = some (.int .i64 Hb) ∧ w'.cell? ⟨bb, 4, none⟩ = some (.int .i64 Mb) ∧ w'.cell? ⟨bb, 5, none⟩ = some (.int .i64 Sb)) _ from ⟨HA.out.cell 0, HA.out.cell 1, HA.out.cell 2, HA.out.cell 3, HA.out.cell 4, HA.out.cell 5, HB.out.cell 0, HB.out.cell 1, HB.out.cell 2, HB.out.cell 3, HB.out.cell 4, HB.out.cell 5⟩)
    refine Turns.next 3 rfl (by kernel_rfl) (by rfl) (fun K hK => ?_)
    go_simp
    go_at_call 19
    refine (HTB.out _ HX.out.below).mono ?_
    rintro e v3 ⟨rfl, hbt⟩
    replace HX := Lib.hid (HX.out.next hbt)
    replace HA := Lib.hid (HA.out.below hbt HA.out.lt)
    replace HB := Lib.hid (HB.out.below hbt HB.out.lt)
    clear hbt
    refine hK.out _ _ (show (fun (w' : World) => w'.cell? ⟨ba, 0, none⟩ = some (.int .i64 ya) ∧ w'.cell? ⟨ba, 1, none⟩ = some (.int .i64 ma) ∧ w'.cell? ⟨ba, 2, none⟩ = some (.int .i64 da) ∧ w'.cell? ⟨ba, 3, none⟩ = some (.int .i64 Ha) ∧ w'.cell? ⟨ba, 4, none⟩ = some (.int .i64 Ma) ∧ w'.cell? ⟨ba, 5, none⟩ = some (.int .i64 Sa) ∧ w'.cell? ⟨bb, 0, none⟩ = some (.int .i64 yb) ∧ w'.cell? ⟨bb, 1, none⟩ = some (.int .i64 mb) ∧ w'.cell? ⟨bb, 2, none⟩ = some (.int .i64 db) ∧ w'.cell? ⟨bb, 3, none⟩ = some (.int .i64 Hb) ∧ w'.cell? ⟨bb, 4, none⟩ = some (.int .i64 Mb) ∧ w'.cell? ⟨bb, 5, none⟩ = some (.int .i64 Sb)) _ from ⟨HA.out.cell 0, HA.out.cell 1, HA.out.cell 2, HA.out.cell 3, HA.out.cell 4, HA.out.cell 5, HB.out.cell 0, HB.out.cell 1, HB.out.cell 2, HB.out.cell 3, HB.out.cell 4, HB.out.cell 5⟩) ?_
    clear hK K hS
    have hS := (show (fun (w' : World) => w'.cell? ⟨ba, 0, none⟩ = some (.int .i64 ya) ∧ w'.cell? ⟨ba, 1, none⟩ = some (.int .i64 ma) ∧ w'.cell? ⟨ba, 2, none⟩ = some (.int .i64 da) ∧ w'.cell? ⟨ba, 3, none⟩ = some (.int .i64 Ha) ∧ w'.cell? ⟨ba, 4, none⟩ = some (.int .i64 Ma) ∧ w'.cell? ⟨ba, 5, none⟩ = some (.int .i64 Sa) ∧ w'.cell? ⟨bb, 0, none⟩ = some (.int .i64 yb) ∧ w'.cell? ⟨bb, 1, none⟩ = some (.int .i64 mb) ∧ w'.cell? ⟨bb, 2, none⟩ = some (.int .i64 db) ∧ w'.cell? ⟨bb, 3, none⟩ = some (.int .i64 Hb) ∧ w'.cell? ⟨bb, 4, none⟩ = some (.int .i64 Mb) ∧ w'.cell? ⟨bb, 5, none⟩ = some (.int .i64 Sb)) _ from ⟨HA.out.cell 0, HA.out.cell 1, HA.out.cell 2, HA.out.cell 3, HA.out.cell 4, HA.out.cell 5, HB.out.cell 0, HB.out.cell 1, HB.out.cell 2, HB.out.cell 3, HB.out.cell 4, HB.out.cell 5⟩)
    refine Turns.take hS 4 _ rfl (by kernel_rfl) (by kernel_rfl) (by kernel_rfl) (by kernel_rfl) (fun _ _ _ h => h) (by rfl) (fun w' hS' => by (try dsimp only at hS'); go_split_ands; go_simp; (try with_reducible rfl)) ?_
    simp only [Act.put, List.getElem_toArray, List.getElem_cons_succ, List.getElem_cons_zero, List.setIfInBounds_toArray, List.set_cons_zero, List.set_cons_succ]
    refine Turns.take hS 8 _ rfl (by kernel_rfl) (by kernel_rfl) (by kernel_rfl) (by kernel_rfl) (fun _ _ _ h => h) (by rfl) (fun w' hS' => by (try dsimp only at hS'); go_split_ands; go_simp; (try with_reducible rfl)) ?_
    simp only [Act.put, List.getElem_toArray, List.getElem_cons_succ, List.getElem_cons_zero, List.setIfInBounds_toArray, List.set_cons_zero, List.set_cons_succ]
    refine Turns.take hS 9 _ rfl (by kernel_rfl) (by kernel_rfl) (by kernel_rfl) (by kernel_rfl) (fun _ _ _ h => h) (by rfl) (fun w' hS' => by (try dsimp only at hS'); go_split_ands; go_simp; (try with_reducible rfl)) ?_
    simp only [Act.put, List.getElem_toArray, List.getElem_cons_succ, List.getElem_cons_zero, List.setIfInBounds_toArray, List.set_cons_zero, List.set_cons_succ]
    refine Turns.take hS 10 _ rfl (by kernel_rfl) (by kernel_rfl) (by kernel_rfl) (by kernel_rfl) (fun _ _ _ h => h) (by rfl) (fun w' hS' => by (try dsimp only at hS'); go_split_ands; go_simp; (try with_reducible rfl)) ?_
    simp only [Act.put, List.getElem_toArray, List.getElem_cons_succ, List.getElem_cons_zero, List.setIfInBounds_toArray, List.set_cons_zero, List.set_cons_succ]
    refine Turns.take hS 11 _ rfl (by kernel_rfl) (by kernel_rfl) (by kernel_rfl) (by kernel_rfl) (fun _ _ _ h => h) (by rfl) (fun w' hS' => by (try dsimp only at hS'); go_split_ands; go_simp; (try with_reducible rfl)) ?_
    simp only [Act.put, List.getElem_toArray, List.getElem_cons_succ, List.getElem_cons_zero, List.setIfInBounds_toArray, List.set_cons_zero, List.set_cons_succ]
    refine Turns.take hS 12 _ rfl (by kernel_rfl) (by kernel_rfl) (by kernel_rfl) (by kernel_rfl) (fun _ _ _ h => h) (by rfl) (fun w' hS' => by (try dsimp only at hS'); go_split_ands; go_simp; (try with_reducible rfl)) ?_
    simp only [Act.put, List.getElem_toArray, List.getElem_cons_succ, List.getElem_cons_zero, List.setIfInBounds_toArray, List.set_cons_zero, List.set_cons_succ]
    refine Turns.take hS 13 _ rfl (by kernel_rfl) (by kernel_rfl) (by kernel_rfl) (by kernel_rfl) (fun _ _ _ h => h) (by rfl) (fun w' hS' => by (try dsimp only at hS'); go_split_ands; go_simp; (try with_reducible rfl)) ?_
    simp only [Act.put, List.getElem_toArray, List.getElem_cons_succ, List.getElem_cons_zero, List.setIfInBounds_toArray, List.set_cons_zero, List.set_cons_succ]
    refine Turns.take hS 14 _ rfl (by kernel_rfl) (by kernel_rfl) (by kernel_rfl) (by kernel_rfl) (fun _ _ _ h => h) (by rfl) (fun w' hS' => by (try dsimp only at hS'); go_split_ands; go_simp; (try with_reducible rfl)) ?_
    simp only [Act.put, List.getElem_toArray, List.getElem_cons_succ, List.getElem_cons_zero, List.setIfInBounds_toArray, List.set_cons_zero, List.set_cons_succ]
    refine Turns.take hS 15 _ rfl (by kernel_rfl) (by kernel_rfl) (by kernel_rfl) (by kernel_rfl) (fun _ _ _ h => h) (by rfl) (fun w' hS' => by (try dsimp only at hS'); go_split_ands; go_simp; (try with_reducible rfl)) ?_
    simp only [Act.put, List.getElem_toArray, List.getElem_cons_succ, List.getElem_cons_zero, List.setIfInBounds_toArray, List.set_cons_zero, List.set_cons_succ]
    refine Turns.take hS 16 _ rfl (by kernel_rfl) (by kernel_rfl) (by kernel_rfl) (by kernel_rfl) (fun _ _ _ h => h) (by rfl) (fun w' hS' => by (try dsimp only at hS'); go_split_ands; go_simp; (try with_reducible rfl)) ?_
    simp only [Act.put, List.getElem_toArray, List.getElem_cons_succ, List.getElem_cons_zero, List.setIfInBounds_toArray, List.set_cons_zero, List.set_cons_succ]
    refine Turns.take hS 17 _ rfl (by kernel_rfl) (by kernel_rfl) (by kernel_rfl) (by kernel_rfl) (fun _ _ _ h => h) (by rfl) (fun w' hS' => by (try dsimp only at hS'); go_split_ands; go_simp; (try with_reducible rfl)) ?_
    simp only [Act.put, List.getElem_toArray, List.getElem_cons_succ, List.getElem_cons_zero, List.setIfInBounds_toArray, List.set_cons_zero, List.set_cons_succ]
    refine Turns.take hS 18 _ rfl (by kernel_rfl) (by kernel_rfl) (by kernel_rfl) (by kernel_rfl) (fun _ _ _ h => h) (by rfl) (fun w' hS' => by (try dsimp only at hS'); go_split_ands; go_simp; (try with_reducible rfl)) ?_
    simp only [Act.put, List.getElem_toArray, List.getElem_cons_succ, List.getElem_cons_zero, List.setIfInBounds_toArray, List.set_cons_zero, List.set_cons_succ]
    refine Turns.rest (late_done (by kernel_rfl)) ?_
    refine any_tail 19 (by rfl) (by kernel_rfl) ?_
    simp only [List.drop_succ_cons, List.drop_zero]
    clear hS
    go_wp2
    go_ret
    exact ⟨rfl, HX.out.below⟩

set_option maxRecDepth 100000 in
theorem lifted (os : Os) (started : os.Started) (H : Type) (enc : TypeId × Value → H) :
    ReturnsInHanded {} Tryd.checked os 7 .any (fun w args => (Rows.utcOrderSpec.pre enc Tryd.prog Tryd.f7 [] false w args ∧ laidMetH Tryd.prog laidTab w) ∧ sizedMet enc Tryd.prog Tryd.f7 (OpenSpec.ofChange Rows.utcOrderSpec) false w args) (Rows.utcOrderSpec.post enc Tryd.prog Tryd.f7 false true false false) := by
  refine returnsInHanded_of_change_and (C := Tryd.checked) (X := fun w _ => laidMetH Tryd.prog laidTab w) (fun _ _ _ hh h => h.of_heap hh) own started (by kernel_rfl) Tryd.func7
    (ChangeSpec.witness_shaped (enc := enc) (C := Tryd.checked) (os := os) (X := fun w _ => laidMetH Tryd.prog laidTab w) false (World.doorLaid Tryd.prog 14 os) #[.agg #[.int .i64 0, .int .i64 0, .int .i64 0, .slice none 0 0], .int .i64 0, .int .i64 0] 8 rfl (World.shaped_of_RefB (by kernel_rfl) (by kernel_rfl)) (by kernel_rfl) (by kernel_rfl) (by kernel_rfl) (door_met os _)) ?_
  intro W base args ds gs before hval0 hW _ _ hL _
  have hval : ∀ (j : Nat) t v, Tryd.f7.params[j]? = some t → args[j]? = some v → Value.okWide Tryd.prog W .any base t v := hval0
  have hW' := hW
  obtain ⟨p, q, hA0, hV, rfl, hfz, hnd⟩ := hW
  have hA : DataW.TrodAll enc Tryd.prog W 0 (fun _ => true) true Tryd.f7.params.toList args.toList ds p := hA0
  have hAk := hA
  rw [Tryd.params7] at hA hval
  obtain ⟨v0, vs0, d0, ds0, p0, q0, hargs, rfl, hp, h0, r0⟩ := trodAll_cons hA
  obtain ⟨v1, vs1, d1, ds1, p1, q1, rfl, rfl, rfl, h1, r1⟩ := trodAll_cons r0
  obtain ⟨v2, vs2, d2, ds2, p2, q2, rfl, rfl, rfl, h2, r2⟩ := trodAll_cons r1
  obtain ⟨rfl, rfl, rfl⟩ := trodAll_nil r2
  obtain rfl : args = #[v0, v1, v2] := by cases args; simp_all
  obtain ⟨rfl, rfl⟩ := trodVars_none hV
  clear hA0 hval0 hargs
  simp only [List.append_nil] at hW'
  have hend : ∀ W' : World, Below W.heap.size W W' → Rows.utcOrderSpec.post enc Tryd.prog Tryd.f7 false true false false W #[v0, v1, v2] (.bool true) W' := fun W' hb =>
    law_post (tb := 4) hW' hAk rfl (by kernel_rfl) (by kernel_rfl) (by kernel_rfl) Tryd.underlying4 rfl rfl rfl hb
  clear hW' hAk hp
  obtain ⟨vs0', rfl, hfit0⟩ := flatS_arg (ks := [.p (.int .i64), .p (.int .i64), .p (.int .i64), .rows [.int .i64, .int .i64]]) 9 Tryd.underlying24 (by kernel_rfl) (hval 0 24 v0 rfl rfl) h0
  obtain ⟨s0_0, s0_1, s0_2, A0_3, n0_3, c0_3, f0_3, rfl, w0_0, w0_1, w0_2, w0_3⟩ := cells0 hfit0
  obtain ⟨a1, rfl, rfl, rfl, w1⟩ := open_int Tryd.underlying3 (hval 1 3 v1 rfl rfl) h1
  obtain ⟨a2, rfl, rfl, rfl, w2⟩ := open_int Tryd.underlying3 (hval 2 3 v2 rfl rfl) h2
  refine (walk s0_0 s0_1 s0_2 A0_3 n0_3 c0_3 f0_3 a1 a2 W w0_0 w0_1 w0_2 w0_3 w1 w2 (tab_of_laid hL)).mono fun e W' ⟨he, hg⟩ => ?_
  subst he
  exact ⟨_, rfl, hend W' hg⟩

theorem over : Rows.utcOrderRow.holds Tryd.pinned (OpenSpec.ofChange Rows.utcOrderSpec) :=
  OpenClaim.holds_of_wide 7 Tryd.f7 rfl rfl rfl rfl rfl rfl rfl ⟨rfl, rfl, rfl, rfl, rfl⟩ rfl rfl rfl rfl rfl (by kernel_rfl) Tryd.func7 (by kernel_rfl)
    (of_decide_eq_true (by kernel_rfl)) (by unfold Func.isWrapper; first | (rw [if_pos (by decide +kernel)]; kernel_rfl) | (rw [if_neg (by decide +kernel)]; exact ⟨rfl, rfl⟩))
    (fun os started H enc _ => lifted os started H enc)

/-- THE STATEMENT: the tied card -/
theorem proved : Rows.UtcOrderCardSaid :=
  Claim7.holds_tied_plain_at .later [] [.data, .data, .data] true (true, "4adff61b54aac8345feb7c502e14ef75a75b01c7aacf952f94604b724cf580c8") false
    over (fun _ h => by cases h) (by kernel_rfl) (fun _ h => by cases h) utcOrder_row_tie rfl ⟨rfl, rfl⟩ (by kernel_rfl) rfl
    (fun f fn hf hfn => by
      obtain rfl : f = 7 := Option.some.inj ((show Tryd.prog.funcNamed "angelus/angeluslaw22.UtcOrder" = some 7 by kernel_rfl).symm.trans hf) |>.symm
      obtain rfl : fn = Tryd.f7 := (Option.some.inj (Tryd.func7.symm.trans hfn)).symm
      exact ⟨by kernel_rfl, fun j t ht => by
        rw [Tryd.params7] at ht
        have hm : t ∈ [24, 3, 3] := by simpa using Array.mem_of_getElem? ht
        have hall : ([24, 3, 3].all fun u => !Tryd.prog.wantsStandIn u) = true := by kernel_rfl
        exact (show Tryd.prog.wantsStandIn t = false by simpa using List.all_eq_true.1 hall t hm)⟩)
    (by kernel_rfl)
#print axioms proved
end Go.Proofs.YtcknllkbeadmlaaDoor.utcOrder
