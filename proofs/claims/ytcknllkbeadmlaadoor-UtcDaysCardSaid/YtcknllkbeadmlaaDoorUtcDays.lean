/-
  From one midnight to the next there are 86400 seconds of TAI, and the day's step: for every table that can be, of at most 64 leaps, and every day whose next one it tells of, too.
  The walk is the prover's own; the frame of the row's step follows the kit's template.
-/
import Derived.Test.YtcknllkbeadmlaaDoorRows
import Derived.Test.YtcknllkbeadmlaaDoorLawKit
import Derived.Test.YtcknllkbeadmlaaDoorCards
import Derived.Test.YtcknllkbeadmlaaDoorTie
import Derived.SevenTiedAt
import Derived.Test.YtcknllkbeadmlaaDoorFlat
import Derived.Test.YtcknllkbeadmlaaDoorFlatS
import Derived.Test.YtcknllkbeadmlaaDoorUtP
import Derived.Test.YtcknllkbeadmlaaDoorUtH
import Derived.Test.YtcknllkbeadmlaaDoorUtG
namespace Go.Proofs.YtcknllkbeadmlaaDoor.utcDays
open Go.ChangeShapes Go.WideShapes Go.ChangeAt Go.RowKit Go.ChangeMaps Go.WideElems
set_option linter.unusedVariables false

theorem cells0 {W : World} {vs : List Value} (h : FitS W [.p (.int .i64), .p (.int .i64), .p (.int .i64), .rows [.int .i64, .int .i64]] vs) : ∃ (s0 : Int) (s1 : Int) (s2 : Int) (A3 : Option Addr) (n3 c3 : Nat) (f3 : Nat → List Value), vs = [.int .i64 s0, .int .i64 s1, .int .i64 s2, .slice A3 n3 c3] ∧ (Lit.int .i64 s0).wf = true ∧ (Lit.int .i64 s1).wf = true ∧ (Lit.int .i64 s2).wf = true ∧ FlatRow W [.int .i64, .int .i64] A3 n3 c3 f3 := by
  match vs, h.length, h with
  | [y0, y1, y2, y3], _, h =>
    obtain ⟨⟨x0, rfl, h0⟩, ⟨x1, rfl, h1⟩, ⟨x2, rfl, h2⟩, ⟨A3, n3, c3, x3, rfl, h3⟩, _⟩ := h
    exact ⟨x0, x1, x2, A3, n3, c3, x3, rfl, h0, h1, h2, h3⟩
theorem own : ownKnob Tryd.prog.godebug = none := by kernel_rfl
set_option linter.unusedSimpArgs false
theorem gtab_of {st ah en : Int} {L : List (Int × Int)} (h : faultT st ah en L = 0) : GTab st ah en L := by
  obtain ⟨a, b, c, d⟩ := fault_few h
  exact ⟨a, b, c, d⟩
theorem taiR_mid {st ah en : Int} {L : List (Int × Int)} {y m d D : Int} (g : GTab st ah en L) (hc : CanD y m d) (hn : numV y m d = D) (h1 : st ≤ D) (h2 : D < en) : taiR st ah en L y m d 0 0 0 = (beginV ah L D, 0) := by
  have hl := (g.len D).1
  rw [taiR_yes ⟨hc, ⟨by decide, by decide, by decide, by decide, by decide, by decide⟩⟩ (by rw [hn]; omega) (by rw [hn]; unfold secV; omega), hn]
  unfold secV
  rw [show beginV ah L D + (3600 * 0 + 60 * 0 + 0) = beginV ah L D by omega]
theorem of_num {y m d D : Int} (hc : CanD y m d) (hn : numV y m d = D) (w : World) :
    Calls Tryd.prog 25 #[.int .i64 D] w fun e w' => e = .returned (.tuple #[.agg #[.int .i64 y, .int .i64 m, .int .i64 d], .bool true]) ∧ Below w.heap.size w w' := by
  subst hn
  exact of_is hc w
theorem made_yes {st ah en : Int} {L : List (Int × Int)} {w w' : World} {e : Ending} (h0 : faultT st ah en L = 0) (h : MadeB st ah en L w e w') : ∃ q, e = .returned (.tuple #[.pointer (some ⟨q, 0, none⟩), .bool true]) ∧ Rt w' w'.heap.size q ⟨st, ah, en, L⟩ ∧ Below w.heap.size w w' := by
  obtain ⟨h | h, hb⟩ := h
  · obtain ⟨_, q, he, hr⟩ := h
    exact ⟨q, he, hr, hb⟩
  · exact absurd h0 h.1
theorem made_no {st ah en : Int} {L : List (Int × Int)} {w w' : World} {e : Ending} (h0 : ¬ faultT st ah en L = 0) (h : MadeB st ah en L w e w') : e = .returned (.tuple #[.pointer none, .bool false]) ∧ Below w.heap.size w w' := by
  obtain ⟨h | h, hb⟩ := h
  · exact absurd h.1 h0
  · exact ⟨h.2, hb⟩
set_option maxRecDepth 100000 in
set_option maxHeartbeats 8000000 in
theorem walk (s0_0 : Int) (s0_1 : Int) (s0_2 : Int) (A0_3 : Option Addr) (n0_3 c0_3 : Nat) (f0_3 : Nat → List Value) (a1 : Int) (w : World) (w0_0 : (Lit.int .i64 s0_0).wf = true) (w0_1 : (Lit.int .i64 s0_1).wf = true) (w0_2 : (Lit.int .i64 s0_2).wf = true) (w0_3 : FlatRow w [.int .i64, .int .i64] A0_3 n0_3 c0_3 f0_3) (w1 : (Lit.int .i64 a1).wf = true) (hT : Tab w) :
    Calls Tryd.prog 8 #[.agg #[.int .i64 s0_0, .int .i64 s0_1, .int .i64 s0_2, .slice A0_3 n0_3 c0_3], .int .i64 a1] w fun e w' => e = .returned (.bool true) ∧ Below w.heap.size w w' := by
  obtain ⟨L, hrow, hfits⟩ := prow_of_flat w0_3
  have HT := Lib.hid hT
  have HX := Lib.hid (Box.start w 24 #[.int .i64 s0_0, .int .i64 s0_1, .int .i64 s0_2, .slice A0_3 n0_3 c0_3])
  have hnl := hrow.len
  clear hT
  obtain ⟨c0, c1, c2, c3⟩ := HX.out.tab4
  by_cases h64 : 64 < n0_3
  · have d0 : decide ((64 : Int) < (n0_3 : Int)) = true := decide_eq_true (by omega)
    go_enter Tryd.func8, Tryd.ntmps8
    go_wp2_with (first
      | (go_at_call 9; refine (alive_yes _ (HT.out.below HX.out.below)).mono ?_; rintro e w1 ⟨rfl, hb1⟩; (try replace HRT := Lib.hid ((HRT.out.below hb1).mono hb1.size)); replace HX := Lib.hid (HX.out.next hb1); clear hb1; (try clear c0 c1 c2 c3); obtain ⟨c0, c1, c2, c3⟩ := HX.out.tab4)
      | (go_at_call 10; refine (HMD.out _ HX.out.below).mono ?_; intro e w2 hp; obtain ⟨q, rfl, hr, hb2⟩ := HMY.out _ _ _ hp; clear hp; (try replace HRT := Lib.hid ((HRT.out.below hb2).mono hb2.size)); replace HX := Lib.hid (HX.out.next hb2); clear hb2; (try clear c0 c1 c2 c3); obtain ⟨c0, c1, c2, c3⟩ := HX.out.tab4; have HRT := Lib.hid hr; clear hr)
      | (go_at_call 10; refine (HMD.out _ HX.out.below).mono ?_; intro e w2 hp; obtain ⟨rfl, hb2⟩ := HMN.out _ _ _ hp; clear hp; (try replace HRT := Lib.hid ((HRT.out.below hb2).mono hb2.size)); replace HX := Lib.hid (HX.out.next hb2); clear hb2; (try clear c0 c1 c2 c3); obtain ⟨c0, c1, c2, c3⟩ := HX.out.tab4)
      | (go_at_call 25; with_reducible refine (HO1.out _).mono ?_; rintro e w3 ⟨rfl, hbz⟩; have HQ := Lib.hid (Box.start w3 33 #[.int .i64 ya, .int .i64 ma, .int .i64 da]); have hb3 := hbz.trans (HQ.out.below.mono hbz.size); (try replace HA := Lib.hid (HA.out.below hb3 HA.out.lt)); have HA := Lib.hid HQ.out.holds; clear HQ hbz; (try replace HRT := Lib.hid ((HRT.out.below hb3).mono hb3.size)); replace HX := Lib.hid (HX.out.next hb3); clear hb3; (try clear c0 c1 c2 c3); obtain ⟨c0, c1, c2, c3⟩ := HX.out.tab4; (try clear x0 x1 x2); have x0 := HA.out.cell 0; have x1 := HA.out.cell 1; have x2 := HA.out.cell 2)
      | (go_at_call 25; with_reducible refine (HO2.out _).mono ?_; rintro e w4 ⟨rfl, hbz⟩; have HQ := Lib.hid (Box.start w4 33 #[.int .i64 yb, .int .i64 mb, .int .i64 db]); have hb4 := hbz.trans (HQ.out.below.mono hbz.size); (try replace HA := Lib.hid (HA.out.below hb4 HA.out.lt)); have HB := Lib.hid HQ.out.holds; clear HQ hbz; (try replace HRT := Lib.hid ((HRT.out.below hb4).mono hb4.size)); replace HX := Lib.hid (HX.out.next hb4); clear hb4; (try clear c0 c1 c2 c3); obtain ⟨c0, c1, c2, c3⟩ := HX.out.tab4; (try clear x0 x1 x2); have x0 := HA.out.cell 0; have x1 := HA.out.cell 1; have x2 := HA.out.cell 2; (try clear z0 z1 z2); have z0 := HB.out.cell 0; have z1 := HB.out.cell 1; have z2 := HB.out.cell 2)
      | (go_at_call 12; with_reducible refine (HT1.out _ _ HRT.out).mono ?_; rintro e w5 ⟨rfl, hb5⟩; (try replace HRT := Lib.hid ((HRT.out.below hb5).mono hb5.size)); replace HX := Lib.hid (HX.out.next hb5); (try replace HA := Lib.hid (HA.out.below hb5 HA.out.lt)); (try replace HB := Lib.hid (HB.out.below hb5 HB.out.lt)); clear hb5; (try clear c0 c1 c2 c3); obtain ⟨c0, c1, c2, c3⟩ := HX.out.tab4; (try clear x0 x1 x2); have x0 := HA.out.cell 0; have x1 := HA.out.cell 1; have x2 := HA.out.cell 2; (try clear z0 z1 z2); have z0 := HB.out.cell 0; have z1 := HB.out.cell 1; have z2 := HB.out.cell 2)
      | (go_at_call 12; with_reducible refine (HT2.out _ _ HRT.out).mono ?_; rintro e w6 ⟨rfl, hb6⟩; (try replace HRT := Lib.hid ((HRT.out.below hb6).mono hb6.size)); replace HX := Lib.hid (HX.out.next hb6); clear hb6; (try clear c0 c1 c2 c3); obtain ⟨c0, c1, c2, c3⟩ := HX.out.tab4)
      | (go_at_call 18; refine (HST.out _ HX.out.below).mono ?_; rintro e w7 ⟨rfl, hb7⟩; (try replace HRT := Lib.hid ((HRT.out.below hb7).mono hb7.size)); replace HX := Lib.hid (HX.out.next hb7); clear hb7; (try clear c0 c1 c2 c3); obtain ⟨c0, c1, c2, c3⟩ := HX.out.tab4))
    go_ret
    exact ⟨rfl, HX.out.below⟩
  have d0 : decide ((64 : Int) < (n0_3 : Int)) = false := decide_eq_false (by omega)
  have HN := Lib.hid (show n0_3 ≤ 1000 by omega)
  have HR := Lib.hid hrow
  have HMD := Lib.hid (fun W (hW : Below w.heap.size w W) => made_any W s0_0 s0_1 s0_2 A0_3 n0_3 c0_3 L (HR.out.below hW) HN.out)
  by_cases h0 : faultT s0_0 s0_1 s0_2 L = 0
  case neg =>
    have HMN := Lib.hid (fun (W : World) (e : Ending) (w' : World) (h : MadeB s0_0 s0_1 s0_2 L W e w') => made_no h0 h)
    clear hrow hfits hnl h0 h64
    go_enter Tryd.func8, Tryd.ntmps8
    go_wp2_with (first
      | (go_at_call 9; refine (alive_yes _ (HT.out.below HX.out.below)).mono ?_; rintro e w1 ⟨rfl, hb1⟩; (try replace HRT := Lib.hid ((HRT.out.below hb1).mono hb1.size)); replace HX := Lib.hid (HX.out.next hb1); clear hb1; (try clear c0 c1 c2 c3); obtain ⟨c0, c1, c2, c3⟩ := HX.out.tab4)
      | (go_at_call 10; refine (HMD.out _ HX.out.below).mono ?_; intro e w2 hp; obtain ⟨q, rfl, hr, hb2⟩ := HMY.out _ _ _ hp; clear hp; (try replace HRT := Lib.hid ((HRT.out.below hb2).mono hb2.size)); replace HX := Lib.hid (HX.out.next hb2); clear hb2; (try clear c0 c1 c2 c3); obtain ⟨c0, c1, c2, c3⟩ := HX.out.tab4; have HRT := Lib.hid hr; clear hr)
      | (go_at_call 10; refine (HMD.out _ HX.out.below).mono ?_; intro e w2 hp; obtain ⟨rfl, hb2⟩ := HMN.out _ _ _ hp; clear hp; (try replace HRT := Lib.hid ((HRT.out.below hb2).mono hb2.size)); replace HX := Lib.hid (HX.out.next hb2); clear hb2; (try clear c0 c1 c2 c3); obtain ⟨c0, c1, c2, c3⟩ := HX.out.tab4)
      | (go_at_call 25; with_reducible refine (HO1.out _).mono ?_; rintro e w3 ⟨rfl, hbz⟩; have HQ := Lib.hid (Box.start w3 33 #[.int .i64 ya, .int .i64 ma, .int .i64 da]); have hb3 := hbz.trans (HQ.out.below.mono hbz.size); (try replace HA := Lib.hid (HA.out.below hb3 HA.out.lt)); have HA := Lib.hid HQ.out.holds; clear HQ hbz; (try replace HRT := Lib.hid ((HRT.out.below hb3).mono hb3.size)); replace HX := Lib.hid (HX.out.next hb3); clear hb3; (try clear c0 c1 c2 c3); obtain ⟨c0, c1, c2, c3⟩ := HX.out.tab4; (try clear x0 x1 x2); have x0 := HA.out.cell 0; have x1 := HA.out.cell 1; have x2 := HA.out.cell 2)
      | (go_at_call 25; with_reducible refine (HO2.out _).mono ?_; rintro e w4 ⟨rfl, hbz⟩; have HQ := Lib.hid (Box.start w4 33 #[.int .i64 yb, .int .i64 mb, .int .i64 db]); have hb4 := hbz.trans (HQ.out.below.mono hbz.size); (try replace HA := Lib.hid (HA.out.below hb4 HA.out.lt)); have HB := Lib.hid HQ.out.holds; clear HQ hbz; (try replace HRT := Lib.hid ((HRT.out.below hb4).mono hb4.size)); replace HX := Lib.hid (HX.out.next hb4); clear hb4; (try clear c0 c1 c2 c3); obtain ⟨c0, c1, c2, c3⟩ := HX.out.tab4; (try clear x0 x1 x2); have x0 := HA.out.cell 0; have x1 := HA.out.cell 1; have x2 := HA.out.cell 2; (try clear z0 z1 z2); have z0 := HB.out.cell 0; have z1 := HB.out.cell 1; have z2 := HB.out.cell 2)
      | (go_at_call 12; with_reducible refine (HT1.out _ _ HRT.out).mono ?_; rintro e w5 ⟨rfl, hb5⟩; (try replace HRT := Lib.hid ((HRT.out.below hb5).mono hb5.size)); replace HX := Lib.hid (HX.out.next hb5); (try replace HA := Lib.hid (HA.out.below hb5 HA.out.lt)); (try replace HB := Lib.hid (HB.out.below hb5 HB.out.lt)); clear hb5; (try clear c0 c1 c2 c3); obtain ⟨c0, c1, c2, c3⟩ := HX.out.tab4; (try clear x0 x1 x2); have x0 := HA.out.cell 0; have x1 := HA.out.cell 1; have x2 := HA.out.cell 2; (try clear z0 z1 z2); have z0 := HB.out.cell 0; have z1 := HB.out.cell 1; have z2 := HB.out.cell 2)
      | (go_at_call 12; with_reducible refine (HT2.out _ _ HRT.out).mono ?_; rintro e w6 ⟨rfl, hb6⟩; (try replace HRT := Lib.hid ((HRT.out.below hb6).mono hb6.size)); replace HX := Lib.hid (HX.out.next hb6); clear hb6; (try clear c0 c1 c2 c3); obtain ⟨c0, c1, c2, c3⟩ := HX.out.tab4)
      | (go_at_call 18; refine (HST.out _ HX.out.below).mono ?_; rintro e w7 ⟨rfl, hb7⟩; (try replace HRT := Lib.hid ((HRT.out.below hb7).mono hb7.size)); replace HX := Lib.hid (HX.out.next hb7); clear hb7; (try clear c0 c1 c2 c3); obtain ⟨c0, c1, c2, c3⟩ := HX.out.tab4))
    go_ret
    exact ⟨rfl, HX.out.below⟩
  case pos =>
  have HMY := Lib.hid (fun (W : World) (e : Ending) (w' : World) (h : MadeB s0_0 s0_1 s0_2 L W e w') => made_yes h0 h)
  have g := gtab_of h0
  have hw1 := IntWalk.i64_in (s0_2 - 1) (by have := g.fine.e1; have := g.fine.e2; omega)
  by_cases hs : a1 < s0_0
  · have ds : decide (a1 < s0_0) = true := decide_eq_true hs
    clear g hrow hfits hnl h0 h64 hs
    go_enter Tryd.func8, Tryd.ntmps8
    go_wp2_with (first
      | (go_at_call 9; refine (alive_yes _ (HT.out.below HX.out.below)).mono ?_; rintro e w1 ⟨rfl, hb1⟩; (try replace HRT := Lib.hid ((HRT.out.below hb1).mono hb1.size)); replace HX := Lib.hid (HX.out.next hb1); clear hb1; (try clear c0 c1 c2 c3); obtain ⟨c0, c1, c2, c3⟩ := HX.out.tab4)
      | (go_at_call 10; refine (HMD.out _ HX.out.below).mono ?_; intro e w2 hp; obtain ⟨q, rfl, hr, hb2⟩ := HMY.out _ _ _ hp; clear hp; (try replace HRT := Lib.hid ((HRT.out.below hb2).mono hb2.size)); replace HX := Lib.hid (HX.out.next hb2); clear hb2; (try clear c0 c1 c2 c3); obtain ⟨c0, c1, c2, c3⟩ := HX.out.tab4; have HRT := Lib.hid hr; clear hr)
      | (go_at_call 10; refine (HMD.out _ HX.out.below).mono ?_; intro e w2 hp; obtain ⟨rfl, hb2⟩ := HMN.out _ _ _ hp; clear hp; (try replace HRT := Lib.hid ((HRT.out.below hb2).mono hb2.size)); replace HX := Lib.hid (HX.out.next hb2); clear hb2; (try clear c0 c1 c2 c3); obtain ⟨c0, c1, c2, c3⟩ := HX.out.tab4)
      | (go_at_call 25; with_reducible refine (HO1.out _).mono ?_; rintro e w3 ⟨rfl, hbz⟩; have HQ := Lib.hid (Box.start w3 33 #[.int .i64 ya, .int .i64 ma, .int .i64 da]); have hb3 := hbz.trans (HQ.out.below.mono hbz.size); (try replace HA := Lib.hid (HA.out.below hb3 HA.out.lt)); have HA := Lib.hid HQ.out.holds; clear HQ hbz; (try replace HRT := Lib.hid ((HRT.out.below hb3).mono hb3.size)); replace HX := Lib.hid (HX.out.next hb3); clear hb3; (try clear c0 c1 c2 c3); obtain ⟨c0, c1, c2, c3⟩ := HX.out.tab4; (try clear x0 x1 x2); have x0 := HA.out.cell 0; have x1 := HA.out.cell 1; have x2 := HA.out.cell 2)
      | (go_at_call 25; with_reducible refine (HO2.out _).mono ?_; rintro e w4 ⟨rfl, hbz⟩; have HQ := Lib.hid (Box.start w4 33 #[.int .i64 yb, .int .i64 mb, .int .i64 db]); have hb4 := hbz.trans (HQ.out.below.mono hbz.size); (try replace HA := Lib.hid (HA.out.below hb4 HA.out.lt)); have HB := Lib.hid HQ.out.holds; clear HQ hbz; (try replace HRT := Lib.hid ((HRT.out.below hb4).mono hb4.size)); replace HX := Lib.hid (HX.out.next hb4); clear hb4; (try clear c0 c1 c2 c3); obtain ⟨c0, c1, c2, c3⟩ := HX.out.tab4; (try clear x0 x1 x2); have x0 := HA.out.cell 0; have x1 := HA.out.cell 1; have x2 := HA.out.cell 2; (try clear z0 z1 z2); have z0 := HB.out.cell 0; have z1 := HB.out.cell 1; have z2 := HB.out.cell 2)
      | (go_at_call 12; with_reducible refine (HT1.out _ _ HRT.out).mono ?_; rintro e w5 ⟨rfl, hb5⟩; (try replace HRT := Lib.hid ((HRT.out.below hb5).mono hb5.size)); replace HX := Lib.hid (HX.out.next hb5); (try replace HA := Lib.hid (HA.out.below hb5 HA.out.lt)); (try replace HB := Lib.hid (HB.out.below hb5 HB.out.lt)); clear hb5; (try clear c0 c1 c2 c3); obtain ⟨c0, c1, c2, c3⟩ := HX.out.tab4; (try clear x0 x1 x2); have x0 := HA.out.cell 0; have x1 := HA.out.cell 1; have x2 := HA.out.cell 2; (try clear z0 z1 z2); have z0 := HB.out.cell 0; have z1 := HB.out.cell 1; have z2 := HB.out.cell 2)
      | (go_at_call 12; with_reducible refine (HT2.out _ _ HRT.out).mono ?_; rintro e w6 ⟨rfl, hb6⟩; (try replace HRT := Lib.hid ((HRT.out.below hb6).mono hb6.size)); replace HX := Lib.hid (HX.out.next hb6); clear hb6; (try clear c0 c1 c2 c3); obtain ⟨c0, c1, c2, c3⟩ := HX.out.tab4)
      | (go_at_call 18; refine (HST.out _ HX.out.below).mono ?_; rintro e w7 ⟨rfl, hb7⟩; (try replace HRT := Lib.hid ((HRT.out.below hb7).mono hb7.size)); replace HX := Lib.hid (HX.out.next hb7); clear hb7; (try clear c0 c1 c2 c3); obtain ⟨c0, c1, c2, c3⟩ := HX.out.tab4))
    go_ret
    exact ⟨rfl, HX.out.below⟩
  have ds : decide (a1 < s0_0) = false := decide_eq_false hs
  by_cases he : s0_2 - 1 ≤ a1
  · have de : decide (s0_2 - 1 ≤ a1) = true := decide_eq_true he
    clear g hrow hfits hnl h0 h64 hs he
    go_enter Tryd.func8, Tryd.ntmps8
    go_wp2_with (first
      | (go_at_call 9; refine (alive_yes _ (HT.out.below HX.out.below)).mono ?_; rintro e w1 ⟨rfl, hb1⟩; (try replace HRT := Lib.hid ((HRT.out.below hb1).mono hb1.size)); replace HX := Lib.hid (HX.out.next hb1); clear hb1; (try clear c0 c1 c2 c3); obtain ⟨c0, c1, c2, c3⟩ := HX.out.tab4)
      | (go_at_call 10; refine (HMD.out _ HX.out.below).mono ?_; intro e w2 hp; obtain ⟨q, rfl, hr, hb2⟩ := HMY.out _ _ _ hp; clear hp; (try replace HRT := Lib.hid ((HRT.out.below hb2).mono hb2.size)); replace HX := Lib.hid (HX.out.next hb2); clear hb2; (try clear c0 c1 c2 c3); obtain ⟨c0, c1, c2, c3⟩ := HX.out.tab4; have HRT := Lib.hid hr; clear hr)
      | (go_at_call 10; refine (HMD.out _ HX.out.below).mono ?_; intro e w2 hp; obtain ⟨rfl, hb2⟩ := HMN.out _ _ _ hp; clear hp; (try replace HRT := Lib.hid ((HRT.out.below hb2).mono hb2.size)); replace HX := Lib.hid (HX.out.next hb2); clear hb2; (try clear c0 c1 c2 c3); obtain ⟨c0, c1, c2, c3⟩ := HX.out.tab4)
      | (go_at_call 25; with_reducible refine (HO1.out _).mono ?_; rintro e w3 ⟨rfl, hbz⟩; have HQ := Lib.hid (Box.start w3 33 #[.int .i64 ya, .int .i64 ma, .int .i64 da]); have hb3 := hbz.trans (HQ.out.below.mono hbz.size); (try replace HA := Lib.hid (HA.out.below hb3 HA.out.lt)); have HA := Lib.hid HQ.out.holds; clear HQ hbz; (try replace HRT := Lib.hid ((HRT.out.below hb3).mono hb3.size)); replace HX := Lib.hid (HX.out.next hb3); clear hb3; (try clear c0 c1 c2 c3); obtain ⟨c0, c1, c2, c3⟩ := HX.out.tab4; (try clear x0 x1 x2); have x0 := HA.out.cell 0; have x1 := HA.out.cell 1; have x2 := HA.out.cell 2)
      | (go_at_call 25; with_reducible refine (HO2.out _).mono ?_; rintro e w4 ⟨rfl, hbz⟩; have HQ := Lib.hid (Box.start w4 33 #[.int .i64 yb, .int .i64 mb, .int .i64 db]); have hb4 := hbz.trans (HQ.out.below.mono hbz.size); (try replace HA := Lib.hid (HA.out.below hb4 HA.out.lt)); have HB := Lib.hid HQ.out.holds; clear HQ hbz; (try replace HRT := Lib.hid ((HRT.out.below hb4).mono hb4.size)); replace HX := Lib.hid (HX.out.next hb4); clear hb4; (try clear c0 c1 c2 c3); obtain ⟨c0, c1, c2, c3⟩ := HX.out.tab4; (try clear x0 x1 x2); have x0 := HA.out.cell 0; have x1 := HA.out.cell 1; have x2 := HA.out.cell 2; (try clear z0 z1 z2); have z0 := HB.out.cell 0; have z1 := HB.out.cell 1; have z2 := HB.out.cell 2)
      | (go_at_call 12; with_reducible refine (HT1.out _ _ HRT.out).mono ?_; rintro e w5 ⟨rfl, hb5⟩; (try replace HRT := Lib.hid ((HRT.out.below hb5).mono hb5.size)); replace HX := Lib.hid (HX.out.next hb5); (try replace HA := Lib.hid (HA.out.below hb5 HA.out.lt)); (try replace HB := Lib.hid (HB.out.below hb5 HB.out.lt)); clear hb5; (try clear c0 c1 c2 c3); obtain ⟨c0, c1, c2, c3⟩ := HX.out.tab4; (try clear x0 x1 x2); have x0 := HA.out.cell 0; have x1 := HA.out.cell 1; have x2 := HA.out.cell 2; (try clear z0 z1 z2); have z0 := HB.out.cell 0; have z1 := HB.out.cell 1; have z2 := HB.out.cell 2)
      | (go_at_call 12; with_reducible refine (HT2.out _ _ HRT.out).mono ?_; rintro e w6 ⟨rfl, hb6⟩; (try replace HRT := Lib.hid ((HRT.out.below hb6).mono hb6.size)); replace HX := Lib.hid (HX.out.next hb6); clear hb6; (try clear c0 c1 c2 c3); obtain ⟨c0, c1, c2, c3⟩ := HX.out.tab4)
      | (go_at_call 18; refine (HST.out _ HX.out.below).mono ?_; rintro e w7 ⟨rfl, hb7⟩; (try replace HRT := Lib.hid ((HRT.out.below hb7).mono hb7.size)); replace HX := Lib.hid (HX.out.next hb7); clear hb7; (try clear c0 c1 c2 c3); obtain ⟨c0, c1, c2, c3⟩ := HX.out.tab4))
    go_ret
    exact ⟨rfl, HX.out.below⟩
  have de : decide (s0_2 - 1 ≤ a1) = false := decide_eq_false he
  obtain ⟨ya, ma, da, hca, hna⟩ := date_ex (n := a1) (by have := g.fine.s1; omega) (by have := g.fine.e2; omega)
  obtain ⟨yb, mb, db, hcb, hnb⟩ := date_ex (n := a1 + 1) (by have := g.fine.s1; omega) (by have := g.fine.e2; omega)
  have HO1 := Lib.hid (fun W => of_num hca hna W)
  have HO2 := Lib.hid (fun W => of_num hcb hnb W)
  have ta := taiR_mid g hca hna (by omega) (by omega)
  have tb := taiR_mid g hcb hnb (by omega) (by omega)
  have HT1 := Lib.hid (fun W q (h : Rt W W.heap.size q ⟨s0_0, s0_1, s0_2, L⟩) => utai_any q ya ma da 0 0 0 W g h)
  have HT2 := Lib.hid (fun W q (h : Rt W W.heap.size q ⟨s0_0, s0_1, s0_2, L⟩) => utai_any q yb mb db 0 0 0 W g h)
  rw [ta] at HT1
  rw [tb] at HT2
  dsimp only at HT1 HT2
  have HST := Lib.hid (fun W (hW : Below w.heap.size w W) => rstep_any W s0_0 s0_1 s0_2 A0_3 n0_3 c0_3 L a1 (HR.out.below hW) HN.out)
  have nx := g.next a1
  have bb := g.beg a1
  have bl := g.len a1
  unfold lenV at nx bl
  have ew := IntWalk.i64_in (a1 + 1) (by have := g.fine.s1; have := g.fine.e2; omega)
  have z1 := g.fine.s1
  have z2 := g.fine.e2
  obtain ⟨X, hX⟩ : ∃ X, beginV s0_1 L a1 = X := ⟨_, rfl⟩
  obtain ⟨Y, hY⟩ : ∃ X, beginV s0_1 L (a1 + 1) = X := ⟨_, rfl⟩
  obtain ⟨Z, hZ⟩ : ∃ X, stepL L a1 = X := ⟨_, rfl⟩
  rw [hX] at HT1 nx bb
  rw [hY] at HT2 nx
  rw [hZ] at HST nx bl
  have k1 : IntKind.i64.wrap (Y - X) = 86400 + Z := by rw [IntWalk.i64_in _ (by omega)]; omega
  have k2 := IntWalk.i64_in (86400 + Z) (by omega)
  have k3 : (86400 + Z == 86400 + Z) = true := beq_self_eq_true _
  clear g hrow hfits hnl h0 h64 hs he hca hna hcb hnb ta tb hX hY hZ nx bb bl z1 z2
  go_enter Tryd.func8, Tryd.ntmps8
  go_wp2_with (first
    | (go_at_call 9; refine (alive_yes _ (HT.out.below HX.out.below)).mono ?_; rintro e w1 ⟨rfl, hb1⟩; (try replace HRT := Lib.hid ((HRT.out.below hb1).mono hb1.size)); replace HX := Lib.hid (HX.out.next hb1); clear hb1; (try clear c0 c1 c2 c3); obtain ⟨c0, c1, c2, c3⟩ := HX.out.tab4)
    | (go_at_call 10; refine (HMD.out _ HX.out.below).mono ?_; intro e w2 hp; obtain ⟨q, rfl, hr, hb2⟩ := HMY.out _ _ _ hp; clear hp; (try replace HRT := Lib.hid ((HRT.out.below hb2).mono hb2.size)); replace HX := Lib.hid (HX.out.next hb2); clear hb2; (try clear c0 c1 c2 c3); obtain ⟨c0, c1, c2, c3⟩ := HX.out.tab4; have HRT := Lib.hid hr; clear hr)
    | (go_at_call 10; refine (HMD.out _ HX.out.below).mono ?_; intro e w2 hp; obtain ⟨rfl, hb2⟩ := HMN.out _ _ _ hp; clear hp; (try replace HRT := Lib.hid ((HRT.out.below hb2).mono hb2.size)); replace HX := Lib.hid (HX.out.next hb2); clear hb2; (try clear c0 c1 c2 c3); obtain ⟨c0, c1, c2, c3⟩ := HX.out.tab4)
    | (go_at_call 25; with_reducible refine (HO1.out _).mono ?_; rintro e w3 ⟨rfl, hbz⟩; have HQ := Lib.hid (Box.start w3 33 #[.int .i64 ya, .int .i64 ma, .int .i64 da]); have hb3 := hbz.trans (HQ.out.below.mono hbz.size); (try replace HA := Lib.hid (HA.out.below hb3 HA.out.lt)); have HA := Lib.hid HQ.out.holds; clear HQ hbz; (try replace HRT := Lib.hid ((HRT.out.below hb3).mono hb3.size)); replace HX := Lib.hid (HX.out.next hb3); clear hb3; (try clear c0 c1 c2 c3); obtain ⟨c0, c1, c2, c3⟩ := HX.out.tab4; (try clear x0 x1 x2); have x0 := HA.out.cell 0; have x1 := HA.out.cell 1; have x2 := HA.out.cell 2)
    | (go_at_call 25; with_reducible refine (HO2.out _).mono ?_; rintro e w4 ⟨rfl, hbz⟩; have HQ := Lib.hid (Box.start w4 33 #[.int .i64 yb, .int .i64 mb, .int .i64 db]); have hb4 := hbz.trans (HQ.out.below.mono hbz.size); (try replace HA := Lib.hid (HA.out.below hb4 HA.out.lt)); have HB := Lib.hid HQ.out.holds; clear HQ hbz; (try replace HRT := Lib.hid ((HRT.out.below hb4).mono hb4.size)); replace HX := Lib.hid (HX.out.next hb4); clear hb4; (try clear c0 c1 c2 c3); obtain ⟨c0, c1, c2, c3⟩ := HX.out.tab4; (try clear x0 x1 x2); have x0 := HA.out.cell 0; have x1 := HA.out.cell 1; have x2 := HA.out.cell 2; (try clear z0 z1 z2); have z0 := HB.out.cell 0; have z1 := HB.out.cell 1; have z2 := HB.out.cell 2)
    | (go_at_call 12; with_reducible refine (HT1.out _ _ HRT.out).mono ?_; rintro e w5 ⟨rfl, hb5⟩; (try replace HRT := Lib.hid ((HRT.out.below hb5).mono hb5.size)); replace HX := Lib.hid (HX.out.next hb5); (try replace HA := Lib.hid (HA.out.below hb5 HA.out.lt)); (try replace HB := Lib.hid (HB.out.below hb5 HB.out.lt)); clear hb5; (try clear c0 c1 c2 c3); obtain ⟨c0, c1, c2, c3⟩ := HX.out.tab4; (try clear x0 x1 x2); have x0 := HA.out.cell 0; have x1 := HA.out.cell 1; have x2 := HA.out.cell 2; (try clear z0 z1 z2); have z0 := HB.out.cell 0; have z1 := HB.out.cell 1; have z2 := HB.out.cell 2)
    | (go_at_call 12; with_reducible refine (HT2.out _ _ HRT.out).mono ?_; rintro e w6 ⟨rfl, hb6⟩; (try replace HRT := Lib.hid ((HRT.out.below hb6).mono hb6.size)); replace HX := Lib.hid (HX.out.next hb6); clear hb6; (try clear c0 c1 c2 c3); obtain ⟨c0, c1, c2, c3⟩ := HX.out.tab4)
    | (go_at_call 18; refine (HST.out _ HX.out.below).mono ?_; rintro e w7 ⟨rfl, hb7⟩; (try replace HRT := Lib.hid ((HRT.out.below hb7).mono hb7.size)); replace HX := Lib.hid (HX.out.next hb7); clear hb7; (try clear c0 c1 c2 c3); obtain ⟨c0, c1, c2, c3⟩ := HX.out.tab4))
  go_ret
  exact ⟨rfl, HX.out.below⟩

set_option maxRecDepth 100000 in
theorem lifted (os : Os) (started : os.Started) (H : Type) (enc : TypeId × Value → H) :
    ReturnsInHanded {} Tryd.checked os 8 .any (fun w args => (Rows.utcDaysSpec.pre enc Tryd.prog Tryd.f8 [] false w args ∧ laidMetH Tryd.prog laidTab w) ∧ sizedMet enc Tryd.prog Tryd.f8 (OpenSpec.ofChange Rows.utcDaysSpec) false w args) (Rows.utcDaysSpec.post enc Tryd.prog Tryd.f8 false true false false) := by
  refine returnsInHanded_of_change_and (C := Tryd.checked) (X := fun w _ => laidMetH Tryd.prog laidTab w) (fun _ _ _ hh h => h.of_heap hh) own started (by kernel_rfl) Tryd.func8
    (ChangeSpec.witness_shaped (enc := enc) (C := Tryd.checked) (os := os) (X := fun w _ => laidMetH Tryd.prog laidTab w) false (World.doorLaid Tryd.prog 14 os) #[.agg #[.int .i64 0, .int .i64 0, .int .i64 0, .slice none 0 0], .int .i64 0] 8 rfl (World.shaped_of_RefB (by kernel_rfl) (by kernel_rfl)) (by kernel_rfl) (by kernel_rfl) (by kernel_rfl) (door_met os _)) ?_
  intro W base args ds gs before hval0 hW _ _ hL _
  have hval : ∀ (j : Nat) t v, Tryd.f8.params[j]? = some t → args[j]? = some v → Value.okWide Tryd.prog W .any base t v := hval0
  have hW' := hW
  obtain ⟨p, q, hA0, hV, rfl, hfz, hnd⟩ := hW
  have hA : DataW.TrodAll enc Tryd.prog W 0 (fun _ => true) true Tryd.f8.params.toList args.toList ds p := hA0
  have hAk := hA
  rw [Tryd.params8] at hA hval
  obtain ⟨v0, vs0, d0, ds0, p0, q0, hargs, rfl, hp, h0, r0⟩ := trodAll_cons hA
  obtain ⟨v1, vs1, d1, ds1, p1, q1, rfl, rfl, rfl, h1, r1⟩ := trodAll_cons r0
  obtain ⟨rfl, rfl, rfl⟩ := trodAll_nil r1
  obtain rfl : args = #[v0, v1] := by cases args; simp_all
  obtain ⟨rfl, rfl⟩ := trodVars_none hV
  clear hA0 hval0 hargs
  simp only [List.append_nil] at hW'
  have hend : ∀ W' : World, Below W.heap.size W W' → Rows.utcDaysSpec.post enc Tryd.prog Tryd.f8 false true false false W #[v0, v1] (.bool true) W' := fun W' hb =>
    law_post (tb := 4) hW' hAk rfl (by kernel_rfl) (by kernel_rfl) (by kernel_rfl) Tryd.underlying4 rfl rfl rfl hb
  clear hW' hAk hp
  obtain ⟨vs0', rfl, hfit0⟩ := flatS_arg (ks := [.p (.int .i64), .p (.int .i64), .p (.int .i64), .rows [.int .i64, .int .i64]]) 9 Tryd.underlying24 (by kernel_rfl) (hval 0 24 v0 rfl rfl) h0
  obtain ⟨s0_0, s0_1, s0_2, A0_3, n0_3, c0_3, f0_3, rfl, w0_0, w0_1, w0_2, w0_3⟩ := cells0 hfit0
  obtain ⟨a1, rfl, rfl, rfl, w1⟩ := open_int Tryd.underlying3 (hval 1 3 v1 rfl rfl) h1
  refine (walk s0_0 s0_1 s0_2 A0_3 n0_3 c0_3 f0_3 a1 W w0_0 w0_1 w0_2 w0_3 w1 (tab_of_laid hL)).mono fun e W' ⟨he, hg⟩ => ?_
  subst he
  exact ⟨_, rfl, hend W' hg⟩

theorem over : Rows.utcDaysRow.holds Tryd.pinned (OpenSpec.ofChange Rows.utcDaysSpec) :=
  OpenClaim.holds_of_wide 8 Tryd.f8 rfl rfl rfl rfl rfl rfl rfl ⟨rfl, rfl, rfl, rfl, rfl⟩ rfl rfl rfl rfl rfl (by kernel_rfl) Tryd.func8 (by kernel_rfl)
    (of_decide_eq_true (by kernel_rfl)) (by unfold Func.isWrapper; first | (rw [if_pos (by decide +kernel)]; kernel_rfl) | (rw [if_neg (by decide +kernel)]; exact ⟨rfl, rfl⟩))
    (fun os started H enc _ => lifted os started H enc)

/-- THE STATEMENT: the tied card -/
theorem proved : Rows.UtcDaysCardSaid :=
  Claim7.holds_tied_plain_at .later [] [.data, .data, .data] true (true, "4adff61b54aac8345feb7c502e14ef75a75b01c7aacf952f94604b724cf580c8") false
    over (fun _ h => by cases h) (by kernel_rfl) (fun _ h => by cases h) utcDays_row_tie rfl ⟨rfl, rfl⟩ (by kernel_rfl) rfl
    (fun f fn hf hfn => by
      obtain rfl : f = 8 := Option.some.inj ((show Tryd.prog.funcNamed "angelus/angeluslaw22.UtcDays" = some 8 by kernel_rfl).symm.trans hf) |>.symm
      obtain rfl : fn = Tryd.f8 := (Option.some.inj (Tryd.func8.symm.trans hfn)).symm
      exact ⟨by kernel_rfl, fun j t ht => by
        rw [Tryd.params8] at ht
        have hm : t ∈ [24, 3] := by simpa using Array.mem_of_getElem? ht
        have hall : ([24, 3].all fun u => !Tryd.prog.wantsStandIn u) = true := by kernel_rfl
        exact (show Tryd.prog.wantsStandIn t = false by simpa using List.all_eq_true.1 hall t hm)⟩)
    (by kernel_rfl)
#print axioms proved
end Go.Proofs.YtcknllkbeadmlaaDoor.utcDays
