/-
  Where all entries were right, but for so many ticks, of a clock that gained or lost from one to the next no more than the greatest slope lets, Global is right, but for as many, twice what that gains from the eldest entry on, and 4 ticks: for every drift, all steps, gains, errors, beginnings and bounds (beyond the law's own limits it asks nothing) the law answers true; without conditions.
  The walk is the prover's own; the frame of the row's step follows the kit's template.
-/
import Derived.Test.YtkibpialacnlhaaRows
import Derived.Test.YtkibpialacnlhaaLawKit
import Derived.Test.YtkibpialacnlhaaGbP
import Derived.LoopTactic
import Derived.Deep.CutBlock
import Derived.BigQuiet
namespace Go.Proofs.Ytkibpialacnlhaa.globeNear
open Go.ChangeShapes Go.WideShapes Go.ChangeAt Go.RowKit Go.ChangeMaps Go.WideElems
set_option linter.unusedVariables false

theorem own : ownKnob Try.prog.godebug = none := by kernel_rfl
set_option linter.unusedSimpArgs false in
set_option maxHeartbeats 8000000 in
set_option maxRecDepth 100000 in
theorem walk (a0 : Int) (A1 : Option Addr) (n1 c1 : Nat) (z1 : List Int) (A2 : Option Addr) (n2 c2 : Nat) (z2 : List Int) (A3 : Option Addr) (n3 c3 : Nat) (z3 : List Int) (a4 : Int) (a5 : Int) (a6 : Int) (w : World) (w0 : (Lit.int .i64 a0).wf = true) (w1 : IntRow w .i64 A1 n1 c1 z1) (w2 : IntRow w .i64 A2 n2 c2 z2) (w3 : IntRow w .i64 A3 n3 c3 z3) (w4 : (Lit.int .i64 a4).wf = true) (w5 : (Lit.int .i64 a5).wf = true) (w6 : (Lit.int .i64 a6).wf = true) :
    Calls Try.prog 6 #[.int .i64 a0, .slice A1 n1 c1, .slice A2 n2 c2, .slice A3 n3 c3, .int .i64 a4, .int .i64 a5, .int .i64 a6] w fun e w' => e = .returned (.bool true) ∧ Below w.heap.size w w' := by
  have HR1 := Lib.hid w1
  have HR2 := Lib.hid w2
  have HR3 := Lib.hid w3
  clear w1 w2 w3
  by_cases g0 : a0 < 0
  · have d0 : decide (a0 < 0) = true := decide_eq_true g0
    clear g0
    go_enter Try.func6, Try.ntmps6
    go_wp2_with (first
      | ((go_at_call 8; refine (alive_yes _).mono ?_; rintro e wa ⟨rfl, hb1⟩; have HB1 := Lib.hid hb1; clear hb1))
      | ((go_at_call 14; refine (HRM.out _).mono ?_; rintro e wx ⟨rfl, hwx⟩; subst wx))
      | ((go_at_call 15; with_reducible refine (HGG.out _).mono ?_; rintro e wg ⟨rfl, hb2⟩; first | (have HBI := Lib.hid (HBH.out.trans (hb2.mono HBH.out.size)); clear hb2) | (have HBG := Lib.hid (HBE.out.trans (hb2.mono HBE.out.size)); have HTG := Lib.hid (HT.out.below hb2); have y2 := (hb2.cell (p := ⟨b2, o2 + k, none⟩) (block_lt y2)).trans y2; have y3 := (hb2.cell (p := ⟨b3, o3 + k, none⟩) (block_lt y3)).trans y3; clear hb2) | (have HBG := Lib.hid (HBE.out.trans (hb2.mono HBE.out.size)); have HTG := Lib.hid (HT.out.below hb2); have y2 := (hb2.cell (p := ⟨b2, o2, none⟩) (block_lt y2)).trans y2; have y3 := (hb2.cell (p := ⟨b3, o3, none⟩) (block_lt y3)).trans y3; clear hb2)))
      | ((go_at_call 19; refine (add_any _ _ _ _ _ _ _ _ _ L HTG.out HCa.out HLa.out).mono ?_; rintro e wb ⟨rfl, ht2, hc2⟩; have HBE2 := Lib.hid (tb_below HTG.out HBG.out hc2 HB1.out.size); have HT2 := Lib.hid ht2; clear ht2 hc2))
      | ((go_at_call 10; refine (HOf.out _ _ HT.out.src).mono ?_; rintro e wc ⟨rfl, hb3⟩; have HM := Lib.hid (HMs.out wc); have HBF := Lib.hid (HBE.out.trans (hb3.mono HBE.out.size)); obtain ⟨p0, p1, p2, p3, p4, _⟩ := HM.out.cells5; clear hb3))
      | ((go_at_call 12; with_reducible refine (HGl.out _).mono ?_; rintro e wd ⟨rfl, hb4⟩; have HBH := Lib.hid (HBF.out.trans ((HM.out.next hb4).below.mono HBF.out.size)); clear hb4)))
    go_ret
    exact ⟨rfl, HB1.out⟩
  have d0 : decide (a0 < 0) = false := decide_eq_false g0
  by_cases g1 : 10 < a0
  · have d1 : decide (10 < a0) = true := decide_eq_true g1
    clear g1
    go_enter Try.func6, Try.ntmps6
    go_wp2_with (first
      | ((go_at_call 8; refine (alive_yes _).mono ?_; rintro e wa ⟨rfl, hb1⟩; have HB1 := Lib.hid hb1; clear hb1))
      | ((go_at_call 14; refine (HRM.out _).mono ?_; rintro e wx ⟨rfl, hwx⟩; subst wx))
      | ((go_at_call 15; with_reducible refine (HGG.out _).mono ?_; rintro e wg ⟨rfl, hb2⟩; first | (have HBI := Lib.hid (HBH.out.trans (hb2.mono HBH.out.size)); clear hb2) | (have HBG := Lib.hid (HBE.out.trans (hb2.mono HBE.out.size)); have HTG := Lib.hid (HT.out.below hb2); have y2 := (hb2.cell (p := ⟨b2, o2 + k, none⟩) (block_lt y2)).trans y2; have y3 := (hb2.cell (p := ⟨b3, o3 + k, none⟩) (block_lt y3)).trans y3; clear hb2) | (have HBG := Lib.hid (HBE.out.trans (hb2.mono HBE.out.size)); have HTG := Lib.hid (HT.out.below hb2); have y2 := (hb2.cell (p := ⟨b2, o2, none⟩) (block_lt y2)).trans y2; have y3 := (hb2.cell (p := ⟨b3, o3, none⟩) (block_lt y3)).trans y3; clear hb2)))
      | ((go_at_call 19; refine (add_any _ _ _ _ _ _ _ _ _ L HTG.out HCa.out HLa.out).mono ?_; rintro e wb ⟨rfl, ht2, hc2⟩; have HBE2 := Lib.hid (tb_below HTG.out HBG.out hc2 HB1.out.size); have HT2 := Lib.hid ht2; clear ht2 hc2))
      | ((go_at_call 10; refine (HOf.out _ _ HT.out.src).mono ?_; rintro e wc ⟨rfl, hb3⟩; have HM := Lib.hid (HMs.out wc); have HBF := Lib.hid (HBE.out.trans (hb3.mono HBE.out.size)); obtain ⟨p0, p1, p2, p3, p4, _⟩ := HM.out.cells5; clear hb3))
      | ((go_at_call 12; with_reducible refine (HGl.out _).mono ?_; rintro e wd ⟨rfl, hb4⟩; have HBH := Lib.hid (HBF.out.trans ((HM.out.next hb4).below.mono HBF.out.size)); clear hb4)))
    go_ret
    exact ⟨rfl, HB1.out⟩
  have d1 : decide (10 < a0) = false := decide_eq_false g1
  by_cases g2 : (n1 : Int) < 2
  · have d2 : decide ((n1 : Int) < 2) = true := decide_eq_true g2
    have e2 : decide (n1 < 2) = true := decide_eq_true (by omega)
    clear g2
    go_enter Try.func6, Try.ntmps6
    go_wp2_with (first
      | ((go_at_call 8; refine (alive_yes _).mono ?_; rintro e wa ⟨rfl, hb1⟩; have HB1 := Lib.hid hb1; clear hb1))
      | ((go_at_call 14; refine (HRM.out _).mono ?_; rintro e wx ⟨rfl, hwx⟩; subst wx))
      | ((go_at_call 15; with_reducible refine (HGG.out _).mono ?_; rintro e wg ⟨rfl, hb2⟩; first | (have HBI := Lib.hid (HBH.out.trans (hb2.mono HBH.out.size)); clear hb2) | (have HBG := Lib.hid (HBE.out.trans (hb2.mono HBE.out.size)); have HTG := Lib.hid (HT.out.below hb2); have y2 := (hb2.cell (p := ⟨b2, o2 + k, none⟩) (block_lt y2)).trans y2; have y3 := (hb2.cell (p := ⟨b3, o3 + k, none⟩) (block_lt y3)).trans y3; clear hb2) | (have HBG := Lib.hid (HBE.out.trans (hb2.mono HBE.out.size)); have HTG := Lib.hid (HT.out.below hb2); have y2 := (hb2.cell (p := ⟨b2, o2, none⟩) (block_lt y2)).trans y2; have y3 := (hb2.cell (p := ⟨b3, o3, none⟩) (block_lt y3)).trans y3; clear hb2)))
      | ((go_at_call 19; refine (add_any _ _ _ _ _ _ _ _ _ L HTG.out HCa.out HLa.out).mono ?_; rintro e wb ⟨rfl, ht2, hc2⟩; have HBE2 := Lib.hid (tb_below HTG.out HBG.out hc2 HB1.out.size); have HT2 := Lib.hid ht2; clear ht2 hc2))
      | ((go_at_call 10; refine (HOf.out _ _ HT.out.src).mono ?_; rintro e wc ⟨rfl, hb3⟩; have HM := Lib.hid (HMs.out wc); have HBF := Lib.hid (HBE.out.trans (hb3.mono HBE.out.size)); obtain ⟨p0, p1, p2, p3, p4, _⟩ := HM.out.cells5; clear hb3))
      | ((go_at_call 12; with_reducible refine (HGl.out _).mono ?_; rintro e wd ⟨rfl, hb4⟩; have HBH := Lib.hid (HBF.out.trans ((HM.out.next hb4).below.mono HBF.out.size)); clear hb4)))
    go_ret
    exact ⟨rfl, HB1.out⟩
  have d2 : decide ((n1 : Int) < 2) = false := decide_eq_false g2
  have e2 : decide (n1 < 2) = false := decide_eq_false (by omega)
  by_cases g3 : (9 : Int) < (n1 : Int)
  · have d3 : decide ((9 : Int) < (n1 : Int)) = true := decide_eq_true g3
    have e3 : decide (9 < n1) = true := decide_eq_true (by omega)
    clear g3
    go_enter Try.func6, Try.ntmps6
    go_wp2_with (first
      | ((go_at_call 8; refine (alive_yes _).mono ?_; rintro e wa ⟨rfl, hb1⟩; have HB1 := Lib.hid hb1; clear hb1))
      | ((go_at_call 14; refine (HRM.out _).mono ?_; rintro e wx ⟨rfl, hwx⟩; subst wx))
      | ((go_at_call 15; with_reducible refine (HGG.out _).mono ?_; rintro e wg ⟨rfl, hb2⟩; first | (have HBI := Lib.hid (HBH.out.trans (hb2.mono HBH.out.size)); clear hb2) | (have HBG := Lib.hid (HBE.out.trans (hb2.mono HBE.out.size)); have HTG := Lib.hid (HT.out.below hb2); have y2 := (hb2.cell (p := ⟨b2, o2 + k, none⟩) (block_lt y2)).trans y2; have y3 := (hb2.cell (p := ⟨b3, o3 + k, none⟩) (block_lt y3)).trans y3; clear hb2) | (have HBG := Lib.hid (HBE.out.trans (hb2.mono HBE.out.size)); have HTG := Lib.hid (HT.out.below hb2); have y2 := (hb2.cell (p := ⟨b2, o2, none⟩) (block_lt y2)).trans y2; have y3 := (hb2.cell (p := ⟨b3, o3, none⟩) (block_lt y3)).trans y3; clear hb2)))
      | ((go_at_call 19; refine (add_any _ _ _ _ _ _ _ _ _ L HTG.out HCa.out HLa.out).mono ?_; rintro e wb ⟨rfl, ht2, hc2⟩; have HBE2 := Lib.hid (tb_below HTG.out HBG.out hc2 HB1.out.size); have HT2 := Lib.hid ht2; clear ht2 hc2))
      | ((go_at_call 10; refine (HOf.out _ _ HT.out.src).mono ?_; rintro e wc ⟨rfl, hb3⟩; have HM := Lib.hid (HMs.out wc); have HBF := Lib.hid (HBE.out.trans (hb3.mono HBE.out.size)); obtain ⟨p0, p1, p2, p3, p4, _⟩ := HM.out.cells5; clear hb3))
      | ((go_at_call 12; with_reducible refine (HGl.out _).mono ?_; rintro e wd ⟨rfl, hb4⟩; have HBH := Lib.hid (HBF.out.trans ((HM.out.next hb4).below.mono HBF.out.size)); clear hb4)))
    go_ret
    exact ⟨rfl, HB1.out⟩
  have d3 : decide ((9 : Int) < (n1 : Int)) = false := decide_eq_false g3
  have e3 : decide (9 < n1) = false := decide_eq_false (by omega)
  by_cases g4 : (n2 : Int) < (n1 : Int)
  · have d4 : decide ((n2 : Int) < (n1 : Int)) = true := decide_eq_true g4
    have e4 : decide (n2 < n1) = true := decide_eq_true (by omega)
    clear g4
    go_enter Try.func6, Try.ntmps6
    go_wp2_with (first
      | ((go_at_call 8; refine (alive_yes _).mono ?_; rintro e wa ⟨rfl, hb1⟩; have HB1 := Lib.hid hb1; clear hb1))
      | ((go_at_call 14; refine (HRM.out _).mono ?_; rintro e wx ⟨rfl, hwx⟩; subst wx))
      | ((go_at_call 15; with_reducible refine (HGG.out _).mono ?_; rintro e wg ⟨rfl, hb2⟩; first | (have HBI := Lib.hid (HBH.out.trans (hb2.mono HBH.out.size)); clear hb2) | (have HBG := Lib.hid (HBE.out.trans (hb2.mono HBE.out.size)); have HTG := Lib.hid (HT.out.below hb2); have y2 := (hb2.cell (p := ⟨b2, o2 + k, none⟩) (block_lt y2)).trans y2; have y3 := (hb2.cell (p := ⟨b3, o3 + k, none⟩) (block_lt y3)).trans y3; clear hb2) | (have HBG := Lib.hid (HBE.out.trans (hb2.mono HBE.out.size)); have HTG := Lib.hid (HT.out.below hb2); have y2 := (hb2.cell (p := ⟨b2, o2, none⟩) (block_lt y2)).trans y2; have y3 := (hb2.cell (p := ⟨b3, o3, none⟩) (block_lt y3)).trans y3; clear hb2)))
      | ((go_at_call 19; refine (add_any _ _ _ _ _ _ _ _ _ L HTG.out HCa.out HLa.out).mono ?_; rintro e wb ⟨rfl, ht2, hc2⟩; have HBE2 := Lib.hid (tb_below HTG.out HBG.out hc2 HB1.out.size); have HT2 := Lib.hid ht2; clear ht2 hc2))
      | ((go_at_call 10; refine (HOf.out _ _ HT.out.src).mono ?_; rintro e wc ⟨rfl, hb3⟩; have HM := Lib.hid (HMs.out wc); have HBF := Lib.hid (HBE.out.trans (hb3.mono HBE.out.size)); obtain ⟨p0, p1, p2, p3, p4, _⟩ := HM.out.cells5; clear hb3))
      | ((go_at_call 12; with_reducible refine (HGl.out _).mono ?_; rintro e wd ⟨rfl, hb4⟩; have HBH := Lib.hid (HBF.out.trans ((HM.out.next hb4).below.mono HBF.out.size)); clear hb4)))
    go_ret
    exact ⟨rfl, HB1.out⟩
  have d4 : decide ((n2 : Int) < (n1 : Int)) = false := decide_eq_false g4
  have e4 : decide (n2 < n1) = false := decide_eq_false (by omega)
  by_cases g5 : (n3 : Int) < (n1 : Int)
  · have d5 : decide ((n3 : Int) < (n1 : Int)) = true := decide_eq_true g5
    have e5 : decide (n3 < n1) = true := decide_eq_true (by omega)
    clear g5
    go_enter Try.func6, Try.ntmps6
    go_wp2_with (first
      | ((go_at_call 8; refine (alive_yes _).mono ?_; rintro e wa ⟨rfl, hb1⟩; have HB1 := Lib.hid hb1; clear hb1))
      | ((go_at_call 14; refine (HRM.out _).mono ?_; rintro e wx ⟨rfl, hwx⟩; subst wx))
      | ((go_at_call 15; with_reducible refine (HGG.out _).mono ?_; rintro e wg ⟨rfl, hb2⟩; first | (have HBI := Lib.hid (HBH.out.trans (hb2.mono HBH.out.size)); clear hb2) | (have HBG := Lib.hid (HBE.out.trans (hb2.mono HBE.out.size)); have HTG := Lib.hid (HT.out.below hb2); have y2 := (hb2.cell (p := ⟨b2, o2 + k, none⟩) (block_lt y2)).trans y2; have y3 := (hb2.cell (p := ⟨b3, o3 + k, none⟩) (block_lt y3)).trans y3; clear hb2) | (have HBG := Lib.hid (HBE.out.trans (hb2.mono HBE.out.size)); have HTG := Lib.hid (HT.out.below hb2); have y2 := (hb2.cell (p := ⟨b2, o2, none⟩) (block_lt y2)).trans y2; have y3 := (hb2.cell (p := ⟨b3, o3, none⟩) (block_lt y3)).trans y3; clear hb2)))
      | ((go_at_call 19; refine (add_any _ _ _ _ _ _ _ _ _ L HTG.out HCa.out HLa.out).mono ?_; rintro e wb ⟨rfl, ht2, hc2⟩; have HBE2 := Lib.hid (tb_below HTG.out HBG.out hc2 HB1.out.size); have HT2 := Lib.hid ht2; clear ht2 hc2))
      | ((go_at_call 10; refine (HOf.out _ _ HT.out.src).mono ?_; rintro e wc ⟨rfl, hb3⟩; have HM := Lib.hid (HMs.out wc); have HBF := Lib.hid (HBE.out.trans (hb3.mono HBE.out.size)); obtain ⟨p0, p1, p2, p3, p4, _⟩ := HM.out.cells5; clear hb3))
      | ((go_at_call 12; with_reducible refine (HGl.out _).mono ?_; rintro e wd ⟨rfl, hb4⟩; have HBH := Lib.hid (HBF.out.trans ((HM.out.next hb4).below.mono HBF.out.size)); clear hb4)))
    go_ret
    exact ⟨rfl, HB1.out⟩
  have d5 : decide ((n3 : Int) < (n1 : Int)) = false := decide_eq_false g5
  have e5 : decide (n3 < n1) = false := decide_eq_false (by omega)
  by_cases g6 : a4 < 0
  · have d6 : decide (a4 < 0) = true := decide_eq_true g6
    clear g6
    go_enter Try.func6, Try.ntmps6
    go_wp2_with (first
      | ((go_at_call 8; refine (alive_yes _).mono ?_; rintro e wa ⟨rfl, hb1⟩; have HB1 := Lib.hid hb1; clear hb1))
      | ((go_at_call 14; refine (HRM.out _).mono ?_; rintro e wx ⟨rfl, hwx⟩; subst wx))
      | ((go_at_call 15; with_reducible refine (HGG.out _).mono ?_; rintro e wg ⟨rfl, hb2⟩; first | (have HBI := Lib.hid (HBH.out.trans (hb2.mono HBH.out.size)); clear hb2) | (have HBG := Lib.hid (HBE.out.trans (hb2.mono HBE.out.size)); have HTG := Lib.hid (HT.out.below hb2); have y2 := (hb2.cell (p := ⟨b2, o2 + k, none⟩) (block_lt y2)).trans y2; have y3 := (hb2.cell (p := ⟨b3, o3 + k, none⟩) (block_lt y3)).trans y3; clear hb2) | (have HBG := Lib.hid (HBE.out.trans (hb2.mono HBE.out.size)); have HTG := Lib.hid (HT.out.below hb2); have y2 := (hb2.cell (p := ⟨b2, o2, none⟩) (block_lt y2)).trans y2; have y3 := (hb2.cell (p := ⟨b3, o3, none⟩) (block_lt y3)).trans y3; clear hb2)))
      | ((go_at_call 19; refine (add_any _ _ _ _ _ _ _ _ _ L HTG.out HCa.out HLa.out).mono ?_; rintro e wb ⟨rfl, ht2, hc2⟩; have HBE2 := Lib.hid (tb_below HTG.out HBG.out hc2 HB1.out.size); have HT2 := Lib.hid ht2; clear ht2 hc2))
      | ((go_at_call 10; refine (HOf.out _ _ HT.out.src).mono ?_; rintro e wc ⟨rfl, hb3⟩; have HM := Lib.hid (HMs.out wc); have HBF := Lib.hid (HBE.out.trans (hb3.mono HBE.out.size)); obtain ⟨p0, p1, p2, p3, p4, _⟩ := HM.out.cells5; clear hb3))
      | ((go_at_call 12; with_reducible refine (HGl.out _).mono ?_; rintro e wd ⟨rfl, hb4⟩; have HBH := Lib.hid (HBF.out.trans ((HM.out.next hb4).below.mono HBF.out.size)); clear hb4)))
    go_ret
    exact ⟨rfl, HB1.out⟩
  have d6 : decide (a4 < 0) = false := decide_eq_false g6
  by_cases g7 : 1099511627776 < a4
  · have d7 : decide (1099511627776 < a4) = true := decide_eq_true g7
    clear g7
    go_enter Try.func6, Try.ntmps6
    go_wp2_with (first
      | ((go_at_call 8; refine (alive_yes _).mono ?_; rintro e wa ⟨rfl, hb1⟩; have HB1 := Lib.hid hb1; clear hb1))
      | ((go_at_call 14; refine (HRM.out _).mono ?_; rintro e wx ⟨rfl, hwx⟩; subst wx))
      | ((go_at_call 15; with_reducible refine (HGG.out _).mono ?_; rintro e wg ⟨rfl, hb2⟩; first | (have HBI := Lib.hid (HBH.out.trans (hb2.mono HBH.out.size)); clear hb2) | (have HBG := Lib.hid (HBE.out.trans (hb2.mono HBE.out.size)); have HTG := Lib.hid (HT.out.below hb2); have y2 := (hb2.cell (p := ⟨b2, o2 + k, none⟩) (block_lt y2)).trans y2; have y3 := (hb2.cell (p := ⟨b3, o3 + k, none⟩) (block_lt y3)).trans y3; clear hb2) | (have HBG := Lib.hid (HBE.out.trans (hb2.mono HBE.out.size)); have HTG := Lib.hid (HT.out.below hb2); have y2 := (hb2.cell (p := ⟨b2, o2, none⟩) (block_lt y2)).trans y2; have y3 := (hb2.cell (p := ⟨b3, o3, none⟩) (block_lt y3)).trans y3; clear hb2)))
      | ((go_at_call 19; refine (add_any _ _ _ _ _ _ _ _ _ L HTG.out HCa.out HLa.out).mono ?_; rintro e wb ⟨rfl, ht2, hc2⟩; have HBE2 := Lib.hid (tb_below HTG.out HBG.out hc2 HB1.out.size); have HT2 := Lib.hid ht2; clear ht2 hc2))
      | ((go_at_call 10; refine (HOf.out _ _ HT.out.src).mono ?_; rintro e wc ⟨rfl, hb3⟩; have HM := Lib.hid (HMs.out wc); have HBF := Lib.hid (HBE.out.trans (hb3.mono HBE.out.size)); obtain ⟨p0, p1, p2, p3, p4, _⟩ := HM.out.cells5; clear hb3))
      | ((go_at_call 12; with_reducible refine (HGl.out _).mono ?_; rintro e wd ⟨rfl, hb4⟩; have HBH := Lib.hid (HBF.out.trans ((HM.out.next hb4).below.mono HBF.out.size)); clear hb4)))
    go_ret
    exact ⟨rfl, HB1.out⟩
  have d7 : decide (1099511627776 < a4) = false := decide_eq_false g7
  by_cases g8 : a5 < 0
  · have d8 : decide (a5 < 0) = true := decide_eq_true g8
    clear g8
    go_enter Try.func6, Try.ntmps6
    go_wp2_with (first
      | ((go_at_call 8; refine (alive_yes _).mono ?_; rintro e wa ⟨rfl, hb1⟩; have HB1 := Lib.hid hb1; clear hb1))
      | ((go_at_call 14; refine (HRM.out _).mono ?_; rintro e wx ⟨rfl, hwx⟩; subst wx))
      | ((go_at_call 15; with_reducible refine (HGG.out _).mono ?_; rintro e wg ⟨rfl, hb2⟩; first | (have HBI := Lib.hid (HBH.out.trans (hb2.mono HBH.out.size)); clear hb2) | (have HBG := Lib.hid (HBE.out.trans (hb2.mono HBE.out.size)); have HTG := Lib.hid (HT.out.below hb2); have y2 := (hb2.cell (p := ⟨b2, o2 + k, none⟩) (block_lt y2)).trans y2; have y3 := (hb2.cell (p := ⟨b3, o3 + k, none⟩) (block_lt y3)).trans y3; clear hb2) | (have HBG := Lib.hid (HBE.out.trans (hb2.mono HBE.out.size)); have HTG := Lib.hid (HT.out.below hb2); have y2 := (hb2.cell (p := ⟨b2, o2, none⟩) (block_lt y2)).trans y2; have y3 := (hb2.cell (p := ⟨b3, o3, none⟩) (block_lt y3)).trans y3; clear hb2)))
      | ((go_at_call 19; refine (add_any _ _ _ _ _ _ _ _ _ L HTG.out HCa.out HLa.out).mono ?_; rintro e wb ⟨rfl, ht2, hc2⟩; have HBE2 := Lib.hid (tb_below HTG.out HBG.out hc2 HB1.out.size); have HT2 := Lib.hid ht2; clear ht2 hc2))
      | ((go_at_call 10; refine (HOf.out _ _ HT.out.src).mono ?_; rintro e wc ⟨rfl, hb3⟩; have HM := Lib.hid (HMs.out wc); have HBF := Lib.hid (HBE.out.trans (hb3.mono HBE.out.size)); obtain ⟨p0, p1, p2, p3, p4, _⟩ := HM.out.cells5; clear hb3))
      | ((go_at_call 12; with_reducible refine (HGl.out _).mono ?_; rintro e wd ⟨rfl, hb4⟩; have HBH := Lib.hid (HBF.out.trans ((HM.out.next hb4).below.mono HBF.out.size)); clear hb4)))
    go_ret
    exact ⟨rfl, HB1.out⟩
  have d8 : decide (a5 < 0) = false := decide_eq_false g8
  by_cases g9 : 1099511627776 < a5
  · have d9 : decide (1099511627776 < a5) = true := decide_eq_true g9
    clear g9
    go_enter Try.func6, Try.ntmps6
    go_wp2_with (first
      | ((go_at_call 8; refine (alive_yes _).mono ?_; rintro e wa ⟨rfl, hb1⟩; have HB1 := Lib.hid hb1; clear hb1))
      | ((go_at_call 14; refine (HRM.out _).mono ?_; rintro e wx ⟨rfl, hwx⟩; subst wx))
      | ((go_at_call 15; with_reducible refine (HGG.out _).mono ?_; rintro e wg ⟨rfl, hb2⟩; first | (have HBI := Lib.hid (HBH.out.trans (hb2.mono HBH.out.size)); clear hb2) | (have HBG := Lib.hid (HBE.out.trans (hb2.mono HBE.out.size)); have HTG := Lib.hid (HT.out.below hb2); have y2 := (hb2.cell (p := ⟨b2, o2 + k, none⟩) (block_lt y2)).trans y2; have y3 := (hb2.cell (p := ⟨b3, o3 + k, none⟩) (block_lt y3)).trans y3; clear hb2) | (have HBG := Lib.hid (HBE.out.trans (hb2.mono HBE.out.size)); have HTG := Lib.hid (HT.out.below hb2); have y2 := (hb2.cell (p := ⟨b2, o2, none⟩) (block_lt y2)).trans y2; have y3 := (hb2.cell (p := ⟨b3, o3, none⟩) (block_lt y3)).trans y3; clear hb2)))
      | ((go_at_call 19; refine (add_any _ _ _ _ _ _ _ _ _ L HTG.out HCa.out HLa.out).mono ?_; rintro e wb ⟨rfl, ht2, hc2⟩; have HBE2 := Lib.hid (tb_below HTG.out HBG.out hc2 HB1.out.size); have HT2 := Lib.hid ht2; clear ht2 hc2))
      | ((go_at_call 10; refine (HOf.out _ _ HT.out.src).mono ?_; rintro e wc ⟨rfl, hb3⟩; have HM := Lib.hid (HMs.out wc); have HBF := Lib.hid (HBE.out.trans (hb3.mono HBE.out.size)); obtain ⟨p0, p1, p2, p3, p4, _⟩ := HM.out.cells5; clear hb3))
      | ((go_at_call 12; with_reducible refine (HGl.out _).mono ?_; rintro e wd ⟨rfl, hb4⟩; have HBH := Lib.hid (HBF.out.trans ((HM.out.next hb4).below.mono HBF.out.size)); clear hb4)))
    go_ret
    exact ⟨rfl, HB1.out⟩
  have d9 : decide (1099511627776 < a5) = false := decide_eq_false g9
  by_cases g10 : a6 < 0
  · have d10 : decide (a6 < 0) = true := decide_eq_true g10
    clear g10
    go_enter Try.func6, Try.ntmps6
    go_wp2_with (first
      | ((go_at_call 8; refine (alive_yes _).mono ?_; rintro e wa ⟨rfl, hb1⟩; have HB1 := Lib.hid hb1; clear hb1))
      | ((go_at_call 14; refine (HRM.out _).mono ?_; rintro e wx ⟨rfl, hwx⟩; subst wx))
      | ((go_at_call 15; with_reducible refine (HGG.out _).mono ?_; rintro e wg ⟨rfl, hb2⟩; first | (have HBI := Lib.hid (HBH.out.trans (hb2.mono HBH.out.size)); clear hb2) | (have HBG := Lib.hid (HBE.out.trans (hb2.mono HBE.out.size)); have HTG := Lib.hid (HT.out.below hb2); have y2 := (hb2.cell (p := ⟨b2, o2 + k, none⟩) (block_lt y2)).trans y2; have y3 := (hb2.cell (p := ⟨b3, o3 + k, none⟩) (block_lt y3)).trans y3; clear hb2) | (have HBG := Lib.hid (HBE.out.trans (hb2.mono HBE.out.size)); have HTG := Lib.hid (HT.out.below hb2); have y2 := (hb2.cell (p := ⟨b2, o2, none⟩) (block_lt y2)).trans y2; have y3 := (hb2.cell (p := ⟨b3, o3, none⟩) (block_lt y3)).trans y3; clear hb2)))
      | ((go_at_call 19; refine (add_any _ _ _ _ _ _ _ _ _ L HTG.out HCa.out HLa.out).mono ?_; rintro e wb ⟨rfl, ht2, hc2⟩; have HBE2 := Lib.hid (tb_below HTG.out HBG.out hc2 HB1.out.size); have HT2 := Lib.hid ht2; clear ht2 hc2))
      | ((go_at_call 10; refine (HOf.out _ _ HT.out.src).mono ?_; rintro e wc ⟨rfl, hb3⟩; have HM := Lib.hid (HMs.out wc); have HBF := Lib.hid (HBE.out.trans (hb3.mono HBE.out.size)); obtain ⟨p0, p1, p2, p3, p4, _⟩ := HM.out.cells5; clear hb3))
      | ((go_at_call 12; with_reducible refine (HGl.out _).mono ?_; rintro e wd ⟨rfl, hb4⟩; have HBH := Lib.hid (HBF.out.trans ((HM.out.next hb4).below.mono HBF.out.size)); clear hb4)))
    go_ret
    exact ⟨rfl, HB1.out⟩
  have d10 : decide (a6 < 0) = false := decide_eq_false g10
  by_cases g11 : 100000 < a6
  · have d11 : decide (100000 < a6) = true := decide_eq_true g11
    clear g11
    go_enter Try.func6, Try.ntmps6
    go_wp2_with (first
      | ((go_at_call 8; refine (alive_yes _).mono ?_; rintro e wa ⟨rfl, hb1⟩; have HB1 := Lib.hid hb1; clear hb1))
      | ((go_at_call 14; refine (HRM.out _).mono ?_; rintro e wx ⟨rfl, hwx⟩; subst wx))
      | ((go_at_call 15; with_reducible refine (HGG.out _).mono ?_; rintro e wg ⟨rfl, hb2⟩; first | (have HBI := Lib.hid (HBH.out.trans (hb2.mono HBH.out.size)); clear hb2) | (have HBG := Lib.hid (HBE.out.trans (hb2.mono HBE.out.size)); have HTG := Lib.hid (HT.out.below hb2); have y2 := (hb2.cell (p := ⟨b2, o2 + k, none⟩) (block_lt y2)).trans y2; have y3 := (hb2.cell (p := ⟨b3, o3 + k, none⟩) (block_lt y3)).trans y3; clear hb2) | (have HBG := Lib.hid (HBE.out.trans (hb2.mono HBE.out.size)); have HTG := Lib.hid (HT.out.below hb2); have y2 := (hb2.cell (p := ⟨b2, o2, none⟩) (block_lt y2)).trans y2; have y3 := (hb2.cell (p := ⟨b3, o3, none⟩) (block_lt y3)).trans y3; clear hb2)))
      | ((go_at_call 19; refine (add_any _ _ _ _ _ _ _ _ _ L HTG.out HCa.out HLa.out).mono ?_; rintro e wb ⟨rfl, ht2, hc2⟩; have HBE2 := Lib.hid (tb_below HTG.out HBG.out hc2 HB1.out.size); have HT2 := Lib.hid ht2; clear ht2 hc2))
      | ((go_at_call 10; refine (HOf.out _ _ HT.out.src).mono ?_; rintro e wc ⟨rfl, hb3⟩; have HM := Lib.hid (HMs.out wc); have HBF := Lib.hid (HBE.out.trans (hb3.mono HBE.out.size)); obtain ⟨p0, p1, p2, p3, p4, _⟩ := HM.out.cells5; clear hb3))
      | ((go_at_call 12; with_reducible refine (HGl.out _).mono ?_; rintro e wd ⟨rfl, hb4⟩; have HBH := Lib.hid (HBF.out.trans ((HM.out.next hb4).below.mono HBF.out.size)); clear hb4)))
    go_ret
    exact ⟨rfl, HB1.out⟩
  have d11 : decide (100000 < a6) = false := decide_eq_false g11
  clear e2 e3 e4 e5
  obtain ⟨v1, v2⟩ := dV_bd a0
  have hrm := fun W => rmost_any a0 W
  obtain ⟨M1, hM1⟩ : ∃ M, 2 * dV a0 = M := ⟨_, rfl⟩
  obtain ⟨M2, hM2⟩ : ∃ M, 1000 - dV a0 = M := ⟨_, rfl⟩
  have HM1 := Lib.hid hM1
  have HM2 := Lib.hid hM2
  simp only [hM1, hM2] at hrm
  have HMB := Lib.hid (show (0 ≤ M1 ∧ M1 ≤ 20) ∧ 990 ≤ M2 ∧ M2 ≤ 1000 by omega)
  have HSl := Lib.hid (show SlOk 20 990 M1 M2 from by
    obtain ⟨⟨m1, m2⟩, m3, m4⟩ := HMB.out
    exact ⟨by omega, by omega, by omega, by omega, by omega, by omega, by omega, by omega⟩)
  have HRM := Lib.hid hrm
  clear hrm hM1 hM2 v1 v2
  go_enter Try.func6, Try.ntmps6
  go_wp2_with (first
    | ((go_at_call 8; refine (alive_yes _).mono ?_; rintro e wa ⟨rfl, hb1⟩; have HB1 := Lib.hid hb1; clear hb1))
    | ((go_at_call 14; refine (HRM.out _).mono ?_; rintro e wx ⟨rfl, hwx⟩; subst wx))
    | ((go_at_call 15; with_reducible refine (HGG.out _).mono ?_; rintro e wg ⟨rfl, hb2⟩; first | (have HBI := Lib.hid (HBH.out.trans (hb2.mono HBH.out.size)); clear hb2) | (have HBG := Lib.hid (HBE.out.trans (hb2.mono HBE.out.size)); have HTG := Lib.hid (HT.out.below hb2); have y2 := (hb2.cell (p := ⟨b2, o2 + k, none⟩) (block_lt y2)).trans y2; have y3 := (hb2.cell (p := ⟨b3, o3 + k, none⟩) (block_lt y3)).trans y3; clear hb2) | (have HBG := Lib.hid (HBE.out.trans (hb2.mono HBE.out.size)); have HTG := Lib.hid (HT.out.below hb2); have y2 := (hb2.cell (p := ⟨b2, o2, none⟩) (block_lt y2)).trans y2; have y3 := (hb2.cell (p := ⟨b3, o3, none⟩) (block_lt y3)).trans y3; clear hb2)))
    | ((go_at_call 19; refine (add_any _ _ _ _ _ _ _ _ _ L HTG.out HCa.out HLa.out).mono ?_; rintro e wb ⟨rfl, ht2, hc2⟩; have HBE2 := Lib.hid (tb_below HTG.out HBG.out hc2 HB1.out.size); have HT2 := Lib.hid ht2; clear ht2 hc2))
    | ((go_at_call 10; refine (HOf.out _ _ HT.out.src).mono ?_; rintro e wc ⟨rfl, hb3⟩; have HM := Lib.hid (HMs.out wc); have HBF := Lib.hid (HBE.out.trans (hb3.mono HBE.out.size)); obtain ⟨p0, p1, p2, p3, p4, _⟩ := HM.out.cells5; clear hb3))
    | ((go_at_call 12; with_reducible refine (HGl.out _).mono ?_; rintro e wd ⟨rfl, hb4⟩; have HBH := Lib.hid (HBF.out.trans ((HM.out.next hb4).below.mono HBF.out.size)); clear hb4)))
  clear d0 d1 d2 d3 d4 d5 d6 d7 d8 d9 d10 d11
  go_loopw [18, 19, 20, 98] (fun x y u i wr => ∃ (k : Nat) (q O f : Int) (L : List Ent), k ≤ n1 ∧ i = .int .i64 (k : Int) ∧ x = .int .i64 q ∧ y = .int .i64 O ∧ u = .int .i64 f ∧ Tb wr wa.heap.size 0 53 [] [] L ∧ Below w.heap.size w wr ∧ NInv M1 M2 a6 a4 a5 n1 k q O f L) (fun _ _ _ i _ => n1 - (intOf i).toNat)
  case atStart => exact ⟨0, a4, a5, a4, [], Nat.zero_le _, rfl, rfl, rfl, rfl, tb_new wa, HB1.out.alloc HB1.out.size _, ninv_zero⟩
  case round =>
    obtain ⟨k, q, O, f, L, hk, rfl, rfl, rfl, rfl, ht, hbe, hI⟩ := hrel
    have HT := Lib.hid ht
    have HBE := Lib.hid hbe
    have HI := Lib.hid hI
    clear ht hbe hI
    by_cases hlt : k < n1
    · obtain ⟨b1, o1, rfl, _, hz1⟩ := (HR1.out.below HBE.out).cell (by omega)
      obtain ⟨b2, o2, rfl, _, hz2⟩ := (HR2.out.below HBE.out).cell (by omega)
      obtain ⟨b3, o3, rfl, _, hz3⟩ := (HR3.out.below HBE.out).cell (by omega)
      have y1 := hz1 k hlt
      have y2 := hz2 k (by omega)
      have y3 := hz3 k (by omega)
      clear hz1 hz2 hz3
      obtain ⟨s, hs⟩ : ∃ s, z1.getD k 0 = s := ⟨_, rfl⟩
      obtain ⟨g, hg⟩ : ∃ s, z2.getD k 0 = s := ⟨_, rfl⟩
      obtain ⟨r, hr⟩ : ∃ s, z3.getD k 0 = s := ⟨_, rfl⟩
      rw [hs] at y1
      rw [hg] at y2
      rw [hr] at y3
      clear hs hg hr
      have l1 : (k : Int) < (n1 : Int) := by omega
      have l2 : (k : Int) < (n2 : Int) := by omega
      have l3 : (k : Int) < (n3 : Int) := by omega
      have l2' : k < n2 := by omega
      have l3' : k < n3 := by omega
      have ewk := IntWalk.i64_in ((k : Int) + 1) (by omega)
      have ewn := IntWalk.i64_in (-a6) (by omega)
      have ewl := IntWalk.i64_in ((n1 : Int) - 1) (by omega)
      by_cases t1 : s < 1
      · have xt1 : decide (s < 1) = true := decide_eq_true t1
        clear t1
        go_wp2_with (first
          | ((go_at_call 8; refine (alive_yes _).mono ?_; rintro e wa ⟨rfl, hb1⟩; have HB1 := Lib.hid hb1; clear hb1))
          | ((go_at_call 14; refine (HRM.out _).mono ?_; rintro e wx ⟨rfl, hwx⟩; subst wx))
          | ((go_at_call 15; with_reducible refine (HGG.out _).mono ?_; rintro e wg ⟨rfl, hb2⟩; first | (have HBI := Lib.hid (HBH.out.trans (hb2.mono HBH.out.size)); clear hb2) | (have HBG := Lib.hid (HBE.out.trans (hb2.mono HBE.out.size)); have HTG := Lib.hid (HT.out.below hb2); have y2 := (hb2.cell (p := ⟨b2, o2 + k, none⟩) (block_lt y2)).trans y2; have y3 := (hb2.cell (p := ⟨b3, o3 + k, none⟩) (block_lt y3)).trans y3; clear hb2) | (have HBG := Lib.hid (HBE.out.trans (hb2.mono HBE.out.size)); have HTG := Lib.hid (HT.out.below hb2); have y2 := (hb2.cell (p := ⟨b2, o2, none⟩) (block_lt y2)).trans y2; have y3 := (hb2.cell (p := ⟨b3, o3, none⟩) (block_lt y3)).trans y3; clear hb2)))
          | ((go_at_call 19; refine (add_any _ _ _ _ _ _ _ _ _ L HTG.out HCa.out HLa.out).mono ?_; rintro e wb ⟨rfl, ht2, hc2⟩; have HBE2 := Lib.hid (tb_below HTG.out HBG.out hc2 HB1.out.size); have HT2 := Lib.hid ht2; clear ht2 hc2))
          | ((go_at_call 10; refine (HOf.out _ _ HT.out.src).mono ?_; rintro e wc ⟨rfl, hb3⟩; have HM := Lib.hid (HMs.out wc); have HBF := Lib.hid (HBE.out.trans (hb3.mono HBE.out.size)); obtain ⟨p0, p1, p2, p3, p4, _⟩ := HM.out.cells5; clear hb3))
          | ((go_at_call 12; with_reducible refine (HGl.out _).mono ?_; rintro e wd ⟨rfl, hb4⟩; have HBH := Lib.hid (HBF.out.trans ((HM.out.next hb4).below.mono HBF.out.size)); clear hb4)))
        go_ret
        exact ⟨rfl, HBE.out⟩
      have xt1 : decide (s < 1) = false := decide_eq_false t1
      by_cases t2 : 100000 < s
      · have xt2 : decide (100000 < s) = true := decide_eq_true t2
        clear t2
        go_wp2_with (first
          | ((go_at_call 8; refine (alive_yes _).mono ?_; rintro e wa ⟨rfl, hb1⟩; have HB1 := Lib.hid hb1; clear hb1))
          | ((go_at_call 14; refine (HRM.out _).mono ?_; rintro e wx ⟨rfl, hwx⟩; subst wx))
          | ((go_at_call 15; with_reducible refine (HGG.out _).mono ?_; rintro e wg ⟨rfl, hb2⟩; first | (have HBI := Lib.hid (HBH.out.trans (hb2.mono HBH.out.size)); clear hb2) | (have HBG := Lib.hid (HBE.out.trans (hb2.mono HBE.out.size)); have HTG := Lib.hid (HT.out.below hb2); have y2 := (hb2.cell (p := ⟨b2, o2 + k, none⟩) (block_lt y2)).trans y2; have y3 := (hb2.cell (p := ⟨b3, o3 + k, none⟩) (block_lt y3)).trans y3; clear hb2) | (have HBG := Lib.hid (HBE.out.trans (hb2.mono HBE.out.size)); have HTG := Lib.hid (HT.out.below hb2); have y2 := (hb2.cell (p := ⟨b2, o2, none⟩) (block_lt y2)).trans y2; have y3 := (hb2.cell (p := ⟨b3, o3, none⟩) (block_lt y3)).trans y3; clear hb2)))
          | ((go_at_call 19; refine (add_any _ _ _ _ _ _ _ _ _ L HTG.out HCa.out HLa.out).mono ?_; rintro e wb ⟨rfl, ht2, hc2⟩; have HBE2 := Lib.hid (tb_below HTG.out HBG.out hc2 HB1.out.size); have HT2 := Lib.hid ht2; clear ht2 hc2))
          | ((go_at_call 10; refine (HOf.out _ _ HT.out.src).mono ?_; rintro e wc ⟨rfl, hb3⟩; have HM := Lib.hid (HMs.out wc); have HBF := Lib.hid (HBE.out.trans (hb3.mono HBE.out.size)); obtain ⟨p0, p1, p2, p3, p4, _⟩ := HM.out.cells5; clear hb3))
          | ((go_at_call 12; with_reducible refine (HGl.out _).mono ?_; rintro e wd ⟨rfl, hb4⟩; have HBH := Lib.hid (HBF.out.trans ((HM.out.next hb4).below.mono HBF.out.size)); clear hb4)))
        go_ret
        exact ⟨rfl, HBE.out⟩
      have xt2 : decide (100000 < s) = false := decide_eq_false t2
      by_cases t3 : r < -a6
      · have xt3 : decide (r < -a6) = true := decide_eq_true t3
        clear t3
        go_wp2_with (first
          | ((go_at_call 8; refine (alive_yes _).mono ?_; rintro e wa ⟨rfl, hb1⟩; have HB1 := Lib.hid hb1; clear hb1))
          | ((go_at_call 14; refine (HRM.out _).mono ?_; rintro e wx ⟨rfl, hwx⟩; subst wx))
          | ((go_at_call 15; with_reducible refine (HGG.out _).mono ?_; rintro e wg ⟨rfl, hb2⟩; first | (have HBI := Lib.hid (HBH.out.trans (hb2.mono HBH.out.size)); clear hb2) | (have HBG := Lib.hid (HBE.out.trans (hb2.mono HBE.out.size)); have HTG := Lib.hid (HT.out.below hb2); have y2 := (hb2.cell (p := ⟨b2, o2 + k, none⟩) (block_lt y2)).trans y2; have y3 := (hb2.cell (p := ⟨b3, o3 + k, none⟩) (block_lt y3)).trans y3; clear hb2) | (have HBG := Lib.hid (HBE.out.trans (hb2.mono HBE.out.size)); have HTG := Lib.hid (HT.out.below hb2); have y2 := (hb2.cell (p := ⟨b2, o2, none⟩) (block_lt y2)).trans y2; have y3 := (hb2.cell (p := ⟨b3, o3, none⟩) (block_lt y3)).trans y3; clear hb2)))
          | ((go_at_call 19; refine (add_any _ _ _ _ _ _ _ _ _ L HTG.out HCa.out HLa.out).mono ?_; rintro e wb ⟨rfl, ht2, hc2⟩; have HBE2 := Lib.hid (tb_below HTG.out HBG.out hc2 HB1.out.size); have HT2 := Lib.hid ht2; clear ht2 hc2))
          | ((go_at_call 10; refine (HOf.out _ _ HT.out.src).mono ?_; rintro e wc ⟨rfl, hb3⟩; have HM := Lib.hid (HMs.out wc); have HBF := Lib.hid (HBE.out.trans (hb3.mono HBE.out.size)); obtain ⟨p0, p1, p2, p3, p4, _⟩ := HM.out.cells5; clear hb3))
          | ((go_at_call 12; with_reducible refine (HGl.out _).mono ?_; rintro e wd ⟨rfl, hb4⟩; have HBH := Lib.hid (HBF.out.trans ((HM.out.next hb4).below.mono HBF.out.size)); clear hb4)))
        go_ret
        exact ⟨rfl, HBE.out⟩
      have xt3 : decide (r < -a6) = false := decide_eq_false t3
      by_cases t4 : a6 < r
      · have xt4 : decide (a6 < r) = true := decide_eq_true t4
        clear t4
        go_wp2_with (first
          | ((go_at_call 8; refine (alive_yes _).mono ?_; rintro e wa ⟨rfl, hb1⟩; have HB1 := Lib.hid hb1; clear hb1))
          | ((go_at_call 14; refine (HRM.out _).mono ?_; rintro e wx ⟨rfl, hwx⟩; subst wx))
          | ((go_at_call 15; with_reducible refine (HGG.out _).mono ?_; rintro e wg ⟨rfl, hb2⟩; first | (have HBI := Lib.hid (HBH.out.trans (hb2.mono HBH.out.size)); clear hb2) | (have HBG := Lib.hid (HBE.out.trans (hb2.mono HBE.out.size)); have HTG := Lib.hid (HT.out.below hb2); have y2 := (hb2.cell (p := ⟨b2, o2 + k, none⟩) (block_lt y2)).trans y2; have y3 := (hb2.cell (p := ⟨b3, o3 + k, none⟩) (block_lt y3)).trans y3; clear hb2) | (have HBG := Lib.hid (HBE.out.trans (hb2.mono HBE.out.size)); have HTG := Lib.hid (HT.out.below hb2); have y2 := (hb2.cell (p := ⟨b2, o2, none⟩) (block_lt y2)).trans y2; have y3 := (hb2.cell (p := ⟨b3, o3, none⟩) (block_lt y3)).trans y3; clear hb2)))
          | ((go_at_call 19; refine (add_any _ _ _ _ _ _ _ _ _ L HTG.out HCa.out HLa.out).mono ?_; rintro e wb ⟨rfl, ht2, hc2⟩; have HBE2 := Lib.hid (tb_below HTG.out HBG.out hc2 HB1.out.size); have HT2 := Lib.hid ht2; clear ht2 hc2))
          | ((go_at_call 10; refine (HOf.out _ _ HT.out.src).mono ?_; rintro e wc ⟨rfl, hb3⟩; have HM := Lib.hid (HMs.out wc); have HBF := Lib.hid (HBE.out.trans (hb3.mono HBE.out.size)); obtain ⟨p0, p1, p2, p3, p4, _⟩ := HM.out.cells5; clear hb3))
          | ((go_at_call 12; with_reducible refine (HGl.out _).mono ?_; rintro e wd ⟨rfl, hb4⟩; have HBH := Lib.hid (HBF.out.trans ((HM.out.next hb4).below.mono HBF.out.size)); clear hb4)))
        go_ret
        exact ⟨rfl, HBE.out⟩
      have xt4 : decide (a6 < r) = false := decide_eq_false t4
      obtain ⟨⟨m1, m2⟩, m3, m4⟩ := HMB.out
      have hgm : gainV M1 M2 s = M1 * s / M2 := HSl.out.gain (by omega) (by omega)
      have hgb := most_gain (c := M1) (e := M2) (k := s) m1 m2 m3 (by omega) (by omega)
      have hgg := fun W => rgain_any M1 M2 s W (by unfold Fits; omega) (by unfold Fits; omega) (by unfold Fits; omega)
      rw [hgm] at hgg
      have hnx := HI.out.next (s := s) (g := g) (err := r) (f' := if k = 0 then q + s else f) hlt (by omega) (by omega) (by omega) (by omega) (by omega) (by omega) m1 m2 m3 (by omega) (by omega)
      obtain ⟨G, hG⟩ : ∃ G, M1 * s / M2 = G := ⟨_, rfl⟩
      rw [hG] at hgb hnx
      simp only [hG] at hgg
      have HGG := Lib.hid hgg
      have ewg := IntWalk.i64_in (-G) (by omega)
      clear hgm hgg hG m1 m2 m3 m4
      by_cases t5 : g < -G
      · have xt5 : decide (g < -G) = true := decide_eq_true t5
        clear t5
        go_wp2_with (first
          | ((go_at_call 8; refine (alive_yes _).mono ?_; rintro e wa ⟨rfl, hb1⟩; have HB1 := Lib.hid hb1; clear hb1))
          | ((go_at_call 14; refine (HRM.out _).mono ?_; rintro e wx ⟨rfl, hwx⟩; subst wx))
          | ((go_at_call 15; with_reducible refine (HGG.out _).mono ?_; rintro e wg ⟨rfl, hb2⟩; first | (have HBI := Lib.hid (HBH.out.trans (hb2.mono HBH.out.size)); clear hb2) | (have HBG := Lib.hid (HBE.out.trans (hb2.mono HBE.out.size)); have HTG := Lib.hid (HT.out.below hb2); have y2 := (hb2.cell (p := ⟨b2, o2 + k, none⟩) (block_lt y2)).trans y2; have y3 := (hb2.cell (p := ⟨b3, o3 + k, none⟩) (block_lt y3)).trans y3; clear hb2) | (have HBG := Lib.hid (HBE.out.trans (hb2.mono HBE.out.size)); have HTG := Lib.hid (HT.out.below hb2); have y2 := (hb2.cell (p := ⟨b2, o2, none⟩) (block_lt y2)).trans y2; have y3 := (hb2.cell (p := ⟨b3, o3, none⟩) (block_lt y3)).trans y3; clear hb2)))
          | ((go_at_call 19; refine (add_any _ _ _ _ _ _ _ _ _ L HTG.out HCa.out HLa.out).mono ?_; rintro e wb ⟨rfl, ht2, hc2⟩; have HBE2 := Lib.hid (tb_below HTG.out HBG.out hc2 HB1.out.size); have HT2 := Lib.hid ht2; clear ht2 hc2))
          | ((go_at_call 10; refine (HOf.out _ _ HT.out.src).mono ?_; rintro e wc ⟨rfl, hb3⟩; have HM := Lib.hid (HMs.out wc); have HBF := Lib.hid (HBE.out.trans (hb3.mono HBE.out.size)); obtain ⟨p0, p1, p2, p3, p4, _⟩ := HM.out.cells5; clear hb3))
          | ((go_at_call 12; with_reducible refine (HGl.out _).mono ?_; rintro e wd ⟨rfl, hb4⟩; have HBH := Lib.hid (HBF.out.trans ((HM.out.next hb4).below.mono HBF.out.size)); clear hb4)))
        go_ret
        exact ⟨rfl, HBG.out⟩
      have xt5 : decide (g < -G) = false := decide_eq_false t5
      by_cases t6 : G < g
      · have xt6 : decide (G < g) = true := decide_eq_true t6
        clear t6
        go_wp2_with (first
          | ((go_at_call 8; refine (alive_yes _).mono ?_; rintro e wa ⟨rfl, hb1⟩; have HB1 := Lib.hid hb1; clear hb1))
          | ((go_at_call 14; refine (HRM.out _).mono ?_; rintro e wx ⟨rfl, hwx⟩; subst wx))
          | ((go_at_call 15; with_reducible refine (HGG.out _).mono ?_; rintro e wg ⟨rfl, hb2⟩; first | (have HBI := Lib.hid (HBH.out.trans (hb2.mono HBH.out.size)); clear hb2) | (have HBG := Lib.hid (HBE.out.trans (hb2.mono HBE.out.size)); have HTG := Lib.hid (HT.out.below hb2); have y2 := (hb2.cell (p := ⟨b2, o2 + k, none⟩) (block_lt y2)).trans y2; have y3 := (hb2.cell (p := ⟨b3, o3 + k, none⟩) (block_lt y3)).trans y3; clear hb2) | (have HBG := Lib.hid (HBE.out.trans (hb2.mono HBE.out.size)); have HTG := Lib.hid (HT.out.below hb2); have y2 := (hb2.cell (p := ⟨b2, o2, none⟩) (block_lt y2)).trans y2; have y3 := (hb2.cell (p := ⟨b3, o3, none⟩) (block_lt y3)).trans y3; clear hb2)))
          | ((go_at_call 19; refine (add_any _ _ _ _ _ _ _ _ _ L HTG.out HCa.out HLa.out).mono ?_; rintro e wb ⟨rfl, ht2, hc2⟩; have HBE2 := Lib.hid (tb_below HTG.out HBG.out hc2 HB1.out.size); have HT2 := Lib.hid ht2; clear ht2 hc2))
          | ((go_at_call 10; refine (HOf.out _ _ HT.out.src).mono ?_; rintro e wc ⟨rfl, hb3⟩; have HM := Lib.hid (HMs.out wc); have HBF := Lib.hid (HBE.out.trans (hb3.mono HBE.out.size)); obtain ⟨p0, p1, p2, p3, p4, _⟩ := HM.out.cells5; clear hb3))
          | ((go_at_call 12; with_reducible refine (HGl.out _).mono ?_; rintro e wd ⟨rfl, hb4⟩; have HBH := Lib.hid (HBF.out.trans ((HM.out.next hb4).below.mono HBF.out.size)); clear hb4)))
        go_ret
        exact ⟨rfl, HBG.out⟩
      have xt6 : decide (G < g) = false := decide_eq_false t6
      have hnx := hnx (by omega) (by omega) (by omega) (by omega) rfl
      have hq1 := HI.out.q1
      have hq2 := HI.out.q2
      have hO1 := HI.out.o1
      have hO2 := HI.out.o2
      have ew1 := IntWalk.i64_in (q + s) (by omega)
      have ew2 := IntWalk.i64_in (O + g) (by omega)
      have ew3 := IntWalk.i64_in (O + g + r) (by omega)
      by_cases h0 : k = 0
      · obtain ⟨hca, hla, hin⟩ := hnx.1 (by omega)
        rw [if_pos h0] at hin
        have HCa := Lib.hid hca
        have HLa := Lib.hid hla
        have HIn := Lib.hid hin
        subst h0
        have l4 : decide ((0 : Int) < (n1 : Int) - 1) = true := decide_eq_true (by omega)
        have l5 : (1 : Int) < (n1 : Int) := by omega
        rw [Nat.add_zero] at y1 y2 y3
        clear hnx hca hla hin hgb hq1 hq2 hO1 hO2 t1 t2 t3 t4 t5 t6
        go_wp2_with (first
          | ((go_at_call 8; refine (alive_yes _).mono ?_; rintro e wa ⟨rfl, hb1⟩; have HB1 := Lib.hid hb1; clear hb1))
          | ((go_at_call 14; refine (HRM.out _).mono ?_; rintro e wx ⟨rfl, hwx⟩; subst wx))
          | ((go_at_call 15; with_reducible refine (HGG.out _).mono ?_; rintro e wg ⟨rfl, hb2⟩; first | (have HBI := Lib.hid (HBH.out.trans (hb2.mono HBH.out.size)); clear hb2) | (have HBG := Lib.hid (HBE.out.trans (hb2.mono HBE.out.size)); have HTG := Lib.hid (HT.out.below hb2); have y2 := (hb2.cell (p := ⟨b2, o2 + k, none⟩) (block_lt y2)).trans y2; have y3 := (hb2.cell (p := ⟨b3, o3 + k, none⟩) (block_lt y3)).trans y3; clear hb2) | (have HBG := Lib.hid (HBE.out.trans (hb2.mono HBE.out.size)); have HTG := Lib.hid (HT.out.below hb2); have y2 := (hb2.cell (p := ⟨b2, o2, none⟩) (block_lt y2)).trans y2; have y3 := (hb2.cell (p := ⟨b3, o3, none⟩) (block_lt y3)).trans y3; clear hb2)))
          | ((go_at_call 19; refine (add_any _ _ _ _ _ _ _ _ _ L HTG.out HCa.out HLa.out).mono ?_; rintro e wb ⟨rfl, ht2, hc2⟩; have HBE2 := Lib.hid (tb_below HTG.out HBG.out hc2 HB1.out.size); have HT2 := Lib.hid ht2; clear ht2 hc2))
          | ((go_at_call 10; refine (HOf.out _ _ HT.out.src).mono ?_; rintro e wc ⟨rfl, hb3⟩; have HM := Lib.hid (HMs.out wc); have HBF := Lib.hid (HBE.out.trans (hb3.mono HBE.out.size)); obtain ⟨p0, p1, p2, p3, p4, _⟩ := HM.out.cells5; clear hb3))
          | ((go_at_call 12; with_reducible refine (HGl.out _).mono ?_; rintro e wd ⟨rfl, hb4⟩; have HBH := Lib.hid (HBF.out.trans ((HM.out.next hb4).below.mono HBF.out.size)); clear hb4)))
        go_roundw
        case rel => exact ⟨1, q + s, O + g, q + s, _, by omega, by go_num, rfl, rfl, rfl, HT2.out, HBE2.out, HIn.out⟩
        case measure => simp [intOf]; omega
      have l0 : ((k : Int) == 0) = false := by
        have : ¬ (k : Int) = 0 := by omega
        simpa using this
      rw [if_neg h0] at hnx
      by_cases hla : k < n1 - 1
      · obtain ⟨hca, hla', hin⟩ := hnx.1 hla
        have HCa := Lib.hid hca
        have HLa := Lib.hid hla'
        have HIn := Lib.hid hin
        have l4 : decide ((k : Int) < (n1 : Int) - 1) = true := decide_eq_true (by omega)
        clear hnx hca hla hla' hin hgb hq1 hq2 hO1 hO2 t1 t2 t3 t4 t5 t6
        go_wp2_with (first
          | ((go_at_call 8; refine (alive_yes _).mono ?_; rintro e wa ⟨rfl, hb1⟩; have HB1 := Lib.hid hb1; clear hb1))
          | ((go_at_call 14; refine (HRM.out _).mono ?_; rintro e wx ⟨rfl, hwx⟩; subst wx))
          | ((go_at_call 15; with_reducible refine (HGG.out _).mono ?_; rintro e wg ⟨rfl, hb2⟩; first | (have HBI := Lib.hid (HBH.out.trans (hb2.mono HBH.out.size)); clear hb2) | (have HBG := Lib.hid (HBE.out.trans (hb2.mono HBE.out.size)); have HTG := Lib.hid (HT.out.below hb2); have y2 := (hb2.cell (p := ⟨b2, o2 + k, none⟩) (block_lt y2)).trans y2; have y3 := (hb2.cell (p := ⟨b3, o3 + k, none⟩) (block_lt y3)).trans y3; clear hb2) | (have HBG := Lib.hid (HBE.out.trans (hb2.mono HBE.out.size)); have HTG := Lib.hid (HT.out.below hb2); have y2 := (hb2.cell (p := ⟨b2, o2, none⟩) (block_lt y2)).trans y2; have y3 := (hb2.cell (p := ⟨b3, o3, none⟩) (block_lt y3)).trans y3; clear hb2)))
          | ((go_at_call 19; refine (add_any _ _ _ _ _ _ _ _ _ L HTG.out HCa.out HLa.out).mono ?_; rintro e wb ⟨rfl, ht2, hc2⟩; have HBE2 := Lib.hid (tb_below HTG.out HBG.out hc2 HB1.out.size); have HT2 := Lib.hid ht2; clear ht2 hc2))
          | ((go_at_call 10; refine (HOf.out _ _ HT.out.src).mono ?_; rintro e wc ⟨rfl, hb3⟩; have HM := Lib.hid (HMs.out wc); have HBF := Lib.hid (HBE.out.trans (hb3.mono HBE.out.size)); obtain ⟨p0, p1, p2, p3, p4, _⟩ := HM.out.cells5; clear hb3))
          | ((go_at_call 12; with_reducible refine (HGl.out _).mono ?_; rintro e wd ⟨rfl, hb4⟩; have HBH := Lib.hid (HBF.out.trans ((HM.out.next hb4).below.mono HBF.out.size)); clear hb4)))
        go_roundw
        case rel => exact ⟨k + 1, q + s, O + g, f, _, by omega, by go_num, rfl, rfl, rfl, HT2.out, HBE2.out, HIn.out⟩
        case measure => simp [intOf]; omega
      · have HIn := Lib.hid (hnx.2 hla (by omega))
        have l4 : decide ((k : Int) < (n1 : Int) - 1) = false := decide_eq_false (by omega)
        clear hnx hla hgb hq1 hq2 hO1 hO2 t1 t2 t3 t4 t5 t6
        go_wp2_with (first
          | ((go_at_call 8; refine (alive_yes _).mono ?_; rintro e wa ⟨rfl, hb1⟩; have HB1 := Lib.hid hb1; clear hb1))
          | ((go_at_call 14; refine (HRM.out _).mono ?_; rintro e wx ⟨rfl, hwx⟩; subst wx))
          | ((go_at_call 15; with_reducible refine (HGG.out _).mono ?_; rintro e wg ⟨rfl, hb2⟩; first | (have HBI := Lib.hid (HBH.out.trans (hb2.mono HBH.out.size)); clear hb2) | (have HBG := Lib.hid (HBE.out.trans (hb2.mono HBE.out.size)); have HTG := Lib.hid (HT.out.below hb2); have y2 := (hb2.cell (p := ⟨b2, o2 + k, none⟩) (block_lt y2)).trans y2; have y3 := (hb2.cell (p := ⟨b3, o3 + k, none⟩) (block_lt y3)).trans y3; clear hb2) | (have HBG := Lib.hid (HBE.out.trans (hb2.mono HBE.out.size)); have HTG := Lib.hid (HT.out.below hb2); have y2 := (hb2.cell (p := ⟨b2, o2, none⟩) (block_lt y2)).trans y2; have y3 := (hb2.cell (p := ⟨b3, o3, none⟩) (block_lt y3)).trans y3; clear hb2)))
          | ((go_at_call 19; refine (add_any _ _ _ _ _ _ _ _ _ L HTG.out HCa.out HLa.out).mono ?_; rintro e wb ⟨rfl, ht2, hc2⟩; have HBE2 := Lib.hid (tb_below HTG.out HBG.out hc2 HB1.out.size); have HT2 := Lib.hid ht2; clear ht2 hc2))
          | ((go_at_call 10; refine (HOf.out _ _ HT.out.src).mono ?_; rintro e wc ⟨rfl, hb3⟩; have HM := Lib.hid (HMs.out wc); have HBF := Lib.hid (HBE.out.trans (hb3.mono HBE.out.size)); obtain ⟨p0, p1, p2, p3, p4, _⟩ := HM.out.cells5; clear hb3))
          | ((go_at_call 12; with_reducible refine (HGl.out _).mono ?_; rintro e wd ⟨rfl, hb4⟩; have HBH := Lib.hid (HBF.out.trans ((HM.out.next hb4).below.mono HBF.out.size)); clear hb4)))
        go_roundw
        case rel => exact ⟨k + 1, q + s, O + g, f, _, by omega, by go_num, rfl, rfl, rfl, HTG.out, HBG.out, HIn.out⟩
        case measure => simp [intOf]; omega
    · have hkn : k = n1 := by omega
      have hI := HI.out
      rw [hkn, ← HM1.out, ← HM2.out] at hI
      obtain ⟨h8, hne, hct, k0, k1, k2, k3, k4, k5, k6, k7⟩ := hI.near (by omega) (by omega) (by omega) (by omega) (by omega) (by omega) (by omega) (by omega)
      have hm := map_ok a0 h8 hne
      have hof := fun W p (hS : Src W p L) => globe_some a0 W p L hS hne h8.can
      unfold mapOf at hof
      rw [HM1.out, HM2.out] at k2 k3 k6 k7
      obtain ⟨l, hl⟩ : ∃ x, locV L = x := ⟨_, rfl⟩
      obtain ⟨o, ho⟩ : ∃ x, offV L = x := ⟨_, rfl⟩
      obtain ⟨a, ha⟩ : ∃ x, (ofV a0 L).1 = x := ⟨_, rfl⟩
      obtain ⟨b, hb⟩ : ∃ x, (ofV a0 L).2 = x := ⟨_, rfl⟩
      obtain ⟨mo, hmo⟩ : ∃ x, mostL L = x := ⟨_, rfl⟩
      simp only [hl, ho, ha, hb, hmo] at hof hm k6 k7
      obtain ⟨gq, kq, hgq⟩ := glob_ex l o a b q
      have hgl := fun W => global_any _ _ l o a b mo q gq kq W hm hgq
      unfold mapV at hof hgl
      have HOf := Lib.hid hof
      have HGl := Lib.hid hgl
      have HMs := Lib.hid (fun (W : World) => Box.start W 31 #[.int .i64 l, .int .i64 o, .int .i64 a, .int .i64 b, .int .i64 mo])
      have hq1 := HI.out.q1
      have hq2 := HI.out.q2
      have hct' := hct
      obtain ⟨ct1, ct2⟩ := hct'
      have ew1 := IntWalk.i64_in (q + O) (by omega)
      have l1 : ¬ (k : Int) < (n1 : Int) := by omega
      obtain ⟨⟨m1, m2⟩, m3, m4⟩ := HMB.out
      have hgm : gainV M1 M2 (q - f) = M1 * (q - f) / M2 := HSl.out.gain (by omega) (by omega)
      have hgg := fun W => rgain_any M1 M2 (q - f) W (by unfold Fits; omega) (by unfold Fits; omega) (by unfold Fits; omega)
      rw [hgm] at hgg
      obtain ⟨G, hG⟩ : ∃ G, M1 * (q - f) / M2 = G := ⟨_, rfl⟩
      rw [hG] at k2 k3 k6 k7
      simp only [hG] at hgg
      have HGG := Lib.hid hgg
      clear hgm hgg hG m1 m2 m3 m4 hof hgl hl ho ha hb hmo h8 hne hI hkn hlt
      cases kq
      · have hres : decide (q + O < 300000) = true := decide_eq_true (by
          rcases hgq.is with ⟨_, _, _, kf⟩ | ⟨kf, _, _⟩
          · cases kf
          · refine Classical.byContradiction fun hn => kf ⟨hct, ?_⟩
            exact ⟨by omega, by omega⟩)
        clear hgq hct hm k0 k1 k2 k3 k4 k5 k6 k7 hq1 hq2 ct1 ct2
        go_wp2_with (first
          | ((go_at_call 8; refine (alive_yes _).mono ?_; rintro e wa ⟨rfl, hb1⟩; have HB1 := Lib.hid hb1; clear hb1))
          | ((go_at_call 14; refine (HRM.out _).mono ?_; rintro e wx ⟨rfl, hwx⟩; subst wx))
          | ((go_at_call 15; with_reducible refine (HGG.out _).mono ?_; rintro e wg ⟨rfl, hb2⟩; first | (have HBI := Lib.hid (HBH.out.trans (hb2.mono HBH.out.size)); clear hb2) | (have HBG := Lib.hid (HBE.out.trans (hb2.mono HBE.out.size)); have HTG := Lib.hid (HT.out.below hb2); have y2 := (hb2.cell (p := ⟨b2, o2 + k, none⟩) (block_lt y2)).trans y2; have y3 := (hb2.cell (p := ⟨b3, o3 + k, none⟩) (block_lt y3)).trans y3; clear hb2) | (have HBG := Lib.hid (HBE.out.trans (hb2.mono HBE.out.size)); have HTG := Lib.hid (HT.out.below hb2); have y2 := (hb2.cell (p := ⟨b2, o2, none⟩) (block_lt y2)).trans y2; have y3 := (hb2.cell (p := ⟨b3, o3, none⟩) (block_lt y3)).trans y3; clear hb2)))
          | ((go_at_call 19; refine (add_any _ _ _ _ _ _ _ _ _ L HTG.out HCa.out HLa.out).mono ?_; rintro e wb ⟨rfl, ht2, hc2⟩; have HBE2 := Lib.hid (tb_below HTG.out HBG.out hc2 HB1.out.size); have HT2 := Lib.hid ht2; clear ht2 hc2))
          | ((go_at_call 10; refine (HOf.out _ _ HT.out.src).mono ?_; rintro e wc ⟨rfl, hb3⟩; have HM := Lib.hid (HMs.out wc); have HBF := Lib.hid (HBE.out.trans (hb3.mono HBE.out.size)); obtain ⟨p0, p1, p2, p3, p4, _⟩ := HM.out.cells5; clear hb3))
          | ((go_at_call 12; with_reducible refine (HGl.out _).mono ?_; rintro e wd ⟨rfl, hb4⟩; have HBH := Lib.hid (HBF.out.trans ((HM.out.next hb4).below.mono HBF.out.size)); clear hb4)))
        go_ret
        exact ⟨rfl, HBH.out⟩
      · have hgv : gq = rawV l o a b q ∧ 0 ≤ gq ∧ gq ≤ 1125899906842624 := by
          rcases hgq.is with ⟨_, kk, rfl, _⟩ | ⟨_, _, kk⟩
          · exact ⟨rfl, kk.1, kk.2⟩
          · cases kk
        obtain ⟨j1, j2⟩ := hgv.2
        rw [← hgv.1] at k6 k7
        have w1' := IntWalk.i64_in (q - f) (by omega)
        have w2' := IntWalk.i64_in (2 * G) (by omega)
        have w3' := IntWalk.i64_in (a6 + 2 * G) (by omega)
        have w4' := IntWalk.i64_in (a6 + 2 * G + 4) (by omega)
        have w5' := IntWalk.i64_in (gq - (q + O)) (by omega)
        have w6' := IntWalk.i64_in (-(a6 + 2 * G + 4)) (by omega)
        have r1 : decide (gq - (q + O) ≤ a6 + 2 * G + 4) = true := decide_eq_true k7
        have r2 : decide (-(a6 + 2 * G + 4) ≤ gq - (q + O)) = true := decide_eq_true k6
        clear hgq hct hm hgv k0 k1 k2 k3 k4 k5 k6 k7 hq1 hq2 ct1 ct2 j1 j2
        go_wp2_with (first
          | ((go_at_call 8; refine (alive_yes _).mono ?_; rintro e wa ⟨rfl, hb1⟩; have HB1 := Lib.hid hb1; clear hb1))
          | ((go_at_call 14; refine (HRM.out _).mono ?_; rintro e wx ⟨rfl, hwx⟩; subst wx))
          | ((go_at_call 15; with_reducible refine (HGG.out _).mono ?_; rintro e wg ⟨rfl, hb2⟩; first | (have HBI := Lib.hid (HBH.out.trans (hb2.mono HBH.out.size)); clear hb2) | (have HBG := Lib.hid (HBE.out.trans (hb2.mono HBE.out.size)); have HTG := Lib.hid (HT.out.below hb2); have y2 := (hb2.cell (p := ⟨b2, o2 + k, none⟩) (block_lt y2)).trans y2; have y3 := (hb2.cell (p := ⟨b3, o3 + k, none⟩) (block_lt y3)).trans y3; clear hb2) | (have HBG := Lib.hid (HBE.out.trans (hb2.mono HBE.out.size)); have HTG := Lib.hid (HT.out.below hb2); have y2 := (hb2.cell (p := ⟨b2, o2, none⟩) (block_lt y2)).trans y2; have y3 := (hb2.cell (p := ⟨b3, o3, none⟩) (block_lt y3)).trans y3; clear hb2)))
          | ((go_at_call 19; refine (add_any _ _ _ _ _ _ _ _ _ L HTG.out HCa.out HLa.out).mono ?_; rintro e wb ⟨rfl, ht2, hc2⟩; have HBE2 := Lib.hid (tb_below HTG.out HBG.out hc2 HB1.out.size); have HT2 := Lib.hid ht2; clear ht2 hc2))
          | ((go_at_call 10; refine (HOf.out _ _ HT.out.src).mono ?_; rintro e wc ⟨rfl, hb3⟩; have HM := Lib.hid (HMs.out wc); have HBF := Lib.hid (HBE.out.trans (hb3.mono HBE.out.size)); obtain ⟨p0, p1, p2, p3, p4, _⟩ := HM.out.cells5; clear hb3))
          | ((go_at_call 12; with_reducible refine (HGl.out _).mono ?_; rintro e wd ⟨rfl, hb4⟩; have HBH := Lib.hid (HBF.out.trans ((HM.out.next hb4).below.mono HBF.out.size)); clear hb4)))
        go_ret
        exact ⟨rfl, HBI.out⟩

set_option maxRecDepth 100000 in
theorem lifted (os : Os) (started : os.Started) (H : Type) (enc : TypeId × Value → H) :
    ReturnsInHanded {} Try.checked os 6 .any (Rows.globeNearSpec.pre6 enc Try.prog Try.f6 Rows.globeNearRow.domain false) (Rows.globeNearSpec.post enc Try.prog Try.f6 false true false false) := by
  refine returnsInHanded_of_change (C := Try.checked) own started (by kernel_rfl) Try.func6
    (ChangeSpec.witness6 (enc := enc) (C := Try.checked) false ⟨#[], #[.int .i64 0, .slice none 0 0, .slice none 0 0, .slice none 0 0, .int .i64 0, .int .i64 0, .int .i64 0], []⟩ 8 (by kernel_rfl) (by kernel_rfl) (by kernel_rfl) (by kernel_rfl)) ?_
  intro W base args ds gs before hval0 hW hcnd _
  have hval : ∀ (j : Nat) t v, Try.f6.params[j]? = some t → args[j]? = some v → Value.okWide Try.prog W .any base t v := hval0
  have hW' := hW
  obtain ⟨p, q, hA0, hV, rfl, hfz, hnd⟩ := hW
  have hA : DataW.TrodAll enc Try.prog W 0 (fun _ => true) true Try.f6.params.toList args.toList ds p := hA0
  have hAk := hA
  rw [Try.params6] at hA hval
  obtain ⟨v0, vs0, d0, ds0, p0, q0, hargs, rfl, hp, h0, r0⟩ := trodAll_cons hA
  obtain ⟨v1, vs1, d1, ds1, p1, q1, rfl, rfl, rfl, h1, r1⟩ := trodAll_cons r0
  obtain ⟨v2, vs2, d2, ds2, p2, q2, rfl, rfl, rfl, h2, r2⟩ := trodAll_cons r1
  obtain ⟨v3, vs3, d3, ds3, p3, q3, rfl, rfl, rfl, h3, r3⟩ := trodAll_cons r2
  obtain ⟨v4, vs4, d4, ds4, p4, q4, rfl, rfl, rfl, h4, r4⟩ := trodAll_cons r3
  obtain ⟨v5, vs5, d5, ds5, p5, q5, rfl, rfl, rfl, h5, r5⟩ := trodAll_cons r4
  obtain ⟨v6, vs6, d6, ds6, p6, q6, rfl, rfl, rfl, h6, r6⟩ := trodAll_cons r5
  obtain ⟨rfl, rfl, rfl⟩ := trodAll_nil r6
  obtain rfl : args = #[v0, v1, v2, v3, v4, v5, v6] := by cases args; simp_all
  obtain ⟨rfl, rfl⟩ := trodVars_none hV
  clear hA0 hval0 hargs
  simp only [List.append_nil] at hW'
  have hend : ∀ W' : World, Below W.heap.size W W' → Rows.globeNearSpec.post enc Try.prog Try.f6 false true false false W #[v0, v1, v2, v3, v4, v5, v6] (.bool true) W' := fun W' hb =>
    law_post (tb := 4) hW' hAk rfl (by kernel_rfl) (by kernel_rfl) (by kernel_rfl) Try.underlying4 rfl rfl rfl hb
  clear hW' hAk hp
  obtain ⟨a0, rfl, rfl, rfl, w0⟩ := open_int Try.underlying3 (hval 0 3 v0 rfl rfl) h0
  obtain ⟨A1, n1, c1, z1, rfl, w1⟩ := ints_arg Try.underlying48 Try.underlying3 (by kernel_rfl) (hval 1 48 v1 rfl rfl) h1
  obtain ⟨A2, n2, c2, z2, rfl, w2⟩ := ints_arg Try.underlying48 Try.underlying3 (by kernel_rfl) (hval 2 48 v2 rfl rfl) h2
  obtain ⟨A3, n3, c3, z3, rfl, w3⟩ := ints_arg Try.underlying48 Try.underlying3 (by kernel_rfl) (hval 3 48 v3 rfl rfl) h3
  obtain ⟨a4, rfl, rfl, rfl, w4⟩ := open_int Try.underlying3 (hval 4 3 v4 rfl rfl) h4
  obtain ⟨a5, rfl, rfl, rfl, w5⟩ := open_int Try.underlying3 (hval 5 3 v5 rfl rfl) h5
  obtain ⟨a6, rfl, rfl, rfl, w6⟩ := open_int Try.underlying3 (hval 6 3 v6 rfl rfl) h6
  refine (walk a0 A1 n1 c1 z1 A2 n2 c2 z2 A3 n3 c3 z3 a4 a5 a6 W w0 w1 w2 w3 w4 w5 w6).mono fun e W' ⟨he, hg⟩ => ?_
  subst he
  exact ⟨_, rfl, hend W' hg⟩

theorem over : Rows.globeNearRow.holds Try.pinned (OpenSpec.ofChange Rows.globeNearSpec) :=
  OpenClaim.holds_of_wide 6 Try.f6 rfl rfl rfl rfl rfl rfl rfl ⟨rfl, rfl, rfl, rfl, rfl⟩ rfl rfl rfl rfl rfl (by kernel_rfl) Try.func6 (by kernel_rfl)
    (of_decide_eq_true (by kernel_rfl)) (by unfold Func.isWrapper; first | (rw [if_pos (by decide +kernel)]; kernel_rfl) | (rw [if_neg (by decide +kernel)]; exact ⟨rfl, rfl⟩))
    (fun os started H enc _ => lifted os started H enc)

/-- THE STATEMENT -/
theorem proved : Rows.GlobeNearSaid :=
  over
#print axioms proved
end Go.Proofs.Ytkibpialacnlhaa.globeNear
