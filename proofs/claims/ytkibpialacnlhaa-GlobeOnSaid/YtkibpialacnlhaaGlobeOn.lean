/-
  Time goes on: as the own clock goes on the other one never goes back, and it goes no faster than the greatest slope lets: for every drift, every slice of entries (of more than 100 the law asks nothing), every own time and every number of ticks from there the law answers true; without conditions.
  The walk is the prover's own; the frame of the row's step follows the kit's template.
-/
import Derived.Test.YtkibpialacnlhaaRows
import Derived.Test.YtkibpialacnlhaaLawKit
import Derived.Test.YtkibpialacnlhaaFlat
import Derived.Test.YtkibpialacnlhaaGbF
import Derived.LoopTactic
import Derived.Deep.CutBlock
import Derived.BigQuiet
namespace Go.Proofs.Ytkibpialacnlhaa.globeOn
open Go.ChangeShapes Go.WideShapes Go.ChangeAt Go.RowKit Go.ChangeMaps Go.WideElems
set_option linter.unusedVariables false

theorem cells1 {W : World} {vs : List Value} (h : Fit W [.int .i64, .int .i64, .int .i64] vs) : ∃ (s0 : Int) (s1 : Int) (s2 : Int), vs = [.int .i64 s0, .int .i64 s1, .int .i64 s2] ∧ (Lit.int .i64 s0).wf = true ∧ (Lit.int .i64 s1).wf = true ∧ (Lit.int .i64 s2).wf = true := by
  match vs, h.length, h with
  | [y0, y1, y2], _, h =>
    obtain ⟨⟨x0, rfl, h0⟩, ⟨x1, rfl, h1⟩, ⟨x2, rfl, h2⟩, _⟩ := h
    exact ⟨x0, x1, x2, rfl, h0, h1, h2⟩
theorem own : ownKnob Try.prog.godebug = none := by kernel_rfl
set_option linter.unusedSimpArgs false in
set_option maxHeartbeats 4000000 in
set_option maxRecDepth 100000 in
theorem walk (a0 : Int) (A1 : Option Addr) (n1 c1 : Nat) (f1 : Nat → List Value) (a2 : Int) (a3 : Int) (w : World) (w0 : (Lit.int .i64 a0).wf = true) (w1 : FlatRow w [.int .i64, .int .i64, .int .i64] A1 n1 c1 f1) (w2 : (Lit.int .i64 a2).wf = true) (w3 : (Lit.int .i64 a3).wf = true) :
    Calls Try.prog 4 #[.int .i64 a0, .slice A1 n1 c1, .int .i64 a2, .int .i64 a3] w fun e w' => e = .returned (.bool true) ∧ Below w.heap.size w w' := by
  by_cases h100 : 100 < n1
  · have d0 : decide ((100 : Int) < (n1 : Int)) = true := decide_eq_true (by omega)
    go_enter Try.func4, Try.ntmps4
    go_wp2_with (first
      | ((go_at_call 8; refine (alive_yes _).mono ?_; rintro e w1 ⟨rfl, hb1⟩; have HB1 := Lib.hid hb1; clear hb1))
      | ((go_at_call 9; refine (HF.out _ HB1.out).mono ?_; rintro e w2 ⟨z, A, c, rfl, ht⟩; have hof := HOf.out w2 _ ht.tab.src; have HB2 := Lib.hid (HB1.out.trans (ht.below.mono HB1.out.size)); clear ht))
      | ((go_at_call 10; refine hof.mono ?_; rintro e w3 ⟨rfl, hb3⟩; have HM3 := Lib.hid (HMs.out w3); have HB3 := Lib.hid (HB2.out.trans (hb3.mono HB2.out.size)); have HB4 := Lib.hid (HB3.out.trans (HM3.out.below.mono HB3.out.size)); clear hb3 hof))
      | ((go_at_call 12; with_reducible refine (HGa.out _).mono ?_; rintro e w5 ⟨rfl, hb5⟩; have HM5 := Lib.hid (HM3.out.next hb5); have HB5 := Lib.hid (HB3.out.trans (HM5.out.below.mono HB3.out.size)); obtain ⟨m0, m1, m2, m3, m4, _⟩ := HM5.out.cells5; clear hb5))
      | ((go_at_call 12; with_reducible refine (HGb.out _).mono ?_; rintro e w6 ⟨rfl, hb6⟩; have HM6 := Lib.hid (HM5.out.next hb6); have HB6 := Lib.hid (HB3.out.trans (HM6.out.below.mono HB3.out.size)); clear hb6))
      | ((go_at_call 14; refine (HRM.out _).mono ?_; rintro e wx ⟨rfl, hwx⟩; subst wx))
      | ((go_at_call 15; refine (HGG.out _).mono ?_; rintro e w8 ⟨rfl, hb8⟩; have HB8 := Lib.hid (HB6.out.trans (hb8.mono HB6.out.size)); clear hb8)))
    go_ret
    exact ⟨rfl, HB1.out⟩
  have d0 : decide ((100 : Int) < (n1 : Int)) = false := decide_eq_false (by omega)
  by_cases g1 : a2 < 0
  · have d1 : decide (a2 < 0) = true := decide_eq_true g1
    go_enter Try.func4, Try.ntmps4
    go_wp2_with (first
      | ((go_at_call 8; refine (alive_yes _).mono ?_; rintro e w1 ⟨rfl, hb1⟩; have HB1 := Lib.hid hb1; clear hb1))
      | ((go_at_call 9; refine (HF.out _ HB1.out).mono ?_; rintro e w2 ⟨z, A, c, rfl, ht⟩; have hof := HOf.out w2 _ ht.tab.src; have HB2 := Lib.hid (HB1.out.trans (ht.below.mono HB1.out.size)); clear ht))
      | ((go_at_call 10; refine hof.mono ?_; rintro e w3 ⟨rfl, hb3⟩; have HM3 := Lib.hid (HMs.out w3); have HB3 := Lib.hid (HB2.out.trans (hb3.mono HB2.out.size)); have HB4 := Lib.hid (HB3.out.trans (HM3.out.below.mono HB3.out.size)); clear hb3 hof))
      | ((go_at_call 12; with_reducible refine (HGa.out _).mono ?_; rintro e w5 ⟨rfl, hb5⟩; have HM5 := Lib.hid (HM3.out.next hb5); have HB5 := Lib.hid (HB3.out.trans (HM5.out.below.mono HB3.out.size)); obtain ⟨m0, m1, m2, m3, m4, _⟩ := HM5.out.cells5; clear hb5))
      | ((go_at_call 12; with_reducible refine (HGb.out _).mono ?_; rintro e w6 ⟨rfl, hb6⟩; have HM6 := Lib.hid (HM5.out.next hb6); have HB6 := Lib.hid (HB3.out.trans (HM6.out.below.mono HB3.out.size)); clear hb6))
      | ((go_at_call 14; refine (HRM.out _).mono ?_; rintro e wx ⟨rfl, hwx⟩; subst wx))
      | ((go_at_call 15; refine (HGG.out _).mono ?_; rintro e w8 ⟨rfl, hb8⟩; have HB8 := Lib.hid (HB6.out.trans (hb8.mono HB6.out.size)); clear hb8)))
    go_ret
    exact ⟨rfl, HB1.out⟩
  have d1 : decide (a2 < 0) = false := decide_eq_false g1
  by_cases g2 : a3 < 0
  · have d2 : decide (a3 < 0) = true := decide_eq_true g2
    go_enter Try.func4, Try.ntmps4
    go_wp2_with (first
      | ((go_at_call 8; refine (alive_yes _).mono ?_; rintro e w1 ⟨rfl, hb1⟩; have HB1 := Lib.hid hb1; clear hb1))
      | ((go_at_call 9; refine (HF.out _ HB1.out).mono ?_; rintro e w2 ⟨z, A, c, rfl, ht⟩; have hof := HOf.out w2 _ ht.tab.src; have HB2 := Lib.hid (HB1.out.trans (ht.below.mono HB1.out.size)); clear ht))
      | ((go_at_call 10; refine hof.mono ?_; rintro e w3 ⟨rfl, hb3⟩; have HM3 := Lib.hid (HMs.out w3); have HB3 := Lib.hid (HB2.out.trans (hb3.mono HB2.out.size)); have HB4 := Lib.hid (HB3.out.trans (HM3.out.below.mono HB3.out.size)); clear hb3 hof))
      | ((go_at_call 12; with_reducible refine (HGa.out _).mono ?_; rintro e w5 ⟨rfl, hb5⟩; have HM5 := Lib.hid (HM3.out.next hb5); have HB5 := Lib.hid (HB3.out.trans (HM5.out.below.mono HB3.out.size)); obtain ⟨m0, m1, m2, m3, m4, _⟩ := HM5.out.cells5; clear hb5))
      | ((go_at_call 12; with_reducible refine (HGb.out _).mono ?_; rintro e w6 ⟨rfl, hb6⟩; have HM6 := Lib.hid (HM5.out.next hb6); have HB6 := Lib.hid (HB3.out.trans (HM6.out.below.mono HB3.out.size)); clear hb6))
      | ((go_at_call 14; refine (HRM.out _).mono ?_; rintro e wx ⟨rfl, hwx⟩; subst wx))
      | ((go_at_call 15; refine (HGG.out _).mono ?_; rintro e w8 ⟨rfl, hb8⟩; have HB8 := Lib.hid (HB6.out.trans (hb8.mono HB6.out.size)); clear hb8)))
    go_ret
    exact ⟨rfl, HB1.out⟩
  have d2 : decide (a3 < 0) = false := decide_eq_false g2
  by_cases g3 : 1073741824 < a3
  · have d3 : decide (1073741824 < a3) = true := decide_eq_true g3
    go_enter Try.func4, Try.ntmps4
    go_wp2_with (first
      | ((go_at_call 8; refine (alive_yes _).mono ?_; rintro e w1 ⟨rfl, hb1⟩; have HB1 := Lib.hid hb1; clear hb1))
      | ((go_at_call 9; refine (HF.out _ HB1.out).mono ?_; rintro e w2 ⟨z, A, c, rfl, ht⟩; have hof := HOf.out w2 _ ht.tab.src; have HB2 := Lib.hid (HB1.out.trans (ht.below.mono HB1.out.size)); clear ht))
      | ((go_at_call 10; refine hof.mono ?_; rintro e w3 ⟨rfl, hb3⟩; have HM3 := Lib.hid (HMs.out w3); have HB3 := Lib.hid (HB2.out.trans (hb3.mono HB2.out.size)); have HB4 := Lib.hid (HB3.out.trans (HM3.out.below.mono HB3.out.size)); clear hb3 hof))
      | ((go_at_call 12; with_reducible refine (HGa.out _).mono ?_; rintro e w5 ⟨rfl, hb5⟩; have HM5 := Lib.hid (HM3.out.next hb5); have HB5 := Lib.hid (HB3.out.trans (HM5.out.below.mono HB3.out.size)); obtain ⟨m0, m1, m2, m3, m4, _⟩ := HM5.out.cells5; clear hb5))
      | ((go_at_call 12; with_reducible refine (HGb.out _).mono ?_; rintro e w6 ⟨rfl, hb6⟩; have HM6 := Lib.hid (HM5.out.next hb6); have HB6 := Lib.hid (HB3.out.trans (HM6.out.below.mono HB3.out.size)); clear hb6))
      | ((go_at_call 14; refine (HRM.out _).mono ?_; rintro e wx ⟨rfl, hwx⟩; subst wx))
      | ((go_at_call 15; refine (HGG.out _).mono ?_; rintro e w8 ⟨rfl, hb8⟩; have HB8 := Lib.hid (HB6.out.trans (hb8.mono HB6.out.size)); clear hb8)))
    go_ret
    exact ⟨rfl, HB1.out⟩
  have d3 : decide (1073741824 < a3) = false := decide_eq_false g3
  have ew := IntWalk.i64_in (1125899906842624 - a3) (by omega)
  by_cases g4 : 1125899906842624 - a3 < a2
  · have d4 : decide (1125899906842624 - a3 < a2) = true := decide_eq_true g4
    go_enter Try.func4, Try.ntmps4
    go_wp2_with (first
      | ((go_at_call 8; refine (alive_yes _).mono ?_; rintro e w1 ⟨rfl, hb1⟩; have HB1 := Lib.hid hb1; clear hb1))
      | ((go_at_call 9; refine (HF.out _ HB1.out).mono ?_; rintro e w2 ⟨z, A, c, rfl, ht⟩; have hof := HOf.out w2 _ ht.tab.src; have HB2 := Lib.hid (HB1.out.trans (ht.below.mono HB1.out.size)); clear ht))
      | ((go_at_call 10; refine hof.mono ?_; rintro e w3 ⟨rfl, hb3⟩; have HM3 := Lib.hid (HMs.out w3); have HB3 := Lib.hid (HB2.out.trans (hb3.mono HB2.out.size)); have HB4 := Lib.hid (HB3.out.trans (HM3.out.below.mono HB3.out.size)); clear hb3 hof))
      | ((go_at_call 12; with_reducible refine (HGa.out _).mono ?_; rintro e w5 ⟨rfl, hb5⟩; have HM5 := Lib.hid (HM3.out.next hb5); have HB5 := Lib.hid (HB3.out.trans (HM5.out.below.mono HB3.out.size)); obtain ⟨m0, m1, m2, m3, m4, _⟩ := HM5.out.cells5; clear hb5))
      | ((go_at_call 12; with_reducible refine (HGb.out _).mono ?_; rintro e w6 ⟨rfl, hb6⟩; have HM6 := Lib.hid (HM5.out.next hb6); have HB6 := Lib.hid (HB3.out.trans (HM6.out.below.mono HB3.out.size)); clear hb6))
      | ((go_at_call 14; refine (HRM.out _).mono ?_; rintro e wx ⟨rfl, hwx⟩; subst wx))
      | ((go_at_call 15; refine (HGG.out _).mono ?_; rintro e w8 ⟨rfl, hb8⟩; have HB8 := Lib.hid (HB6.out.trans (hb8.mono HB6.out.size)); clear hb8)))
    go_ret
    exact ⟨rfl, HB1.out⟩
  have d4 : decide (1125899906842624 - a3 < a2) = false := decide_eq_false g4
  have ew2 := IntWalk.i64_in (a2 + a3) (by omega)
  obtain ⟨L0, hL, _⟩ := trow_of_flat w1
  have hfl := fun W (hW : Below w.heap.size w W) => filled_any W 0 A1 n1 c1 L0 (hL.below hW) (by omega)
  have h8 := fill8 L0
  obtain ⟨L, hLL⟩ : ∃ L, fillL L0 = L := ⟨_, rfl⟩
  simp only [hLL] at hfl h8
  have HF := Lib.hid hfl
  clear hfl hLL hL w1
  by_cases hne : L = []
  · subst hne
    have HOf := Lib.hid (fun W q (hS : Src W q []) => globe_none a0 W q hS)
    have HMs := Lib.hid (fun (W : World) => Box.start W 31 #[.int .i64 0, .int .i64 0, .int .i64 0, .int .i64 0, .int .i64 0])
    unfold mapV at HOf
    go_enter Try.func4, Try.ntmps4
    go_wp2_with (first
      | ((go_at_call 8; refine (alive_yes _).mono ?_; rintro e w1 ⟨rfl, hb1⟩; have HB1 := Lib.hid hb1; clear hb1))
      | ((go_at_call 9; refine (HF.out _ HB1.out).mono ?_; rintro e w2 ⟨z, A, c, rfl, ht⟩; have hof := HOf.out w2 _ ht.tab.src; have HB2 := Lib.hid (HB1.out.trans (ht.below.mono HB1.out.size)); clear ht))
      | ((go_at_call 10; refine hof.mono ?_; rintro e w3 ⟨rfl, hb3⟩; have HM3 := Lib.hid (HMs.out w3); have HB3 := Lib.hid (HB2.out.trans (hb3.mono HB2.out.size)); have HB4 := Lib.hid (HB3.out.trans (HM3.out.below.mono HB3.out.size)); clear hb3 hof))
      | ((go_at_call 12; with_reducible refine (HGa.out _).mono ?_; rintro e w5 ⟨rfl, hb5⟩; have HM5 := Lib.hid (HM3.out.next hb5); have HB5 := Lib.hid (HB3.out.trans (HM5.out.below.mono HB3.out.size)); obtain ⟨m0, m1, m2, m3, m4, _⟩ := HM5.out.cells5; clear hb5))
      | ((go_at_call 12; with_reducible refine (HGb.out _).mono ?_; rintro e w6 ⟨rfl, hb6⟩; have HM6 := Lib.hid (HM5.out.next hb6); have HB6 := Lib.hid (HB3.out.trans (HM6.out.below.mono HB3.out.size)); clear hb6))
      | ((go_at_call 14; refine (HRM.out _).mono ?_; rintro e wx ⟨rfl, hwx⟩; subst wx))
      | ((go_at_call 15; refine (HGG.out _).mono ?_; rintro e w8 ⟨rfl, hb8⟩; have HB8 := Lib.hid (HB6.out.trans (hb8.mono HB6.out.size)); clear hb8)))
    go_ret
    exact ⟨rfl, HB4.out⟩
  have hm := map_ok a0 h8 hne
  have hof := fun W q (hS : Src W q L) => globe_some a0 W q L hS hne h8.can
  unfold mapOf at hof
  obtain ⟨l, hl⟩ : ∃ x, locV L = x := ⟨_, rfl⟩
  obtain ⟨o, ho⟩ : ∃ x, offV L = x := ⟨_, rfl⟩
  obtain ⟨a, ha⟩ : ∃ x, (ofV a0 L).1 = x := ⟨_, rfl⟩
  obtain ⟨b, hb⟩ : ∃ x, (ofV a0 L).2 = x := ⟨_, rfl⟩
  obtain ⟨mo, hmo⟩ : ∃ x, mostL L = x := ⟨_, rfl⟩
  simp only [hl, ho, ha, hb, hmo] at hof hm
  obtain ⟨ga, ka, hga⟩ := glob_ex l o a b a2
  obtain ⟨gb, kb, hgb⟩ := glob_ex l o a b (a2 + a3)
  have hgla := fun W => global_any _ _ l o a b mo a2 ga ka W hm hga
  have hglb := fun W => global_any _ _ l o a b mo (a2 + a3) gb kb W hm hgb
  unfold mapV at hof hgla hglb
  have HOf := Lib.hid hof
  have HGa := Lib.hid hgla
  have HGb := Lib.hid hglb
  have HMs := Lib.hid (fun (W : World) => Box.start W 31 #[.int .i64 l, .int .i64 o, .int .i64 a, .int .i64 b, .int .i64 mo])
  clear hof hgla hglb hl ho ha hb hmo
  cases ka
  · clear hga hgb hm
    go_enter Try.func4, Try.ntmps4
    go_wp2_with (first
      | ((go_at_call 8; refine (alive_yes _).mono ?_; rintro e w1 ⟨rfl, hb1⟩; have HB1 := Lib.hid hb1; clear hb1))
      | ((go_at_call 9; refine (HF.out _ HB1.out).mono ?_; rintro e w2 ⟨z, A, c, rfl, ht⟩; have hof := HOf.out w2 _ ht.tab.src; have HB2 := Lib.hid (HB1.out.trans (ht.below.mono HB1.out.size)); clear ht))
      | ((go_at_call 10; refine hof.mono ?_; rintro e w3 ⟨rfl, hb3⟩; have HM3 := Lib.hid (HMs.out w3); have HB3 := Lib.hid (HB2.out.trans (hb3.mono HB2.out.size)); have HB4 := Lib.hid (HB3.out.trans (HM3.out.below.mono HB3.out.size)); clear hb3 hof))
      | ((go_at_call 12; with_reducible refine (HGa.out _).mono ?_; rintro e w5 ⟨rfl, hb5⟩; have HM5 := Lib.hid (HM3.out.next hb5); have HB5 := Lib.hid (HB3.out.trans (HM5.out.below.mono HB3.out.size)); obtain ⟨m0, m1, m2, m3, m4, _⟩ := HM5.out.cells5; clear hb5))
      | ((go_at_call 12; with_reducible refine (HGb.out _).mono ?_; rintro e w6 ⟨rfl, hb6⟩; have HM6 := Lib.hid (HM5.out.next hb6); have HB6 := Lib.hid (HB3.out.trans (HM6.out.below.mono HB3.out.size)); clear hb6))
      | ((go_at_call 14; refine (HRM.out _).mono ?_; rintro e wx ⟨rfl, hwx⟩; subst wx))
      | ((go_at_call 15; refine (HGG.out _).mono ?_; rintro e w8 ⟨rfl, hb8⟩; have HB8 := Lib.hid (HB6.out.trans (hb8.mono HB6.out.size)); clear hb8)))
    go_ret
    exact ⟨rfl, HB6.out⟩
  cases kb
  · clear hga hgb hm
    go_enter Try.func4, Try.ntmps4
    go_wp2_with (first
      | ((go_at_call 8; refine (alive_yes _).mono ?_; rintro e w1 ⟨rfl, hb1⟩; have HB1 := Lib.hid hb1; clear hb1))
      | ((go_at_call 9; refine (HF.out _ HB1.out).mono ?_; rintro e w2 ⟨z, A, c, rfl, ht⟩; have hof := HOf.out w2 _ ht.tab.src; have HB2 := Lib.hid (HB1.out.trans (ht.below.mono HB1.out.size)); clear ht))
      | ((go_at_call 10; refine hof.mono ?_; rintro e w3 ⟨rfl, hb3⟩; have HM3 := Lib.hid (HMs.out w3); have HB3 := Lib.hid (HB2.out.trans (hb3.mono HB2.out.size)); have HB4 := Lib.hid (HB3.out.trans (HM3.out.below.mono HB3.out.size)); clear hb3 hof))
      | ((go_at_call 12; with_reducible refine (HGa.out _).mono ?_; rintro e w5 ⟨rfl, hb5⟩; have HM5 := Lib.hid (HM3.out.next hb5); have HB5 := Lib.hid (HB3.out.trans (HM5.out.below.mono HB3.out.size)); obtain ⟨m0, m1, m2, m3, m4, _⟩ := HM5.out.cells5; clear hb5))
      | ((go_at_call 12; with_reducible refine (HGb.out _).mono ?_; rintro e w6 ⟨rfl, hb6⟩; have HM6 := Lib.hid (HM5.out.next hb6); have HB6 := Lib.hid (HB3.out.trans (HM6.out.below.mono HB3.out.size)); clear hb6))
      | ((go_at_call 14; refine (HRM.out _).mono ?_; rintro e wx ⟨rfl, hwx⟩; subst wx))
      | ((go_at_call 15; refine (HGG.out _).mono ?_; rintro e w8 ⟨rfl, hb8⟩; have HB8 := Lib.hid (HB6.out.trans (hb8.mono HB6.out.size)); clear hb8)))
    go_ret
    exact ⟨rfl, HB6.out⟩
  obtain ⟨v1, v2⟩ := dV_bd a0
  have hrm := fun W => rmost_any a0 W
  have hon := hm.on (t := a2) (n := a3) (by omega) (by omega) (by omega)
  have hgm : gainV (2 * dV a0) (1000 - dV a0) a3 = 2 * dV a0 * a3 / (1000 - dV a0) := by
    refine SlOk.gain (c := 20) (e := 990) ⟨by omega, by omega, by omega, by omega, by omega, by omega, by omega, by omega⟩ (by omega) (by omega)
  have hgn : 0 ≤ 2 * dV a0 * a3 / (1000 - dV a0) ∧ 2 * dV a0 * a3 / (1000 - dV a0) ≤ 1073741824 := by
    have h := SlOk.within (c := 20) (e := 990) (a := 2 * dV a0) (b := 1000 - dV a0) ⟨by omega, by omega, by omega, by omega, by omega, by omega, by omega, by omega⟩ a3
    rw [if_pos (by omega)] at h
    exact ⟨Int.ediv_nonneg (Int.mul_nonneg (by omega) (by omega)) (by omega), by omega⟩
  have hga2 : ga = rawV l o a b a2 ∧ 0 ≤ ga ∧ ga ≤ 1125899906842624 := by
    rcases hga.is with ⟨_, k, rfl, _⟩ | ⟨_, _, k⟩
    · exact ⟨rfl, k.1, k.2⟩
    · cases k
  have hgb2 : gb = rawV l o a b (a2 + a3) ∧ 0 ≤ gb ∧ gb ≤ 1125899906842624 := by
    rcases hgb.is with ⟨_, k, rfl, _⟩ | ⟨_, _, k⟩
    · exact ⟨rfl, k.1, k.2⟩
    · cases k
  rw [← hga2.1, ← hgb2.1] at hon
  have hgg := fun W => rgain_any (2 * dV a0) (1000 - dV a0) a3 W (by unfold Fits; omega) (by unfold Fits; omega) (by unfold Fits; omega)
  rw [hgm] at hgg
  obtain ⟨G, hG⟩ : ∃ G, 2 * dV a0 * a3 / (1000 - dV a0) = G := ⟨_, rfl⟩
  obtain ⟨M1, hM1⟩ : ∃ M, 2 * dV a0 = M := ⟨_, rfl⟩
  obtain ⟨M2, hM2⟩ : ∃ M, 1000 - dV a0 = M := ⟨_, rfl⟩
  simp only [hG] at hgg hon hgn
  simp only [hM1, hM2] at hrm hgg
  have HRM := Lib.hid hrm
  have HGG := Lib.hid hgg
  obtain ⟨k1, k2⟩ := hon
  obtain ⟨k3, k4⟩ := hgn
  obtain ⟨k5, k6⟩ := hga2.2
  obtain ⟨k7, k8⟩ := hgb2.2
  have e1 : decide (ga ≤ gb) = true := decide_eq_true k1
  have e2 : decide (gb - ga ≤ a3 + G + 2) = true := decide_eq_true (by omega)
  have e3 := IntWalk.i64_in (gb - ga) (by omega)
  have e4 := IntWalk.i64_in (a3 + G) (by omega)
  have e5 := IntWalk.i64_in (a3 + G + 2) (by omega)
  clear hga hgb hm hrm hgg hgm v1 v2 hG hM1 hM2 hga2 hgb2
  go_enter Try.func4, Try.ntmps4
  go_wp2_with (first
    | ((go_at_call 8; refine (alive_yes _).mono ?_; rintro e w1 ⟨rfl, hb1⟩; have HB1 := Lib.hid hb1; clear hb1))
    | ((go_at_call 9; refine (HF.out _ HB1.out).mono ?_; rintro e w2 ⟨z, A, c, rfl, ht⟩; have hof := HOf.out w2 _ ht.tab.src; have HB2 := Lib.hid (HB1.out.trans (ht.below.mono HB1.out.size)); clear ht))
    | ((go_at_call 10; refine hof.mono ?_; rintro e w3 ⟨rfl, hb3⟩; have HM3 := Lib.hid (HMs.out w3); have HB3 := Lib.hid (HB2.out.trans (hb3.mono HB2.out.size)); have HB4 := Lib.hid (HB3.out.trans (HM3.out.below.mono HB3.out.size)); clear hb3 hof))
    | ((go_at_call 12; with_reducible refine (HGa.out _).mono ?_; rintro e w5 ⟨rfl, hb5⟩; have HM5 := Lib.hid (HM3.out.next hb5); have HB5 := Lib.hid (HB3.out.trans (HM5.out.below.mono HB3.out.size)); obtain ⟨m0, m1, m2, m3, m4, _⟩ := HM5.out.cells5; clear hb5))
    | ((go_at_call 12; with_reducible refine (HGb.out _).mono ?_; rintro e w6 ⟨rfl, hb6⟩; have HM6 := Lib.hid (HM5.out.next hb6); have HB6 := Lib.hid (HB3.out.trans (HM6.out.below.mono HB3.out.size)); clear hb6))
    | ((go_at_call 14; refine (HRM.out _).mono ?_; rintro e wx ⟨rfl, hwx⟩; subst wx))
    | ((go_at_call 15; refine (HGG.out _).mono ?_; rintro e w8 ⟨rfl, hb8⟩; have HB8 := Lib.hid (HB6.out.trans (hb8.mono HB6.out.size)); clear hb8)))
  go_ret
  exact ⟨rfl, HB8.out⟩

set_option maxRecDepth 100000 in
theorem lifted (os : Os) (started : os.Started) (H : Type) (enc : TypeId × Value → H) :
    ReturnsInHanded {} Try.checked os 4 .any (Rows.globeOnSpec.pre6 enc Try.prog Try.f4 Rows.globeOnRow.domain false) (Rows.globeOnSpec.post enc Try.prog Try.f4 false true false false) := by
  refine returnsInHanded_of_change (C := Try.checked) own started (by kernel_rfl) Try.func4
    (ChangeSpec.witness6 (enc := enc) (C := Try.checked) false ⟨#[], #[.int .i64 0, .slice none 0 0, .int .i64 0, .int .i64 0], []⟩ 8 (by kernel_rfl) (by kernel_rfl) (by kernel_rfl) (by kernel_rfl)) ?_
  intro W base args ds gs before hval0 hW hcnd _
  have hval : ∀ (j : Nat) t v, Try.f4.params[j]? = some t → args[j]? = some v → Value.okWide Try.prog W .any base t v := hval0
  have hW' := hW
  obtain ⟨p, q, hA0, hV, rfl, hfz, hnd⟩ := hW
  have hA : DataW.TrodAll enc Try.prog W 0 (fun _ => true) true Try.f4.params.toList args.toList ds p := hA0
  have hAk := hA
  rw [Try.params4] at hA hval
  obtain ⟨v0, vs0, d0, ds0, p0, q0, hargs, rfl, hp, h0, r0⟩ := trodAll_cons hA
  obtain ⟨v1, vs1, d1, ds1, p1, q1, rfl, rfl, rfl, h1, r1⟩ := trodAll_cons r0
  obtain ⟨v2, vs2, d2, ds2, p2, q2, rfl, rfl, rfl, h2, r2⟩ := trodAll_cons r1
  obtain ⟨v3, vs3, d3, ds3, p3, q3, rfl, rfl, rfl, h3, r3⟩ := trodAll_cons r2
  obtain ⟨rfl, rfl, rfl⟩ := trodAll_nil r3
  obtain rfl : args = #[v0, v1, v2, v3] := by cases args; simp_all
  obtain ⟨rfl, rfl⟩ := trodVars_none hV
  clear hA0 hval0 hargs
  simp only [List.append_nil] at hW'
  have hend : ∀ W' : World, Below W.heap.size W W' → Rows.globeOnSpec.post enc Try.prog Try.f4 false true false false W #[v0, v1, v2, v3] (.bool true) W' := fun W' hb =>
    law_post (tb := 4) hW' hAk rfl (by kernel_rfl) (by kernel_rfl) (by kernel_rfl) Try.underlying4 rfl rfl rfl hb
  clear hW' hAk hp
  obtain ⟨a0, rfl, rfl, rfl, w0⟩ := open_int Try.underlying3 (hval 0 3 v0 rfl rfl) h0
  obtain ⟨A1, n1, c1, f1, rfl, w1⟩ := flats_arg (ks := [.int .i64, .int .i64, .int .i64]) 9 Try.underlying22 (by kernel_rfl) (by kernel_rfl) (by decide) (hval 1 22 v1 rfl rfl) h1
  obtain ⟨a2, rfl, rfl, rfl, w2⟩ := open_int Try.underlying3 (hval 2 3 v2 rfl rfl) h2
  obtain ⟨a3, rfl, rfl, rfl, w3⟩ := open_int Try.underlying3 (hval 3 3 v3 rfl rfl) h3
  refine (walk a0 A1 n1 c1 f1 a2 a3 W w0 w1 w2 w3).mono fun e W' ⟨he, hg⟩ => ?_
  subst he
  exact ⟨_, rfl, hend W' hg⟩

theorem over : Rows.globeOnRow.holds Try.pinned (OpenSpec.ofChange Rows.globeOnSpec) :=
  OpenClaim.holds_of_wide 4 Try.f4 rfl rfl rfl rfl rfl rfl rfl ⟨rfl, rfl, rfl, rfl, rfl⟩ rfl rfl rfl rfl rfl (by kernel_rfl) Try.func4 (by kernel_rfl)
    (of_decide_eq_true (by kernel_rfl)) (by unfold Func.isWrapper; first | (rw [if_pos (by decide +kernel)]; kernel_rfl) | (rw [if_neg (by decide +kernel)]; exact ⟨rfl, rfl⟩))
    (fun os started H enc _ => lifted os started H enc)

/-- THE STATEMENT -/
theorem proved : Rows.GlobeOnSaid :=
  over
#print axioms proved
end Go.Proofs.Ytkibpialacnlhaa.globeOn
