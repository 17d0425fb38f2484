/-
  Of one entry the other clock's time is the own one and its offset, whatever the drift, and back: for every drift, every entry and every own time (of times beyond the bounds the law asks nothing) the law answers true; without conditions.
  The walk is the prover's own; the frame of the row's step follows the kit's template.
-/
import Derived.Test.YtkibpialacnlhaaRows
import Derived.Test.YtkibpialacnlhaaLawKit
import Derived.Test.YtkibpialacnlhaaStructArg
import Derived.Test.YtkibpialacnlhaaGbF
import Derived.LoopTactic
import Derived.Deep.CutBlock
import Derived.BigQuiet
namespace Go.Proofs.Ytkibpialacnlhaa.globeOne
open Go.ChangeShapes Go.WideShapes Go.ChangeAt Go.RowKit Go.ChangeMaps Go.WideElems
set_option linter.unusedVariables false

theorem split3 {ns : List Int} (h : ns.length = 3) : ∃ s1_0 s1_1 s1_2 : Int, ns = [s1_0, s1_1, s1_2] := by
  match ns, h with
  | [y0, y1, y2], _ => exact ⟨_, _, _, rfl⟩
theorem own : ownKnob Try.prog.godebug = none := by kernel_rfl
set_option linter.unusedSimpArgs false in
set_option maxHeartbeats 4000000 in
set_option maxRecDepth 100000 in
theorem walk (a0 : Int) (s1_0 s1_1 s1_2 : Int) (a2 : Int) (w : World) (w0 : (Lit.int .i64 a0).wf = true) (w1_0 : (Lit.int .i64 s1_0).wf = true) (w1_1 : (Lit.int .i64 s1_1).wf = true) (w1_2 : (Lit.int .i64 s1_2).wf = true) (w2 : (Lit.int .i64 a2).wf = true) :
    Calls Try.prog 7 #[.int .i64 a0, .agg #[.int .i64 s1_0, .int .i64 s1_1, .int .i64 s1_2], .int .i64 a2] w fun e w' => e = .returned (.bool true) ∧ Below w.heap.size w w' := by
  have HE0 := Lib.hid (Box.start w 50 #[.int .i64 s1_0, .int .i64 s1_1, .int .i64 s1_2])
  have hfl := fun (W : World) => filled_any _ 0 _ 1 1 [(s1_0, s1_1, s1_2)] (trow_new (Holds.new W 50 (trs [(s1_0, s1_1, s1_2)]).toArray) rfl (Nat.le_refl _) (by unfold maxLen; omega)) (by omega)
  by_cases hc : CanE (s1_0, s1_1, s1_2)
  case' neg =>
    rw [fill_bad hc] at hfl
    have HF := Lib.hid hfl
    have HG := Lib.hid (fun W => good_no s1_0 s1_1 s1_2 W hc)
    have HOf := Lib.hid (fun W q (hS : Src W q []) => globe_none a0 W q hS)
    have HMs := Lib.hid (fun (W : World) => Box.start W 31 #[.int .i64 0, .int .i64 0, .int .i64 0, .int .i64 0, .int .i64 0])
    unfold mapV at HOf
    clear hfl hc
    go_enter Try.func7, Try.ntmps7
    go_wp2_with (first
      | ((go_at_call 8; refine (alive_yes _).mono ?_; rintro e w1 ⟨rfl, hb1⟩; have HE1 := Lib.hid (HE0.out.next hb1); obtain ⟨c0, c1, c2, _⟩ := HE1.out.cells3; have hf1 := HF.out w1; clear hb1))
      | ((go_at_call 9; refine hf1.mono ?_; rintro e w2 ⟨z, A, c, rfl, ht⟩; have hof := HOf.out w2 _ ht.tab.src; have HE2 := Lib.hid ((HE1.out.alloc (.cells (trs [(s1_0, s1_1, s1_2)]).toArray 50)).next ht.below); clear ht hf1))
      | ((go_at_call 10; refine hof.mono ?_; rintro e w3 ⟨rfl, hb3⟩; have HM3 := Lib.hid (HMs.out w3); have HE3 := Lib.hid ((HE2.out.next hb3).next HM3.out.below); obtain ⟨c0, c1, c2, _⟩ := HE3.out.cells3; clear hb3 hof))
      | ((go_at_call 20; refine (HG.out _).mono ?_; rintro e w5 ⟨rfl, hb5⟩; have HE5 := Lib.hid (HE3.out.next hb5); clear hb5))
      | ((go_at_call 12; with_reducible refine (HGl.out _).mono ?_; rintro e w4 ⟨rfl, hb4⟩; have HM4 := Lib.hid (HM3.out.next hb4); have HE4 := Lib.hid (HE3.out.next hb4); obtain ⟨c0, c1, c2, _⟩ := HE4.out.cells3; obtain ⟨m0, m1, m2, m3, m4, _⟩ := HM4.out.cells5; clear hb4))
      | ((go_at_call 16; with_reducible refine (HBa.out _).mono ?_; rintro e w5 ⟨rfl, hb5⟩; have HM5 := Lib.hid (HM4.out.next hb5); have HE5 := Lib.hid (HE4.out.next hb5); obtain ⟨c0, c1, c2, _⟩ := HE5.out.cells3; obtain ⟨m0, m1, m2, m3, m4, _⟩ := HM5.out.cells5; clear hb5)))
    go_ret
    exact ⟨rfl, HE5.out.below⟩
  rw [fill_single hc] at hfl
  have HF := Lib.hid hfl
  have hof := fun W q (hS : Src W q [(s1_0, s1_1, s1_2)]) => globe_some a0 W q _ hS (by simp) (fun e he => by
    simp only [List.mem_cons, List.not_mem_nil, or_false] at he
    subst he
    exact hc)
  rw [map_single hc] at hof
  unfold mapV at hof
  dsimp only at hof
  have HOf := Lib.hid hof
  have HMs := Lib.hid (fun (W : World) => Box.start W 31 #[.int .i64 s1_0, .int .i64 s1_1, .int .i64 0, .int .i64 1, .int .i64 s1_2])
  clear hfl hof
  by_cases ht0 : a2 < 0
  · have d1 : decide (a2 < 0) = true := decide_eq_true ht0
    clear hc ht0
    go_enter Try.func7, Try.ntmps7
    go_wp2_with (first
      | ((go_at_call 8; refine (alive_yes _).mono ?_; rintro e w1 ⟨rfl, hb1⟩; have HE1 := Lib.hid (HE0.out.next hb1); obtain ⟨c0, c1, c2, _⟩ := HE1.out.cells3; have hf1 := HF.out w1; clear hb1))
      | ((go_at_call 9; refine hf1.mono ?_; rintro e w2 ⟨z, A, c, rfl, ht⟩; have hof := HOf.out w2 _ ht.tab.src; have HE2 := Lib.hid ((HE1.out.alloc (.cells (trs [(s1_0, s1_1, s1_2)]).toArray 50)).next ht.below); clear ht hf1))
      | ((go_at_call 10; refine hof.mono ?_; rintro e w3 ⟨rfl, hb3⟩; have HM3 := Lib.hid (HMs.out w3); have HE3 := Lib.hid ((HE2.out.next hb3).next HM3.out.below); obtain ⟨c0, c1, c2, _⟩ := HE3.out.cells3; clear hb3 hof))
      | ((go_at_call 20; refine (HG.out _).mono ?_; rintro e w5 ⟨rfl, hb5⟩; have HE5 := Lib.hid (HE3.out.next hb5); clear hb5))
      | ((go_at_call 12; with_reducible refine (HGl.out _).mono ?_; rintro e w4 ⟨rfl, hb4⟩; have HM4 := Lib.hid (HM3.out.next hb4); have HE4 := Lib.hid (HE3.out.next hb4); obtain ⟨c0, c1, c2, _⟩ := HE4.out.cells3; obtain ⟨m0, m1, m2, m3, m4, _⟩ := HM4.out.cells5; clear hb4))
      | ((go_at_call 16; with_reducible refine (HBa.out _).mono ?_; rintro e w5 ⟨rfl, hb5⟩; have HM5 := Lib.hid (HM4.out.next hb5); have HE5 := Lib.hid (HE4.out.next hb5); obtain ⟨c0, c1, c2, _⟩ := HE5.out.cells3; obtain ⟨m0, m1, m2, m3, m4, _⟩ := HM5.out.cells5; clear hb5)))
    go_ret
    exact ⟨rfl, HE3.out.below⟩
  have d1 : decide (a2 < 0) = false := decide_eq_false ht0
  by_cases ht1 : 1125899906842624 < a2
  · have d2 : decide (1125899906842624 < a2) = true := decide_eq_true ht1
    clear hc ht0 ht1
    go_enter Try.func7, Try.ntmps7
    go_wp2_with (first
      | ((go_at_call 8; refine (alive_yes _).mono ?_; rintro e w1 ⟨rfl, hb1⟩; have HE1 := Lib.hid (HE0.out.next hb1); obtain ⟨c0, c1, c2, _⟩ := HE1.out.cells3; have hf1 := HF.out w1; clear hb1))
      | ((go_at_call 9; refine hf1.mono ?_; rintro e w2 ⟨z, A, c, rfl, ht⟩; have hof := HOf.out w2 _ ht.tab.src; have HE2 := Lib.hid ((HE1.out.alloc (.cells (trs [(s1_0, s1_1, s1_2)]).toArray 50)).next ht.below); clear ht hf1))
      | ((go_at_call 10; refine hof.mono ?_; rintro e w3 ⟨rfl, hb3⟩; have HM3 := Lib.hid (HMs.out w3); have HE3 := Lib.hid ((HE2.out.next hb3).next HM3.out.below); obtain ⟨c0, c1, c2, _⟩ := HE3.out.cells3; clear hb3 hof))
      | ((go_at_call 20; refine (HG.out _).mono ?_; rintro e w5 ⟨rfl, hb5⟩; have HE5 := Lib.hid (HE3.out.next hb5); clear hb5))
      | ((go_at_call 12; with_reducible refine (HGl.out _).mono ?_; rintro e w4 ⟨rfl, hb4⟩; have HM4 := Lib.hid (HM3.out.next hb4); have HE4 := Lib.hid (HE3.out.next hb4); obtain ⟨c0, c1, c2, _⟩ := HE4.out.cells3; obtain ⟨m0, m1, m2, m3, m4, _⟩ := HM4.out.cells5; clear hb4))
      | ((go_at_call 16; with_reducible refine (HBa.out _).mono ?_; rintro e w5 ⟨rfl, hb5⟩; have HM5 := Lib.hid (HM4.out.next hb5); have HE5 := Lib.hid (HE4.out.next hb5); obtain ⟨c0, c1, c2, _⟩ := HE5.out.cells3; obtain ⟨m0, m1, m2, m3, m4, _⟩ := HM5.out.cells5; clear hb5)))
    go_ret
    exact ⟨rfl, HE3.out.below⟩
  have d2 : decide (1125899906842624 < a2) = false := decide_eq_false ht1
  have hm := ok_single hc
  have ew := IntWalk.i64_in (a2 + s1_1) (by have := hc.o1; have := hc.o2; dsimp only at *; omega)
  dsimp only at hm
  obtain ⟨i, rfl⟩ : ∃ i : Nat, a2 = i := ⟨a2.toNat, by omega⟩
  by_cases hw : CanT ((i : Int) + s1_1)
  · have hgl := fun W => global_any 0 1000 s1_0 s1_1 0 1 s1_2 i ((i : Int) + s1_1) true W hm ⟨.inl ⟨⟨by omega, by omega⟩, by rw [raw_single]; exact hw, by rw [raw_single], rfl⟩⟩
    have hba := fun W => back_any 0 1000 s1_0 s1_1 0 1 s1_2 ((i : Int) + s1_1) i true W hm ⟨i, least_single (by omega), .inl ⟨hw, ⟨by omega, by omega⟩, by rw [raw_single]; exact hw, rfl, rfl⟩⟩
    unfold mapV at hgl hba
    have HGl := Lib.hid hgl
    have HBa := Lib.hid hba
    have d3 : decide ((i : Int) + s1_1 < 0) = false := decide_eq_false (by have := hw.1; omega)
    have d4 : decide (1125899906842624 < (i : Int) + s1_1) = false := decide_eq_false (by have := hw.2; omega)
    obtain ⟨v, hv⟩ : ∃ v, (i : Int) + s1_1 = v := ⟨_, rfl⟩
    rw [hv] at HGl HBa d3 d4 ew
    clear hgl hba hm hc hw ht0 ht1 w2
    go_enter Try.func7, Try.ntmps7
    go_wp2_with (first
      | ((go_at_call 8; refine (alive_yes _).mono ?_; rintro e w1 ⟨rfl, hb1⟩; have HE1 := Lib.hid (HE0.out.next hb1); obtain ⟨c0, c1, c2, _⟩ := HE1.out.cells3; have hf1 := HF.out w1; clear hb1))
      | ((go_at_call 9; refine hf1.mono ?_; rintro e w2 ⟨z, A, c, rfl, ht⟩; have hof := HOf.out w2 _ ht.tab.src; have HE2 := Lib.hid ((HE1.out.alloc (.cells (trs [(s1_0, s1_1, s1_2)]).toArray 50)).next ht.below); clear ht hf1))
      | ((go_at_call 10; refine hof.mono ?_; rintro e w3 ⟨rfl, hb3⟩; have HM3 := Lib.hid (HMs.out w3); have HE3 := Lib.hid ((HE2.out.next hb3).next HM3.out.below); obtain ⟨c0, c1, c2, _⟩ := HE3.out.cells3; clear hb3 hof))
      | ((go_at_call 20; refine (HG.out _).mono ?_; rintro e w5 ⟨rfl, hb5⟩; have HE5 := Lib.hid (HE3.out.next hb5); clear hb5))
      | ((go_at_call 12; with_reducible refine (HGl.out _).mono ?_; rintro e w4 ⟨rfl, hb4⟩; have HM4 := Lib.hid (HM3.out.next hb4); have HE4 := Lib.hid (HE3.out.next hb4); obtain ⟨c0, c1, c2, _⟩ := HE4.out.cells3; obtain ⟨m0, m1, m2, m3, m4, _⟩ := HM4.out.cells5; clear hb4))
      | ((go_at_call 16; with_reducible refine (HBa.out _).mono ?_; rintro e w5 ⟨rfl, hb5⟩; have HM5 := Lib.hid (HM4.out.next hb5); have HE5 := Lib.hid (HE4.out.next hb5); obtain ⟨c0, c1, c2, _⟩ := HE5.out.cells3; obtain ⟨m0, m1, m2, m3, m4, _⟩ := HM5.out.cells5; clear hb5)))
    go_ret
    exact ⟨rfl, HE5.out.below⟩
  · have hgl := fun W => global_any 0 1000 s1_0 s1_1 0 1 s1_2 i 0 false W hm ⟨.inr ⟨by rw [raw_single]; exact fun k => hw k.2, rfl, rfl⟩⟩
    unfold mapV at hgl
    have HGl := Lib.hid hgl
    have HBa := Lib.hid trivial
    by_cases h3 : (i : Int) + s1_1 < 0
    · have d3 : decide ((i : Int) + s1_1 < 0) = true := decide_eq_true h3
      obtain ⟨v, hv⟩ : ∃ v, (i : Int) + s1_1 = v := ⟨_, rfl⟩
      rw [hv] at d3 ew
      clear hgl hm hc hw ht0 ht1 w2 h3
      go_enter Try.func7, Try.ntmps7
      go_wp2_with (first
        | ((go_at_call 8; refine (alive_yes _).mono ?_; rintro e w1 ⟨rfl, hb1⟩; have HE1 := Lib.hid (HE0.out.next hb1); obtain ⟨c0, c1, c2, _⟩ := HE1.out.cells3; have hf1 := HF.out w1; clear hb1))
        | ((go_at_call 9; refine hf1.mono ?_; rintro e w2 ⟨z, A, c, rfl, ht⟩; have hof := HOf.out w2 _ ht.tab.src; have HE2 := Lib.hid ((HE1.out.alloc (.cells (trs [(s1_0, s1_1, s1_2)]).toArray 50)).next ht.below); clear ht hf1))
        | ((go_at_call 10; refine hof.mono ?_; rintro e w3 ⟨rfl, hb3⟩; have HM3 := Lib.hid (HMs.out w3); have HE3 := Lib.hid ((HE2.out.next hb3).next HM3.out.below); obtain ⟨c0, c1, c2, _⟩ := HE3.out.cells3; clear hb3 hof))
        | ((go_at_call 20; refine (HG.out _).mono ?_; rintro e w5 ⟨rfl, hb5⟩; have HE5 := Lib.hid (HE3.out.next hb5); clear hb5))
        | ((go_at_call 12; with_reducible refine (HGl.out _).mono ?_; rintro e w4 ⟨rfl, hb4⟩; have HM4 := Lib.hid (HM3.out.next hb4); have HE4 := Lib.hid (HE3.out.next hb4); obtain ⟨c0, c1, c2, _⟩ := HE4.out.cells3; obtain ⟨m0, m1, m2, m3, m4, _⟩ := HM4.out.cells5; clear hb4))
        | ((go_at_call 16; with_reducible refine (HBa.out _).mono ?_; rintro e w5 ⟨rfl, hb5⟩; have HM5 := Lib.hid (HM4.out.next hb5); have HE5 := Lib.hid (HE4.out.next hb5); obtain ⟨c0, c1, c2, _⟩ := HE5.out.cells3; obtain ⟨m0, m1, m2, m3, m4, _⟩ := HM5.out.cells5; clear hb5)))
      go_ret
      exact ⟨rfl, HE4.out.below⟩
    · have d3 : decide ((i : Int) + s1_1 < 0) = false := decide_eq_false h3
      have d4 : decide (1125899906842624 < (i : Int) + s1_1) = true := decide_eq_true (Classical.byContradiction fun k => hw ⟨by omega, by omega⟩)
      obtain ⟨v, hv⟩ : ∃ v, (i : Int) + s1_1 = v := ⟨_, rfl⟩
      rw [hv] at d3 d4 ew
      clear hgl hm hc hw ht0 ht1 w2 h3
      go_enter Try.func7, Try.ntmps7
      go_wp2_with (first
        | ((go_at_call 8; refine (alive_yes _).mono ?_; rintro e w1 ⟨rfl, hb1⟩; have HE1 := Lib.hid (HE0.out.next hb1); obtain ⟨c0, c1, c2, _⟩ := HE1.out.cells3; have hf1 := HF.out w1; clear hb1))
        | ((go_at_call 9; refine hf1.mono ?_; rintro e w2 ⟨z, A, c, rfl, ht⟩; have hof := HOf.out w2 _ ht.tab.src; have HE2 := Lib.hid ((HE1.out.alloc (.cells (trs [(s1_0, s1_1, s1_2)]).toArray 50)).next ht.below); clear ht hf1))
        | ((go_at_call 10; refine hof.mono ?_; rintro e w3 ⟨rfl, hb3⟩; have HM3 := Lib.hid (HMs.out w3); have HE3 := Lib.hid ((HE2.out.next hb3).next HM3.out.below); obtain ⟨c0, c1, c2, _⟩ := HE3.out.cells3; clear hb3 hof))
        | ((go_at_call 20; refine (HG.out _).mono ?_; rintro e w5 ⟨rfl, hb5⟩; have HE5 := Lib.hid (HE3.out.next hb5); clear hb5))
        | ((go_at_call 12; with_reducible refine (HGl.out _).mono ?_; rintro e w4 ⟨rfl, hb4⟩; have HM4 := Lib.hid (HM3.out.next hb4); have HE4 := Lib.hid (HE3.out.next hb4); obtain ⟨c0, c1, c2, _⟩ := HE4.out.cells3; obtain ⟨m0, m1, m2, m3, m4, _⟩ := HM4.out.cells5; clear hb4))
        | ((go_at_call 16; with_reducible refine (HBa.out _).mono ?_; rintro e w5 ⟨rfl, hb5⟩; have HM5 := Lib.hid (HM4.out.next hb5); have HE5 := Lib.hid (HE4.out.next hb5); obtain ⟨c0, c1, c2, _⟩ := HE5.out.cells3; obtain ⟨m0, m1, m2, m3, m4, _⟩ := HM5.out.cells5; clear hb5)))
      go_ret
      exact ⟨rfl, HE4.out.below⟩

set_option maxRecDepth 100000 in
theorem lifted (os : Os) (started : os.Started) (H : Type) (enc : TypeId × Value → H) :
    ReturnsInHanded {} Try.checked os 7 .any (Rows.globeOneSpec.pre6 enc Try.prog Try.f7 Rows.globeOneRow.domain false) (Rows.globeOneSpec.post enc Try.prog Try.f7 false true false false) := by
  refine returnsInHanded_of_change (C := Try.checked) own started (by kernel_rfl) Try.func7
    (ChangeSpec.witness6 (enc := enc) (C := Try.checked) false ⟨#[], #[.int .i64 0, .agg #[.int .i64 0, .int .i64 0, .int .i64 0], .int .i64 0], []⟩ 8 (by kernel_rfl) (by kernel_rfl) (by kernel_rfl) (by kernel_rfl)) ?_
  intro W base args ds gs before hval0 hW hcnd _
  have hval : ∀ (j : Nat) t v, Try.f7.params[j]? = some t → args[j]? = some v → Value.okWide Try.prog W .any base t v := hval0
  have hW' := hW
  obtain ⟨p, q, hA0, hV, rfl, hfz, hnd⟩ := hW
  have hA : DataW.TrodAll enc Try.prog W 0 (fun _ => true) true Try.f7.params.toList args.toList ds p := hA0
  have hAk := hA
  rw [Try.params7] at hA hval
  obtain ⟨v0, vs0, d0, ds0, p0, q0, hargs, rfl, hp, h0, r0⟩ := trodAll_cons hA
  obtain ⟨v1, vs1, d1, ds1, p1, q1, rfl, rfl, rfl, h1, r1⟩ := trodAll_cons r0
  obtain ⟨v2, vs2, d2, ds2, p2, q2, rfl, rfl, rfl, h2, r2⟩ := trodAll_cons r1
  obtain ⟨rfl, rfl, rfl⟩ := trodAll_nil r2
  obtain rfl : args = #[v0, v1, v2] := by cases args; simp_all
  obtain ⟨rfl, rfl⟩ := trodVars_none hV
  clear hA0 hval0 hargs
  simp only [List.append_nil] at hW'
  have hend : ∀ W' : World, Below W.heap.size W W' → Rows.globeOneSpec.post enc Try.prog Try.f7 false true false false W #[v0, v1, v2] (.bool true) W' := fun W' hb =>
    law_post (tb := 4) hW' hAk rfl (by kernel_rfl) (by kernel_rfl) (by kernel_rfl) Try.underlying4 rfl rfl rfl hb
  clear hW' hAk hp
  obtain ⟨a0, rfl, rfl, rfl, w0⟩ := open_int Try.underlying3 (hval 0 3 v0 rfl rfl) h0
  obtain ⟨ns1, rfl, hl1, hw1⟩ := ints_struct (ks := [.i64, .i64, .i64]) Try.underlying50 (by kernel_rfl) (by kernel_rfl) (by kernel_rfl) (hval 1 50 v1 rfl rfl) h1
  obtain ⟨s1_0, s1_1, s1_2, rfl⟩ := split3 hl1
  clear hl1
  obtain ⟨a2, rfl, rfl, rfl, w2⟩ := open_int Try.underlying3 (hval 2 3 v2 rfl rfl) h2
  refine (walk a0 s1_0 s1_1 s1_2 a2 W w0 (hw1 0 _ _ rfl rfl) (hw1 1 _ _ rfl rfl) (hw1 2 _ _ rfl rfl) w2).mono fun e W' ⟨he, hg⟩ => ?_
  subst he
  exact ⟨_, rfl, hend W' hg⟩

theorem over : Rows.globeOneRow.holds Try.pinned (OpenSpec.ofChange Rows.globeOneSpec) :=
  OpenClaim.holds_of_wide 7 Try.f7 rfl rfl rfl rfl rfl rfl rfl ⟨rfl, rfl, rfl, rfl, rfl⟩ rfl rfl rfl rfl rfl (by kernel_rfl) Try.func7 (by kernel_rfl)
    (of_decide_eq_true (by kernel_rfl)) (by unfold Func.isWrapper; first | (rw [if_pos (by decide +kernel)]; kernel_rfl) | (rw [if_neg (by decide +kernel)]; exact ⟨rfl, rfl⟩))
    (fun os started H enc _ => lifted os started H enc)

/-- THE STATEMENT -/
theorem proved : Rows.GlobeOneSaid :=
  over
#print axioms proved
end Go.Proofs.Ytkibpialacnlhaa.globeOne
