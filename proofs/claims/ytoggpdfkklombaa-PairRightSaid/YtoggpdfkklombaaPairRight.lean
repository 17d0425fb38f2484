/-
  Where the other clock is ahead by the same all the time and both ways take as long, Offset and Delay are just these: for all numbers the law answers true; without conditions.
  The walk is the prover's own; the frame of the row's step follows the kit's template.
-/
import Derived.Test.YtoggpdfkklombaaRows
import Derived.Test.YtoggpdfkklombaaLawKit
import Derived.Test.YtoggpdfkklombaaPrI
import Derived.LoopTactic
import Derived.Deep.CutBlock
import Derived.Deep.CutRange
import Derived.BigQuiet
namespace Go.Proofs.Ytoggpdfkklombaa.pairRight
open Go.ChangeShapes Go.WideShapes Go.ChangeAt Go.RowKit Go.ChangeMaps Go.WideElems
set_option linter.unusedVariables false

theorem own : ownKnob Try.prog.godebug = none := by kernel_rfl
set_option linter.unusedSimpArgs false in
set_option maxHeartbeats 8000000 in
set_option maxRecDepth 100000 in
theorem walk (a0 : Int) (a1 : Int) (a2 : Int) (a3 : Int) (a4 : Int) (w : World) (w0 : (Lit.int .i64 a0).wf = true) (w1 : (Lit.int .i64 a1).wf = true) (w2 : (Lit.int .i64 a2).wf = true) (w3 : (Lit.int .i64 a3).wf = true) (w4 : (Lit.int .i64 a4).wf = true) :
    Calls Try.prog 4 #[.int .i64 a0, .int .i64 a1, .int .i64 a2, .int .i64 a3, .int .i64 a4] w fun e w' => e = .returned (.bool true) ∧ Below w.heap.size w w' := by
  have fa0 := fits_wf w0
  have fa1 := fits_wf w1
  have fa2 := fits_wf w2
  have fa3 := fits_wf w3
  have fa4 := fits_wf w4
  clear w0 w1 w2 w3 w4
  by_cases h0 : a0 < 0
  · have d0 : decide (a0 < 0) = true := decide_eq_true h0
    clear h0 fa0 fa1 fa2 fa3 fa4 
    go_enter Try.func4, Try.ntmps4
    go_wp2_with (go_at_call 8; refine (alive_yes _).mono ?_; rintro e wx ⟨rfl, hb⟩)
    go_ret
    exact ⟨rfl, hb⟩
  have d0 : decide (a0 < 0) = false := decide_eq_false h0
  by_cases h1 : 1099511627776 < a0
  · have d1 : decide (1099511627776 < a0) = true := decide_eq_true h1
    clear h1 fa0 fa1 fa2 fa3 fa4 h0
    go_enter Try.func4, Try.ntmps4
    go_wp2_with (go_at_call 8; refine (alive_yes _).mono ?_; rintro e wx ⟨rfl, hb⟩)
    go_ret
    exact ⟨rfl, hb⟩
  have d1 : decide (1099511627776 < a0) = false := decide_eq_false h1
  by_cases h2 : a1 < -1099511627776
  · have d2 : decide (a1 < -1099511627776) = true := decide_eq_true h2
    clear h2 fa0 fa1 fa2 fa3 fa4 h0 h1
    go_enter Try.func4, Try.ntmps4
    go_wp2_with (go_at_call 8; refine (alive_yes _).mono ?_; rintro e wx ⟨rfl, hb⟩)
    go_ret
    exact ⟨rfl, hb⟩
  have d2 : decide (a1 < -1099511627776) = false := decide_eq_false h2
  by_cases h3 : 1099511627776 < a1
  · have d3 : decide (1099511627776 < a1) = true := decide_eq_true h3
    clear h3 fa0 fa1 fa2 fa3 fa4 h0 h1 h2
    go_enter Try.func4, Try.ntmps4
    go_wp2_with (go_at_call 8; refine (alive_yes _).mono ?_; rintro e wx ⟨rfl, hb⟩)
    go_ret
    exact ⟨rfl, hb⟩
  have d3 : decide (1099511627776 < a1) = false := decide_eq_false h3
  by_cases h4 : a2 < 0
  · have d4 : decide (a2 < 0) = true := decide_eq_true h4
    clear h4 fa0 fa1 fa2 fa3 fa4 h0 h1 h2 h3
    go_enter Try.func4, Try.ntmps4
    go_wp2_with (go_at_call 8; refine (alive_yes _).mono ?_; rintro e wx ⟨rfl, hb⟩)
    go_ret
    exact ⟨rfl, hb⟩
  have d4 : decide (a2 < 0) = false := decide_eq_false h4
  by_cases h5 : 1099511627776 < a2
  · have d5 : decide (1099511627776 < a2) = true := decide_eq_true h5
    clear h5 fa0 fa1 fa2 fa3 fa4 h0 h1 h2 h3 h4
    go_enter Try.func4, Try.ntmps4
    go_wp2_with (go_at_call 8; refine (alive_yes _).mono ?_; rintro e wx ⟨rfl, hb⟩)
    go_ret
    exact ⟨rfl, hb⟩
  have d5 : decide (1099511627776 < a2) = false := decide_eq_false h5
  by_cases h6 : a3 < 0
  · have d6 : decide (a3 < 0) = true := decide_eq_true h6
    clear h6 fa0 fa1 fa2 fa3 fa4 h0 h1 h2 h3 h4 h5
    go_enter Try.func4, Try.ntmps4
    go_wp2_with (go_at_call 8; refine (alive_yes _).mono ?_; rintro e wx ⟨rfl, hb⟩)
    go_ret
    exact ⟨rfl, hb⟩
  have d6 : decide (a3 < 0) = false := decide_eq_false h6
  by_cases h7 : 1099511627776 < a3
  · have d7 : decide (1099511627776 < a3) = true := decide_eq_true h7
    clear h7 fa0 fa1 fa2 fa3 fa4 h0 h1 h2 h3 h4 h5 h6
    go_enter Try.func4, Try.ntmps4
    go_wp2_with (go_at_call 8; refine (alive_yes _).mono ?_; rintro e wx ⟨rfl, hb⟩)
    go_ret
    exact ⟨rfl, hb⟩
  have d7 : decide (1099511627776 < a3) = false := decide_eq_false h7
  by_cases h8 : a4 < 0
  · have d8 : decide (a4 < 0) = true := decide_eq_true h8
    clear h8 fa0 fa1 fa2 fa3 fa4 h0 h1 h2 h3 h4 h5 h6 h7
    go_enter Try.func4, Try.ntmps4
    go_wp2_with (go_at_call 8; refine (alive_yes _).mono ?_; rintro e wx ⟨rfl, hb⟩)
    go_ret
    exact ⟨rfl, hb⟩
  have d8 : decide (a4 < 0) = false := decide_eq_false h8
  by_cases h9 : 1099511627776 < a4
  · have d9 : decide (1099511627776 < a4) = true := decide_eq_true h9
    clear h9 fa0 fa1 fa2 fa3 fa4 h0 h1 h2 h3 h4 h5 h6 h7 h8
    go_enter Try.func4, Try.ntmps4
    go_wp2_with (go_at_call 8; refine (alive_yes _).mono ?_; rintro e wx ⟨rfl, hb⟩)
    go_ret
    exact ⟨rfl, hb⟩
  have d9 : decide (1099511627776 < a4) = false := decide_eq_false h9
  have x1 := IntWalk.i64_in (a0 + a2) (by omega)
  have x2 := IntWalk.i64_in (a0 + a2 + a1) (by omega)
  by_cases h10 : a0 + a2 + a1 < 0
  · have d10 : decide (a0 + a2 + a1 < 0) = true := decide_eq_true h10
    clear h10 fa0 fa1 fa2 fa3 fa4 h0 h1 h2 h3 h4 h5 h6 h7 h8 h9
    go_enter Try.func4, Try.ntmps4
    go_wp2_with (go_at_call 8; refine (alive_yes _).mono ?_; rintro e wx ⟨rfl, hb⟩)
    go_ret
    exact ⟨rfl, hb⟩
  have d10 : decide (a0 + a2 + a1 < 0) = false := decide_eq_false h10
  have x3 := IntWalk.i64_in (a0 + a2 + a3) (by omega)
  have x4 := IntWalk.i64_in (a0 + a2 + a3 + a1) (by omega)
  have x5 := IntWalk.i64_in (a0 + a2 + a3 + a4) (by omega)
  have x6 := IntWalk.i64_in (a2 - a4) (by omega)
  have x7 := IntWalk.i64_in (a2 - a4 - 1) (by omega)
  have hgood : goodT a0 (a0 + a2 + a1) (a0 + a2 + a3 + a1) (a0 + a2 + a3 + a4) = true := (goodT_iff _ _ _ _).2 ⟨⟨by omega, by omega⟩, ⟨by omega, by omega⟩, ⟨by omega, by omega⟩, ⟨by omega, by omega⟩, by omega⟩
  have hg := fun W => tgood_any a0 (a0 + a2 + a1) (a0 + a2 + a3 + a1) (a0 + a2 + a3 + a4) W
  have ho := fun W => toff_any a0 (a0 + a2 + a1) (a0 + a2 + a3 + a1) (a0 + a2 + a3 + a4) W
  have hd := fun W => tdel_any a0 (a0 + a2 + a1) (a0 + a2 + a3 + a1) (a0 + a2 + a3 + a4) W
  have eO : offV a0 (a0 + a2 + a1) (a0 + a2 + a3 + a1) (a0 + a2 + a3 + a4) = (a2 - a4 + 2 * a1) / 2 := by
    unfold offV
    rw [if_pos hgood]
    congr 1
    omega
  have eD : delV a0 (a0 + a2 + a1) (a0 + a2 + a3 + a1) (a0 + a2 + a3 + a4) = (a2 + a4) / 2 := by
    unfold delV
    rw [if_pos hgood]
    congr 1
    omega
  rw [eO] at ho
  rw [eD] at hd
  rw [hgood] at hg
  unfold timV at hg ho hd
  obtain ⟨O, hO⟩ : ∃ O, (a2 - a4 + 2 * a1) / 2 = O := ⟨_, rfl⟩
  obtain ⟨D, hD⟩ : ∃ D, (a2 + a4) / 2 = D := ⟨_, rfl⟩
  rw [hO] at ho
  rw [hD] at hd
  have y1 := IntWalk.i64_in (O - a1) (by omega)
  have y2 := IntWalk.i64_in (2 * (O - a1)) (by omega)
  have y3 : decide (2 * (O - a1) ≤ a2 - a4) = true := decide_eq_true (by omega)
  have y4 : decide (a2 - a4 - 1 ≤ 2 * (O - a1)) = true := decide_eq_true (by omega)
  have hcase : (a2 == a4) = false ∨ (a2 == a4) = true ∧ (2 * (O - a1) != 0) = false ∧ (D != a2) = false := by
    by_cases e : a2 = a4
    · refine .inr ⟨by simp [e], ?_, ?_⟩
      · have : 2 * (O - a1) = 0 := by omega
        simp [this]
      · have : D = a2 := by omega
        simp [this]
    · exact .inl (by simp [e])
  obtain ⟨X, hX⟩ : ∃ X, 2 * (O - a1) = X := ⟨_, rfl⟩
  rw [hX] at y2 y3 y4 hcase
  clear h0 h1 h2 h3 h4 h5 h6 h7 h8 h9 h10 eO eD hgood hO hD fa0 fa1 fa2 fa3 fa4
  rcases hcase with q1 | ⟨q1, q2, q3⟩ <;>
  · go_enter Try.func4, Try.ntmps4
    go_wp2_with (first
      | (go_at_call 8; refine (alive_yes _).mono ?_; rintro e w1 ⟨rfl, hb⟩; have HB := Lib.hid (hb.trans ((Box.start w1 23 #[.int .i64 a0, .int .i64 (a0 + a2 + a1), .int .i64 (a0 + a2 + a3 + a1), .int .i64 (a0 + a2 + a3 + a4)]).below.mono hb.size)); have HT := Lib.hid (Holds.new w1 23 #[.int .i64 a0, .int .i64 (a0 + a2 + a1), .int .i64 (a0 + a2 + a3 + a1), .int .i64 (a0 + a2 + a3 + a4)]); clear hb)
      | (go_at_call 11; refine (ho _).mono ?_; rintro e w2 ⟨rfl, hb⟩; replace HB := Lib.hid (HB.out.trans (hb.mono HB.out.size)); replace HT := Lib.hid (HT.out.below hb HT.out.lt); have c0 := HT.out.cell 0; have c1 := HT.out.cell 1; have c2 := HT.out.cell 2; have c3 := HT.out.cell 3; clear hb ho)
      | (go_at_call 12; refine (hd _).mono ?_; rintro e w3 ⟨rfl, hb⟩; replace HB := Lib.hid (HB.out.trans (hb.mono HB.out.size)); replace HT := Lib.hid (HT.out.below hb HT.out.lt); clear c0 c1 c2 c3; have c0 := HT.out.cell 0; have c1 := HT.out.cell 1; have c2 := HT.out.cell 2; have c3 := HT.out.cell 3; clear hb hd)
      | (go_at_call 10; refine (hg _).mono ?_; rintro e w4 ⟨rfl, hb⟩; replace HB := Lib.hid (HB.out.trans (hb.mono HB.out.size)); clear hb hg))
    go_ret
    exact ⟨rfl, HB.out⟩

set_option maxRecDepth 100000 in
theorem lifted (os : Os) (started : os.Started) (H : Type) (enc : TypeId × Value → H) :
    ReturnsInHanded {} Try.checked os 4 .any (Rows.pairRightSpec.pre6 enc Try.prog Try.f4 Rows.pairRightRow.domain false) (Rows.pairRightSpec.post enc Try.prog Try.f4 false true false false) := by
  refine returnsInHanded_of_change (C := Try.checked) own started (by kernel_rfl) Try.func4
    (ChangeSpec.witness6 (enc := enc) (C := Try.checked) false ⟨#[], #[.int .i64 0, .int .i64 0, .int .i64 0, .int .i64 0, .int .i64 0], []⟩ 8 (by kernel_rfl) (by kernel_rfl) (by kernel_rfl) (by kernel_rfl)) ?_
  intro W base args ds gs before hval0 hW hcnd _
  have hval : ∀ (j : Nat) t v, Try.f4.params[j]? = some t → args[j]? = some v → Value.okWide Try.prog W .any base t v := hval0
  have hW' := hW
  obtain ⟨p, q, hA0, hV, rfl, hfz, hnd⟩ := hW
  have hA : DataW.TrodAll enc Try.prog W 0 (fun _ => true) true Try.f4.params.toList args.toList ds p := hA0
  have hAk := hA
  rw [Try.params4] at hA hval
  obtain ⟨v0, vs0, d0, ds0, p0, q0, hargs, rfl, hp, h0, r0⟩ := trodAll_cons hA
  obtain ⟨v1, vs1, d1, ds1, p1, q1, rfl, rfl, rfl, h1, r1⟩ := trodAll_cons r0
  obtain ⟨v2, vs2, d2, ds2, p2, q2, rfl, rfl, rfl, h2, r2⟩ := trodAll_cons r1
  obtain ⟨v3, vs3, d3, ds3, p3, q3, rfl, rfl, rfl, h3, r3⟩ := trodAll_cons r2
  obtain ⟨v4, vs4, d4, ds4, p4, q4, rfl, rfl, rfl, h4, r4⟩ := trodAll_cons r3
  obtain ⟨rfl, rfl, rfl⟩ := trodAll_nil r4
  obtain rfl : args = #[v0, v1, v2, v3, v4] := by cases args; simp_all
  obtain ⟨rfl, rfl⟩ := trodVars_none hV
  clear hA0 hval0 hargs
  simp only [List.append_nil] at hW'
  have hend : ∀ W' : World, Below W.heap.size W W' → Rows.pairRightSpec.post enc Try.prog Try.f4 false true false false W #[v0, v1, v2, v3, v4] (.bool true) W' := fun W' hb =>
    law_post (tb := 4) hW' hAk rfl (by kernel_rfl) (by kernel_rfl) (by kernel_rfl) Try.underlying4 rfl rfl rfl hb
  clear hW' hAk hp
  obtain ⟨a0, rfl, rfl, rfl, w0⟩ := open_int Try.underlying3 (hval 0 3 v0 rfl rfl) h0
  obtain ⟨a1, rfl, rfl, rfl, w1⟩ := open_int Try.underlying3 (hval 1 3 v1 rfl rfl) h1
  obtain ⟨a2, rfl, rfl, rfl, w2⟩ := open_int Try.underlying3 (hval 2 3 v2 rfl rfl) h2
  obtain ⟨a3, rfl, rfl, rfl, w3⟩ := open_int Try.underlying3 (hval 3 3 v3 rfl rfl) h3
  obtain ⟨a4, rfl, rfl, rfl, w4⟩ := open_int Try.underlying3 (hval 4 3 v4 rfl rfl) h4
  refine (walk a0 a1 a2 a3 a4 W w0 w1 w2 w3 w4).mono fun e W' ⟨he, hg⟩ => ?_
  subst he
  exact ⟨_, rfl, hend W' hg⟩

theorem over : Rows.pairRightRow.holds Try.pinned (OpenSpec.ofChange Rows.pairRightSpec) :=
  OpenClaim.holds_of_wide 4 Try.f4 rfl rfl rfl rfl rfl rfl rfl ⟨rfl, rfl, rfl, rfl, rfl⟩ rfl rfl rfl rfl rfl (by kernel_rfl) Try.func4 (by kernel_rfl)
    (of_decide_eq_true (by kernel_rfl)) (by unfold Func.isWrapper; first | (rw [if_pos (by decide +kernel)]; kernel_rfl) | (rw [if_neg (by decide +kernel)]; exact ⟨rfl, rfl⟩))
    (fun os started H enc _ => lifted os started H enc)

/-- THE STATEMENT -/
theorem proved : Rows.PairRightSaid :=
  over
#print axioms proved
end Go.Proofs.Ytoggpdfkklombaa.pairRight
