/-
  No slope is greater than the greatest that can be, nor less than its opposite: for every drift and every slice of entries (of more than 100 the law asks nothing) the law answers true; without conditions.
  The walk is the prover's own; the frame of the row's step follows the kit's template.
-/
import Derived.Test.YtcgnedndfhkgiaaRows
import Derived.Test.YtcgnedndfhkgiaaLawKit
import Derived.Test.YtcgnedndfhkgiaaFlat
import Derived.Test.YtcgnedndfhkgiaaSpH
import Derived.Test.YtcgnedndfhkgiaaSpJ
import Derived.LoopTactic
import Derived.Deep.CutBlock
import Derived.BigQuiet
namespace Go.Proofs.Ytcgnedndfhkgiaa.slopeBound
open Go.ChangeShapes Go.WideShapes Go.ChangeAt Go.RowKit Go.ChangeMaps Go.WideElems
set_option linter.unusedVariables false

theorem cells1 {W : World} {vs : List Value} (h : Fit W [.int .i64, .int .i64, .int .i64] vs) : ∃ (s0 : Int) (s1 : Int) (s2 : Int), vs = [.int .i64 s0, .int .i64 s1, .int .i64 s2] ∧ (Lit.int .i64 s0).wf = true ∧ (Lit.int .i64 s1).wf = true ∧ (Lit.int .i64 s2).wf = true := by
  match vs, h.length, h with
  | [y0, y1, y2], _, h =>
    obtain ⟨⟨x0, rfl, h0⟩, ⟨x1, rfl, h1⟩, ⟨x2, rfl, h2⟩, _⟩ := h
    exact ⟨x0, x1, x2, rfl, h0, h1, h2⟩
theorem own : ownKnob Try.prog.godebug = none := by kernel_rfl
set_option linter.unusedSimpArgs false in
set_option maxHeartbeats 4000000 in
set_option maxRecDepth 100000 in
theorem walk (a0 : Int) (A1 : Option Addr) (n1 c1 : Nat) (f1 : Nat → List Value) (w : World) (w0 : (Lit.int .i64 a0).wf = true) (w1 : FlatRow w [.int .i64, .int .i64, .int .i64] A1 n1 c1 f1) :
    Calls Try.prog 4 #[.int .i64 a0, .slice A1 n1 c1] w fun e w' => e = .returned (.bool true) ∧ Below w.heap.size w w' := by
  by_cases h100 : 100 < n1
  · have d3 : decide ((100 : Int) < (n1 : Int)) = true := decide_eq_true (by omega)
    go_enter Try.func4, Try.ntmps4
    go_wp2_with (first
      | ((go_at_call 9; refine (alive_yes _).mono ?_; rintro e w1 ⟨rfl, hb1⟩; try have HB1 := Lib.hid hb1))
      | ((go_at_call 10; refine (HOf.out _ HB1.out).mono ?_; rintro e w2 ⟨rfl, hb2⟩; have HB2 := Lib.hid (HB1.out.trans (hb2.mono HB1.out.size)); have hh := Holds.new w2 25 #[.int .i64 V1, .int .i64 V2]; have HB3 := Lib.hid (HB2.out.alloc HB2.out.size (.cells #[.int .i64 V1, .int .i64 V2] 25)); have c0 := hh.cell 0; have c1' := hh.cell 1; clear hb2 hb1 hh))
      | ((go_at_call 14; refine (HRM.out _).mono ?_; rintro e w' ⟨rfl, rfl⟩))
      | ((go_at_call 15; refine (HOv.out _).mono ?_; rintro e w' ⟨rfl, rfl⟩)))
    go_ret
    exact ⟨rfl, hb1⟩
  have d3 : decide ((100 : Int) < (n1 : Int)) = false := decide_eq_false (by omega)
  obtain ⟨L, hL, _⟩ := trow_of_flat w1
  have HL := Lib.hid hL
  clear w1 hL
  obtain ⟨b1, b2, b3, b4, b5⟩ := of_bd a0 L
  obtain ⟨V, hV⟩ : ∃ V, ofV a0 L = V := ⟨_, rfl⟩
  obtain ⟨V1, V2⟩ := V
  have hof := fun W (hW : Below w.heap.size w W) => slope_of a0 W 0 A1 n1 c1 L (HL.out.below hW)
  simp only [hV] at hof b1 b2 b3 b4 b5
  unfold slV at hof
  dsimp only at hof
  have hrm := fun W => rmost_any a0 W
  obtain ⟨v1, v2⟩ := dV_bd a0
  obtain ⟨M1, hM1⟩ : ∃ M, 2 * dV a0 = M := ⟨_, rfl⟩
  obtain ⟨M2, hM2⟩ : ∃ M, 1000 - dV a0 = M := ⟨_, rfl⟩
  rw [hM1, hM2] at b5
  simp only [hM1, hM2] at hrm
  have wn := IntWalk.i64_in (-V1) (by omega)
  have hX0 : 0 ≤ max V1 (-V1) := by omega
  have hX1 : max V1 (-V1) ≤ 2251799813685248 := by omega
  obtain ⟨X, hX⟩ : ∃ X, max V1 (-V1) = X := ⟨_, rfl⟩
  rw [hX] at b5 hX0 hX1
  have hov := fun W => over_bits X V2 M1 M2 W hX0 (by omega) (by omega) (by omega) (by omega) (by omega)
  simp only [decide_eq_false b5] at hov
  have e1 : decide (V2 < 1) = false := decide_eq_false (by omega)
  have e2 : decide (V1 < -1152921504606846976) = false := decide_eq_false (by omega)
  have e3 : decide (1152921504606846976 < V1) = false := decide_eq_false (by omega)
  have HOf := Lib.hid hof
  have HRM := Lib.hid hrm
  have HOv := Lib.hid hov
  clear hof hrm hov hV hM1 hM2 b1 b2 b3 b4 b5 hX0 hX1 v1 v2
  go_enter Try.func4, Try.ntmps4
  go_wp2_with (first
    | ((go_at_call 9; refine (alive_yes _).mono ?_; rintro e w1 ⟨rfl, hb1⟩; try have HB1 := Lib.hid hb1))
    | ((go_at_call 10; refine (HOf.out _ HB1.out).mono ?_; rintro e w2 ⟨rfl, hb2⟩; have HB2 := Lib.hid (HB1.out.trans (hb2.mono HB1.out.size)); have hh := Holds.new w2 25 #[.int .i64 V1, .int .i64 V2]; have HB3 := Lib.hid (HB2.out.alloc HB2.out.size (.cells #[.int .i64 V1, .int .i64 V2] 25)); have c0 := hh.cell 0; have c1' := hh.cell 1; clear hb2 hb1 hh))
    | ((go_at_call 14; refine (HRM.out _).mono ?_; rintro e w' ⟨rfl, rfl⟩))
    | ((go_at_call 15; refine (HOv.out _).mono ?_; rintro e w' ⟨rfl, rfl⟩)))
  go_ret
  exact ⟨rfl, HB3.out⟩

set_option maxRecDepth 100000 in
theorem lifted (os : Os) (started : os.Started) (H : Type) (enc : TypeId × Value → H) :
    ReturnsInHanded {} Try.checked os 4 .any (Rows.slopeBoundSpec.pre6 enc Try.prog Try.f4 Rows.slopeBoundRow.domain false) (Rows.slopeBoundSpec.post enc Try.prog Try.f4 false true false false) := by
  refine returnsInHanded_of_change (C := Try.checked) own started (by kernel_rfl) Try.func4
    (ChangeSpec.witness6 (enc := enc) (C := Try.checked) false ⟨#[], #[.int .i64 0, .slice none 0 0], []⟩ 8 (by kernel_rfl) (by kernel_rfl) (by kernel_rfl) (by kernel_rfl)) ?_
  intro W base args ds gs before hval0 hW hcnd _
  have hval : ∀ (j : Nat) t v, Try.f4.params[j]? = some t → args[j]? = some v → Value.okWide Try.prog W .any base t v := hval0
  have hW' := hW
  obtain ⟨p, q, hA0, hV, rfl, hfz, hnd⟩ := hW
  have hA : DataW.TrodAll enc Try.prog W 0 (fun _ => true) true Try.f4.params.toList args.toList ds p := hA0
  have hAk := hA
  rw [Try.params4] at hA hval
  obtain ⟨v0, vs0, d0, ds0, p0, q0, hargs, rfl, hp, h0, r0⟩ := trodAll_cons hA
  obtain ⟨v1, vs1, d1, ds1, p1, q1, rfl, rfl, rfl, h1, r1⟩ := trodAll_cons r0
  obtain ⟨rfl, rfl, rfl⟩ := trodAll_nil r1
  obtain rfl : args = #[v0, v1] := by cases args; simp_all
  obtain ⟨rfl, rfl⟩ := trodVars_none hV
  clear hA0 hval0 hargs
  simp only [List.append_nil] at hW'
  have hend : ∀ W' : World, Below W.heap.size W W' → Rows.slopeBoundSpec.post enc Try.prog Try.f4 false true false false W #[v0, v1] (.bool true) W' := fun W' hb =>
    law_post (tb := 4) hW' hAk rfl (by kernel_rfl) (by kernel_rfl) (by kernel_rfl) Try.underlying4 rfl rfl rfl hb
  clear hW' hAk hp
  obtain ⟨a0, rfl, rfl, rfl, w0⟩ := open_int Try.underlying3 (hval 0 3 v0 rfl rfl) h0
  obtain ⟨A1, n1, c1, f1, rfl, w1⟩ := flats_arg (ks := [.int .i64, .int .i64, .int .i64]) 9 Try.underlying22 (by kernel_rfl) (by kernel_rfl) (by decide) (hval 1 22 v1 rfl rfl) h1
  refine (walk a0 A1 n1 c1 f1 W w0 w1).mono fun e W' ⟨he, hg⟩ => ?_
  subst he
  exact ⟨_, rfl, hend W' hg⟩

theorem over : Rows.slopeBoundRow.holds Try.pinned (OpenSpec.ofChange Rows.slopeBoundSpec) :=
  OpenClaim.holds_of_wide 4 Try.f4 rfl rfl rfl rfl rfl rfl rfl ⟨rfl, rfl, rfl, rfl, rfl⟩ rfl rfl rfl rfl rfl (by kernel_rfl) Try.func4 (by kernel_rfl)
    (of_decide_eq_true (by kernel_rfl)) (by unfold Func.isWrapper; first | (rw [if_pos (by decide +kernel)]; kernel_rfl) | (rw [if_neg (by decide +kernel)]; exact ⟨rfl, rfl⟩))
    (fun os started H enc _ => lifted os started H enc)

/-- THE STATEMENT -/
theorem proved : Rows.SlopeBoundSaid :=
  over
#print axioms proved
end Go.Proofs.Ytcgnedndfhkgiaa.slopeBound
