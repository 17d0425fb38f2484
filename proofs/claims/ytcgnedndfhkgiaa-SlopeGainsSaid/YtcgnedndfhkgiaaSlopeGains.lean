/-
  Gain answers what the document's answer, of every fraction and number, and the greatest fraction of a drift gains 2 d in each 1000 - d ticks: for every fraction, number, drift and count of rounds the law answers true; without conditions.
  The walk is the prover's own; the frame of the row's step follows the kit's template.
-/
import Derived.Test.YtcgnedndfhkgiaaRows
import Derived.Test.YtcgnedndfhkgiaaLawKit
import Derived.Test.YtcgnedndfhkgiaaStructArg
import Derived.Test.YtcgnedndfhkgiaaSpH
import Derived.Test.YtcgnedndfhkgiaaSpI
import Derived.LoopTactic
import Derived.Deep.CutBlock
import Derived.BigQuiet
namespace Go.Proofs.Ytcgnedndfhkgiaa.slopeGains
open Go.ChangeShapes Go.WideShapes Go.ChangeAt Go.RowKit Go.ChangeMaps Go.WideElems
set_option linter.unusedVariables false

theorem split2 {ns : List Int} (h : ns.length = 2) : ∃ s0_0 s0_1 : Int, ns = [s0_0, s0_1] := by
  match ns, h with
  | [y0, y1], _ => exact ⟨_, _, rfl⟩
theorem own : ownKnob Try.prog.godebug = none := by kernel_rfl
theorem gain_most {c e r : Int} (he : 1 ≤ e) (h1 : -9223372036854775808 ≤ r * c) (h2 : r * c ≤ 9223372036854775807) : gainV c e (r * e) = r * c := by
  have hd : c * (r * e) / e = r * c := by
    rw [show c * (r * e) = r * c * e by grind]
    exact Int.mul_ediv_cancel _ (by omega)
  unfold gainV
  rw [hd, if_pos ⟨he, h1, h2⟩]
set_option linter.unusedSimpArgs false in
set_option maxHeartbeats 4000000 in
set_option maxRecDepth 100000 in
theorem walk (s0_0 s0_1 : Int) (a1 : Int) (a2 : Int) (a3 : Int) (w : World) (w0_0 : (Lit.int .i64 s0_0).wf = true) (w0_1 : (Lit.int .i64 s0_1).wf = true) (w1 : (Lit.int .i64 a1).wf = true) (w2 : (Lit.int .i64 a2).wf = true) (w3 : (Lit.int .i64 a3).wf = true) :
    Calls Try.prog 7 #[.agg #[.int .i64 s0_0, .int .i64 s0_1], .int .i64 a1, .int .i64 a2, .int .i64 a3] w fun e w' => e = .returned (.bool true) ∧ Below w.heap.size w w' := by
  have f0 := fits_wf w0_0
  have f1 := fits_wf w0_1
  have f2 := fits_wf w1
  have hg := fun W => gain_any s0_0 s0_1 a1 W f0 f1 f2
  have hrg := fun W => rgain_any s0_0 s0_1 a1 W f0 f1 f2
  obtain ⟨G, hG⟩ : ∃ G, gainV s0_0 s0_1 a1 = G := ⟨_, rfl⟩
  simp only [hG] at hg hrg
  have hne : (G != G) = false := by simp
  have hm := fun W => most_any a2 W
  have hrm := fun W => rmost_any a2 W
  obtain ⟨v1, v2⟩ := dV_bd a2
  obtain ⟨M1, hM1⟩ : ∃ M, 2 * dV a2 = M := ⟨_, rfl⟩
  obtain ⟨M2, hM2⟩ : ∃ M, 1000 - dV a2 = M := ⟨_, rfl⟩
  simp only [hM1, hM2] at hm hrm
  have HG := Lib.hid hg
  have HRG := Lib.hid hrg
  have HM := Lib.hid hm
  have HRM := Lib.hid hrm
  have HB := Lib.hid (Box.start w 25 #[.int .i64 s0_0, .int .i64 s0_1])
  have hM1b : 0 ≤ M1 ∧ M1 ≤ 20 := by omega
  have hM2b : 990 ≤ M2 ∧ M2 ≤ 1000 := by omega
  clear hg hrg hm hrm hG hM1 hM2 v1 v2 w0_0 w0_1 w1 w2
  go_enter Try.func7, Try.ntmps7
  go_upto_region 3 with (go_at_call 9; refine (alive_yes _).mono ?_; rintro e w4 ⟨rfl, hb4⟩; have HB4 := Lib.hid (HB.out.next hb4); clear hb4)
  refine region_turns (fun (w' : World) => w'.cell? ⟨w.heap.size, 0, none⟩ = some (.int .i64 s0_0) ∧ w'.cell? ⟨w.heap.size, 1, none⟩ = some (.int .i64 s0_1) ∧ Box w 25 #[.int .i64 s0_0, .int .i64 s0_1] w') (fun j => decide (10 ≤ j)) (by kernel_rfl) (⟨HB4.out.drew.holds.cell 0, HB4.out.drew.holds.cell 1, HB4.out.drew⟩) (fun hS => ?_)
  refine Turns.take hS 0 _ rfl (by kernel_rfl) (by kernel_rfl) (by kernel_rfl) (by kernel_rfl) (fun _ _ _ h => h) (by rfl) (fun w' hS' => by (try dsimp only at hS'); go_split_ands; go_simp; (try with_reducible rfl)) ?_
  simp only [Act.put, List.getElem_toArray, List.getElem_cons_succ, List.getElem_cons_zero, List.setIfInBounds_toArray, List.set_cons_zero, List.set_cons_succ]
  refine Turns.take hS 1 _ rfl (by kernel_rfl) (by kernel_rfl) (by kernel_rfl) (by kernel_rfl) (fun _ _ _ h => h) (by rfl) (fun w' hS' => by (try dsimp only at hS'); go_split_ands; go_simp; (try with_reducible rfl)) ?_
  simp only [Act.put, List.getElem_toArray, List.getElem_cons_succ, List.getElem_cons_zero, List.setIfInBounds_toArray, List.set_cons_zero, List.set_cons_succ]
  refine Turns.take hS 3 _ rfl (by kernel_rfl) (by kernel_rfl) (by kernel_rfl) (by kernel_rfl) (fun _ _ _ h => h) (by rfl) (fun w' hS' => by (try dsimp only at hS'); go_split_ands; go_simp; (try with_reducible rfl)) ?_
  simp only [Act.put, List.getElem_toArray, List.getElem_cons_succ, List.getElem_cons_zero, List.setIfInBounds_toArray, List.set_cons_zero, List.set_cons_succ]
  refine Turns.take hS 4 _ rfl (by kernel_rfl) (by kernel_rfl) (by kernel_rfl) (by kernel_rfl) (fun _ _ _ h => h) (by rfl) (fun w' hS' => by (try dsimp only at hS'); go_split_ands; go_simp; (try with_reducible rfl)) ?_
  simp only [Act.put, List.getElem_toArray, List.getElem_cons_succ, List.getElem_cons_zero, List.setIfInBounds_toArray, List.set_cons_zero, List.set_cons_succ]
  refine Turns.take hS 5 _ rfl (by kernel_rfl) (by kernel_rfl) (by kernel_rfl) (by kernel_rfl) (fun _ _ _ h => h) (by rfl) (fun w' hS' => by (try dsimp only at hS'); go_split_ands; go_simp; (try with_reducible rfl)) ?_
  simp only [Act.put, List.getElem_toArray, List.getElem_cons_succ, List.getElem_cons_zero, List.setIfInBounds_toArray, List.set_cons_zero, List.set_cons_succ]
  refine Turns.take hS 6 _ rfl (by kernel_rfl) (by kernel_rfl) (by kernel_rfl) (by kernel_rfl) (fun _ _ _ h => h) (by rfl) (fun w' hS' => by (try dsimp only at hS'); go_split_ands; go_simp; (try with_reducible rfl)) ?_
  simp only [Act.put, List.getElem_toArray, List.getElem_cons_succ, List.getElem_cons_zero, List.setIfInBounds_toArray, List.set_cons_zero, List.set_cons_succ]
  refine Turns.take hS 7 _ rfl (by kernel_rfl) (by kernel_rfl) (by kernel_rfl) (by kernel_rfl) (fun _ _ _ h => h) (by rfl) (fun w' hS' => by (try dsimp only at hS'); go_split_ands; go_simp; (try with_reducible rfl)) ?_
  simp only [Act.put, List.getElem_toArray, List.getElem_cons_succ, List.getElem_cons_zero, List.setIfInBounds_toArray, List.set_cons_zero, List.set_cons_succ]
  refine Turns.next 2 rfl (by kernel_rfl) (by rfl) (fun K hK => ?_)
  go_simp
  go_at_call 17
  refine (HG.out _).mono ?_
  rintro e w5 ⟨rfl, hb5⟩
  try replace HX := Lib.hid (hS.2.2.next hb5)
  have HX := Lib.hid (hS.2.2.next hb5)
  refine hK.out _ _ (show (fun (w' : World) => w'.cell? ⟨w.heap.size, 0, none⟩ = some (.int .i64 s0_0) ∧ w'.cell? ⟨w.heap.size, 1, none⟩ = some (.int .i64 s0_1) ∧ Box w 25 #[.int .i64 s0_0, .int .i64 s0_1] w') _ from ⟨HX.out.holds.cell 0, HX.out.holds.cell 1, HX.out⟩) ?_
  clear hK K hS
  have hS := (show (fun (w' : World) => w'.cell? ⟨w.heap.size, 0, none⟩ = some (.int .i64 s0_0) ∧ w'.cell? ⟨w.heap.size, 1, none⟩ = some (.int .i64 s0_1) ∧ Box w 25 #[.int .i64 s0_0, .int .i64 s0_1] w') _ from ⟨HX.out.holds.cell 0, HX.out.holds.cell 1, HX.out⟩)
  refine Turns.next 8 rfl (by kernel_rfl) (by rfl) (fun K hK => ?_)
  go_simp
  go_at_call 18
  refine (HRG.out _).mono ?_
  rintro e w6 ⟨rfl, hb6⟩
  have HX := Lib.hid (hS.2.2.next hb6)
  refine hK.out _ _ (show (fun (w' : World) => w'.cell? ⟨w.heap.size, 0, none⟩ = some (.int .i64 s0_0) ∧ w'.cell? ⟨w.heap.size, 1, none⟩ = some (.int .i64 s0_1) ∧ Box w 25 #[.int .i64 s0_0, .int .i64 s0_1] w') _ from ⟨HX.out.holds.cell 0, HX.out.holds.cell 1, HX.out⟩) ?_
  clear hK K hS
  have hS := (show (fun (w' : World) => w'.cell? ⟨w.heap.size, 0, none⟩ = some (.int .i64 s0_0) ∧ w'.cell? ⟨w.heap.size, 1, none⟩ = some (.int .i64 s0_1) ∧ Box w 25 #[.int .i64 s0_0, .int .i64 s0_1] w') _ from ⟨HX.out.holds.cell 0, HX.out.holds.cell 1, HX.out⟩)
  refine Turns.take hS 9 _ rfl (by kernel_rfl) (by kernel_rfl) (by kernel_rfl) (by kernel_rfl) (fun _ _ _ h => h) (by rfl) (fun w' hS' => by (try dsimp only at hS'); go_split_ands; go_simp; (try with_reducible rfl)) ?_
  simp only [Act.put, List.getElem_toArray, List.getElem_cons_succ, List.getElem_cons_zero, List.setIfInBounds_toArray, List.set_cons_zero, List.set_cons_succ]
  refine Turns.rest (late_done (by kernel_rfl)) ?_
  refine any_tail 10 (by rfl) (by kernel_rfl) ?_
  simp only [List.drop_succ_cons, List.drop_zero]
  clear hS
  have HY := Lib.hid HX.out.below
  clear HX HB4 HB HG HRG
  by_cases r1 : a3 < 0
  · go_wp2_with (first
      | ((go_at_call 14; refine (HRM.out _).mono ?_; rintro e w' ⟨rfl, rfl⟩))
      | ((go_at_call 13; refine (HM.out _).mono ?_; rintro e w7 ⟨rfl, hb7⟩; have HY7 := Lib.hid (HY.out.trans (hb7.mono HY.out.size)); clear hb7))
      | ((go_at_call 17; refine (HGM.out _).mono ?_; rintro e w8 ⟨rfl, hb8⟩; have HZ := Lib.hid (HY7.out.trans (hb8.mono HY7.out.size)); clear hb8)))
    go_ret
    exact ⟨rfl, HY.out⟩
  have r1' : decide (a3 < 0) = false := decide_eq_false r1
  by_cases r2 : 1099511627776 < a3
  · go_wp2_with (first
      | ((go_at_call 14; refine (HRM.out _).mono ?_; rintro e w' ⟨rfl, rfl⟩))
      | ((go_at_call 13; refine (HM.out _).mono ?_; rintro e w7 ⟨rfl, hb7⟩; have HY7 := Lib.hid (HY.out.trans (hb7.mono HY.out.size)); clear hb7))
      | ((go_at_call 17; refine (HGM.out _).mono ?_; rintro e w8 ⟨rfl, hb8⟩; have HZ := Lib.hid (HY7.out.trans (hb8.mono HY7.out.size)); clear hb8)))
    go_ret
    exact ⟨rfl, HY.out⟩
  have r2' : decide (1099511627776 < a3) = false := decide_eq_false r2
  obtain ⟨p1, p2⟩ := prod_bd (x := a3) (y := M1) (m := 1099511627776) (k := 20) ⟨by omega, by omega⟩ ⟨by omega, by omega⟩
  obtain ⟨p3, p4⟩ := prod_bd (x := a3) (y := M2) (m := 1099511627776) (k := 1000) ⟨by omega, by omega⟩ ⟨by omega, by omega⟩
  have wm1 := IntWalk.i64_in (a3 * M1) (by omega)
  have wm2 := IntWalk.i64_in (a3 * M2) (by omega)
  have hgm := fun W => gain_any M1 M2 (a3 * M2) W ⟨by omega, by omega⟩ ⟨by omega, by omega⟩ ⟨by omega, by omega⟩
  rw [gain_most (by omega) (by omega) (by omega)] at hgm
  obtain ⟨X, hX⟩ : ∃ X, a3 * M1 = X := ⟨_, rfl⟩
  obtain ⟨Y, hY⟩ : ∃ Y, a3 * M2 = Y := ⟨_, rfl⟩
  simp only [hX, hY] at hgm wm1 wm2
  have hee : (X == X) = true := by simp
  have HGM := Lib.hid hgm
  clear hgm p1 p2 p3 p4
  go_wp2_with (first
    | ((go_at_call 14; refine (HRM.out _).mono ?_; rintro e w' ⟨rfl, rfl⟩))
    | ((go_at_call 13; refine (HM.out _).mono ?_; rintro e w7 ⟨rfl, hb7⟩; have HY7 := Lib.hid (HY.out.trans (hb7.mono HY.out.size)); clear hb7))
    | ((go_at_call 17; refine (HGM.out _).mono ?_; rintro e w8 ⟨rfl, hb8⟩; have HZ := Lib.hid (HY7.out.trans (hb8.mono HY7.out.size)); clear hb8)))
  go_ret
  exact ⟨rfl, HZ.out⟩

set_option maxRecDepth 100000 in
theorem lifted (os : Os) (started : os.Started) (H : Type) (enc : TypeId × Value → H) :
    ReturnsInHanded {} Try.checked os 7 .any (Rows.slopeGainsSpec.pre6 enc Try.prog Try.f7 Rows.slopeGainsRow.domain false) (Rows.slopeGainsSpec.post enc Try.prog Try.f7 false true false false) := by
  refine returnsInHanded_of_change (C := Try.checked) own started (by kernel_rfl) Try.func7
    (ChangeSpec.witness6 (enc := enc) (C := Try.checked) false ⟨#[], #[.agg #[.int .i64 0, .int .i64 0], .int .i64 0, .int .i64 0, .int .i64 0], []⟩ 8 (by kernel_rfl) (by kernel_rfl) (by kernel_rfl) (by kernel_rfl)) ?_
  intro W base args ds gs before hval0 hW hcnd _
  have hval : ∀ (j : Nat) t v, Try.f7.params[j]? = some t → args[j]? = some v → Value.okWide Try.prog W .any base t v := hval0
  have hW' := hW
  obtain ⟨p, q, hA0, hV, rfl, hfz, hnd⟩ := hW
  have hA : DataW.TrodAll enc Try.prog W 0 (fun _ => true) true Try.f7.params.toList args.toList ds p := hA0
  have hAk := hA
  rw [Try.params7] at hA hval
  obtain ⟨v0, vs0, d0, ds0, p0, q0, hargs, rfl, hp, h0, r0⟩ := trodAll_cons hA
  obtain ⟨v1, vs1, d1, ds1, p1, q1, rfl, rfl, rfl, h1, r1⟩ := trodAll_cons r0
  obtain ⟨v2, vs2, d2, ds2, p2, q2, rfl, rfl, rfl, h2, r2⟩ := trodAll_cons r1
  obtain ⟨v3, vs3, d3, ds3, p3, q3, rfl, rfl, rfl, h3, r3⟩ := trodAll_cons r2
  obtain ⟨rfl, rfl, rfl⟩ := trodAll_nil r3
  obtain rfl : args = #[v0, v1, v2, v3] := by cases args; simp_all
  obtain ⟨rfl, rfl⟩ := trodVars_none hV
  clear hA0 hval0 hargs
  simp only [List.append_nil] at hW'
  have hend : ∀ W' : World, Below W.heap.size W W' → Rows.slopeGainsSpec.post enc Try.prog Try.f7 false true false false W #[v0, v1, v2, v3] (.bool true) W' := fun W' hb =>
    law_post (tb := 4) hW' hAk rfl (by kernel_rfl) (by kernel_rfl) (by kernel_rfl) Try.underlying4 rfl rfl rfl hb
  clear hW' hAk hp
  obtain ⟨ns0, rfl, hl0, hw0⟩ := ints_struct (ks := [.i64, .i64]) Try.underlying25 (by kernel_rfl) (by kernel_rfl) (by kernel_rfl) (hval 0 25 v0 rfl rfl) h0
  obtain ⟨s0_0, s0_1, rfl⟩ := split2 hl0
  clear hl0
  obtain ⟨a1, rfl, rfl, rfl, w1⟩ := open_int Try.underlying3 (hval 1 3 v1 rfl rfl) h1
  obtain ⟨a2, rfl, rfl, rfl, w2⟩ := open_int Try.underlying3 (hval 2 3 v2 rfl rfl) h2
  obtain ⟨a3, rfl, rfl, rfl, w3⟩ := open_int Try.underlying3 (hval 3 3 v3 rfl rfl) h3
  refine (walk s0_0 s0_1 a1 a2 a3 W (hw0 0 _ _ rfl rfl) (hw0 1 _ _ rfl rfl) w1 w2 w3).mono fun e W' ⟨he, hg⟩ => ?_
  subst he
  exact ⟨_, rfl, hend W' hg⟩

theorem over : Rows.slopeGainsRow.holds Try.pinned (OpenSpec.ofChange Rows.slopeGainsSpec) :=
  OpenClaim.holds_of_wide 7 Try.f7 rfl rfl rfl rfl rfl rfl rfl ⟨rfl, rfl, rfl, rfl, rfl⟩ rfl rfl rfl rfl rfl (by kernel_rfl) Try.func7 (by kernel_rfl)
    (of_decide_eq_true (by kernel_rfl)) (by unfold Func.isWrapper; first | (rw [if_pos (by decide +kernel)]; kernel_rfl) | (rw [if_neg (by decide +kernel)]; exact ⟨rfl, rfl⟩))
    (fun os started H enc _ => lifted os started H enc)

/-- THE STATEMENT -/
theorem proved : Rows.SlopeGainsSaid :=
  over
#print axioms proved
end Go.Proofs.Ytcgnedndfhkgiaa.slopeGains
