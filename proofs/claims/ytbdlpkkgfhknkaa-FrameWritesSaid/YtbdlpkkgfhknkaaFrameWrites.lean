/-
  Good, Encode and Sender answer what the document says: for all frames, of every kind and of none.
  The walk is the prover's own; the frame of the row's step follows the kit's template.
-/
import Derived.Test.YtbdlpkkgfhknkaaRows
import Derived.Test.YtbdlpkkgfhknkaaLawKit
import Derived.Test.YtbdlpkkgfhknkaaStructArg
import Derived.Test.YtbdlpkkgfhknkaaFrmX
import Derived.Test.YtbdlpkkgfhknkaaFrmI
import Derived.Test.YtbdlpkkgfhknkaaTurn
import Derived.Deep.RegionHeld3
namespace Go.Proofs.Ytbdlpkkgfhknkaa.frameWrites
open Go.ChangeShapes Go.WideShapes Go.ChangeAt Go.RowKit Go.ChangeMaps Go.WideElems
set_option linter.unusedVariables false

theorem split14 {ns : List Int} (h : ns.length = 14) : ∃ s0_0 s0_1 s0_2 s0_3 s0_4 s0_5 s0_6 s0_7 s0_8 s0_9 s0_10 s0_11 s0_12 s0_13 : Int, ns = [s0_0, s0_1, s0_2, s0_3, s0_4, s0_5, s0_6, s0_7, s0_8, s0_9, s0_10, s0_11, s0_12, s0_13] := by
  match ns, h with
  | [y0, y1, y2, y3, y4, y5, y6, y7, y8, y9, y10, y11, y12, y13], _ => exact ⟨_, _, _, _, _, _, _, _, _, _, _, _, _, _, rfl⟩
theorem own : ownKnob Try.prog.godebug = none := by kernel_rfl
open Go.Shelf
set_option linter.unusedSimpArgs false in
set_option maxHeartbeats 8000000 in
set_option maxRecDepth 100000 in
theorem none_at_all (s0_0 s0_1 s0_2 s0_3 s0_4 s0_5 s0_6 s0_7 s0_8 s0_9 s0_10 s0_11 s0_12 s0_13 : Int) (w : World) (w0_0 : (Lit.int .i64 s0_0).wf = true) (w0_1 : (Lit.int .i64 s0_1).wf = true) (w0_2 : (Lit.int .i64 s0_2).wf = true) (w0_3 : (Lit.int .i64 s0_3).wf = true) (w0_4 : (Lit.int .u16 s0_4).wf = true) (w0_5 : (Lit.int .u16 s0_5).wf = true) (w0_6 : (Lit.int .i64 s0_6).wf = true) (w0_7 : (Lit.int .i64 s0_7).wf = true) (w0_8 : (Lit.int .i64 s0_8).wf = true) (w0_9 : (Lit.int .i64 s0_9).wf = true) (w0_10 : (Lit.int .i64 s0_10).wf = true) (w0_11 : (Lit.int .i64 s0_11).wf = true) (w0_12 : (Lit.int .i64 s0_12).wf = true) (w0_13 : (Lit.int .i64 s0_13).wf = true) (hfn : (⟨s0_0, s0_1, s0_2, s0_3, s0_4, s0_5, s0_6, s0_7, s0_8, s0_9, s0_10, s0_11, s0_12, s0_13⟩ : Pl).fr = none) :
    Calls Try.prog 3 #[.agg #[.int .i64 s0_0, .int .i64 s0_1, .int .i64 s0_2, .int .i64 s0_3, .int .u16 s0_4, .int .u16 s0_5, .int .i64 s0_6, .int .i64 s0_7, .int .i64 s0_8, .int .i64 s0_9, .int .i64 s0_10, .int .i64 s0_11, .int .i64 s0_12, .int .i64 s0_13]] w fun e w' => e = .returned (.bool true) ∧ Below w.heap.size w w' := by
  have hp : (⟨s0_0, s0_1, s0_2, s0_3, s0_4, s0_5, s0_6, s0_7, s0_8, s0_9, s0_10, s0_11, s0_12, s0_13⟩ : Pl).wf := ⟨fits_wf w0_0, fits_wf w0_1, fits_wf w0_2, fits_wf w0_3, f16_wf w0_4, f16_wf w0_5, fits_wf w0_6, fits_wf w0_7, fits_wf w0_8, fits_wf w0_9, fits_wf w0_10, fits_wf w0_11, fits_wf w0_12, fits_wf w0_13⟩
  have hofp := fun W => lawof_any (⟨s0_0, s0_1, s0_2, s0_3, s0_4, s0_5, s0_6, s0_7, s0_8, s0_9, s0_10, s0_11, s0_12, s0_13⟩ : Pl) W
  simp only [Pl.val] at hofp
  have HBOX := Lib.hid (Holds.new w 24 #[.int .i64 s0_0, .int .i64 s0_1, .int .i64 s0_2, .int .i64 s0_3, .int .u16 s0_4, .int .u16 s0_5, .int .i64 s0_6, .int .i64 s0_7, .int .i64 s0_8, .int .i64 s0_9, .int .i64 s0_10, .int .i64 s0_11, .int .i64 s0_12, .int .i64 s0_13])
  have HB0 := Lib.hid (below_alloc w (.cells #[.int .i64 s0_0, .int .i64 s0_1, .int .i64 s0_2, .int .i64 s0_3, .int .u16 s0_4, .int .u16 s0_5, .int .i64 s0_6, .int .i64 s0_7, .int .i64 s0_8, .int .i64 s0_9, .int .i64 s0_10, .int .i64 s0_11, .int .i64 s0_12, .int .i64 s0_13] 24))
  have hnil := nil_neq
  have hfp : ¬ (∃ f, (⟨s0_0, s0_1, s0_2, s0_3, s0_4, s0_5, s0_6, s0_7, s0_8, s0_9, s0_10, s0_11, s0_12, s0_13⟩ : Pl).fr = some f ∧ f.good = true) := fun ⟨f, h, _⟩ => by rw [hfn] at h; cases h
  have hrg : ∀ W, Calls Try.prog 13 #[.agg #[.int .i64 s0_0, .int .i64 s0_1, .int .i64 s0_2, .int .i64 s0_3, .int .u16 s0_4, .int .u16 s0_5, .int .i64 s0_6, .int .i64 s0_7, .int .i64 s0_8, .int .i64 s0_9, .int .i64 s0_10, .int .i64 s0_11, .int .i64 s0_12, .int .i64 s0_13]] W (Told (.bool false) W) := fun W => by
    have h := rgood_any (⟨s0_0, s0_1, s0_2, s0_3, s0_4, s0_5, s0_6, s0_7, s0_8, s0_9, s0_10, s0_11, s0_12, s0_13⟩ : Pl) W hp
    rw [canBe_no hfp] at h
    exact h
  have hge := enc_no (⟨s0_0, s0_1, s0_2, s0_3, s0_4, s0_5, s0_6, s0_7, s0_8, s0_9, s0_10, s0_11, s0_12, s0_13⟩ : Pl) hp hfp
  rw [hfn] at hge hofp
  have hge : ∀ W, Calls Try.prog 11 #[.nilIface] W (EncNo W) := hge
  have hgd : ∀ W, Calls Try.prog 12 #[.nilIface] W (Told (.bool false) W) := good_nil
  have hof : ∀ W, Calls Try.prog 10 #[.agg #[.int .i64 s0_0, .int .i64 s0_1, .int .i64 s0_2, .int .i64 s0_3, .int .u16 s0_4, .int .u16 s0_5, .int .i64 s0_6, .int .i64 s0_7, .int .i64 s0_8, .int .i64 s0_9, .int .i64 s0_10, .int .i64 s0_11, .int .i64 s0_12, .int .i64 s0_13]] W fun e w' => e = .returned .nilIface ∧ Below W.heap.size W w' := hofp
  clear hofp hp hfp hfn w0_0 w0_1 w0_2 w0_3 w0_4 w0_5 w0_6 w0_7 w0_8 w0_9 w0_10 w0_11 w0_12 w0_13
  go_enter Try.func3, Try.ntmps3
  go_wp2_with (first
    | (go_at_call 9; (with_reducible refine (alive_yes _).mono ?_); rintro e w1 ⟨rfl, hb1⟩; have HB1 := Lib.hid (below_on HB0.out hb1); have HX := Lib.hid (HBOX.out.below hb1 HBOX.out.lt); have HC := Lib.hid (plain_cells HX.out); obtain ⟨k0, k1, k2, k3, k4, k5, k6, k7, k8, k9, k10, k11, k12, k13⟩ := HC.out)
    | (go_at_call 10; (with_reducible refine (hof _).mono ?_); rintro e w2 ⟨rfl, hb2⟩; have HB2 := Lib.hid (below_on HB1.out hb2); have HX2 := Lib.hid (HX.out.below hb2 HX.out.lt); clear k0 k1 k2 k3 k4 k5 k6 k7 k8 k9 k10 k11 k12 k13)
    | (go_at_call 11; (with_reducible refine (hge _).mono ?_); rintro e w3 ⟨rfl, hb3⟩; have HB3 := Lib.hid (below_on HB2.out hb3); have HX3 := Lib.hid (HX2.out.below hb3 HX2.out.lt)))
  refine region_turns (fun w' => w'.cell? ⟨w.heap.size, 0, none⟩ = some (.int .i64 s0_0) ∧ w'.cell? ⟨w.heap.size, 1, none⟩ = some (.int .i64 s0_1) ∧ w'.cell? ⟨w.heap.size, 2, none⟩ = some (.int .i64 s0_2) ∧ w'.cell? ⟨w.heap.size, 3, none⟩ = some (.int .i64 s0_3) ∧ w'.cell? ⟨w.heap.size, 4, none⟩ = some (.int .u16 s0_4) ∧ w'.cell? ⟨w.heap.size, 5, none⟩ = some (.int .u16 s0_5) ∧ w'.cell? ⟨w.heap.size, 6, none⟩ = some (.int .i64 s0_6) ∧ w'.cell? ⟨w.heap.size, 7, none⟩ = some (.int .i64 s0_7) ∧ w'.cell? ⟨w.heap.size, 8, none⟩ = some (.int .i64 s0_8) ∧ w'.cell? ⟨w.heap.size, 9, none⟩ = some (.int .i64 s0_9) ∧ w'.cell? ⟨w.heap.size, 10, none⟩ = some (.int .i64 s0_10) ∧ w'.cell? ⟨w.heap.size, 11, none⟩ = some (.int .i64 s0_11) ∧ w'.cell? ⟨w.heap.size, 12, none⟩ = some (.int .i64 s0_12) ∧ w'.cell? ⟨w.heap.size, 13, none⟩ = some (.int .i64 s0_13)) (fun j => decide (15 ≤ j)) (by kernel_rfl) (plain_cells (HX3.out.drewN 1)) (fun hS => ?_)
  refine Turns.take hS 0 (.nilIface) rfl (by kernel_rfl) (by kernel_rfl) (by kernel_rfl) (by kernel_rfl) (fun _ _ _ h => h) (by rfl) (fun w' hS' => by (try dsimp only at hS'); go_split_ands; go_simp) ?_
  simp only [Act.put, List.getElem_toArray, List.getElem_cons_succ, List.getElem_cons_zero, List.setIfInBounds_toArray, List.set_cons_zero, List.set_cons_succ]
  refine Turns.take hS 2 (.agg #[.int .i64 s0_0, .int .i64 s0_1, .int .i64 s0_2, .int .i64 s0_3, .int .u16 s0_4, .int .u16 s0_5, .int .i64 s0_6, .int .i64 s0_7, .int .i64 s0_8, .int .i64 s0_9, .int .i64 s0_10, .int .i64 s0_11, .int .i64 s0_12, .int .i64 s0_13]) rfl (by kernel_rfl) (by kernel_rfl) (by kernel_rfl) (by kernel_rfl) (fun _ _ _ h => h) (by rfl) (fun w' hS' => by (try dsimp only at hS'); go_split_ands; go_simp) ?_
  simp only [Act.put, List.getElem_toArray, List.getElem_cons_succ, List.getElem_cons_zero, List.setIfInBounds_toArray, List.set_cons_zero, List.set_cons_succ]
  refine Turns.next 1 rfl (by kernel_rfl) (by rfl) (fun K hK => ?_)
  go_simp
  refine (hgd _).mono ?_
  rintro e w5 ⟨rfl, hb5⟩
  have HB5 := Lib.hid (below_on HB3.out.drew hb5)
  have HX5 := Lib.hid ((HX3.out.drewN 1).below hb5 HX3.out.lt)
  have hS1 : w5.cell? ⟨w.heap.size, 0, none⟩ = some (.int .i64 s0_0) ∧ w5.cell? ⟨w.heap.size, 1, none⟩ = some (.int .i64 s0_1) ∧ w5.cell? ⟨w.heap.size, 2, none⟩ = some (.int .i64 s0_2) ∧ w5.cell? ⟨w.heap.size, 3, none⟩ = some (.int .i64 s0_3) ∧ w5.cell? ⟨w.heap.size, 4, none⟩ = some (.int .u16 s0_4) ∧ w5.cell? ⟨w.heap.size, 5, none⟩ = some (.int .u16 s0_5) ∧ w5.cell? ⟨w.heap.size, 6, none⟩ = some (.int .i64 s0_6) ∧ w5.cell? ⟨w.heap.size, 7, none⟩ = some (.int .i64 s0_7) ∧ w5.cell? ⟨w.heap.size, 8, none⟩ = some (.int .i64 s0_8) ∧ w5.cell? ⟨w.heap.size, 9, none⟩ = some (.int .i64 s0_9) ∧ w5.cell? ⟨w.heap.size, 10, none⟩ = some (.int .i64 s0_10) ∧ w5.cell? ⟨w.heap.size, 11, none⟩ = some (.int .i64 s0_11) ∧ w5.cell? ⟨w.heap.size, 12, none⟩ = some (.int .i64 s0_12) ∧ w5.cell? ⟨w.heap.size, 13, none⟩ = some (.int .i64 s0_13) := plain_cells HX5.out
  refine hK.out _ _ hS1 ?_
  clear hK K hS
  have hS := hS1
  clear hS1
  refine Turns.next 3 rfl (by kernel_rfl) (by rfl) (fun K hK => ?_)
  go_simp
  refine (hrg _).mono ?_
  rintro e w6 ⟨rfl, hb6⟩
  have HB6 := Lib.hid (below_on HB5.out hb6)
  have HX6 := Lib.hid (HX5.out.below hb6 HX5.out.lt)
  have hS3 : w6.cell? ⟨w.heap.size, 0, none⟩ = some (.int .i64 s0_0) ∧ w6.cell? ⟨w.heap.size, 1, none⟩ = some (.int .i64 s0_1) ∧ w6.cell? ⟨w.heap.size, 2, none⟩ = some (.int .i64 s0_2) ∧ w6.cell? ⟨w.heap.size, 3, none⟩ = some (.int .i64 s0_3) ∧ w6.cell? ⟨w.heap.size, 4, none⟩ = some (.int .u16 s0_4) ∧ w6.cell? ⟨w.heap.size, 5, none⟩ = some (.int .u16 s0_5) ∧ w6.cell? ⟨w.heap.size, 6, none⟩ = some (.int .i64 s0_6) ∧ w6.cell? ⟨w.heap.size, 7, none⟩ = some (.int .i64 s0_7) ∧ w6.cell? ⟨w.heap.size, 8, none⟩ = some (.int .i64 s0_8) ∧ w6.cell? ⟨w.heap.size, 9, none⟩ = some (.int .i64 s0_9) ∧ w6.cell? ⟨w.heap.size, 10, none⟩ = some (.int .i64 s0_10) ∧ w6.cell? ⟨w.heap.size, 11, none⟩ = some (.int .i64 s0_11) ∧ w6.cell? ⟨w.heap.size, 12, none⟩ = some (.int .i64 s0_12) ∧ w6.cell? ⟨w.heap.size, 13, none⟩ = some (.int .i64 s0_13) := plain_cells HX6.out
  refine hK.out _ _ hS3 ?_
  clear hK K hS
  have hS := hS3
  clear hS3
  refine Turns.take hS 4 (.bool false) rfl (by kernel_rfl) (by kernel_rfl) (by kernel_rfl) (by kernel_rfl) (fun _ _ _ h => h) (by rfl) (fun w' hS' => by (try dsimp only at hS'); go_split_ands; go_simp) ?_
  simp only [Act.put, List.getElem_toArray, List.getElem_cons_succ, List.getElem_cons_zero, List.setIfInBounds_toArray, List.set_cons_zero, List.set_cons_succ]
  refine Turns.take hS 5 (.bool false) rfl (by kernel_rfl) (by kernel_rfl) (by kernel_rfl) (by kernel_rfl) (fun _ _ _ h => h) (by rfl) (fun w' hS' => by (try dsimp only at hS'); go_split_ands; go_simp) ?_
  simp only [Act.put, List.getElem_toArray, List.getElem_cons_succ, List.getElem_cons_zero, List.setIfInBounds_toArray, List.set_cons_zero, List.set_cons_succ]
  refine Turns.take hS 6 (.nilIface) rfl (by kernel_rfl) (by kernel_rfl) (by kernel_rfl) (by kernel_rfl) (fun _ _ _ h => h) (by rfl) (fun w' hS' => by (try dsimp only at hS'); go_split_ands; go_simp) ?_
  simp only [Act.put, List.getElem_toArray, List.getElem_cons_succ, List.getElem_cons_zero, List.setIfInBounds_toArray, List.set_cons_zero, List.set_cons_succ]
  refine Turns.take hS 7 (.bool false) rfl (by kernel_rfl) (by kernel_rfl) (by kernel_rfl) (by kernel_rfl) (fun _ _ _ h => h) (by rfl) (fun w' hS' => by (try dsimp only at hS'); go_split_ands; go_simp) ?_
  simp only [Act.put, List.getElem_toArray, List.getElem_cons_succ, List.getElem_cons_zero, List.setIfInBounds_toArray, List.set_cons_zero, List.set_cons_succ]
  refine Turns.take hS 8 (.bool false) rfl (by kernel_rfl) (by kernel_rfl) (by kernel_rfl) (by kernel_rfl) (fun _ _ _ h => h) (by rfl) (fun w' hS' => by (try dsimp only at hS'); go_split_ands; go_simp) ?_
  simp only [Act.put, List.getElem_toArray, List.getElem_cons_succ, List.getElem_cons_zero, List.setIfInBounds_toArray, List.set_cons_zero, List.set_cons_succ]
  refine Turns.skip hS 9 rfl (by kernel_rfl) (by kernel_rfl) (by kernel_rfl) (by kernel_rfl) (fun _ _ _ h => h) (by rfl) ?_
  simp only [Act.put, List.getElem_toArray, List.getElem_cons_succ, List.getElem_cons_zero, List.setIfInBounds_toArray, List.set_cons_zero, List.set_cons_succ]
  refine Turns.skip hS 11 rfl (by kernel_rfl) (by kernel_rfl) (by kernel_rfl) (by kernel_rfl) (fun _ _ _ h => h) (by rfl) ?_
  simp only [Act.put, List.getElem_toArray, List.getElem_cons_succ, List.getElem_cons_zero, List.setIfInBounds_toArray, List.set_cons_zero, List.set_cons_succ]
  refine Turns.skip hS 12 rfl (by kernel_rfl) (by kernel_rfl) (by kernel_rfl) (by kernel_rfl) (fun _ _ _ h => h) (by rfl) ?_
  simp only [Act.put, List.getElem_toArray, List.getElem_cons_succ, List.getElem_cons_zero, List.setIfInBounds_toArray, List.set_cons_zero, List.set_cons_succ]
  refine Turns.skip hS 10 rfl (by kernel_rfl) (by kernel_rfl) (by kernel_rfl) (by kernel_rfl) (fun _ _ _ h => h) (by rfl) ?_
  simp only [Act.put, List.getElem_toArray, List.getElem_cons_succ, List.getElem_cons_zero, List.setIfInBounds_toArray, List.set_cons_zero, List.set_cons_succ]
  refine Turns.skip hS 13 rfl (by kernel_rfl) (by kernel_rfl) (by kernel_rfl) (by kernel_rfl) (fun _ _ _ h => h) (by rfl) ?_
  simp only [Act.put, List.getElem_toArray, List.getElem_cons_succ, List.getElem_cons_zero, List.setIfInBounds_toArray, List.set_cons_zero, List.set_cons_succ]
  refine Turns.take hS 14 (.bool false) rfl (by kernel_rfl) (by kernel_rfl) (by kernel_rfl) (by kernel_rfl) (fun _ _ _ h => h) (by rfl) (fun w' hS' => by (try dsimp only at hS'); go_split_ands; go_simp) ?_
  simp only [Act.put, List.getElem_toArray, List.getElem_cons_succ, List.getElem_cons_zero, List.setIfInBounds_toArray, List.set_cons_zero, List.set_cons_succ]
  refine Turns.rest (late_done (by kernel_rfl)) ?_
  refine any_tail 15 (by rfl) (by kernel_rfl) ?_
  simp only [List.drop_succ_cons, List.drop_zero]
  clear hS
  obtain ⟨k0, k1, k2, k3, k4, k5, k6, k7, k8, k9, k10, k11, k12, k13⟩ := plain_cells HX6.out
  go_wp2_with (first
    | (go_at_call 13; (with_reducible refine (hrg _).mono ?_); rintro e w8 ⟨rfl, hb8⟩; have HB8 := Lib.hid (below_on HB6.out hb8); have HX8 := Lib.hid (HX6.out.below hb8 HX6.out.lt)))
  go_ret
  exact ⟨rfl, HB8.out⟩

set_option linter.unusedSimpArgs false in
set_option maxHeartbeats 8000000 in
set_option maxRecDepth 100000 in
theorem a_bad_one (s0_0 s0_1 s0_2 s0_3 s0_4 s0_5 s0_6 s0_7 s0_8 s0_9 s0_10 s0_11 s0_12 s0_13 : Int) (w : World) (w0_0 : (Lit.int .i64 s0_0).wf = true) (w0_1 : (Lit.int .i64 s0_1).wf = true) (w0_2 : (Lit.int .i64 s0_2).wf = true) (w0_3 : (Lit.int .i64 s0_3).wf = true) (w0_4 : (Lit.int .u16 s0_4).wf = true) (w0_5 : (Lit.int .u16 s0_5).wf = true) (w0_6 : (Lit.int .i64 s0_6).wf = true) (w0_7 : (Lit.int .i64 s0_7).wf = true) (w0_8 : (Lit.int .i64 s0_8).wf = true) (w0_9 : (Lit.int .i64 s0_9).wf = true) (w0_10 : (Lit.int .i64 s0_10).wf = true) (w0_11 : (Lit.int .i64 s0_11).wf = true) (w0_12 : (Lit.int .i64 s0_12).wf = true) (w0_13 : (Lit.int .i64 s0_13).wf = true) (f : Fr) (hfrp : (⟨s0_0, s0_1, s0_2, s0_3, s0_4, s0_5, s0_6, s0_7, s0_8, s0_9, s0_10, s0_11, s0_12, s0_13⟩ : Pl).fr = some f) (hbad : f.good = false) :
    Calls Try.prog 3 #[.agg #[.int .i64 s0_0, .int .i64 s0_1, .int .i64 s0_2, .int .i64 s0_3, .int .u16 s0_4, .int .u16 s0_5, .int .i64 s0_6, .int .i64 s0_7, .int .i64 s0_8, .int .i64 s0_9, .int .i64 s0_10, .int .i64 s0_11, .int .i64 s0_12, .int .i64 s0_13]] w fun e w' => e = .returned (.bool true) ∧ Below w.heap.size w w' := by
  have hp : (⟨s0_0, s0_1, s0_2, s0_3, s0_4, s0_5, s0_6, s0_7, s0_8, s0_9, s0_10, s0_11, s0_12, s0_13⟩ : Pl).wf := ⟨fits_wf w0_0, fits_wf w0_1, fits_wf w0_2, fits_wf w0_3, f16_wf w0_4, f16_wf w0_5, fits_wf w0_6, fits_wf w0_7, fits_wf w0_8, fits_wf w0_9, fits_wf w0_10, fits_wf w0_11, fits_wf w0_12, fits_wf w0_13⟩
  have hofp := fun W => lawof_any (⟨s0_0, s0_1, s0_2, s0_3, s0_4, s0_5, s0_6, s0_7, s0_8, s0_9, s0_10, s0_11, s0_12, s0_13⟩ : Pl) W
  simp only [Pl.val] at hofp
  have HBOX := Lib.hid (Holds.new w 24 #[.int .i64 s0_0, .int .i64 s0_1, .int .i64 s0_2, .int .i64 s0_3, .int .u16 s0_4, .int .u16 s0_5, .int .i64 s0_6, .int .i64 s0_7, .int .i64 s0_8, .int .i64 s0_9, .int .i64 s0_10, .int .i64 s0_11, .int .i64 s0_12, .int .i64 s0_13])
  have HB0 := Lib.hid (below_alloc w (.cells #[.int .i64 s0_0, .int .i64 s0_1, .int .i64 s0_2, .int .i64 s0_3, .int .u16 s0_4, .int .u16 s0_5, .int .i64 s0_6, .int .i64 s0_7, .int .i64 s0_8, .int .i64 s0_9, .int .i64 s0_10, .int .i64 s0_11, .int .i64 s0_12, .int .i64 s0_13] 24))
  have hnil := nil_neq
  have hfp : ¬ (∃ f, (⟨s0_0, s0_1, s0_2, s0_3, s0_4, s0_5, s0_6, s0_7, s0_8, s0_9, s0_10, s0_11, s0_12, s0_13⟩ : Pl).fr = some f ∧ f.good = true) := fun ⟨g, h, hg⟩ => by rw [hfrp] at h; simp only [Option.some.injEq] at h; rw [h] at hbad; rw [hg] at hbad; cases hbad
  have hrg : ∀ W, Calls Try.prog 13 #[.agg #[.int .i64 s0_0, .int .i64 s0_1, .int .i64 s0_2, .int .i64 s0_3, .int .u16 s0_4, .int .u16 s0_5, .int .i64 s0_6, .int .i64 s0_7, .int .i64 s0_8, .int .i64 s0_9, .int .i64 s0_10, .int .i64 s0_11, .int .i64 s0_12, .int .i64 s0_13]] W (Told (.bool false) W) := fun W => by
    have h := rgood_any (⟨s0_0, s0_1, s0_2, s0_3, s0_4, s0_5, s0_6, s0_7, s0_8, s0_9, s0_10, s0_11, s0_12, s0_13⟩ : Pl) W hp
    rw [canBe_no hfp] at h
    exact h
  obtain ⟨T, x, K, hs⟩ := sends_any hfrp
  have hneq := neq_nil T x
  have hmeth := hs.method
  rw [fuel] at hmeth
  have hent := hs.enters
  have htold : ∀ W, Calls Try.prog K #[x] W (Told (.int .i64 s0_1) W) := hs.told
  have hge := enc_no (⟨s0_0, s0_1, s0_2, s0_3, s0_4, s0_5, s0_6, s0_7, s0_8, s0_9, s0_10, s0_11, s0_12, s0_13⟩ : Pl) hp hfp
  rw [hfrp] at hge hofp
  have hgd := fun W => good_any f W (hp.fr hfrp)
  rw [hbad] at hgd
  have hge : ∀ W, Calls Try.prog 11 #[f.val] W (EncNo W) := hge
  rw [hs.val] at hge hgd
  have hofp : ∀ W, Calls Try.prog 10 #[.agg #[.int .i64 s0_0, .int .i64 s0_1, .int .i64 s0_2, .int .i64 s0_3, .int .u16 s0_4, .int .u16 s0_5, .int .i64 s0_6, .int .i64 s0_7, .int .i64 s0_8, .int .i64 s0_9, .int .i64 s0_10, .int .i64 s0_11, .int .i64 s0_12, .int .i64 s0_13]] W fun e w' => e = .returned f.val ∧ Below W.heap.size W w' := hofp
  rw [hs.val] at hofp
  have hof : ∀ W, Calls Try.prog 10 #[.agg #[.int .i64 s0_0, .int .i64 s0_1, .int .i64 s0_2, .int .i64 s0_3, .int .u16 s0_4, .int .u16 s0_5, .int .i64 s0_6, .int .i64 s0_7, .int .i64 s0_8, .int .i64 s0_9, .int .i64 s0_10, .int .i64 s0_11, .int .i64 s0_12, .int .i64 s0_13]] W fun e w' => e = .returned (.iface T x) ∧ Below W.heap.size W w' := hofp
  clear hofp hp hfp hfrp hbad hs w0_0 w0_1 w0_2 w0_3 w0_4 w0_5 w0_6 w0_7 w0_8 w0_9 w0_10 w0_11 w0_12 w0_13
  go_enter Try.func3, Try.ntmps3
  go_wp2_with (first
    | (go_at_call 9; (with_reducible refine (alive_yes _).mono ?_); rintro e w1 ⟨rfl, hb1⟩; have HB1 := Lib.hid (below_on HB0.out hb1); have HX := Lib.hid (HBOX.out.below hb1 HBOX.out.lt); have HC := Lib.hid (plain_cells HX.out); obtain ⟨k0, k1, k2, k3, k4, k5, k6, k7, k8, k9, k10, k11, k12, k13⟩ := HC.out)
    | (go_at_call 10; (with_reducible refine (hof _).mono ?_); rintro e w2 ⟨rfl, hb2⟩; have HB2 := Lib.hid (below_on HB1.out hb2); have HX2 := Lib.hid (HX.out.below hb2 HX.out.lt); clear k0 k1 k2 k3 k4 k5 k6 k7 k8 k9 k10 k11 k12 k13)
    | (go_at_call 11; (with_reducible refine (hge _).mono ?_); rintro e w3 ⟨rfl, hb3⟩; have HB3 := Lib.hid (below_on HB2.out hb3); have HX3 := Lib.hid (HX2.out.below hb3 HX2.out.lt)))
  go_region_held3 (fun w' => w'.cell? ⟨w.heap.size, 0, none⟩ = some (.int .i64 s0_0) ∧ w'.cell? ⟨w.heap.size, 1, none⟩ = some (.int .i64 s0_1) ∧ w'.cell? ⟨w.heap.size, 2, none⟩ = some (.int .i64 s0_2) ∧ w'.cell? ⟨w.heap.size, 3, none⟩ = some (.int .i64 s0_3) ∧ w'.cell? ⟨w.heap.size, 4, none⟩ = some (.int .u16 s0_4) ∧ w'.cell? ⟨w.heap.size, 5, none⟩ = some (.int .u16 s0_5) ∧ w'.cell? ⟨w.heap.size, 6, none⟩ = some (.int .i64 s0_6) ∧ w'.cell? ⟨w.heap.size, 7, none⟩ = some (.int .i64 s0_7) ∧ w'.cell? ⟨w.heap.size, 8, none⟩ = some (.int .i64 s0_8) ∧ w'.cell? ⟨w.heap.size, 9, none⟩ = some (.int .i64 s0_9) ∧ w'.cell? ⟨w.heap.size, 10, none⟩ = some (.int .i64 s0_10) ∧ w'.cell? ⟨w.heap.size, 11, none⟩ = some (.int .i64 s0_11) ∧ w'.cell? ⟨w.heap.size, 12, none⟩ = some (.int .i64 s0_12) ∧ w'.cell? ⟨w.heap.size, 13, none⟩ = some (.int .i64 s0_13)) (first | exact plain_cells HX7.out | exact plain_cells HX6.out | exact plain_cells HX5.out | exact plain_cells (HX3.out.drewN 1)) (first
    | (go_at_call 12; (with_reducible refine (hgd _).mono ?_); rintro e w5 ⟨rfl, hb5⟩; have HB5 := Lib.hid (below_on HB3.out.drew hb5); have HX5 := Lib.hid ((HX3.out.drewN 1).below hb5 HX3.out.lt))
    | (go_at_call 13; (with_reducible refine (hrg _).mono ?_); rintro e w6 ⟨rfl, hb6⟩; have HB6 := Lib.hid (below_on HB5.out hb6); have HX6 := Lib.hid (HX5.out.below hb6 HX5.out.lt))
    | (go_at_fn K; (with_reducible refine (htold _).mono ?_); rintro e w7 ⟨rfl, hb7⟩; have HB7 := Lib.hid (below_on HB6.out hb7); have HX7 := Lib.hid (HX6.out.below hb7 HX6.out.lt)))
  obtain ⟨k0, k1, k2, k3, k4, k5, k6, k7, k8, k9, k10, k11, k12, k13⟩ := plain_cells HX7.out
  go_wp2_with (first
    | (go_at_call 13; (with_reducible refine (hrg _).mono ?_); rintro e w8 ⟨rfl, hb8⟩; have HB8 := Lib.hid (below_on HB7.out hb8); have HX8 := Lib.hid (HX7.out.below hb8 HX7.out.lt)))
  go_ret
  exact ⟨rfl, HB8.out⟩

set_option linter.unusedSimpArgs false in
set_option maxHeartbeats 8000000 in
set_option maxRecDepth 100000 in
theorem a_good_one (s0_0 s0_1 s0_2 s0_3 s0_4 s0_5 s0_6 s0_7 s0_8 s0_9 s0_10 s0_11 s0_12 s0_13 : Int) (w : World) (w0_0 : (Lit.int .i64 s0_0).wf = true) (w0_1 : (Lit.int .i64 s0_1).wf = true) (w0_2 : (Lit.int .i64 s0_2).wf = true) (w0_3 : (Lit.int .i64 s0_3).wf = true) (w0_4 : (Lit.int .u16 s0_4).wf = true) (w0_5 : (Lit.int .u16 s0_5).wf = true) (w0_6 : (Lit.int .i64 s0_6).wf = true) (w0_7 : (Lit.int .i64 s0_7).wf = true) (w0_8 : (Lit.int .i64 s0_8).wf = true) (w0_9 : (Lit.int .i64 s0_9).wf = true) (w0_10 : (Lit.int .i64 s0_10).wf = true) (w0_11 : (Lit.int .i64 s0_11).wf = true) (w0_12 : (Lit.int .i64 s0_12).wf = true) (w0_13 : (Lit.int .i64 s0_13).wf = true) (f : Fr) (hfrp : (⟨s0_0, s0_1, s0_2, s0_3, s0_4, s0_5, s0_6, s0_7, s0_8, s0_9, s0_10, s0_11, s0_12, s0_13⟩ : Pl).fr = some f) (hgp : f.good = true) :
    Calls Try.prog 3 #[.agg #[.int .i64 s0_0, .int .i64 s0_1, .int .i64 s0_2, .int .i64 s0_3, .int .u16 s0_4, .int .u16 s0_5, .int .i64 s0_6, .int .i64 s0_7, .int .i64 s0_8, .int .i64 s0_9, .int .i64 s0_10, .int .i64 s0_11, .int .i64 s0_12, .int .i64 s0_13]] w fun e w' => e = .returned (.bool true) ∧ Below w.heap.size w w' := by
  have hp : (⟨s0_0, s0_1, s0_2, s0_3, s0_4, s0_5, s0_6, s0_7, s0_8, s0_9, s0_10, s0_11, s0_12, s0_13⟩ : Pl).wf := ⟨fits_wf w0_0, fits_wf w0_1, fits_wf w0_2, fits_wf w0_3, f16_wf w0_4, f16_wf w0_5, fits_wf w0_6, fits_wf w0_7, fits_wf w0_8, fits_wf w0_9, fits_wf w0_10, fits_wf w0_11, fits_wf w0_12, fits_wf w0_13⟩
  have hofp := fun W => lawof_any (⟨s0_0, s0_1, s0_2, s0_3, s0_4, s0_5, s0_6, s0_7, s0_8, s0_9, s0_10, s0_11, s0_12, s0_13⟩ : Pl) W
  simp only [Pl.val] at hofp
  have HBOX := Lib.hid (Holds.new w 24 #[.int .i64 s0_0, .int .i64 s0_1, .int .i64 s0_2, .int .i64 s0_3, .int .u16 s0_4, .int .u16 s0_5, .int .i64 s0_6, .int .i64 s0_7, .int .i64 s0_8, .int .i64 s0_9, .int .i64 s0_10, .int .i64 s0_11, .int .i64 s0_12, .int .i64 s0_13])
  have HB0 := Lib.hid (below_alloc w (.cells #[.int .i64 s0_0, .int .i64 s0_1, .int .i64 s0_2, .int .i64 s0_3, .int .u16 s0_4, .int .u16 s0_5, .int .i64 s0_6, .int .i64 s0_7, .int .i64 s0_8, .int .i64 s0_9, .int .i64 s0_10, .int .i64 s0_11, .int .i64 s0_12, .int .i64 s0_13] 24))
  have hnil := nil_neq
  have hrg : ∀ W, Calls Try.prog 13 #[.agg #[.int .i64 s0_0, .int .i64 s0_1, .int .i64 s0_2, .int .i64 s0_3, .int .u16 s0_4, .int .u16 s0_5, .int .i64 s0_6, .int .i64 s0_7, .int .i64 s0_8, .int .i64 s0_9, .int .i64 s0_10, .int .i64 s0_11, .int .i64 s0_12, .int .i64 s0_13]] W (Told (.bool true) W) := fun W => by
    have h := rgood_any (⟨s0_0, s0_1, s0_2, s0_3, s0_4, s0_5, s0_6, s0_7, s0_8, s0_9, s0_10, s0_11, s0_12, s0_13⟩ : Pl) W hp
    rw [canBe_yes hfrp hgp] at h
    exact h
  obtain ⟨T, x, K, hs⟩ := sends_any hfrp
  have hneq := neq_nil T x
  have hmeth := hs.method
  rw [fuel] at hmeth
  have hent := hs.enters
  have htold : ∀ W, Calls Try.prog K #[x] W (Told (.int .i64 s0_1) W) := hs.told
  have hge := fun W => encode_sealed f W hgp
  have hgd := fun W => good_any f W (hp.fr hfrp)
  rw [hgp] at hgd
  have hby := fun W => rbytes_any (⟨s0_0, s0_1, s0_2, s0_3, s0_4, s0_5, s0_6, s0_7, s0_8, s0_9, s0_10, s0_11, s0_12, s0_13⟩ : Pl) f W hp hfrp hgp
  have hsw := f.sealed_wf
  have hm1 : f.sealed.length = f.bytes.length + 2 := f.sealed_length
  rw [← hm1] at hby
  obtain ⟨z, hz⟩ : ∃ z, f.sealed = z := ⟨_, rfl⟩
  rw [hz] at hsw
  simp only [hz] at hge hby
  obtain ⟨m, hm⟩ : ∃ m, z.length = m := ⟨_, rfl⟩
  simp only [hm] at hge hby
  have HW := Lib.hid hsw
  rw [hfrp] at hofp
  have hofp : ∀ W, Calls Try.prog 10 #[.agg #[.int .i64 s0_0, .int .i64 s0_1, .int .i64 s0_2, .int .i64 s0_3, .int .u16 s0_4, .int .u16 s0_5, .int .i64 s0_6, .int .i64 s0_7, .int .i64 s0_8, .int .i64 s0_9, .int .i64 s0_10, .int .i64 s0_11, .int .i64 s0_12, .int .i64 s0_13]] W fun e w' => e = .returned f.val ∧ Below W.heap.size W w' := hofp
  have hby2 : ∀ W, Calls Try.prog 14 #[.agg #[.int .i64 s0_0, .int .i64 s0_1, .int .i64 s0_2, .int .i64 s0_3, .int .u16 s0_4, .int .u16 s0_5, .int .i64 s0_6, .int .i64 s0_7, .int .i64 s0_8, .int .i64 s0_9, .int .i64 s0_10, .int .i64 s0_11, .int .i64 s0_12, .int .i64 s0_13]] W (GaveRow 5 .u8 W m z) := hby
  rw [hs.val] at hofp
  simp only [hs.val] at hge hgd
  obtain ⟨STR, hstr⟩ : ∃ S, strOfNums z = S := ⟨_, rfl⟩
  have HS := Lib.hid hstr
  have hof : ∀ W, Calls Try.prog 10 #[.agg #[.int .i64 s0_0, .int .i64 s0_1, .int .i64 s0_2, .int .i64 s0_3, .int .u16 s0_4, .int .u16 s0_5, .int .i64 s0_6, .int .i64 s0_7, .int .i64 s0_8, .int .i64 s0_9, .int .i64 s0_10, .int .i64 s0_11, .int .i64 s0_12, .int .i64 s0_13]] W fun e w' => e = .returned (.iface T x) ∧ Below W.heap.size W w' := hofp
  clear hofp hp hfrp hgp hs hsw hm1 hz hm hby hstr w0_0 w0_1 w0_2 w0_3 w0_4 w0_5 w0_6 w0_7 w0_8 w0_9 w0_10 w0_11 w0_12 w0_13
  go_enter Try.func3, Try.ntmps3
  go_wp2_with (first
    | (go_at_call 9; (with_reducible refine (alive_yes _).mono ?_); rintro e w1 ⟨rfl, hb1⟩; have HB1 := Lib.hid (below_on HB0.out hb1); have HX := Lib.hid (HBOX.out.below hb1 HBOX.out.lt); have HC := Lib.hid (plain_cells HX.out); obtain ⟨k0, k1, k2, k3, k4, k5, k6, k7, k8, k9, k10, k11, k12, k13⟩ := HC.out)
    | (go_at_call 10; (with_reducible refine (hof _).mono ?_); rintro e w2 ⟨rfl, hb2⟩; have HB2 := Lib.hid (below_on HB1.out hb2); have HX2 := Lib.hid (HX.out.below hb2 HX.out.lt); clear k0 k1 k2 k3 k4 k5 k6 k7 k8 k9 k10 k11 k12 k13)
    | (go_at_call 11; (with_reducible refine (hge _).mono ?_); rintro e w3 ⟨A3, c3, rfl, ho3, hb3⟩; have HB3 := Lib.hid (below_on HB2.out hb3); have HX3 := Lib.hid (HX2.out.below hb3 HX2.out.lt); have HR3 := Lib.hid (IntRow.of_own ho3 HW.out); have HO3 := Lib.hid ho3; clear ho3))
  go_region_held3 (fun w' => w'.cell? ⟨w.heap.size, 0, none⟩ = some (.int .i64 s0_0) ∧ w'.cell? ⟨w.heap.size, 1, none⟩ = some (.int .i64 s0_1) ∧ w'.cell? ⟨w.heap.size, 2, none⟩ = some (.int .i64 s0_2) ∧ w'.cell? ⟨w.heap.size, 3, none⟩ = some (.int .i64 s0_3) ∧ w'.cell? ⟨w.heap.size, 4, none⟩ = some (.int .u16 s0_4) ∧ w'.cell? ⟨w.heap.size, 5, none⟩ = some (.int .u16 s0_5) ∧ w'.cell? ⟨w.heap.size, 6, none⟩ = some (.int .i64 s0_6) ∧ w'.cell? ⟨w.heap.size, 7, none⟩ = some (.int .i64 s0_7) ∧ w'.cell? ⟨w.heap.size, 8, none⟩ = some (.int .i64 s0_8) ∧ w'.cell? ⟨w.heap.size, 9, none⟩ = some (.int .i64 s0_9) ∧ w'.cell? ⟨w.heap.size, 10, none⟩ = some (.int .i64 s0_10) ∧ w'.cell? ⟨w.heap.size, 11, none⟩ = some (.int .i64 s0_11) ∧ w'.cell? ⟨w.heap.size, 12, none⟩ = some (.int .i64 s0_12) ∧ w'.cell? ⟨w.heap.size, 13, none⟩ = some (.int .i64 s0_13)) (first | exact plain_cells HX7.out | exact plain_cells HX6.out | exact plain_cells HX5.out | exact plain_cells (HX3.out.drewN 1)) (first
    | (go_at_call 12; (with_reducible refine (hgd _).mono ?_); rintro e w5 ⟨rfl, hb5⟩; have HB5 := Lib.hid (below_on HB3.out.drew hb5); have HX5 := Lib.hid ((HX3.out.drewN 1).below hb5 HX3.out.lt))
    | (go_at_call 13; (with_reducible refine (hrg _).mono ?_); rintro e w6 ⟨rfl, hb6⟩; have HB6 := Lib.hid (below_on HB5.out hb6); have HX6 := Lib.hid (HX5.out.below hb6 HX5.out.lt))
    | (go_at_fn K; (with_reducible refine (htold _).mono ?_); rintro e w7 ⟨rfl, hb7⟩; have HB7 := Lib.hid (below_on HB6.out hb7); have HX7 := Lib.hid (HX6.out.below hb7 HX6.out.lt)))
  obtain ⟨k0, k1, k2, k3, k4, k5, k6, k7, k8, k9, k10, k11, k12, k13⟩ := plain_cells HX7.out
  go_upto_region 9 with (go_at_call 13; (with_reducible refine (hrg _).mono ?_); rintro e w8 ⟨rfl, hb8⟩; have HB8 := Lib.hid (below_on HB7.out hb8); have HX8 := Lib.hid (HX7.out.below hb8 HX7.out.lt))
  clear k0 k1 k2 k3 k4 k5 k6 k7 k8 k9 k10 k11 k12 k13
  have HR8 := Lib.hid (((((HR3.out.drewN 1).below hb5).below hb6).below hb7).below hb8)
  refine region_turns (fun w' => w'.cell? ⟨w.heap.size, 0, none⟩ = some (.int .i64 s0_0) ∧ w'.cell? ⟨w.heap.size, 1, none⟩ = some (.int .i64 s0_1) ∧ w'.cell? ⟨w.heap.size, 2, none⟩ = some (.int .i64 s0_2) ∧ w'.cell? ⟨w.heap.size, 3, none⟩ = some (.int .i64 s0_3) ∧ w'.cell? ⟨w.heap.size, 4, none⟩ = some (.int .u16 s0_4) ∧ w'.cell? ⟨w.heap.size, 5, none⟩ = some (.int .u16 s0_5) ∧ w'.cell? ⟨w.heap.size, 6, none⟩ = some (.int .i64 s0_6) ∧ w'.cell? ⟨w.heap.size, 7, none⟩ = some (.int .i64 s0_7) ∧ w'.cell? ⟨w.heap.size, 8, none⟩ = some (.int .i64 s0_8) ∧ w'.cell? ⟨w.heap.size, 9, none⟩ = some (.int .i64 s0_9) ∧ w'.cell? ⟨w.heap.size, 10, none⟩ = some (.int .i64 s0_10) ∧ w'.cell? ⟨w.heap.size, 11, none⟩ = some (.int .i64 s0_11) ∧ w'.cell? ⟨w.heap.size, 12, none⟩ = some (.int .i64 s0_12) ∧ w'.cell? ⟨w.heap.size, 13, none⟩ = some (.int .i64 s0_13) ∧ (convert 29 9 (.slice A3 m c3)).run Try.prog w' = .ok (.string STR) w') (fun j => decide (8 ≤ j)) (by kernel_rfl) ⟨(HX8.out.drewN 1).cell 0, (HX8.out.drewN 1).cell 1, (HX8.out.drewN 1).cell 2, (HX8.out.drewN 1).cell 3, (HX8.out.drewN 1).cell 4, (HX8.out.drewN 1).cell 5, (HX8.out.drewN 1).cell 6, (HX8.out.drewN 1).cell 7, (HX8.out.drewN 1).cell 8, (HX8.out.drewN 1).cell 9, (HX8.out.drewN 1).cell 10, (HX8.out.drewN 1).cell 11, (HX8.out.drewN 1).cell 12, (HX8.out.drewN 1).cell 13, by rw [← HS.out]; exact run_convert_row _ _ _ _ Try.underlying29 Try.underlying5 Try.underlying9 _ _ _ _ (HR8.out.drewN 1)⟩ (fun hS => ?_)
  refine Turns.take hS 0 (.int .i64 0) rfl (by kernel_rfl) (by kernel_rfl) (by kernel_rfl) (by kernel_rfl) (fun _ _ _ h => h) (by rfl) (fun w' hS' => by (try dsimp only at hS'); go_split_ands; go_simp) ?_
  simp only [Act.put, List.getElem_toArray, List.getElem_cons_succ, List.getElem_cons_zero, List.setIfInBounds_toArray, List.set_cons_zero, List.set_cons_succ]
  refine Turns.take hS 1 (.bool true) rfl (by kernel_rfl) (by kernel_rfl) (by kernel_rfl) (by kernel_rfl) (fun _ _ _ h => h) (by rfl) (fun w' hS' => by (try dsimp only at hS'); go_split_ands; go_simp) ?_
  simp only [Act.put, List.getElem_toArray, List.getElem_cons_succ, List.getElem_cons_zero, List.setIfInBounds_toArray, List.set_cons_zero, List.set_cons_succ]
  refine Turns.take hS 2 (.bool true) rfl (by kernel_rfl) (by kernel_rfl) (by kernel_rfl) (by kernel_rfl) (fun _ _ _ h => h) (by rfl) (fun w' hS' => by (try dsimp only at hS'); go_split_ands; go_simp) ?_
  simp only [Act.put, List.getElem_toArray, List.getElem_cons_succ, List.getElem_cons_zero, List.setIfInBounds_toArray, List.set_cons_zero, List.set_cons_succ]
  refine Turns.take hS 3 (.slice A3 m c3) rfl (by kernel_rfl) (by kernel_rfl) (by kernel_rfl) (by kernel_rfl) (fun _ _ _ h => h) (by rfl) (fun w' hS' => by (try dsimp only at hS'); go_split_ands; go_simp) ?_
  simp only [Act.put, List.getElem_toArray, List.getElem_cons_succ, List.getElem_cons_zero, List.setIfInBounds_toArray, List.set_cons_zero, List.set_cons_succ]
  refine Turns.take hS 4 (.string STR) rfl (by kernel_rfl) (by kernel_rfl) (by kernel_rfl) (by kernel_rfl) (fun _ _ _ h => h) (by rfl) (fun w' hS' => by (try dsimp only at hS'); go_split_ands; go_simp) ?_
  simp only [Act.put, List.getElem_toArray, List.getElem_cons_succ, List.getElem_cons_zero, List.setIfInBounds_toArray, List.set_cons_zero, List.set_cons_succ]
  refine Turns.take hS 5 (.agg #[.int .i64 s0_0, .int .i64 s0_1, .int .i64 s0_2, .int .i64 s0_3, .int .u16 s0_4, .int .u16 s0_5, .int .i64 s0_6, .int .i64 s0_7, .int .i64 s0_8, .int .i64 s0_9, .int .i64 s0_10, .int .i64 s0_11, .int .i64 s0_12, .int .i64 s0_13]) rfl (by kernel_rfl) (by kernel_rfl) (by kernel_rfl) (by kernel_rfl) (fun _ _ _ h => h) (by rfl) (fun w' hS' => by (try dsimp only at hS'); go_split_ands; go_simp) ?_
  simp only [Act.put, List.getElem_toArray, List.getElem_cons_succ, List.getElem_cons_zero, List.setIfInBounds_toArray, List.set_cons_zero, List.set_cons_succ]
  refine Turns.next 6 rfl (by kernel_rfl) (by rfl) (fun K hK => ?_)
  go_simp
  refine (hby2 _).mono ?_
  rintro e w9 ⟨A9, c9, rfl, ho9, hb9⟩
  have HB9 := Lib.hid (below_on HB8.out.drew hb9)
  have HX9 := Lib.hid ((HX8.out.drewN 1).below hb9 HX8.out.lt)
  have HR9 := Lib.hid (IntRow.of_own ho9 HW.out)
  have HR10 := Lib.hid ((HR8.out.drewN 1).below hb9)
  clear ho9
  have cb : (convert 29 9 (.slice A9 m c9)).run Try.prog w9 = .ok (.string STR) w9 := by rw [← HS.out]; exact run_convert_row _ _ _ _ Try.underlying29 Try.underlying5 Try.underlying9 _ _ _ _ (HR9.out)
  have hS6 : w9.cell? ⟨w.heap.size, 0, none⟩ = some (.int .i64 s0_0) ∧ w9.cell? ⟨w.heap.size, 1, none⟩ = some (.int .i64 s0_1) ∧ w9.cell? ⟨w.heap.size, 2, none⟩ = some (.int .i64 s0_2) ∧ w9.cell? ⟨w.heap.size, 3, none⟩ = some (.int .i64 s0_3) ∧ w9.cell? ⟨w.heap.size, 4, none⟩ = some (.int .u16 s0_4) ∧ w9.cell? ⟨w.heap.size, 5, none⟩ = some (.int .u16 s0_5) ∧ w9.cell? ⟨w.heap.size, 6, none⟩ = some (.int .i64 s0_6) ∧ w9.cell? ⟨w.heap.size, 7, none⟩ = some (.int .i64 s0_7) ∧ w9.cell? ⟨w.heap.size, 8, none⟩ = some (.int .i64 s0_8) ∧ w9.cell? ⟨w.heap.size, 9, none⟩ = some (.int .i64 s0_9) ∧ w9.cell? ⟨w.heap.size, 10, none⟩ = some (.int .i64 s0_10) ∧ w9.cell? ⟨w.heap.size, 11, none⟩ = some (.int .i64 s0_11) ∧ w9.cell? ⟨w.heap.size, 12, none⟩ = some (.int .i64 s0_12) ∧ w9.cell? ⟨w.heap.size, 13, none⟩ = some (.int .i64 s0_13) ∧ (convert 29 9 (.slice A3 m c3)).run Try.prog w9 = .ok (.string STR) w9 := ⟨HX9.out.cell 0, HX9.out.cell 1, HX9.out.cell 2, HX9.out.cell 3, HX9.out.cell 4, HX9.out.cell 5, HX9.out.cell 6, HX9.out.cell 7, HX9.out.cell 8, HX9.out.cell 9, HX9.out.cell 10, HX9.out.cell 11, HX9.out.cell 12, HX9.out.cell 13, by rw [← HS.out]; exact run_convert_row _ _ _ _ Try.underlying29 Try.underlying5 Try.underlying9 _ _ _ _ (HR10.out)⟩
  refine hK.out _ _ hS6 ?_
  clear hK K hS
  have hS := hS6
  clear hS6
  refine Turns.next 7 rfl (by kernel_rfl) (by rfl) (fun K hK => ?_)
  go_simp
  refine hK.out _ _ hS ?_
  clear hK K hS
  refine Turns.rest (late_done (by kernel_rfl)) ?_
  refine any_tail 8 (by rfl) (by kernel_rfl) ?_
  simp only [List.drop_succ_cons, List.drop_zero]
  go_wp2
  go_ret
  exact ⟨rfl, HB9.out⟩

set_option linter.unusedSimpArgs false in
set_option maxHeartbeats 8000000 in
set_option maxRecDepth 100000 in
theorem walk (s0_0 s0_1 s0_2 s0_3 s0_4 s0_5 s0_6 s0_7 s0_8 s0_9 s0_10 s0_11 s0_12 s0_13 : Int) (w : World) (w0_0 : (Lit.int .i64 s0_0).wf = true) (w0_1 : (Lit.int .i64 s0_1).wf = true) (w0_2 : (Lit.int .i64 s0_2).wf = true) (w0_3 : (Lit.int .i64 s0_3).wf = true) (w0_4 : (Lit.int .u16 s0_4).wf = true) (w0_5 : (Lit.int .u16 s0_5).wf = true) (w0_6 : (Lit.int .i64 s0_6).wf = true) (w0_7 : (Lit.int .i64 s0_7).wf = true) (w0_8 : (Lit.int .i64 s0_8).wf = true) (w0_9 : (Lit.int .i64 s0_9).wf = true) (w0_10 : (Lit.int .i64 s0_10).wf = true) (w0_11 : (Lit.int .i64 s0_11).wf = true) (w0_12 : (Lit.int .i64 s0_12).wf = true) (w0_13 : (Lit.int .i64 s0_13).wf = true) :
    Calls Try.prog 3 #[.agg #[.int .i64 s0_0, .int .i64 s0_1, .int .i64 s0_2, .int .i64 s0_3, .int .u16 s0_4, .int .u16 s0_5, .int .i64 s0_6, .int .i64 s0_7, .int .i64 s0_8, .int .i64 s0_9, .int .i64 s0_10, .int .i64 s0_11, .int .i64 s0_12, .int .i64 s0_13]] w fun e w' => e = .returned (.bool true) ∧ Below w.heap.size w w' := by
  cases hf : (⟨s0_0, s0_1, s0_2, s0_3, s0_4, s0_5, s0_6, s0_7, s0_8, s0_9, s0_10, s0_11, s0_12, s0_13⟩ : Pl).fr with
  | none => exact none_at_all s0_0 s0_1 s0_2 s0_3 s0_4 s0_5 s0_6 s0_7 s0_8 s0_9 s0_10 s0_11 s0_12 s0_13 w w0_0 w0_1 w0_2 w0_3 w0_4 w0_5 w0_6 w0_7 w0_8 w0_9 w0_10 w0_11 w0_12 w0_13 hf
  | some f =>
    rcases hg : f.good with _ | _
    · exact a_bad_one s0_0 s0_1 s0_2 s0_3 s0_4 s0_5 s0_6 s0_7 s0_8 s0_9 s0_10 s0_11 s0_12 s0_13 w w0_0 w0_1 w0_2 w0_3 w0_4 w0_5 w0_6 w0_7 w0_8 w0_9 w0_10 w0_11 w0_12 w0_13 f hf hg
    · exact a_good_one s0_0 s0_1 s0_2 s0_3 s0_4 s0_5 s0_6 s0_7 s0_8 s0_9 s0_10 s0_11 s0_12 s0_13 w w0_0 w0_1 w0_2 w0_3 w0_4 w0_5 w0_6 w0_7 w0_8 w0_9 w0_10 w0_11 w0_12 w0_13 f hf hg

set_option maxRecDepth 100000 in
theorem lifted (os : Os) (started : os.Started) (H : Type) (enc : TypeId × Value → H) :
    ReturnsInHanded {} Try.checked os 3 .any (Rows.frameWritesSpec.pre6 enc Try.prog Try.f3 Rows.frameWritesRow.domain false) (Rows.frameWritesSpec.post enc Try.prog Try.f3 false true false false) := by
  refine returnsInHanded_of_change (C := Try.checked) own started (by kernel_rfl) Try.func3
    (ChangeSpec.witness6 (enc := enc) (C := Try.checked) false ⟨#[], #[.agg #[.int .i64 0, .int .i64 0, .int .i64 0, .int .i64 0, .int .u16 0, .int .u16 0, .int .i64 0, .int .i64 0, .int .i64 0, .int .i64 0, .int .i64 0, .int .i64 0, .int .i64 0, .int .i64 0]], []⟩ 8 (by kernel_rfl) (by kernel_rfl) (by kernel_rfl) (by kernel_rfl)) ?_
  intro W base args ds gs before hval0 hW hcnd _
  have hval : ∀ (j : Nat) t v, Try.f3.params[j]? = some t → args[j]? = some v → Value.okWide Try.prog W .any base t v := hval0
  have hW' := hW
  obtain ⟨p, q, hA0, hV, rfl, hfz, hnd⟩ := hW
  have hA : DataW.TrodAll enc Try.prog W 0 (fun _ => true) true Try.f3.params.toList args.toList ds p := hA0
  have hAk := hA
  rw [Try.params3] at hA hval
  obtain ⟨v0, vs0, d0, ds0, p0, q0, hargs, rfl, hp, h0, r0⟩ := trodAll_cons hA
  obtain ⟨rfl, rfl, rfl⟩ := trodAll_nil r0
  obtain rfl : args = #[v0] := by cases args; simp_all
  obtain ⟨rfl, rfl⟩ := trodVars_none hV
  clear hA0 hval0 hargs
  simp only [List.append_nil] at hW'
  have hend : ∀ W' : World, Below W.heap.size W W' → Rows.frameWritesSpec.post enc Try.prog Try.f3 false true false false W #[v0] (.bool true) W' := fun W' hb =>
    law_post (tb := 4) hW' hAk rfl (by kernel_rfl) (by kernel_rfl) (by kernel_rfl) Try.underlying4 rfl rfl rfl hb
  clear hW' hAk hp
  obtain ⟨ns0, rfl, hl0, hw0⟩ := ints_struct (ks := [.i64, .i64, .i64, .i64, .u16, .u16, .i64, .i64, .i64, .i64, .i64, .i64, .i64, .i64]) Try.underlying24 (by kernel_rfl) (by kernel_rfl) (by kernel_rfl) (hval 0 24 v0 rfl rfl) h0
  obtain ⟨s0_0, s0_1, s0_2, s0_3, s0_4, s0_5, s0_6, s0_7, s0_8, s0_9, s0_10, s0_11, s0_12, s0_13, rfl⟩ := split14 hl0
  clear hl0
  refine (walk s0_0 s0_1 s0_2 s0_3 s0_4 s0_5 s0_6 s0_7 s0_8 s0_9 s0_10 s0_11 s0_12 s0_13 W (hw0 0 _ _ rfl rfl) (hw0 1 _ _ rfl rfl) (hw0 2 _ _ rfl rfl) (hw0 3 _ _ rfl rfl) (hw0 4 _ _ rfl rfl) (hw0 5 _ _ rfl rfl) (hw0 6 _ _ rfl rfl) (hw0 7 _ _ rfl rfl) (hw0 8 _ _ rfl rfl) (hw0 9 _ _ rfl rfl) (hw0 10 _ _ rfl rfl) (hw0 11 _ _ rfl rfl) (hw0 12 _ _ rfl rfl) (hw0 13 _ _ rfl rfl)).mono fun e W' ⟨he, hg⟩ => ?_
  subst he
  exact ⟨_, rfl, hend W' hg⟩

theorem over : Rows.frameWritesRow.holds Try.pinned (OpenSpec.ofChange Rows.frameWritesSpec) :=
  OpenClaim.holds_of_wide 3 Try.f3 rfl rfl rfl rfl rfl rfl rfl ⟨rfl, rfl, rfl, rfl, rfl⟩ rfl rfl rfl rfl rfl (by kernel_rfl) Try.func3 (by kernel_rfl)
    (of_decide_eq_true (by kernel_rfl)) (by unfold Func.isWrapper; first | (rw [if_pos (by decide +kernel)]; kernel_rfl) | (rw [if_neg (by decide +kernel)]; exact ⟨rfl, rfl⟩))
    (fun os started H enc _ => lifted os started H enc)

/-- THE STATEMENT -/
theorem proved : Rows.FrameWritesSaid :=
  over
#print axioms proved
end Go.Proofs.Ytbdlpkkgfhknkaa.frameWrites
