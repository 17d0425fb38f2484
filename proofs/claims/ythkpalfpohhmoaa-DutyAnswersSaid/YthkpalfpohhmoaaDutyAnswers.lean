/-
  Good, Mine, Awake, Rest and Ticks answer what the document says, of all plans and numbers: for every plan, step, time and guard the law answers true; without conditions.
  The walk is the prover's own; the frame of the row's step follows the kit's template.
-/
import Derived.Test.YthkpalfpohhmoaaRows
import Derived.Test.YthkpalfpohhmoaaLawKit
import Derived.Test.YthkpalfpohhmoaaStructArg
import Derived.Test.YthkpalfpohhmoaaDtD
import Derived.Test.YthkpalfpohhmoaaDtE
import Derived.IntWalk
namespace Go.Proofs.Ythkpalfpohhmoaa.dutyAnswers
open Go.ChangeShapes Go.WideShapes Go.ChangeAt Go.RowKit Go.ChangeMaps Go.WideElems
set_option linter.unusedVariables false

theorem split3 {ns : List Int} (h : ns.length = 3) : ∃ s0_0 s0_1 s0_2 : Int, ns = [s0_0, s0_1, s0_2] := by
  match ns, h with
  | [y0, y1, y2], _ => exact ⟨_, _, _, rfl⟩
theorem own : ownKnob Try.prog.godebug = none := by kernel_rfl
set_option linter.unusedSimpArgs false
set_option maxHeartbeats 4000000 in
set_option maxRecDepth 100000 in
theorem walk (s0_0 s0_1 s0_2 : Int) (a1 : Int) (a2 : Int) (a3 : Int) (w : World) (w0_0 : (Lit.int .i64 s0_0).wf = true) (w0_1 : (Lit.int .i64 s0_1).wf = true) (w0_2 : (Lit.int .i64 s0_2).wf = true) (w1 : (Lit.int .i64 a1).wf = true) (w2 : (Lit.int .i64 a2).wf = true) (w3 : (Lit.int .i64 a3).wf = true) :
    Calls Try.prog 3 #[.agg #[.int .i64 s0_0, .int .i64 s0_1, .int .i64 s0_2], .int .i64 a1, .int .i64 a2, .int .i64 a3] w fun e w' => e = .returned (.bool true) ∧ Below w.heap.size w w' := by
  have HB := Lib.hid (Box.start w 23 #[.int .i64 s0_0, .int .i64 s0_1, .int .i64 s0_2])
  obtain ⟨c0, c1, c2, _⟩ := HB.out.cells3
  by_cases hc : ¬ Can s0_0 s0_1 s0_2
  · go_enter Try.func3, Try.ntmps3
    go_wp2_with (first
      | (go_at_call 7; refine (alive_yes _).mono ?_; rintro e wa ⟨rfl, hb⟩; have HT := Lib.hid (And.intro ((HB.out.next hb).alloc (.cells #[.int .i64 s0_0, .int .i64 s0_1, .int .i64 s0_2] 25)) (Box.start wa 25 #[.int .i64 s0_0, .int .i64 s0_1, .int .i64 s0_2])); obtain ⟨c0, c1, c2, _⟩ := HT.out.1.cells3; obtain ⟨b0, b1, b2, _⟩ := HT.out.2.cells3; obtain ⟨a0, a1', a2', _⟩ := (HB.out.next hb).cells3; clear hb)
      | (go_at_call 8; refine (rgood_no _ _ _ _ hc).mono ?_; rintro e wx ⟨rfl, hb⟩; replace HT := Lib.hid (And.intro (HT.out.1.next hb) (HT.out.2.next hb)); obtain ⟨c0, c1, c2, _⟩ := HT.out.1.cells3; obtain ⟨b0, b1, b2, _⟩ := HT.out.2.cells3; clear hb))
    refine region_turns (fun (w' : World) => w'.cell? ⟨w.heap.size, 0, none⟩ = some (.int .i64 s0_0) ∧ w'.cell? ⟨w.heap.size, 1, none⟩ = some (.int .i64 s0_1) ∧ w'.cell? ⟨w.heap.size, 2, none⟩ = some (.int .i64 s0_2) ∧ w'.cell? ⟨wa.heap.size, 0, none⟩ = some (.int .i64 s0_0) ∧ w'.cell? ⟨wa.heap.size, 1, none⟩ = some (.int .i64 s0_1) ∧ w'.cell? ⟨wa.heap.size, 2, none⟩ = some (.int .i64 s0_2) ∧ Box w 23 #[.int .i64 s0_0, .int .i64 s0_1, .int .i64 s0_2] w' ∧ Box wa 25 #[.int .i64 s0_0, .int .i64 s0_1, .int .i64 s0_2] w') (fun j => decide (15 ≤ j)) (by kernel_rfl) (Box.two (And.intro HT.out.1.drew HT.out.2.drew)) (fun hS => ?_)
    refine Turns.take hS 0 _ rfl (by kernel_rfl) (by kernel_rfl) (by kernel_rfl) (by kernel_rfl) (fun _ _ _ h => h) (by rfl) (fun w' hS' => by (try dsimp only at hS'); go_split_ands; go_simp; (try with_reducible rfl)) ?_
    simp only [Act.put, List.getElem_toArray, List.getElem_cons_succ, List.getElem_cons_zero, List.setIfInBounds_toArray, List.set_cons_zero, List.set_cons_succ]
    refine Turns.take hS 2 _ rfl (by kernel_rfl) (by kernel_rfl) (by kernel_rfl) (by kernel_rfl) (fun _ _ _ h => h) (by rfl) (fun w' hS' => by (try dsimp only at hS'); go_split_ands; go_simp; (try with_reducible rfl)) ?_
    simp only [Act.put, List.getElem_toArray, List.getElem_cons_succ, List.getElem_cons_zero, List.setIfInBounds_toArray, List.set_cons_zero, List.set_cons_succ]
    refine Turns.next 1 rfl (by kernel_rfl) (by rfl) (fun K hK => ?_)
    go_simp
    go_at_call 9
    refine (good_no _ _ _ _ hc).mono ?_
    rintro e wn1 ⟨rfl, hb⟩
    replace HT := Lib.hid (And.intro (hS.2.2.2.2.2.2.1.next hb) (hS.2.2.2.2.2.2.2.next hb))
    refine hK.out _ _ (show (fun (w' : World) => w'.cell? ⟨w.heap.size, 0, none⟩ = some (.int .i64 s0_0) ∧ w'.cell? ⟨w.heap.size, 1, none⟩ = some (.int .i64 s0_1) ∧ w'.cell? ⟨w.heap.size, 2, none⟩ = some (.int .i64 s0_2) ∧ w'.cell? ⟨wa.heap.size, 0, none⟩ = some (.int .i64 s0_0) ∧ w'.cell? ⟨wa.heap.size, 1, none⟩ = some (.int .i64 s0_1) ∧ w'.cell? ⟨wa.heap.size, 2, none⟩ = some (.int .i64 s0_2) ∧ Box w 23 #[.int .i64 s0_0, .int .i64 s0_1, .int .i64 s0_2] w' ∧ Box wa 25 #[.int .i64 s0_0, .int .i64 s0_1, .int .i64 s0_2] w') _ from Box.two HT.out) ?_
    clear hK K hS
    have hS := (show (fun (w' : World) => w'.cell? ⟨w.heap.size, 0, none⟩ = some (.int .i64 s0_0) ∧ w'.cell? ⟨w.heap.size, 1, none⟩ = some (.int .i64 s0_1) ∧ w'.cell? ⟨w.heap.size, 2, none⟩ = some (.int .i64 s0_2) ∧ w'.cell? ⟨wa.heap.size, 0, none⟩ = some (.int .i64 s0_0) ∧ w'.cell? ⟨wa.heap.size, 1, none⟩ = some (.int .i64 s0_1) ∧ w'.cell? ⟨wa.heap.size, 2, none⟩ = some (.int .i64 s0_2) ∧ Box w 23 #[.int .i64 s0_0, .int .i64 s0_1, .int .i64 s0_2] w' ∧ Box wa 25 #[.int .i64 s0_0, .int .i64 s0_1, .int .i64 s0_2] w') _ from Box.two HT.out)
    refine Turns.take hS 3 _ rfl (by kernel_rfl) (by kernel_rfl) (by kernel_rfl) (by kernel_rfl) (fun _ _ _ h => h) (by rfl) (fun w' hS' => by (try dsimp only at hS'); go_split_ands; go_simp; (try with_reducible rfl)) ?_
    simp only [Act.put, List.getElem_toArray, List.getElem_cons_succ, List.getElem_cons_zero, List.setIfInBounds_toArray, List.set_cons_zero, List.set_cons_succ]
    refine Turns.take hS 4 _ rfl (by kernel_rfl) (by kernel_rfl) (by kernel_rfl) (by kernel_rfl) (fun _ _ _ h => h) (by rfl) (fun w' hS' => by (try dsimp only at hS'); go_split_ands; go_simp; (try with_reducible rfl)) ?_
    simp only [Act.put, List.getElem_toArray, List.getElem_cons_succ, List.getElem_cons_zero, List.setIfInBounds_toArray, List.set_cons_zero, List.set_cons_succ]
    refine Turns.take hS 5 _ rfl (by kernel_rfl) (by kernel_rfl) (by kernel_rfl) (by kernel_rfl) (fun _ _ _ h => h) (by rfl) (fun w' hS' => by (try dsimp only at hS'); go_split_ands; go_simp; (try with_reducible rfl)) ?_
    simp only [Act.put, List.getElem_toArray, List.getElem_cons_succ, List.getElem_cons_zero, List.setIfInBounds_toArray, List.set_cons_zero, List.set_cons_succ]
    refine Turns.take hS 6 _ rfl (by kernel_rfl) (by kernel_rfl) (by kernel_rfl) (by kernel_rfl) (fun _ _ _ h => h) (by rfl) (fun w' hS' => by (try dsimp only at hS'); go_split_ands; go_simp; (try with_reducible rfl)) ?_
    simp only [Act.put, List.getElem_toArray, List.getElem_cons_succ, List.getElem_cons_zero, List.setIfInBounds_toArray, List.set_cons_zero, List.set_cons_succ]
    refine Turns.take hS 7 _ rfl (by kernel_rfl) (by kernel_rfl) (by kernel_rfl) (by kernel_rfl) (fun _ _ _ h => h) (by rfl) (fun w' hS' => by (try dsimp only at hS'); go_split_ands; go_simp; (try with_reducible rfl)) ?_
    simp only [Act.put, List.getElem_toArray, List.getElem_cons_succ, List.getElem_cons_zero, List.setIfInBounds_toArray, List.set_cons_zero, List.set_cons_succ]
    refine Turns.take hS 9 _ rfl (by kernel_rfl) (by kernel_rfl) (by kernel_rfl) (by kernel_rfl) (fun _ _ _ h => h) (by rfl) (fun w' hS' => by (try dsimp only at hS'); go_split_ands; go_simp; (try with_reducible rfl)) ?_
    simp only [Act.put, List.getElem_toArray, List.getElem_cons_succ, List.getElem_cons_zero, List.setIfInBounds_toArray, List.set_cons_zero, List.set_cons_succ]
    refine Turns.take hS 10 _ rfl (by kernel_rfl) (by kernel_rfl) (by kernel_rfl) (by kernel_rfl) (fun _ _ _ h => h) (by rfl) (fun w' hS' => by (try dsimp only at hS'); go_split_ands; go_simp; (try with_reducible rfl)) ?_
    simp only [Act.put, List.getElem_toArray, List.getElem_cons_succ, List.getElem_cons_zero, List.setIfInBounds_toArray, List.set_cons_zero, List.set_cons_succ]
    refine Turns.take hS 11 _ rfl (by kernel_rfl) (by kernel_rfl) (by kernel_rfl) (by kernel_rfl) (fun _ _ _ h => h) (by rfl) (fun w' hS' => by (try dsimp only at hS'); go_split_ands; go_simp; (try with_reducible rfl)) ?_
    simp only [Act.put, List.getElem_toArray, List.getElem_cons_succ, List.getElem_cons_zero, List.setIfInBounds_toArray, List.set_cons_zero, List.set_cons_succ]
    refine Turns.next 8 rfl (by kernel_rfl) (by rfl) (fun K hK => ?_)
    go_simp
    go_at_call 10
    refine (awake_bad _ _ _ _ _ _ hc).mono ?_
    rintro e wn8 ⟨rfl, hb⟩
    replace HT := Lib.hid (And.intro (hS.2.2.2.2.2.2.1.next hb) (hS.2.2.2.2.2.2.2.next hb))
    refine hK.out _ _ (show (fun (w' : World) => w'.cell? ⟨w.heap.size, 0, none⟩ = some (.int .i64 s0_0) ∧ w'.cell? ⟨w.heap.size, 1, none⟩ = some (.int .i64 s0_1) ∧ w'.cell? ⟨w.heap.size, 2, none⟩ = some (.int .i64 s0_2) ∧ w'.cell? ⟨wa.heap.size, 0, none⟩ = some (.int .i64 s0_0) ∧ w'.cell? ⟨wa.heap.size, 1, none⟩ = some (.int .i64 s0_1) ∧ w'.cell? ⟨wa.heap.size, 2, none⟩ = some (.int .i64 s0_2) ∧ Box w 23 #[.int .i64 s0_0, .int .i64 s0_1, .int .i64 s0_2] w' ∧ Box wa 25 #[.int .i64 s0_0, .int .i64 s0_1, .int .i64 s0_2] w') _ from Box.two HT.out) ?_
    clear hK K hS
    have hS := (show (fun (w' : World) => w'.cell? ⟨w.heap.size, 0, none⟩ = some (.int .i64 s0_0) ∧ w'.cell? ⟨w.heap.size, 1, none⟩ = some (.int .i64 s0_1) ∧ w'.cell? ⟨w.heap.size, 2, none⟩ = some (.int .i64 s0_2) ∧ w'.cell? ⟨wa.heap.size, 0, none⟩ = some (.int .i64 s0_0) ∧ w'.cell? ⟨wa.heap.size, 1, none⟩ = some (.int .i64 s0_1) ∧ w'.cell? ⟨wa.heap.size, 2, none⟩ = some (.int .i64 s0_2) ∧ Box w 23 #[.int .i64 s0_0, .int .i64 s0_1, .int .i64 s0_2] w' ∧ Box wa 25 #[.int .i64 s0_0, .int .i64 s0_1, .int .i64 s0_2] w') _ from Box.two HT.out)
    refine Turns.next 12 rfl (by kernel_rfl) (by rfl) (fun K hK => ?_)
    go_simp
    go_at_call 11
    refine (rawake_bad _ _ _ _ _ _ hc).mono ?_
    rintro e wn12 ⟨rfl, hb⟩
    replace HT := Lib.hid (And.intro (hS.2.2.2.2.2.2.1.next hb) (hS.2.2.2.2.2.2.2.next hb))
    refine hK.out _ _ (show (fun (w' : World) => w'.cell? ⟨w.heap.size, 0, none⟩ = some (.int .i64 s0_0) ∧ w'.cell? ⟨w.heap.size, 1, none⟩ = some (.int .i64 s0_1) ∧ w'.cell? ⟨w.heap.size, 2, none⟩ = some (.int .i64 s0_2) ∧ w'.cell? ⟨wa.heap.size, 0, none⟩ = some (.int .i64 s0_0) ∧ w'.cell? ⟨wa.heap.size, 1, none⟩ = some (.int .i64 s0_1) ∧ w'.cell? ⟨wa.heap.size, 2, none⟩ = some (.int .i64 s0_2) ∧ Box w 23 #[.int .i64 s0_0, .int .i64 s0_1, .int .i64 s0_2] w' ∧ Box wa 25 #[.int .i64 s0_0, .int .i64 s0_1, .int .i64 s0_2] w') _ from Box.two HT.out) ?_
    clear hK K hS
    have hS := (show (fun (w' : World) => w'.cell? ⟨w.heap.size, 0, none⟩ = some (.int .i64 s0_0) ∧ w'.cell? ⟨w.heap.size, 1, none⟩ = some (.int .i64 s0_1) ∧ w'.cell? ⟨w.heap.size, 2, none⟩ = some (.int .i64 s0_2) ∧ w'.cell? ⟨wa.heap.size, 0, none⟩ = some (.int .i64 s0_0) ∧ w'.cell? ⟨wa.heap.size, 1, none⟩ = some (.int .i64 s0_1) ∧ w'.cell? ⟨wa.heap.size, 2, none⟩ = some (.int .i64 s0_2) ∧ Box w 23 #[.int .i64 s0_0, .int .i64 s0_1, .int .i64 s0_2] w' ∧ Box wa 25 #[.int .i64 s0_0, .int .i64 s0_1, .int .i64 s0_2] w') _ from Box.two HT.out)
    refine Turns.take hS 13 _ rfl (by kernel_rfl) (by kernel_rfl) (by kernel_rfl) (by kernel_rfl) (fun _ _ _ h => h) (by rfl) (fun w' hS' => by (try dsimp only at hS'); go_split_ands; go_simp; (try with_reducible rfl)) ?_
    simp only [Act.put, List.getElem_toArray, List.getElem_cons_succ, List.getElem_cons_zero, List.setIfInBounds_toArray, List.set_cons_zero, List.set_cons_succ]
    refine Turns.take hS 14 _ rfl (by kernel_rfl) (by kernel_rfl) (by kernel_rfl) (by kernel_rfl) (fun _ _ _ h => h) (by rfl) (fun w' hS' => by (try dsimp only at hS'); go_split_ands; go_simp; (try with_reducible rfl)) ?_
    simp only [Act.put, List.getElem_toArray, List.getElem_cons_succ, List.getElem_cons_zero, List.setIfInBounds_toArray, List.set_cons_zero, List.set_cons_succ]
    refine Turns.rest (late_done (by kernel_rfl)) ?_
    refine any_tail 15 (by rfl) (by kernel_rfl) ?_
    simp only [List.drop_succ_cons, List.drop_zero]
    clear hS
    obtain ⟨c0, c1, c2, _⟩ := HT.out.1.cells3
    obtain ⟨b0, b1, b2, _⟩ := HT.out.2.cells3
    go_wp2_with (first
      | (go_at_call 12; refine (mine_bad _ _ _ _ _ hc).mono ?_; rintro e wx ⟨rfl, hb⟩; replace HT := Lib.hid (And.intro (HT.out.1.next hb) (HT.out.2.next hb)); obtain ⟨c0, c1, c2, _⟩ := HT.out.1.cells3; obtain ⟨b0, b1, b2, _⟩ := HT.out.2.cells3; clear hb)
      | (go_at_call 13; refine (rest_bad _ _ _ _ _ hc).mono ?_; rintro e wx ⟨rfl, hb⟩; replace HT := Lib.hid (And.intro (HT.out.1.next hb) (HT.out.2.next hb)); obtain ⟨c0, c1, c2, _⟩ := HT.out.1.cells3; obtain ⟨b0, b1, b2, _⟩ := HT.out.2.cells3; clear hb))
    go_ret
    exact ⟨rfl, HT.out.1.below⟩
  replace hc := Classical.not_not.1 hc
  have hk := hc
  obtain ⟨k1, k2, k3, k4, k5, k6⟩ := hk
  have hs := fits_wf w1
  have ht := fits_wf w2
  have hg := fits_wf w3
  have hv := phase_bd k1 a2
  have hR : restV s0_0 s0_1 a2 = if phaseV s0_0 a2 < s0_1 * 1000 then 0 else s0_0 * 1000 - phaseV s0_0 a2 := rfl
  obtain ⟨M, hM⟩ : ∃ M, phaseV s0_0 a2 = M := ⟨_, rfl⟩
  obtain ⟨A, hA⟩ : ∃ A, awakeB s0_0 s0_1 a2 a3 = A := ⟨_, rfl⟩
  rw [hM] at hv hR
  obtain ⟨v1, v2⟩ := hv
  have hwr : IntKind.i64.wrap (s0_0 * 1000) = s0_0 * 1000 := IntWalk.i64_in _ (by omega)
  have r0 : ¬ s0_0 = 0 := by omega
  have r1 : (s0_0 == 0) = false := by simpa using r0
  have r2 : s0_0 ≠ 0 := r0
  by_cases q : M < s0_1 * 1000
  · rw [if_pos q] at hR
    have qd : decide (s0_1 * 1000 ≤ M) = false := decide_eq_false (by omega)
    by_cases g0 : 0 ≤ a1
    · have e0 : a1.tmod s0_0 = a1 % s0_0 := Int.tmod_eq_emod_of_nonneg g0
      by_cases g1 : a1 % s0_0 = s0_2
      · have g2 : (a1 % s0_0 == s0_2) = true := by simpa using g1
        have g3 : mineB s0_0 s0_2 a1 = true := mineB_yes g0 g1
        go_enter Try.func3, Try.ntmps3
        go_wp2_with (first
          | (go_at_call 7; refine (alive_yes _).mono ?_; rintro e wa ⟨rfl, hb⟩; have HT := Lib.hid (And.intro ((HB.out.next hb).alloc (.cells #[.int .i64 s0_0, .int .i64 s0_1, .int .i64 s0_2] 25)) (Box.start wa 25 #[.int .i64 s0_0, .int .i64 s0_1, .int .i64 s0_2])); obtain ⟨c0, c1, c2, _⟩ := HT.out.1.cells3; obtain ⟨b0, b1, b2, _⟩ := HT.out.2.cells3; obtain ⟨a0, a1', a2', _⟩ := (HB.out.next hb).cells3; clear hb)
          | (go_at_call 8; refine (rgood_yes _ _ _ _ hc).mono ?_; rintro e wx ⟨rfl, hb⟩; replace HT := Lib.hid (And.intro (HT.out.1.next hb) (HT.out.2.next hb)); obtain ⟨c0, c1, c2, _⟩ := HT.out.1.cells3; obtain ⟨b0, b1, b2, _⟩ := HT.out.2.cells3; clear hb))
        refine region_turns (fun (w' : World) => w'.cell? ⟨w.heap.size, 0, none⟩ = some (.int .i64 s0_0) ∧ w'.cell? ⟨w.heap.size, 1, none⟩ = some (.int .i64 s0_1) ∧ w'.cell? ⟨w.heap.size, 2, none⟩ = some (.int .i64 s0_2) ∧ w'.cell? ⟨wa.heap.size, 0, none⟩ = some (.int .i64 s0_0) ∧ w'.cell? ⟨wa.heap.size, 1, none⟩ = some (.int .i64 s0_1) ∧ w'.cell? ⟨wa.heap.size, 2, none⟩ = some (.int .i64 s0_2) ∧ Box w 23 #[.int .i64 s0_0, .int .i64 s0_1, .int .i64 s0_2] w' ∧ Box wa 25 #[.int .i64 s0_0, .int .i64 s0_1, .int .i64 s0_2] w') (fun j => decide (15 ≤ j)) (by kernel_rfl) (Box.two (And.intro HT.out.1.drew HT.out.2.drew)) (fun hS => ?_)
        refine Turns.take hS 0 _ rfl (by kernel_rfl) (by kernel_rfl) (by kernel_rfl) (by kernel_rfl) (fun _ _ _ h => h) (by rfl) (fun w' hS' => by (try dsimp only at hS'); go_split_ands; go_simp; (try with_reducible rfl)) ?_
        simp only [Act.put, List.getElem_toArray, List.getElem_cons_succ, List.getElem_cons_zero, List.setIfInBounds_toArray, List.set_cons_zero, List.set_cons_succ]
        refine Turns.take hS 2 _ rfl (by kernel_rfl) (by kernel_rfl) (by kernel_rfl) (by kernel_rfl) (fun _ _ _ h => h) (by rfl) (fun w' hS' => by (try dsimp only at hS'); go_split_ands; go_simp; (try with_reducible rfl)) ?_
        simp only [Act.put, List.getElem_toArray, List.getElem_cons_succ, List.getElem_cons_zero, List.setIfInBounds_toArray, List.set_cons_zero, List.set_cons_succ]
        refine Turns.next 1 rfl (by kernel_rfl) (by rfl) (fun K hK => ?_)
        go_simp
        go_at_call 9
        refine (good_yes _ _ _ _ hc).mono ?_
        rintro e wn1 ⟨rfl, hb⟩
        replace HT := Lib.hid (And.intro (hS.2.2.2.2.2.2.1.next hb) (hS.2.2.2.2.2.2.2.next hb))
        refine hK.out _ _ (show (fun (w' : World) => w'.cell? ⟨w.heap.size, 0, none⟩ = some (.int .i64 s0_0) ∧ w'.cell? ⟨w.heap.size, 1, none⟩ = some (.int .i64 s0_1) ∧ w'.cell? ⟨w.heap.size, 2, none⟩ = some (.int .i64 s0_2) ∧ w'.cell? ⟨wa.heap.size, 0, none⟩ = some (.int .i64 s0_0) ∧ w'.cell? ⟨wa.heap.size, 1, none⟩ = some (.int .i64 s0_1) ∧ w'.cell? ⟨wa.heap.size, 2, none⟩ = some (.int .i64 s0_2) ∧ Box w 23 #[.int .i64 s0_0, .int .i64 s0_1, .int .i64 s0_2] w' ∧ Box wa 25 #[.int .i64 s0_0, .int .i64 s0_1, .int .i64 s0_2] w') _ from Box.two HT.out) ?_
        clear hK K hS
        have hS := (show (fun (w' : World) => w'.cell? ⟨w.heap.size, 0, none⟩ = some (.int .i64 s0_0) ∧ w'.cell? ⟨w.heap.size, 1, none⟩ = some (.int .i64 s0_1) ∧ w'.cell? ⟨w.heap.size, 2, none⟩ = some (.int .i64 s0_2) ∧ w'.cell? ⟨wa.heap.size, 0, none⟩ = some (.int .i64 s0_0) ∧ w'.cell? ⟨wa.heap.size, 1, none⟩ = some (.int .i64 s0_1) ∧ w'.cell? ⟨wa.heap.size, 2, none⟩ = some (.int .i64 s0_2) ∧ Box w 23 #[.int .i64 s0_0, .int .i64 s0_1, .int .i64 s0_2] w' ∧ Box wa 25 #[.int .i64 s0_0, .int .i64 s0_1, .int .i64 s0_2] w') _ from Box.two HT.out)
        refine Turns.take hS 3 _ rfl (by kernel_rfl) (by kernel_rfl) (by kernel_rfl) (by kernel_rfl) (fun _ _ _ h => h) (by rfl) (fun w' hS' => by (try dsimp only at hS'); go_split_ands; go_simp; (try with_reducible rfl)) ?_
        simp only [Act.put, List.getElem_toArray, List.getElem_cons_succ, List.getElem_cons_zero, List.setIfInBounds_toArray, List.set_cons_zero, List.set_cons_succ]
        refine Turns.take hS 4 _ rfl (by kernel_rfl) (by kernel_rfl) (by kernel_rfl) (by kernel_rfl) (fun _ _ _ h => h) (by rfl) (fun w' hS' => by (try dsimp only at hS'); go_split_ands; go_simp; (try with_reducible rfl)) ?_
        simp only [Act.put, List.getElem_toArray, List.getElem_cons_succ, List.getElem_cons_zero, List.setIfInBounds_toArray, List.set_cons_zero, List.set_cons_succ]
        refine Turns.take hS 5 _ rfl (by kernel_rfl) (by kernel_rfl) (by kernel_rfl) (by kernel_rfl) (fun _ _ _ h => h) (by rfl) (fun w' hS' => by (try dsimp only at hS'); go_split_ands; go_simp; (try with_reducible rfl)) ?_
        simp only [Act.put, List.getElem_toArray, List.getElem_cons_succ, List.getElem_cons_zero, List.setIfInBounds_toArray, List.set_cons_zero, List.set_cons_succ]
        refine Turns.take hS 6 _ rfl (by kernel_rfl) (by kernel_rfl) (by kernel_rfl) (by kernel_rfl) (fun _ _ _ h => h) (by rfl) (fun w' hS' => by (try dsimp only at hS'); go_split_ands; go_simp; (try with_reducible rfl)) ?_
        simp only [Act.put, List.getElem_toArray, List.getElem_cons_succ, List.getElem_cons_zero, List.setIfInBounds_toArray, List.set_cons_zero, List.set_cons_succ]
        refine Turns.take hS 7 _ rfl (by kernel_rfl) (by kernel_rfl) (by kernel_rfl) (by kernel_rfl) (fun _ _ _ h => h) (by rfl) (fun w' hS' => by (try dsimp only at hS'); go_split_ands; go_simp; (try with_reducible rfl)) ?_
        simp only [Act.put, List.getElem_toArray, List.getElem_cons_succ, List.getElem_cons_zero, List.setIfInBounds_toArray, List.set_cons_zero, List.set_cons_succ]
        refine Turns.take hS 9 _ rfl (by kernel_rfl) (by kernel_rfl) (by kernel_rfl) (by kernel_rfl) (fun _ _ _ h => h) (by rfl) (fun w' hS' => by (try dsimp only at hS'); go_split_ands; go_simp; (try with_reducible rfl)) ?_
        simp only [Act.put, List.getElem_toArray, List.getElem_cons_succ, List.getElem_cons_zero, List.setIfInBounds_toArray, List.set_cons_zero, List.set_cons_succ]
        refine Turns.take hS 10 _ rfl (by kernel_rfl) (by kernel_rfl) (by kernel_rfl) (by kernel_rfl) (fun _ _ _ h => h) (by rfl) (fun w' hS' => by (try dsimp only at hS'); go_split_ands; go_simp; (try with_reducible rfl)) ?_
        simp only [Act.put, List.getElem_toArray, List.getElem_cons_succ, List.getElem_cons_zero, List.setIfInBounds_toArray, List.set_cons_zero, List.set_cons_succ]
        refine Turns.take hS 11 _ rfl (by kernel_rfl) (by kernel_rfl) (by kernel_rfl) (by kernel_rfl) (fun _ _ _ h => h) (by rfl) (fun w' hS' => by (try dsimp only at hS'); go_split_ands; go_simp; (try with_reducible rfl)) ?_
        simp only [Act.put, List.getElem_toArray, List.getElem_cons_succ, List.getElem_cons_zero, List.setIfInBounds_toArray, List.set_cons_zero, List.set_cons_succ]
        refine Turns.next 8 rfl (by kernel_rfl) (by rfl) (fun K hK => ?_)
        go_simp
        go_at_call 10
        refine (awake_any _ _ _ _ _ _ hc ht hg).mono ?_
        rintro e wn8 ⟨rfl, hb⟩
        replace HT := Lib.hid (And.intro (hS.2.2.2.2.2.2.1.next hb) (hS.2.2.2.2.2.2.2.next hb))
        refine hK.out _ _ (show (fun (w' : World) => w'.cell? ⟨w.heap.size, 0, none⟩ = some (.int .i64 s0_0) ∧ w'.cell? ⟨w.heap.size, 1, none⟩ = some (.int .i64 s0_1) ∧ w'.cell? ⟨w.heap.size, 2, none⟩ = some (.int .i64 s0_2) ∧ w'.cell? ⟨wa.heap.size, 0, none⟩ = some (.int .i64 s0_0) ∧ w'.cell? ⟨wa.heap.size, 1, none⟩ = some (.int .i64 s0_1) ∧ w'.cell? ⟨wa.heap.size, 2, none⟩ = some (.int .i64 s0_2) ∧ Box w 23 #[.int .i64 s0_0, .int .i64 s0_1, .int .i64 s0_2] w' ∧ Box wa 25 #[.int .i64 s0_0, .int .i64 s0_1, .int .i64 s0_2] w') _ from Box.two HT.out) ?_
        clear hK K hS
        have hS := (show (fun (w' : World) => w'.cell? ⟨w.heap.size, 0, none⟩ = some (.int .i64 s0_0) ∧ w'.cell? ⟨w.heap.size, 1, none⟩ = some (.int .i64 s0_1) ∧ w'.cell? ⟨w.heap.size, 2, none⟩ = some (.int .i64 s0_2) ∧ w'.cell? ⟨wa.heap.size, 0, none⟩ = some (.int .i64 s0_0) ∧ w'.cell? ⟨wa.heap.size, 1, none⟩ = some (.int .i64 s0_1) ∧ w'.cell? ⟨wa.heap.size, 2, none⟩ = some (.int .i64 s0_2) ∧ Box w 23 #[.int .i64 s0_0, .int .i64 s0_1, .int .i64 s0_2] w' ∧ Box wa 25 #[.int .i64 s0_0, .int .i64 s0_1, .int .i64 s0_2] w') _ from Box.two HT.out)
        refine Turns.next 12 rfl (by kernel_rfl) (by rfl) (fun K hK => ?_)
        go_simp
        go_at_call 11
        refine (rawake_any _ _ _ _ _ _ hc ht hg).mono ?_
        rintro e wn12 ⟨rfl, hb⟩
        replace HT := Lib.hid (And.intro (hS.2.2.2.2.2.2.1.next hb) (hS.2.2.2.2.2.2.2.next hb))
        refine hK.out _ _ (show (fun (w' : World) => w'.cell? ⟨w.heap.size, 0, none⟩ = some (.int .i64 s0_0) ∧ w'.cell? ⟨w.heap.size, 1, none⟩ = some (.int .i64 s0_1) ∧ w'.cell? ⟨w.heap.size, 2, none⟩ = some (.int .i64 s0_2) ∧ w'.cell? ⟨wa.heap.size, 0, none⟩ = some (.int .i64 s0_0) ∧ w'.cell? ⟨wa.heap.size, 1, none⟩ = some (.int .i64 s0_1) ∧ w'.cell? ⟨wa.heap.size, 2, none⟩ = some (.int .i64 s0_2) ∧ Box w 23 #[.int .i64 s0_0, .int .i64 s0_1, .int .i64 s0_2] w' ∧ Box wa 25 #[.int .i64 s0_0, .int .i64 s0_1, .int .i64 s0_2] w') _ from Box.two HT.out) ?_
        clear hK K hS
        have hS := (show (fun (w' : World) => w'.cell? ⟨w.heap.size, 0, none⟩ = some (.int .i64 s0_0) ∧ w'.cell? ⟨w.heap.size, 1, none⟩ = some (.int .i64 s0_1) ∧ w'.cell? ⟨w.heap.size, 2, none⟩ = some (.int .i64 s0_2) ∧ w'.cell? ⟨wa.heap.size, 0, none⟩ = some (.int .i64 s0_0) ∧ w'.cell? ⟨wa.heap.size, 1, none⟩ = some (.int .i64 s0_1) ∧ w'.cell? ⟨wa.heap.size, 2, none⟩ = some (.int .i64 s0_2) ∧ Box w 23 #[.int .i64 s0_0, .int .i64 s0_1, .int .i64 s0_2] w' ∧ Box wa 25 #[.int .i64 s0_0, .int .i64 s0_1, .int .i64 s0_2] w') _ from Box.two HT.out)
        refine Turns.take hS 13 _ rfl (by kernel_rfl) (by kernel_rfl) (by kernel_rfl) (by kernel_rfl) (fun _ _ _ h => h) (by rfl) (fun w' hS' => by (try dsimp only at hS'); go_split_ands; go_simp; (try with_reducible rfl)) ?_
        simp only [Act.put, List.getElem_toArray, List.getElem_cons_succ, List.getElem_cons_zero, List.setIfInBounds_toArray, List.set_cons_zero, List.set_cons_succ]
        refine Turns.take hS 14 _ rfl (by kernel_rfl) (by kernel_rfl) (by kernel_rfl) (by kernel_rfl) (fun _ _ _ h => h) (by rfl) (fun w' hS' => by (try dsimp only at hS'); go_split_ands; go_simp; (try with_reducible rfl)) ?_
        simp only [Act.put, List.getElem_toArray, List.getElem_cons_succ, List.getElem_cons_zero, List.setIfInBounds_toArray, List.set_cons_zero, List.set_cons_succ]
        refine Turns.rest (late_done (by kernel_rfl)) ?_
        refine any_tail 15 (by rfl) (by kernel_rfl) ?_
        simp only [List.drop_succ_cons, List.drop_zero]
        clear hS
        obtain ⟨c0, c1, c2, _⟩ := HT.out.1.cells3
        obtain ⟨b0, b1, b2, _⟩ := HT.out.2.cells3
        go_wp2_with (first
          | (go_at_call 14; refine (rphase_any _ _ _ _ _ k1 k2 ht).mono ?_; rintro e wx ⟨rfl, hb⟩; replace HT := Lib.hid (And.intro (HT.out.1.next hb) (HT.out.2.next hb)); obtain ⟨c0, c1, c2, _⟩ := HT.out.1.cells3; obtain ⟨b0, b1, b2, _⟩ := HT.out.2.cells3; clear hb))
        refine region_turns (fun (w' : World) => w'.cell? ⟨w.heap.size, 0, none⟩ = some (.int .i64 s0_0) ∧ w'.cell? ⟨w.heap.size, 1, none⟩ = some (.int .i64 s0_1) ∧ w'.cell? ⟨w.heap.size, 2, none⟩ = some (.int .i64 s0_2) ∧ w'.cell? ⟨wa.heap.size, 0, none⟩ = some (.int .i64 s0_0) ∧ w'.cell? ⟨wa.heap.size, 1, none⟩ = some (.int .i64 s0_1) ∧ w'.cell? ⟨wa.heap.size, 2, none⟩ = some (.int .i64 s0_2) ∧ Box w 23 #[.int .i64 s0_0, .int .i64 s0_1, .int .i64 s0_2] w' ∧ Box wa 25 #[.int .i64 s0_0, .int .i64 s0_1, .int .i64 s0_2] w') (fun j => decide (31 ≤ j)) (by kernel_rfl) (Box.two (And.intro HT.out.1.drew HT.out.2.drew)) (fun hS => ?_)
        refine Turns.take hS 0 _ rfl (by kernel_rfl) (by kernel_rfl) (by kernel_rfl) (by kernel_rfl) (fun _ _ _ h => h) (by rfl) (fun w' hS' => by (try dsimp only at hS'); go_split_ands; go_simp; (try with_reducible rfl)) ?_
        simp only [Act.put, List.getElem_toArray, List.getElem_cons_succ, List.getElem_cons_zero, List.setIfInBounds_toArray, List.set_cons_zero, List.set_cons_succ]
        refine Turns.take hS 1 _ rfl (by kernel_rfl) (by kernel_rfl) (by kernel_rfl) (by kernel_rfl) (fun _ _ _ h => h) (by rfl) (fun w' hS' => by (try dsimp only at hS'); go_split_ands; go_simp; (try with_reducible rfl)) ?_
        simp only [Act.put, List.getElem_toArray, List.getElem_cons_succ, List.getElem_cons_zero, List.setIfInBounds_toArray, List.set_cons_zero, List.set_cons_succ]
        refine Turns.take hS 3 _ rfl (by kernel_rfl) (by kernel_rfl) (by kernel_rfl) (by kernel_rfl) (fun _ _ _ h => h) (by rfl) (fun w' hS' => by (try dsimp only at hS'); go_split_ands; go_simp; (try with_reducible rfl)) ?_
        simp only [Act.put, List.getElem_toArray, List.getElem_cons_succ, List.getElem_cons_zero, List.setIfInBounds_toArray, List.set_cons_zero, List.set_cons_succ]
        refine Turns.take hS 4 _ rfl (by kernel_rfl) (by kernel_rfl) (by kernel_rfl) (by kernel_rfl) (fun _ _ _ h => h) (by rfl) (fun w' hS' => by (try dsimp only at hS'); go_split_ands; go_simp; (try with_reducible rfl)) ?_
        simp only [Act.put, List.getElem_toArray, List.getElem_cons_succ, List.getElem_cons_zero, List.setIfInBounds_toArray, List.set_cons_zero, List.set_cons_succ]
        refine Turns.next 2 rfl (by kernel_rfl) (by rfl) (fun K hK => ?_)
        go_simp
        go_at_call 12
        refine (mine_any _ _ _ _ _ hc hs).mono ?_
        rintro e wn2 ⟨rfl, hb⟩
        replace HT := Lib.hid (And.intro (hS.2.2.2.2.2.2.1.next hb) (hS.2.2.2.2.2.2.2.next hb))
        refine hK.out _ _ (show (fun (w' : World) => w'.cell? ⟨w.heap.size, 0, none⟩ = some (.int .i64 s0_0) ∧ w'.cell? ⟨w.heap.size, 1, none⟩ = some (.int .i64 s0_1) ∧ w'.cell? ⟨w.heap.size, 2, none⟩ = some (.int .i64 s0_2) ∧ w'.cell? ⟨wa.heap.size, 0, none⟩ = some (.int .i64 s0_0) ∧ w'.cell? ⟨wa.heap.size, 1, none⟩ = some (.int .i64 s0_1) ∧ w'.cell? ⟨wa.heap.size, 2, none⟩ = some (.int .i64 s0_2) ∧ Box w 23 #[.int .i64 s0_0, .int .i64 s0_1, .int .i64 s0_2] w' ∧ Box wa 25 #[.int .i64 s0_0, .int .i64 s0_1, .int .i64 s0_2] w') _ from Box.two HT.out) ?_
        clear hK K hS
        have hS := (show (fun (w' : World) => w'.cell? ⟨w.heap.size, 0, none⟩ = some (.int .i64 s0_0) ∧ w'.cell? ⟨w.heap.size, 1, none⟩ = some (.int .i64 s0_1) ∧ w'.cell? ⟨w.heap.size, 2, none⟩ = some (.int .i64 s0_2) ∧ w'.cell? ⟨wa.heap.size, 0, none⟩ = some (.int .i64 s0_0) ∧ w'.cell? ⟨wa.heap.size, 1, none⟩ = some (.int .i64 s0_1) ∧ w'.cell? ⟨wa.heap.size, 2, none⟩ = some (.int .i64 s0_2) ∧ Box w 23 #[.int .i64 s0_0, .int .i64 s0_1, .int .i64 s0_2] w' ∧ Box wa 25 #[.int .i64 s0_0, .int .i64 s0_1, .int .i64 s0_2] w') _ from Box.two HT.out)
        refine Turns.take hS 5 _ rfl (by kernel_rfl) (by kernel_rfl) (by kernel_rfl) (by kernel_rfl) (fun _ _ _ h => h) (by rfl) (fun w' hS' => by (try dsimp only at hS'); go_split_ands; go_simp; (try with_reducible rfl)) ?_
        simp only [Act.put, List.getElem_toArray, List.getElem_cons_succ, List.getElem_cons_zero, List.setIfInBounds_toArray, List.set_cons_zero, List.set_cons_succ]
        refine Turns.take hS 6 _ rfl (by kernel_rfl) (by kernel_rfl) (by kernel_rfl) (by kernel_rfl) (fun _ _ _ h => h) (by rfl) (fun w' hS' => by (try dsimp only at hS'); go_split_ands; go_simp; (try with_reducible rfl)) ?_
        simp only [Act.put, List.getElem_toArray, List.getElem_cons_succ, List.getElem_cons_zero, List.setIfInBounds_toArray, List.set_cons_zero, List.set_cons_succ]
        refine Turns.take hS 7 _ rfl (by kernel_rfl) (by kernel_rfl) (by kernel_rfl) (by kernel_rfl) (fun _ _ _ h => h) (by rfl) (fun w' hS' => by (try dsimp only at hS'); go_split_ands; go_simp; (try with_reducible rfl)) ?_
        simp only [Act.put, List.getElem_toArray, List.getElem_cons_succ, List.getElem_cons_zero, List.setIfInBounds_toArray, List.set_cons_zero, List.set_cons_succ]
        refine Turns.take hS 8 _ rfl (by kernel_rfl) (by kernel_rfl) (by kernel_rfl) (by kernel_rfl) (fun _ _ _ h => h) (by rfl) (fun w' hS' => by (try dsimp only at hS'); go_split_ands; go_simp; (try with_reducible rfl)) ?_
        simp only [Act.put, List.getElem_toArray, List.getElem_cons_succ, List.getElem_cons_zero, List.setIfInBounds_toArray, List.set_cons_zero, List.set_cons_succ]
        refine Turns.take hS 9 _ rfl (by kernel_rfl) (by kernel_rfl) (by kernel_rfl) (by kernel_rfl) (fun _ _ _ h => h) (by rfl) (fun w' hS' => by (try dsimp only at hS'); go_split_ands; go_simp; (try with_reducible rfl)) ?_
        simp only [Act.put, List.getElem_toArray, List.getElem_cons_succ, List.getElem_cons_zero, List.setIfInBounds_toArray, List.set_cons_zero, List.set_cons_succ]
        refine Turns.take hS 10 _ rfl (by kernel_rfl) (by kernel_rfl) (by kernel_rfl) (by kernel_rfl) (fun _ _ _ h => h) (by rfl) (fun w' hS' => by (try dsimp only at hS'); go_split_ands; go_simp; (try with_reducible rfl)) ?_
        simp only [Act.put, List.getElem_toArray, List.getElem_cons_succ, List.getElem_cons_zero, List.setIfInBounds_toArray, List.set_cons_zero, List.set_cons_succ]
        refine Turns.take hS 11 _ rfl (by kernel_rfl) (by kernel_rfl) (by kernel_rfl) (by kernel_rfl) (fun _ _ _ h => h) (by rfl) (fun w' hS' => by (try dsimp only at hS'); go_split_ands; go_simp; (try with_reducible rfl)) ?_
        simp only [Act.put, List.getElem_toArray, List.getElem_cons_succ, List.getElem_cons_zero, List.setIfInBounds_toArray, List.set_cons_zero, List.set_cons_succ]
        refine Turns.take hS 12 _ rfl (by kernel_rfl) (by kernel_rfl) (by kernel_rfl) (by kernel_rfl) (fun _ _ _ h => h) (by rfl) (fun w' hS' => by (try dsimp only at hS'); go_split_ands; go_simp; (try with_reducible rfl)) ?_
        simp only [Act.put, List.getElem_toArray, List.getElem_cons_succ, List.getElem_cons_zero, List.setIfInBounds_toArray, List.set_cons_zero, List.set_cons_succ]
        refine Turns.take hS 13 _ rfl (by kernel_rfl) (by kernel_rfl) (by kernel_rfl) (by kernel_rfl) (fun _ _ _ h => h) (by rfl) (fun w' hS' => by (try dsimp only at hS'); go_split_ands; go_simp; (try with_reducible rfl)) ?_
        simp only [Act.put, List.getElem_toArray, List.getElem_cons_succ, List.getElem_cons_zero, List.setIfInBounds_toArray, List.set_cons_zero, List.set_cons_succ]
        refine Turns.take hS 14 _ rfl (by kernel_rfl) (by kernel_rfl) (by kernel_rfl) (by kernel_rfl) (fun _ _ _ h => h) (by rfl) (fun w' hS' => by (try dsimp only at hS'); go_split_ands; go_simp; (try with_reducible rfl)) ?_
        simp only [Act.put, List.getElem_toArray, List.getElem_cons_succ, List.getElem_cons_zero, List.setIfInBounds_toArray, List.set_cons_zero, List.set_cons_succ]
        refine Turns.take hS 15 _ rfl (by kernel_rfl) (by kernel_rfl) (by kernel_rfl) (by kernel_rfl) (fun _ _ _ h => h) (by rfl) (fun w' hS' => by (try dsimp only at hS'); go_split_ands; go_simp; (try with_reducible rfl)) ?_
        simp only [Act.put, List.getElem_toArray, List.getElem_cons_succ, List.getElem_cons_zero, List.setIfInBounds_toArray, List.set_cons_zero, List.set_cons_succ]
        refine Turns.take hS 16 _ rfl (by kernel_rfl) (by kernel_rfl) (by kernel_rfl) (by kernel_rfl) (fun _ _ _ h => h) (by rfl) (fun w' hS' => by (try dsimp only at hS'); go_split_ands; go_simp; (try with_reducible rfl)) ?_
        simp only [Act.put, List.getElem_toArray, List.getElem_cons_succ, List.getElem_cons_zero, List.setIfInBounds_toArray, List.set_cons_zero, List.set_cons_succ]
        refine Turns.take hS 17 _ rfl (by kernel_rfl) (by kernel_rfl) (by kernel_rfl) (by kernel_rfl) (fun _ _ _ h => h) (by rfl) (fun w' hS' => by (try dsimp only at hS'); go_split_ands; go_simp; (try with_reducible rfl)) ?_
        simp only [Act.put, List.getElem_toArray, List.getElem_cons_succ, List.getElem_cons_zero, List.setIfInBounds_toArray, List.set_cons_zero, List.set_cons_succ]
        refine Turns.take hS 19 _ rfl (by kernel_rfl) (by kernel_rfl) (by kernel_rfl) (by kernel_rfl) (fun _ _ _ h => h) (by rfl) (fun w' hS' => by (try dsimp only at hS'); go_split_ands; go_simp; (try with_reducible rfl)) ?_
        simp only [Act.put, List.getElem_toArray, List.getElem_cons_succ, List.getElem_cons_zero, List.setIfInBounds_toArray, List.set_cons_zero, List.set_cons_succ]
        refine Turns.next 18 rfl (by kernel_rfl) (by rfl) (fun K hK => ?_)
        go_simp
        go_at_call 13
        refine (rest_any _ _ _ _ _ hc ht).mono ?_
        rintro e wn18 ⟨rfl, hb⟩
        replace HT := Lib.hid (And.intro (hS.2.2.2.2.2.2.1.next hb) (hS.2.2.2.2.2.2.2.next hb))
        refine hK.out _ _ (show (fun (w' : World) => w'.cell? ⟨w.heap.size, 0, none⟩ = some (.int .i64 s0_0) ∧ w'.cell? ⟨w.heap.size, 1, none⟩ = some (.int .i64 s0_1) ∧ w'.cell? ⟨w.heap.size, 2, none⟩ = some (.int .i64 s0_2) ∧ w'.cell? ⟨wa.heap.size, 0, none⟩ = some (.int .i64 s0_0) ∧ w'.cell? ⟨wa.heap.size, 1, none⟩ = some (.int .i64 s0_1) ∧ w'.cell? ⟨wa.heap.size, 2, none⟩ = some (.int .i64 s0_2) ∧ Box w 23 #[.int .i64 s0_0, .int .i64 s0_1, .int .i64 s0_2] w' ∧ Box wa 25 #[.int .i64 s0_0, .int .i64 s0_1, .int .i64 s0_2] w') _ from Box.two HT.out) ?_
        clear hK K hS
        have hS := (show (fun (w' : World) => w'.cell? ⟨w.heap.size, 0, none⟩ = some (.int .i64 s0_0) ∧ w'.cell? ⟨w.heap.size, 1, none⟩ = some (.int .i64 s0_1) ∧ w'.cell? ⟨w.heap.size, 2, none⟩ = some (.int .i64 s0_2) ∧ w'.cell? ⟨wa.heap.size, 0, none⟩ = some (.int .i64 s0_0) ∧ w'.cell? ⟨wa.heap.size, 1, none⟩ = some (.int .i64 s0_1) ∧ w'.cell? ⟨wa.heap.size, 2, none⟩ = some (.int .i64 s0_2) ∧ Box w 23 #[.int .i64 s0_0, .int .i64 s0_1, .int .i64 s0_2] w' ∧ Box wa 25 #[.int .i64 s0_0, .int .i64 s0_1, .int .i64 s0_2] w') _ from Box.two HT.out)
        refine Turns.take hS 20 _ rfl (by kernel_rfl) (by kernel_rfl) (by kernel_rfl) (by kernel_rfl) (fun _ _ _ h => h) (by rfl) (fun w' hS' => by (try dsimp only at hS'); go_split_ands; go_simp; (try with_reducible rfl)) ?_
        simp only [Act.put, List.getElem_toArray, List.getElem_cons_succ, List.getElem_cons_zero, List.setIfInBounds_toArray, List.set_cons_zero, List.set_cons_succ]
        refine Turns.take hS 21 _ rfl (by kernel_rfl) (by kernel_rfl) (by kernel_rfl) (by kernel_rfl) (fun _ _ _ h => h) (by rfl) (fun w' hS' => by (try dsimp only at hS'); go_split_ands; go_simp; (try with_reducible rfl)) ?_
        simp only [Act.put, List.getElem_toArray, List.getElem_cons_succ, List.getElem_cons_zero, List.setIfInBounds_toArray, List.set_cons_zero, List.set_cons_succ]
        refine Turns.take hS 22 _ rfl (by kernel_rfl) (by kernel_rfl) (by kernel_rfl) (by kernel_rfl) (fun _ _ _ h => h) (by rfl) (fun w' hS' => by (try dsimp only at hS'); go_split_ands; go_simp; (try with_reducible rfl)) ?_
        simp only [Act.put, List.getElem_toArray, List.getElem_cons_succ, List.getElem_cons_zero, List.setIfInBounds_toArray, List.set_cons_zero, List.set_cons_succ]
        refine Turns.take hS 23 _ rfl (by kernel_rfl) (by kernel_rfl) (by kernel_rfl) (by kernel_rfl) (fun _ _ _ h => h) (by rfl) (fun w' hS' => by (try dsimp only at hS'); go_split_ands; go_simp; (try with_reducible rfl)) ?_
        simp only [Act.put, List.getElem_toArray, List.getElem_cons_succ, List.getElem_cons_zero, List.setIfInBounds_toArray, List.set_cons_zero, List.set_cons_succ]
        refine Turns.take hS 25 _ rfl (by kernel_rfl) (by kernel_rfl) (by kernel_rfl) (by kernel_rfl) (fun _ _ _ h => h) (by rfl) (fun w' hS' => by (try dsimp only at hS'); go_split_ands; go_simp; (try with_reducible rfl)) ?_
        simp only [Act.put, List.getElem_toArray, List.getElem_cons_succ, List.getElem_cons_zero, List.setIfInBounds_toArray, List.set_cons_zero, List.set_cons_succ]
        refine Turns.take hS 26 _ rfl (by kernel_rfl) (by kernel_rfl) (by kernel_rfl) (by kernel_rfl) (fun _ _ _ h => h) (by rfl) (fun w' hS' => by (try dsimp only at hS'); go_split_ands; go_simp; (try with_reducible rfl)) ?_
        simp only [Act.put, List.getElem_toArray, List.getElem_cons_succ, List.getElem_cons_zero, List.setIfInBounds_toArray, List.set_cons_zero, List.set_cons_succ]
        refine Turns.take hS 27 _ rfl (by kernel_rfl) (by kernel_rfl) (by kernel_rfl) (by kernel_rfl) (fun _ _ _ h => h) (by rfl) (fun w' hS' => by (try dsimp only at hS'); go_split_ands; go_simp; (try with_reducible rfl)) ?_
        simp only [Act.put, List.getElem_toArray, List.getElem_cons_succ, List.getElem_cons_zero, List.setIfInBounds_toArray, List.set_cons_zero, List.set_cons_succ]
        refine Turns.next 24 rfl (by kernel_rfl) (by rfl) (fun K hK => ?_)
        go_simp
        go_at_call 15
        refine (ticks_any _ _ _ _ k1 k2).mono ?_
        rintro e wn24 ⟨rfl, hb⟩
        replace HT := Lib.hid (And.intro (hS.2.2.2.2.2.2.1.next hb) (hS.2.2.2.2.2.2.2.next hb))
        refine hK.out _ _ (show (fun (w' : World) => w'.cell? ⟨w.heap.size, 0, none⟩ = some (.int .i64 s0_0) ∧ w'.cell? ⟨w.heap.size, 1, none⟩ = some (.int .i64 s0_1) ∧ w'.cell? ⟨w.heap.size, 2, none⟩ = some (.int .i64 s0_2) ∧ w'.cell? ⟨wa.heap.size, 0, none⟩ = some (.int .i64 s0_0) ∧ w'.cell? ⟨wa.heap.size, 1, none⟩ = some (.int .i64 s0_1) ∧ w'.cell? ⟨wa.heap.size, 2, none⟩ = some (.int .i64 s0_2) ∧ Box w 23 #[.int .i64 s0_0, .int .i64 s0_1, .int .i64 s0_2] w' ∧ Box wa 25 #[.int .i64 s0_0, .int .i64 s0_1, .int .i64 s0_2] w') _ from Box.two HT.out) ?_
        clear hK K hS
        have hS := (show (fun (w' : World) => w'.cell? ⟨w.heap.size, 0, none⟩ = some (.int .i64 s0_0) ∧ w'.cell? ⟨w.heap.size, 1, none⟩ = some (.int .i64 s0_1) ∧ w'.cell? ⟨w.heap.size, 2, none⟩ = some (.int .i64 s0_2) ∧ w'.cell? ⟨wa.heap.size, 0, none⟩ = some (.int .i64 s0_0) ∧ w'.cell? ⟨wa.heap.size, 1, none⟩ = some (.int .i64 s0_1) ∧ w'.cell? ⟨wa.heap.size, 2, none⟩ = some (.int .i64 s0_2) ∧ Box w 23 #[.int .i64 s0_0, .int .i64 s0_1, .int .i64 s0_2] w' ∧ Box wa 25 #[.int .i64 s0_0, .int .i64 s0_1, .int .i64 s0_2] w') _ from Box.two HT.out)
        refine Turns.take hS 28 _ rfl (by kernel_rfl) (by kernel_rfl) (by kernel_rfl) (by kernel_rfl) (fun _ _ _ h => h) (by rfl) (fun w' hS' => by (try dsimp only at hS'); go_split_ands; go_simp; (try with_reducible rfl)) ?_
        simp only [Act.put, List.getElem_toArray, List.getElem_cons_succ, List.getElem_cons_zero, List.setIfInBounds_toArray, List.set_cons_zero, List.set_cons_succ]
        refine Turns.take hS 29 _ rfl (by kernel_rfl) (by kernel_rfl) (by kernel_rfl) (by kernel_rfl) (fun _ _ _ h => h) (by rfl) (fun w' hS' => by (try dsimp only at hS'); go_split_ands; go_simp; (try with_reducible rfl)) ?_
        simp only [Act.put, List.getElem_toArray, List.getElem_cons_succ, List.getElem_cons_zero, List.setIfInBounds_toArray, List.set_cons_zero, List.set_cons_succ]
        refine Turns.take hS 30 _ rfl (by kernel_rfl) (by kernel_rfl) (by kernel_rfl) (by kernel_rfl) (fun _ _ _ h => h) (by rfl) (fun w' hS' => by (try dsimp only at hS'); go_split_ands; go_simp; (try with_reducible rfl)) ?_
        simp only [Act.put, List.getElem_toArray, List.getElem_cons_succ, List.getElem_cons_zero, List.setIfInBounds_toArray, List.set_cons_zero, List.set_cons_succ]
        refine Turns.rest (late_done (by kernel_rfl)) ?_
        refine any_tail 31 (by rfl) (by kernel_rfl) ?_
        simp only [List.drop_succ_cons, List.drop_zero]
        clear hS
        go_wp2
        go_ret
        exact ⟨rfl, HT.out.1.below⟩
      · have g2 : (a1 % s0_0 == s0_2) = false := by simpa using g1
        have g3 : mineB s0_0 s0_2 a1 = false := mineB_no g1
        go_enter Try.func3, Try.ntmps3
        go_wp2_with (first
          | (go_at_call 7; refine (alive_yes _).mono ?_; rintro e wa ⟨rfl, hb⟩; have HT := Lib.hid (And.intro ((HB.out.next hb).alloc (.cells #[.int .i64 s0_0, .int .i64 s0_1, .int .i64 s0_2] 25)) (Box.start wa 25 #[.int .i64 s0_0, .int .i64 s0_1, .int .i64 s0_2])); obtain ⟨c0, c1, c2, _⟩ := HT.out.1.cells3; obtain ⟨b0, b1, b2, _⟩ := HT.out.2.cells3; obtain ⟨a0, a1', a2', _⟩ := (HB.out.next hb).cells3; clear hb)
          | (go_at_call 8; refine (rgood_yes _ _ _ _ hc).mono ?_; rintro e wx ⟨rfl, hb⟩; replace HT := Lib.hid (And.intro (HT.out.1.next hb) (HT.out.2.next hb)); obtain ⟨c0, c1, c2, _⟩ := HT.out.1.cells3; obtain ⟨b0, b1, b2, _⟩ := HT.out.2.cells3; clear hb))
        refine region_turns (fun (w' : World) => w'.cell? ⟨w.heap.size, 0, none⟩ = some (.int .i64 s0_0) ∧ w'.cell? ⟨w.heap.size, 1, none⟩ = some (.int .i64 s0_1) ∧ w'.cell? ⟨w.heap.size, 2, none⟩ = some (.int .i64 s0_2) ∧ w'.cell? ⟨wa.heap.size, 0, none⟩ = some (.int .i64 s0_0) ∧ w'.cell? ⟨wa.heap.size, 1, none⟩ = some (.int .i64 s0_1) ∧ w'.cell? ⟨wa.heap.size, 2, none⟩ = some (.int .i64 s0_2) ∧ Box w 23 #[.int .i64 s0_0, .int .i64 s0_1, .int .i64 s0_2] w' ∧ Box wa 25 #[.int .i64 s0_0, .int .i64 s0_1, .int .i64 s0_2] w') (fun j => decide (15 ≤ j)) (by kernel_rfl) (Box.two (And.intro HT.out.1.drew HT.out.2.drew)) (fun hS => ?_)
        refine Turns.take hS 0 _ rfl (by kernel_rfl) (by kernel_rfl) (by kernel_rfl) (by kernel_rfl) (fun _ _ _ h => h) (by rfl) (fun w' hS' => by (try dsimp only at hS'); go_split_ands; go_simp; (try with_reducible rfl)) ?_
        simp only [Act.put, List.getElem_toArray, List.getElem_cons_succ, List.getElem_cons_zero, List.setIfInBounds_toArray, List.set_cons_zero, List.set_cons_succ]
        refine Turns.take hS 2 _ rfl (by kernel_rfl) (by kernel_rfl) (by kernel_rfl) (by kernel_rfl) (fun _ _ _ h => h) (by rfl) (fun w' hS' => by (try dsimp only at hS'); go_split_ands; go_simp; (try with_reducible rfl)) ?_
        simp only [Act.put, List.getElem_toArray, List.getElem_cons_succ, List.getElem_cons_zero, List.setIfInBounds_toArray, List.set_cons_zero, List.set_cons_succ]
        refine Turns.next 1 rfl (by kernel_rfl) (by rfl) (fun K hK => ?_)
        go_simp
        go_at_call 9
        refine (good_yes _ _ _ _ hc).mono ?_
        rintro e wn1 ⟨rfl, hb⟩
        replace HT := Lib.hid (And.intro (hS.2.2.2.2.2.2.1.next hb) (hS.2.2.2.2.2.2.2.next hb))
        refine hK.out _ _ (show (fun (w' : World) => w'.cell? ⟨w.heap.size, 0, none⟩ = some (.int .i64 s0_0) ∧ w'.cell? ⟨w.heap.size, 1, none⟩ = some (.int .i64 s0_1) ∧ w'.cell? ⟨w.heap.size, 2, none⟩ = some (.int .i64 s0_2) ∧ w'.cell? ⟨wa.heap.size, 0, none⟩ = some (.int .i64 s0_0) ∧ w'.cell? ⟨wa.heap.size, 1, none⟩ = some (.int .i64 s0_1) ∧ w'.cell? ⟨wa.heap.size, 2, none⟩ = some (.int .i64 s0_2) ∧ Box w 23 #[.int .i64 s0_0, .int .i64 s0_1, .int .i64 s0_2] w' ∧ Box wa 25 #[.int .i64 s0_0, .int .i64 s0_1, .int .i64 s0_2] w') _ from Box.two HT.out) ?_
        clear hK K hS
        have hS := (show (fun (w' : World) => w'.cell? ⟨w.heap.size, 0, none⟩ = some (.int .i64 s0_0) ∧ w'.cell? ⟨w.heap.size, 1, none⟩ = some (.int .i64 s0_1) ∧ w'.cell? ⟨w.heap.size, 2, none⟩ = some (.int .i64 s0_2) ∧ w'.cell? ⟨wa.heap.size, 0, none⟩ = some (.int .i64 s0_0) ∧ w'.cell? ⟨wa.heap.size, 1, none⟩ = some (.int .i64 s0_1) ∧ w'.cell? ⟨wa.heap.size, 2, none⟩ = some (.int .i64 s0_2) ∧ Box w 23 #[.int .i64 s0_0, .int .i64 s0_1, .int .i64 s0_2] w' ∧ Box wa 25 #[.int .i64 s0_0, .int .i64 s0_1, .int .i64 s0_2] w') _ from Box.two HT.out)
        refine Turns.take hS 3 _ rfl (by kernel_rfl) (by kernel_rfl) (by kernel_rfl) (by kernel_rfl) (fun _ _ _ h => h) (by rfl) (fun w' hS' => by (try dsimp only at hS'); go_split_ands; go_simp; (try with_reducible rfl)) ?_
        simp only [Act.put, List.getElem_toArray, List.getElem_cons_succ, List.getElem_cons_zero, List.setIfInBounds_toArray, List.set_cons_zero, List.set_cons_succ]
        refine Turns.take hS 4 _ rfl (by kernel_rfl) (by kernel_rfl) (by kernel_rfl) (by kernel_rfl) (fun _ _ _ h => h) (by rfl) (fun w' hS' => by (try dsimp only at hS'); go_split_ands; go_simp; (try with_reducible rfl)) ?_
        simp only [Act.put, List.getElem_toArray, List.getElem_cons_succ, List.getElem_cons_zero, List.setIfInBounds_toArray, List.set_cons_zero, List.set_cons_succ]
        refine Turns.take hS 5 _ rfl (by kernel_rfl) (by kernel_rfl) (by kernel_rfl) (by kernel_rfl) (fun _ _ _ h => h) (by rfl) (fun w' hS' => by (try dsimp only at hS'); go_split_ands; go_simp; (try with_reducible rfl)) ?_
        simp only [Act.put, List.getElem_toArray, List.getElem_cons_succ, List.getElem_cons_zero, List.setIfInBounds_toArray, List.set_cons_zero, List.set_cons_succ]
        refine Turns.take hS 6 _ rfl (by kernel_rfl) (by kernel_rfl) (by kernel_rfl) (by kernel_rfl) (fun _ _ _ h => h) (by rfl) (fun w' hS' => by (try dsimp only at hS'); go_split_ands; go_simp; (try with_reducible rfl)) ?_
        simp only [Act.put, List.getElem_toArray, List.getElem_cons_succ, List.getElem_cons_zero, List.setIfInBounds_toArray, List.set_cons_zero, List.set_cons_succ]
        refine Turns.take hS 7 _ rfl (by kernel_rfl) (by kernel_rfl) (by kernel_rfl) (by kernel_rfl) (fun _ _ _ h => h) (by rfl) (fun w' hS' => by (try dsimp only at hS'); go_split_ands; go_simp; (try with_reducible rfl)) ?_
        simp only [Act.put, List.getElem_toArray, List.getElem_cons_succ, List.getElem_cons_zero, List.setIfInBounds_toArray, List.set_cons_zero, List.set_cons_succ]
        refine Turns.take hS 9 _ rfl (by kernel_rfl) (by kernel_rfl) (by kernel_rfl) (by kernel_rfl) (fun _ _ _ h => h) (by rfl) (fun w' hS' => by (try dsimp only at hS'); go_split_ands; go_simp; (try with_reducible rfl)) ?_
        simp only [Act.put, List.getElem_toArray, List.getElem_cons_succ, List.getElem_cons_zero, List.setIfInBounds_toArray, List.set_cons_zero, List.set_cons_succ]
        refine Turns.take hS 10 _ rfl (by kernel_rfl) (by kernel_rfl) (by kernel_rfl) (by kernel_rfl) (fun _ _ _ h => h) (by rfl) (fun w' hS' => by (try dsimp only at hS'); go_split_ands; go_simp; (try with_reducible rfl)) ?_
        simp only [Act.put, List.getElem_toArray, List.getElem_cons_succ, List.getElem_cons_zero, List.setIfInBounds_toArray, List.set_cons_zero, List.set_cons_succ]
        refine Turns.take hS 11 _ rfl (by kernel_rfl) (by kernel_rfl) (by kernel_rfl) (by kernel_rfl) (fun _ _ _ h => h) (by rfl) (fun w' hS' => by (try dsimp only at hS'); go_split_ands; go_simp; (try with_reducible rfl)) ?_
        simp only [Act.put, List.getElem_toArray, List.getElem_cons_succ, List.getElem_cons_zero, List.setIfInBounds_toArray, List.set_cons_zero, List.set_cons_succ]
        refine Turns.next 8 rfl (by kernel_rfl) (by rfl) (fun K hK => ?_)
        go_simp
        go_at_call 10
        refine (awake_any _ _ _ _ _ _ hc ht hg).mono ?_
        rintro e wn8 ⟨rfl, hb⟩
        replace HT := Lib.hid (And.intro (hS.2.2.2.2.2.2.1.next hb) (hS.2.2.2.2.2.2.2.next hb))
        refine hK.out _ _ (show (fun (w' : World) => w'.cell? ⟨w.heap.size, 0, none⟩ = some (.int .i64 s0_0) ∧ w'.cell? ⟨w.heap.size, 1, none⟩ = some (.int .i64 s0_1) ∧ w'.cell? ⟨w.heap.size, 2, none⟩ = some (.int .i64 s0_2) ∧ w'.cell? ⟨wa.heap.size, 0, none⟩ = some (.int .i64 s0_0) ∧ w'.cell? ⟨wa.heap.size, 1, none⟩ = some (.int .i64 s0_1) ∧ w'.cell? ⟨wa.heap.size, 2, none⟩ = some (.int .i64 s0_2) ∧ Box w 23 #[.int .i64 s0_0, .int .i64 s0_1, .int .i64 s0_2] w' ∧ Box wa 25 #[.int .i64 s0_0, .int .i64 s0_1, .int .i64 s0_2] w') _ from Box.two HT.out) ?_
        clear hK K hS
        have hS := (show (fun (w' : World) => w'.cell? ⟨w.heap.size, 0, none⟩ = some (.int .i64 s0_0) ∧ w'.cell? ⟨w.heap.size, 1, none⟩ = some (.int .i64 s0_1) ∧ w'.cell? ⟨w.heap.size, 2, none⟩ = some (.int .i64 s0_2) ∧ w'.cell? ⟨wa.heap.size, 0, none⟩ = some (.int .i64 s0_0) ∧ w'.cell? ⟨wa.heap.size, 1, none⟩ = some (.int .i64 s0_1) ∧ w'.cell? ⟨wa.heap.size, 2, none⟩ = some (.int .i64 s0_2) ∧ Box w 23 #[.int .i64 s0_0, .int .i64 s0_1, .int .i64 s0_2] w' ∧ Box wa 25 #[.int .i64 s0_0, .int .i64 s0_1, .int .i64 s0_2] w') _ from Box.two HT.out)
        refine Turns.next 12 rfl (by kernel_rfl) (by rfl) (fun K hK => ?_)
        go_simp
        go_at_call 11
        refine (rawake_any _ _ _ _ _ _ hc ht hg).mono ?_
        rintro e wn12 ⟨rfl, hb⟩
        replace HT := Lib.hid (And.intro (hS.2.2.2.2.2.2.1.next hb) (hS.2.2.2.2.2.2.2.next hb))
        refine hK.out _ _ (show (fun (w' : World) => w'.cell? ⟨w.heap.size, 0, none⟩ = some (.int .i64 s0_0) ∧ w'.cell? ⟨w.heap.size, 1, none⟩ = some (.int .i64 s0_1) ∧ w'.cell? ⟨w.heap.size, 2, none⟩ = some (.int .i64 s0_2) ∧ w'.cell? ⟨wa.heap.size, 0, none⟩ = some (.int .i64 s0_0) ∧ w'.cell? ⟨wa.heap.size, 1, none⟩ = some (.int .i64 s0_1) ∧ w'.cell? ⟨wa.heap.size, 2, none⟩ = some (.int .i64 s0_2) ∧ Box w 23 #[.int .i64 s0_0, .int .i64 s0_1, .int .i64 s0_2] w' ∧ Box wa 25 #[.int .i64 s0_0, .int .i64 s0_1, .int .i64 s0_2] w') _ from Box.two HT.out) ?_
        clear hK K hS
        have hS := (show (fun (w' : World) => w'.cell? ⟨w.heap.size, 0, none⟩ = some (.int .i64 s0_0) ∧ w'.cell? ⟨w.heap.size, 1, none⟩ = some (.int .i64 s0_1) ∧ w'.cell? ⟨w.heap.size, 2, none⟩ = some (.int .i64 s0_2) ∧ w'.cell? ⟨wa.heap.size, 0, none⟩ = some (.int .i64 s0_0) ∧ w'.cell? ⟨wa.heap.size, 1, none⟩ = some (.int .i64 s0_1) ∧ w'.cell? ⟨wa.heap.size, 2, none⟩ = some (.int .i64 s0_2) ∧ Box w 23 #[.int .i64 s0_0, .int .i64 s0_1, .int .i64 s0_2] w' ∧ Box wa 25 #[.int .i64 s0_0, .int .i64 s0_1, .int .i64 s0_2] w') _ from Box.two HT.out)
        refine Turns.take hS 13 _ rfl (by kernel_rfl) (by kernel_rfl) (by kernel_rfl) (by kernel_rfl) (fun _ _ _ h => h) (by rfl) (fun w' hS' => by (try dsimp only at hS'); go_split_ands; go_simp; (try with_reducible rfl)) ?_
        simp only [Act.put, List.getElem_toArray, List.getElem_cons_succ, List.getElem_cons_zero, List.setIfInBounds_toArray, List.set_cons_zero, List.set_cons_succ]
        refine Turns.take hS 14 _ rfl (by kernel_rfl) (by kernel_rfl) (by kernel_rfl) (by kernel_rfl) (fun _ _ _ h => h) (by rfl) (fun w' hS' => by (try dsimp only at hS'); go_split_ands; go_simp; (try with_reducible rfl)) ?_
        simp only [Act.put, List.getElem_toArray, List.getElem_cons_succ, List.getElem_cons_zero, List.setIfInBounds_toArray, List.set_cons_zero, List.set_cons_succ]
        refine Turns.rest (late_done (by kernel_rfl)) ?_
        refine any_tail 15 (by rfl) (by kernel_rfl) ?_
        simp only [List.drop_succ_cons, List.drop_zero]
        clear hS
        obtain ⟨c0, c1, c2, _⟩ := HT.out.1.cells3
        obtain ⟨b0, b1, b2, _⟩ := HT.out.2.cells3
        go_wp2_with (first
          | (go_at_call 14; refine (rphase_any _ _ _ _ _ k1 k2 ht).mono ?_; rintro e wx ⟨rfl, hb⟩; replace HT := Lib.hid (And.intro (HT.out.1.next hb) (HT.out.2.next hb)); obtain ⟨c0, c1, c2, _⟩ := HT.out.1.cells3; obtain ⟨b0, b1, b2, _⟩ := HT.out.2.cells3; clear hb))
        refine region_turns (fun (w' : World) => w'.cell? ⟨w.heap.size, 0, none⟩ = some (.int .i64 s0_0) ∧ w'.cell? ⟨w.heap.size, 1, none⟩ = some (.int .i64 s0_1) ∧ w'.cell? ⟨w.heap.size, 2, none⟩ = some (.int .i64 s0_2) ∧ w'.cell? ⟨wa.heap.size, 0, none⟩ = some (.int .i64 s0_0) ∧ w'.cell? ⟨wa.heap.size, 1, none⟩ = some (.int .i64 s0_1) ∧ w'.cell? ⟨wa.heap.size, 2, none⟩ = some (.int .i64 s0_2) ∧ Box w 23 #[.int .i64 s0_0, .int .i64 s0_1, .int .i64 s0_2] w' ∧ Box wa 25 #[.int .i64 s0_0, .int .i64 s0_1, .int .i64 s0_2] w') (fun j => decide (31 ≤ j)) (by kernel_rfl) (Box.two (And.intro HT.out.1.drew HT.out.2.drew)) (fun hS => ?_)
        refine Turns.take hS 0 _ rfl (by kernel_rfl) (by kernel_rfl) (by kernel_rfl) (by kernel_rfl) (fun _ _ _ h => h) (by rfl) (fun w' hS' => by (try dsimp only at hS'); go_split_ands; go_simp; (try with_reducible rfl)) ?_
        simp only [Act.put, List.getElem_toArray, List.getElem_cons_succ, List.getElem_cons_zero, List.setIfInBounds_toArray, List.set_cons_zero, List.set_cons_succ]
        refine Turns.take hS 1 _ rfl (by kernel_rfl) (by kernel_rfl) (by kernel_rfl) (by kernel_rfl) (fun _ _ _ h => h) (by rfl) (fun w' hS' => by (try dsimp only at hS'); go_split_ands; go_simp; (try with_reducible rfl)) ?_
        simp only [Act.put, List.getElem_toArray, List.getElem_cons_succ, List.getElem_cons_zero, List.setIfInBounds_toArray, List.set_cons_zero, List.set_cons_succ]
        refine Turns.take hS 3 _ rfl (by kernel_rfl) (by kernel_rfl) (by kernel_rfl) (by kernel_rfl) (fun _ _ _ h => h) (by rfl) (fun w' hS' => by (try dsimp only at hS'); go_split_ands; go_simp; (try with_reducible rfl)) ?_
        simp only [Act.put, List.getElem_toArray, List.getElem_cons_succ, List.getElem_cons_zero, List.setIfInBounds_toArray, List.set_cons_zero, List.set_cons_succ]
        refine Turns.take hS 4 _ rfl (by kernel_rfl) (by kernel_rfl) (by kernel_rfl) (by kernel_rfl) (fun _ _ _ h => h) (by rfl) (fun w' hS' => by (try dsimp only at hS'); go_split_ands; go_simp; (try with_reducible rfl)) ?_
        simp only [Act.put, List.getElem_toArray, List.getElem_cons_succ, List.getElem_cons_zero, List.setIfInBounds_toArray, List.set_cons_zero, List.set_cons_succ]
        refine Turns.next 2 rfl (by kernel_rfl) (by rfl) (fun K hK => ?_)
        go_simp
        go_at_call 12
        refine (mine_any _ _ _ _ _ hc hs).mono ?_
        rintro e wn2 ⟨rfl, hb⟩
        replace HT := Lib.hid (And.intro (hS.2.2.2.2.2.2.1.next hb) (hS.2.2.2.2.2.2.2.next hb))
        refine hK.out _ _ (show (fun (w' : World) => w'.cell? ⟨w.heap.size, 0, none⟩ = some (.int .i64 s0_0) ∧ w'.cell? ⟨w.heap.size, 1, none⟩ = some (.int .i64 s0_1) ∧ w'.cell? ⟨w.heap.size, 2, none⟩ = some (.int .i64 s0_2) ∧ w'.cell? ⟨wa.heap.size, 0, none⟩ = some (.int .i64 s0_0) ∧ w'.cell? ⟨wa.heap.size, 1, none⟩ = some (.int .i64 s0_1) ∧ w'.cell? ⟨wa.heap.size, 2, none⟩ = some (.int .i64 s0_2) ∧ Box w 23 #[.int .i64 s0_0, .int .i64 s0_1, .int .i64 s0_2] w' ∧ Box wa 25 #[.int .i64 s0_0, .int .i64 s0_1, .int .i64 s0_2] w') _ from Box.two HT.out) ?_
        clear hK K hS
        have hS := (show (fun (w' : World) => w'.cell? ⟨w.heap.size, 0, none⟩ = some (.int .i64 s0_0) ∧ w'.cell? ⟨w.heap.size, 1, none⟩ = some (.int .i64 s0_1) ∧ w'.cell? ⟨w.heap.size, 2, none⟩ = some (.int .i64 s0_2) ∧ w'.cell? ⟨wa.heap.size, 0, none⟩ = some (.int .i64 s0_0) ∧ w'.cell? ⟨wa.heap.size, 1, none⟩ = some (.int .i64 s0_1) ∧ w'.cell? ⟨wa.heap.size, 2, none⟩ = some (.int .i64 s0_2) ∧ Box w 23 #[.int .i64 s0_0, .int .i64 s0_1, .int .i64 s0_2] w' ∧ Box wa 25 #[.int .i64 s0_0, .int .i64 s0_1, .int .i64 s0_2] w') _ from Box.two HT.out)
        refine Turns.take hS 5 _ rfl (by kernel_rfl) (by kernel_rfl) (by kernel_rfl) (by kernel_rfl) (fun _ _ _ h => h) (by rfl) (fun w' hS' => by (try dsimp only at hS'); go_split_ands; go_simp; (try with_reducible rfl)) ?_
        simp only [Act.put, List.getElem_toArray, List.getElem_cons_succ, List.getElem_cons_zero, List.setIfInBounds_toArray, List.set_cons_zero, List.set_cons_succ]
        refine Turns.take hS 6 _ rfl (by kernel_rfl) (by kernel_rfl) (by kernel_rfl) (by kernel_rfl) (fun _ _ _ h => h) (by rfl) (fun w' hS' => by (try dsimp only at hS'); go_split_ands; go_simp; (try with_reducible rfl)) ?_
        simp only [Act.put, List.getElem_toArray, List.getElem_cons_succ, List.getElem_cons_zero, List.setIfInBounds_toArray, List.set_cons_zero, List.set_cons_succ]
        refine Turns.take hS 7 _ rfl (by kernel_rfl) (by kernel_rfl) (by kernel_rfl) (by kernel_rfl) (fun _ _ _ h => h) (by rfl) (fun w' hS' => by (try dsimp only at hS'); go_split_ands; go_simp; (try with_reducible rfl)) ?_
        simp only [Act.put, List.getElem_toArray, List.getElem_cons_succ, List.getElem_cons_zero, List.setIfInBounds_toArray, List.set_cons_zero, List.set_cons_succ]
        refine Turns.take hS 8 _ rfl (by kernel_rfl) (by kernel_rfl) (by kernel_rfl) (by kernel_rfl) (fun _ _ _ h => h) (by rfl) (fun w' hS' => by (try dsimp only at hS'); go_split_ands; go_simp; (try with_reducible rfl)) ?_
        simp only [Act.put, List.getElem_toArray, List.getElem_cons_succ, List.getElem_cons_zero, List.setIfInBounds_toArray, List.set_cons_zero, List.set_cons_succ]
        refine Turns.take hS 9 _ rfl (by kernel_rfl) (by kernel_rfl) (by kernel_rfl) (by kernel_rfl) (fun _ _ _ h => h) (by rfl) (fun w' hS' => by (try dsimp only at hS'); go_split_ands; go_simp; (try with_reducible rfl)) ?_
        simp only [Act.put, List.getElem_toArray, List.getElem_cons_succ, List.getElem_cons_zero, List.setIfInBounds_toArray, List.set_cons_zero, List.set_cons_succ]
        refine Turns.take hS 10 _ rfl (by kernel_rfl) (by kernel_rfl) (by kernel_rfl) (by kernel_rfl) (fun _ _ _ h => h) (by rfl) (fun w' hS' => by (try dsimp only at hS'); go_split_ands; go_simp; (try with_reducible rfl)) ?_
        simp only [Act.put, List.getElem_toArray, List.getElem_cons_succ, List.getElem_cons_zero, List.setIfInBounds_toArray, List.set_cons_zero, List.set_cons_succ]
        refine Turns.take hS 11 _ rfl (by kernel_rfl) (by kernel_rfl) (by kernel_rfl) (by kernel_rfl) (fun _ _ _ h => h) (by rfl) (fun w' hS' => by (try dsimp only at hS'); go_split_ands; go_simp; (try with_reducible rfl)) ?_
        simp only [Act.put, List.getElem_toArray, List.getElem_cons_succ, List.getElem_cons_zero, List.setIfInBounds_toArray, List.set_cons_zero, List.set_cons_succ]
        refine Turns.take hS 12 _ rfl (by kernel_rfl) (by kernel_rfl) (by kernel_rfl) (by kernel_rfl) (fun _ _ _ h => h) (by rfl) (fun w' hS' => by (try dsimp only at hS'); go_split_ands; go_simp; (try with_reducible rfl)) ?_
        simp only [Act.put, List.getElem_toArray, List.getElem_cons_succ, List.getElem_cons_zero, List.setIfInBounds_toArray, List.set_cons_zero, List.set_cons_succ]
        refine Turns.take hS 13 _ rfl (by kernel_rfl) (by kernel_rfl) (by kernel_rfl) (by kernel_rfl) (fun _ _ _ h => h) (by rfl) (fun w' hS' => by (try dsimp only at hS'); go_split_ands; go_simp; (try with_reducible rfl)) ?_
        simp only [Act.put, List.getElem_toArray, List.getElem_cons_succ, List.getElem_cons_zero, List.setIfInBounds_toArray, List.set_cons_zero, List.set_cons_succ]
        refine Turns.take hS 14 _ rfl (by kernel_rfl) (by kernel_rfl) (by kernel_rfl) (by kernel_rfl) (fun _ _ _ h => h) (by rfl) (fun w' hS' => by (try dsimp only at hS'); go_split_ands; go_simp; (try with_reducible rfl)) ?_
        simp only [Act.put, List.getElem_toArray, List.getElem_cons_succ, List.getElem_cons_zero, List.setIfInBounds_toArray, List.set_cons_zero, List.set_cons_succ]
        refine Turns.take hS 15 _ rfl (by kernel_rfl) (by kernel_rfl) (by kernel_rfl) (by kernel_rfl) (fun _ _ _ h => h) (by rfl) (fun w' hS' => by (try dsimp only at hS'); go_split_ands; go_simp; (try with_reducible rfl)) ?_
        simp only [Act.put, List.getElem_toArray, List.getElem_cons_succ, List.getElem_cons_zero, List.setIfInBounds_toArray, List.set_cons_zero, List.set_cons_succ]
        refine Turns.take hS 16 _ rfl (by kernel_rfl) (by kernel_rfl) (by kernel_rfl) (by kernel_rfl) (fun _ _ _ h => h) (by rfl) (fun w' hS' => by (try dsimp only at hS'); go_split_ands; go_simp; (try with_reducible rfl)) ?_
        simp only [Act.put, List.getElem_toArray, List.getElem_cons_succ, List.getElem_cons_zero, List.setIfInBounds_toArray, List.set_cons_zero, List.set_cons_succ]
        refine Turns.take hS 17 _ rfl (by kernel_rfl) (by kernel_rfl) (by kernel_rfl) (by kernel_rfl) (fun _ _ _ h => h) (by rfl) (fun w' hS' => by (try dsimp only at hS'); go_split_ands; go_simp; (try with_reducible rfl)) ?_
        simp only [Act.put, List.getElem_toArray, List.getElem_cons_succ, List.getElem_cons_zero, List.setIfInBounds_toArray, List.set_cons_zero, List.set_cons_succ]
        refine Turns.take hS 19 _ rfl (by kernel_rfl) (by kernel_rfl) (by kernel_rfl) (by kernel_rfl) (fun _ _ _ h => h) (by rfl) (fun w' hS' => by (try dsimp only at hS'); go_split_ands; go_simp; (try with_reducible rfl)) ?_
        simp only [Act.put, List.getElem_toArray, List.getElem_cons_succ, List.getElem_cons_zero, List.setIfInBounds_toArray, List.set_cons_zero, List.set_cons_succ]
        refine Turns.next 18 rfl (by kernel_rfl) (by rfl) (fun K hK => ?_)
        go_simp
        go_at_call 13
        refine (rest_any _ _ _ _ _ hc ht).mono ?_
        rintro e wn18 ⟨rfl, hb⟩
        replace HT := Lib.hid (And.intro (hS.2.2.2.2.2.2.1.next hb) (hS.2.2.2.2.2.2.2.next hb))
        refine hK.out _ _ (show (fun (w' : World) => w'.cell? ⟨w.heap.size, 0, none⟩ = some (.int .i64 s0_0) ∧ w'.cell? ⟨w.heap.size, 1, none⟩ = some (.int .i64 s0_1) ∧ w'.cell? ⟨w.heap.size, 2, none⟩ = some (.int .i64 s0_2) ∧ w'.cell? ⟨wa.heap.size, 0, none⟩ = some (.int .i64 s0_0) ∧ w'.cell? ⟨wa.heap.size, 1, none⟩ = some (.int .i64 s0_1) ∧ w'.cell? ⟨wa.heap.size, 2, none⟩ = some (.int .i64 s0_2) ∧ Box w 23 #[.int .i64 s0_0, .int .i64 s0_1, .int .i64 s0_2] w' ∧ Box wa 25 #[.int .i64 s0_0, .int .i64 s0_1, .int .i64 s0_2] w') _ from Box.two HT.out) ?_
        clear hK K hS
        have hS := (show (fun (w' : World) => w'.cell? ⟨w.heap.size, 0, none⟩ = some (.int .i64 s0_0) ∧ w'.cell? ⟨w.heap.size, 1, none⟩ = some (.int .i64 s0_1) ∧ w'.cell? ⟨w.heap.size, 2, none⟩ = some (.int .i64 s0_2) ∧ w'.cell? ⟨wa.heap.size, 0, none⟩ = some (.int .i64 s0_0) ∧ w'.cell? ⟨wa.heap.size, 1, none⟩ = some (.int .i64 s0_1) ∧ w'.cell? ⟨wa.heap.size, 2, none⟩ = some (.int .i64 s0_2) ∧ Box w 23 #[.int .i64 s0_0, .int .i64 s0_1, .int .i64 s0_2] w' ∧ Box wa 25 #[.int .i64 s0_0, .int .i64 s0_1, .int .i64 s0_2] w') _ from Box.two HT.out)
        refine Turns.take hS 20 _ rfl (by kernel_rfl) (by kernel_rfl) (by kernel_rfl) (by kernel_rfl) (fun _ _ _ h => h) (by rfl) (fun w' hS' => by (try dsimp only at hS'); go_split_ands; go_simp; (try with_reducible rfl)) ?_
        simp only [Act.put, List.getElem_toArray, List.getElem_cons_succ, List.getElem_cons_zero, List.setIfInBounds_toArray, List.set_cons_zero, List.set_cons_succ]
        refine Turns.take hS 21 _ rfl (by kernel_rfl) (by kernel_rfl) (by kernel_rfl) (by kernel_rfl) (fun _ _ _ h => h) (by rfl) (fun w' hS' => by (try dsimp only at hS'); go_split_ands; go_simp; (try with_reducible rfl)) ?_
        simp only [Act.put, List.getElem_toArray, List.getElem_cons_succ, List.getElem_cons_zero, List.setIfInBounds_toArray, List.set_cons_zero, List.set_cons_succ]
        refine Turns.take hS 22 _ rfl (by kernel_rfl) (by kernel_rfl) (by kernel_rfl) (by kernel_rfl) (fun _ _ _ h => h) (by rfl) (fun w' hS' => by (try dsimp only at hS'); go_split_ands; go_simp; (try with_reducible rfl)) ?_
        simp only [Act.put, List.getElem_toArray, List.getElem_cons_succ, List.getElem_cons_zero, List.setIfInBounds_toArray, List.set_cons_zero, List.set_cons_succ]
        refine Turns.take hS 23 _ rfl (by kernel_rfl) (by kernel_rfl) (by kernel_rfl) (by kernel_rfl) (fun _ _ _ h => h) (by rfl) (fun w' hS' => by (try dsimp only at hS'); go_split_ands; go_simp; (try with_reducible rfl)) ?_
        simp only [Act.put, List.getElem_toArray, List.getElem_cons_succ, List.getElem_cons_zero, List.setIfInBounds_toArray, List.set_cons_zero, List.set_cons_succ]
        refine Turns.take hS 25 _ rfl (by kernel_rfl) (by kernel_rfl) (by kernel_rfl) (by kernel_rfl) (fun _ _ _ h => h) (by rfl) (fun w' hS' => by (try dsimp only at hS'); go_split_ands; go_simp; (try with_reducible rfl)) ?_
        simp only [Act.put, List.getElem_toArray, List.getElem_cons_succ, List.getElem_cons_zero, List.setIfInBounds_toArray, List.set_cons_zero, List.set_cons_succ]
        refine Turns.take hS 26 _ rfl (by kernel_rfl) (by kernel_rfl) (by kernel_rfl) (by kernel_rfl) (fun _ _ _ h => h) (by rfl) (fun w' hS' => by (try dsimp only at hS'); go_split_ands; go_simp; (try with_reducible rfl)) ?_
        simp only [Act.put, List.getElem_toArray, List.getElem_cons_succ, List.getElem_cons_zero, List.setIfInBounds_toArray, List.set_cons_zero, List.set_cons_succ]
        refine Turns.take hS 27 _ rfl (by kernel_rfl) (by kernel_rfl) (by kernel_rfl) (by kernel_rfl) (fun _ _ _ h => h) (by rfl) (fun w' hS' => by (try dsimp only at hS'); go_split_ands; go_simp; (try with_reducible rfl)) ?_
        simp only [Act.put, List.getElem_toArray, List.getElem_cons_succ, List.getElem_cons_zero, List.setIfInBounds_toArray, List.set_cons_zero, List.set_cons_succ]
        refine Turns.next 24 rfl (by kernel_rfl) (by rfl) (fun K hK => ?_)
        go_simp
        go_at_call 15
        refine (ticks_any _ _ _ _ k1 k2).mono ?_
        rintro e wn24 ⟨rfl, hb⟩
        replace HT := Lib.hid (And.intro (hS.2.2.2.2.2.2.1.next hb) (hS.2.2.2.2.2.2.2.next hb))
        refine hK.out _ _ (show (fun (w' : World) => w'.cell? ⟨w.heap.size, 0, none⟩ = some (.int .i64 s0_0) ∧ w'.cell? ⟨w.heap.size, 1, none⟩ = some (.int .i64 s0_1) ∧ w'.cell? ⟨w.heap.size, 2, none⟩ = some (.int .i64 s0_2) ∧ w'.cell? ⟨wa.heap.size, 0, none⟩ = some (.int .i64 s0_0) ∧ w'.cell? ⟨wa.heap.size, 1, none⟩ = some (.int .i64 s0_1) ∧ w'.cell? ⟨wa.heap.size, 2, none⟩ = some (.int .i64 s0_2) ∧ Box w 23 #[.int .i64 s0_0, .int .i64 s0_1, .int .i64 s0_2] w' ∧ Box wa 25 #[.int .i64 s0_0, .int .i64 s0_1, .int .i64 s0_2] w') _ from Box.two HT.out) ?_
        clear hK K hS
        have hS := (show (fun (w' : World) => w'.cell? ⟨w.heap.size, 0, none⟩ = some (.int .i64 s0_0) ∧ w'.cell? ⟨w.heap.size, 1, none⟩ = some (.int .i64 s0_1) ∧ w'.cell? ⟨w.heap.size, 2, none⟩ = some (.int .i64 s0_2) ∧ w'.cell? ⟨wa.heap.size, 0, none⟩ = some (.int .i64 s0_0) ∧ w'.cell? ⟨wa.heap.size, 1, none⟩ = some (.int .i64 s0_1) ∧ w'.cell? ⟨wa.heap.size, 2, none⟩ = some (.int .i64 s0_2) ∧ Box w 23 #[.int .i64 s0_0, .int .i64 s0_1, .int .i64 s0_2] w' ∧ Box wa 25 #[.int .i64 s0_0, .int .i64 s0_1, .int .i64 s0_2] w') _ from Box.two HT.out)
        refine Turns.take hS 28 _ rfl (by kernel_rfl) (by kernel_rfl) (by kernel_rfl) (by kernel_rfl) (fun _ _ _ h => h) (by rfl) (fun w' hS' => by (try dsimp only at hS'); go_split_ands; go_simp; (try with_reducible rfl)) ?_
        simp only [Act.put, List.getElem_toArray, List.getElem_cons_succ, List.getElem_cons_zero, List.setIfInBounds_toArray, List.set_cons_zero, List.set_cons_succ]
        refine Turns.take hS 29 _ rfl (by kernel_rfl) (by kernel_rfl) (by kernel_rfl) (by kernel_rfl) (fun _ _ _ h => h) (by rfl) (fun w' hS' => by (try dsimp only at hS'); go_split_ands; go_simp; (try with_reducible rfl)) ?_
        simp only [Act.put, List.getElem_toArray, List.getElem_cons_succ, List.getElem_cons_zero, List.setIfInBounds_toArray, List.set_cons_zero, List.set_cons_succ]
        refine Turns.take hS 30 _ rfl (by kernel_rfl) (by kernel_rfl) (by kernel_rfl) (by kernel_rfl) (fun _ _ _ h => h) (by rfl) (fun w' hS' => by (try dsimp only at hS'); go_split_ands; go_simp; (try with_reducible rfl)) ?_
        simp only [Act.put, List.getElem_toArray, List.getElem_cons_succ, List.getElem_cons_zero, List.setIfInBounds_toArray, List.set_cons_zero, List.set_cons_succ]
        refine Turns.rest (late_done (by kernel_rfl)) ?_
        refine any_tail 31 (by rfl) (by kernel_rfl) ?_
        simp only [List.drop_succ_cons, List.drop_zero]
        clear hS
        go_wp2
        go_ret
        exact ⟨rfl, HT.out.1.below⟩
    · have g3 : mineB s0_0 s0_2 a1 = false := mineB_neg g0
      have g1 : decide (0 ≤ a1) = false := decide_eq_false g0
      go_enter Try.func3, Try.ntmps3
      go_wp2_with (first
        | (go_at_call 7; refine (alive_yes _).mono ?_; rintro e wa ⟨rfl, hb⟩; have HT := Lib.hid (And.intro ((HB.out.next hb).alloc (.cells #[.int .i64 s0_0, .int .i64 s0_1, .int .i64 s0_2] 25)) (Box.start wa 25 #[.int .i64 s0_0, .int .i64 s0_1, .int .i64 s0_2])); obtain ⟨c0, c1, c2, _⟩ := HT.out.1.cells3; obtain ⟨b0, b1, b2, _⟩ := HT.out.2.cells3; obtain ⟨a0, a1', a2', _⟩ := (HB.out.next hb).cells3; clear hb)
        | (go_at_call 8; refine (rgood_yes _ _ _ _ hc).mono ?_; rintro e wx ⟨rfl, hb⟩; replace HT := Lib.hid (And.intro (HT.out.1.next hb) (HT.out.2.next hb)); obtain ⟨c0, c1, c2, _⟩ := HT.out.1.cells3; obtain ⟨b0, b1, b2, _⟩ := HT.out.2.cells3; clear hb))
      refine region_turns (fun (w' : World) => w'.cell? ⟨w.heap.size, 0, none⟩ = some (.int .i64 s0_0) ∧ w'.cell? ⟨w.heap.size, 1, none⟩ = some (.int .i64 s0_1) ∧ w'.cell? ⟨w.heap.size, 2, none⟩ = some (.int .i64 s0_2) ∧ w'.cell? ⟨wa.heap.size, 0, none⟩ = some (.int .i64 s0_0) ∧ w'.cell? ⟨wa.heap.size, 1, none⟩ = some (.int .i64 s0_1) ∧ w'.cell? ⟨wa.heap.size, 2, none⟩ = some (.int .i64 s0_2) ∧ Box w 23 #[.int .i64 s0_0, .int .i64 s0_1, .int .i64 s0_2] w' ∧ Box wa 25 #[.int .i64 s0_0, .int .i64 s0_1, .int .i64 s0_2] w') (fun j => decide (15 ≤ j)) (by kernel_rfl) (Box.two (And.intro HT.out.1.drew HT.out.2.drew)) (fun hS => ?_)
      refine Turns.take hS 0 _ rfl (by kernel_rfl) (by kernel_rfl) (by kernel_rfl) (by kernel_rfl) (fun _ _ _ h => h) (by rfl) (fun w' hS' => by (try dsimp only at hS'); go_split_ands; go_simp; (try with_reducible rfl)) ?_
      simp only [Act.put, List.getElem_toArray, List.getElem_cons_succ, List.getElem_cons_zero, List.setIfInBounds_toArray, List.set_cons_zero, List.set_cons_succ]
      refine Turns.take hS 2 _ rfl (by kernel_rfl) (by kernel_rfl) (by kernel_rfl) (by kernel_rfl) (fun _ _ _ h => h) (by rfl) (fun w' hS' => by (try dsimp only at hS'); go_split_ands; go_simp; (try with_reducible rfl)) ?_
      simp only [Act.put, List.getElem_toArray, List.getElem_cons_succ, List.getElem_cons_zero, List.setIfInBounds_toArray, List.set_cons_zero, List.set_cons_succ]
      refine Turns.next 1 rfl (by kernel_rfl) (by rfl) (fun K hK => ?_)
      go_simp
      go_at_call 9
      refine (good_yes _ _ _ _ hc).mono ?_
      rintro e wn1 ⟨rfl, hb⟩
      replace HT := Lib.hid (And.intro (hS.2.2.2.2.2.2.1.next hb) (hS.2.2.2.2.2.2.2.next hb))
      refine hK.out _ _ (show (fun (w' : World) => w'.cell? ⟨w.heap.size, 0, none⟩ = some (.int .i64 s0_0) ∧ w'.cell? ⟨w.heap.size, 1, none⟩ = some (.int .i64 s0_1) ∧ w'.cell? ⟨w.heap.size, 2, none⟩ = some (.int .i64 s0_2) ∧ w'.cell? ⟨wa.heap.size, 0, none⟩ = some (.int .i64 s0_0) ∧ w'.cell? ⟨wa.heap.size, 1, none⟩ = some (.int .i64 s0_1) ∧ w'.cell? ⟨wa.heap.size, 2, none⟩ = some (.int .i64 s0_2) ∧ Box w 23 #[.int .i64 s0_0, .int .i64 s0_1, .int .i64 s0_2] w' ∧ Box wa 25 #[.int .i64 s0_0, .int .i64 s0_1, .int .i64 s0_2] w') _ from Box.two HT.out) ?_
      clear hK K hS
      have hS := (show (fun (w' : World) => w'.cell? ⟨w.heap.size, 0, none⟩ = some (.int .i64 s0_0) ∧ w'.cell? ⟨w.heap.size, 1, none⟩ = some (.int .i64 s0_1) ∧ w'.cell? ⟨w.heap.size, 2, none⟩ = some (.int .i64 s0_2) ∧ w'.cell? ⟨wa.heap.size, 0, none⟩ = some (.int .i64 s0_0) ∧ w'.cell? ⟨wa.heap.size, 1, none⟩ = some (.int .i64 s0_1) ∧ w'.cell? ⟨wa.heap.size, 2, none⟩ = some (.int .i64 s0_2) ∧ Box w 23 #[.int .i64 s0_0, .int .i64 s0_1, .int .i64 s0_2] w' ∧ Box wa 25 #[.int .i64 s0_0, .int .i64 s0_1, .int .i64 s0_2] w') _ from Box.two HT.out)
      refine Turns.take hS 3 _ rfl (by kernel_rfl) (by kernel_rfl) (by kernel_rfl) (by kernel_rfl) (fun _ _ _ h => h) (by rfl) (fun w' hS' => by (try dsimp only at hS'); go_split_ands; go_simp; (try with_reducible rfl)) ?_
      simp only [Act.put, List.getElem_toArray, List.getElem_cons_succ, List.getElem_cons_zero, List.setIfInBounds_toArray, List.set_cons_zero, List.set_cons_succ]
      refine Turns.take hS 4 _ rfl (by kernel_rfl) (by kernel_rfl) (by kernel_rfl) (by kernel_rfl) (fun _ _ _ h => h) (by rfl) (fun w' hS' => by (try dsimp only at hS'); go_split_ands; go_simp; (try with_reducible rfl)) ?_
      simp only [Act.put, List.getElem_toArray, List.getElem_cons_succ, List.getElem_cons_zero, List.setIfInBounds_toArray, List.set_cons_zero, List.set_cons_succ]
      refine Turns.take hS 5 _ rfl (by kernel_rfl) (by kernel_rfl) (by kernel_rfl) (by kernel_rfl) (fun _ _ _ h => h) (by rfl) (fun w' hS' => by (try dsimp only at hS'); go_split_ands; go_simp; (try with_reducible rfl)) ?_
      simp only [Act.put, List.getElem_toArray, List.getElem_cons_succ, List.getElem_cons_zero, List.setIfInBounds_toArray, List.set_cons_zero, List.set_cons_succ]
      refine Turns.take hS 6 _ rfl (by kernel_rfl) (by kernel_rfl) (by kernel_rfl) (by kernel_rfl) (fun _ _ _ h => h) (by rfl) (fun w' hS' => by (try dsimp only at hS'); go_split_ands; go_simp; (try with_reducible rfl)) ?_
      simp only [Act.put, List.getElem_toArray, List.getElem_cons_succ, List.getElem_cons_zero, List.setIfInBounds_toArray, List.set_cons_zero, List.set_cons_succ]
      refine Turns.take hS 7 _ rfl (by kernel_rfl) (by kernel_rfl) (by kernel_rfl) (by kernel_rfl) (fun _ _ _ h => h) (by rfl) (fun w' hS' => by (try dsimp only at hS'); go_split_ands; go_simp; (try with_reducible rfl)) ?_
      simp only [Act.put, List.getElem_toArray, List.getElem_cons_succ, List.getElem_cons_zero, List.setIfInBounds_toArray, List.set_cons_zero, List.set_cons_succ]
      refine Turns.take hS 9 _ rfl (by kernel_rfl) (by kernel_rfl) (by kernel_rfl) (by kernel_rfl) (fun _ _ _ h => h) (by rfl) (fun w' hS' => by (try dsimp only at hS'); go_split_ands; go_simp; (try with_reducible rfl)) ?_
      simp only [Act.put, List.getElem_toArray, List.getElem_cons_succ, List.getElem_cons_zero, List.setIfInBounds_toArray, List.set_cons_zero, List.set_cons_succ]
      refine Turns.take hS 10 _ rfl (by kernel_rfl) (by kernel_rfl) (by kernel_rfl) (by kernel_rfl) (fun _ _ _ h => h) (by rfl) (fun w' hS' => by (try dsimp only at hS'); go_split_ands; go_simp; (try with_reducible rfl)) ?_
      simp only [Act.put, List.getElem_toArray, List.getElem_cons_succ, List.getElem_cons_zero, List.setIfInBounds_toArray, List.set_cons_zero, List.set_cons_succ]
      refine Turns.take hS 11 _ rfl (by kernel_rfl) (by kernel_rfl) (by kernel_rfl) (by kernel_rfl) (fun _ _ _ h => h) (by rfl) (fun w' hS' => by (try dsimp only at hS'); go_split_ands; go_simp; (try with_reducible rfl)) ?_
      simp only [Act.put, List.getElem_toArray, List.getElem_cons_succ, List.getElem_cons_zero, List.setIfInBounds_toArray, List.set_cons_zero, List.set_cons_succ]
      refine Turns.next 8 rfl (by kernel_rfl) (by rfl) (fun K hK => ?_)
      go_simp
      go_at_call 10
      refine (awake_any _ _ _ _ _ _ hc ht hg).mono ?_
      rintro e wn8 ⟨rfl, hb⟩
      replace HT := Lib.hid (And.intro (hS.2.2.2.2.2.2.1.next hb) (hS.2.2.2.2.2.2.2.next hb))
      refine hK.out _ _ (show (fun (w' : World) => w'.cell? ⟨w.heap.size, 0, none⟩ = some (.int .i64 s0_0) ∧ w'.cell? ⟨w.heap.size, 1, none⟩ = some (.int .i64 s0_1) ∧ w'.cell? ⟨w.heap.size, 2, none⟩ = some (.int .i64 s0_2) ∧ w'.cell? ⟨wa.heap.size, 0, none⟩ = some (.int .i64 s0_0) ∧ w'.cell? ⟨wa.heap.size, 1, none⟩ = some (.int .i64 s0_1) ∧ w'.cell? ⟨wa.heap.size, 2, none⟩ = some (.int .i64 s0_2) ∧ Box w 23 #[.int .i64 s0_0, .int .i64 s0_1, .int .i64 s0_2] w' ∧ Box wa 25 #[.int .i64 s0_0, .int .i64 s0_1, .int .i64 s0_2] w') _ from Box.two HT.out) ?_
      clear hK K hS
      have hS := (show (fun (w' : World) => w'.cell? ⟨w.heap.size, 0, none⟩ = some (.int .i64 s0_0) ∧ w'.cell? ⟨w.heap.size, 1, none⟩ = some (.int .i64 s0_1) ∧ w'.cell? ⟨w.heap.size, 2, none⟩ = some (.int .i64 s0_2) ∧ w'.cell? ⟨wa.heap.size, 0, none⟩ = some (.int .i64 s0_0) ∧ w'.cell? ⟨wa.heap.size, 1, none⟩ = some (.int .i64 s0_1) ∧ w'.cell? ⟨wa.heap.size, 2, none⟩ = some (.int .i64 s0_2) ∧ Box w 23 #[.int .i64 s0_0, .int .i64 s0_1, .int .i64 s0_2] w' ∧ Box wa 25 #[.int .i64 s0_0, .int .i64 s0_1, .int .i64 s0_2] w') _ from Box.two HT.out)
      refine Turns.next 12 rfl (by kernel_rfl) (by rfl) (fun K hK => ?_)
      go_simp
      go_at_call 11
      refine (rawake_any _ _ _ _ _ _ hc ht hg).mono ?_
      rintro e wn12 ⟨rfl, hb⟩
      replace HT := Lib.hid (And.intro (hS.2.2.2.2.2.2.1.next hb) (hS.2.2.2.2.2.2.2.next hb))
      refine hK.out _ _ (show (fun (w' : World) => w'.cell? ⟨w.heap.size, 0, none⟩ = some (.int .i64 s0_0) ∧ w'.cell? ⟨w.heap.size, 1, none⟩ = some (.int .i64 s0_1) ∧ w'.cell? ⟨w.heap.size, 2, none⟩ = some (.int .i64 s0_2) ∧ w'.cell? ⟨wa.heap.size, 0, none⟩ = some (.int .i64 s0_0) ∧ w'.cell? ⟨wa.heap.size, 1, none⟩ = some (.int .i64 s0_1) ∧ w'.cell? ⟨wa.heap.size, 2, none⟩ = some (.int .i64 s0_2) ∧ Box w 23 #[.int .i64 s0_0, .int .i64 s0_1, .int .i64 s0_2] w' ∧ Box wa 25 #[.int .i64 s0_0, .int .i64 s0_1, .int .i64 s0_2] w') _ from Box.two HT.out) ?_
      clear hK K hS
      have hS := (show (fun (w' : World) => w'.cell? ⟨w.heap.size, 0, none⟩ = some (.int .i64 s0_0) ∧ w'.cell? ⟨w.heap.size, 1, none⟩ = some (.int .i64 s0_1) ∧ w'.cell? ⟨w.heap.size, 2, none⟩ = some (.int .i64 s0_2) ∧ w'.cell? ⟨wa.heap.size, 0, none⟩ = some (.int .i64 s0_0) ∧ w'.cell? ⟨wa.heap.size, 1, none⟩ = some (.int .i64 s0_1) ∧ w'.cell? ⟨wa.heap.size, 2, none⟩ = some (.int .i64 s0_2) ∧ Box w 23 #[.int .i64 s0_0, .int .i64 s0_1, .int .i64 s0_2] w' ∧ Box wa 25 #[.int .i64 s0_0, .int .i64 s0_1, .int .i64 s0_2] w') _ from Box.two HT.out)
      refine Turns.take hS 13 _ rfl (by kernel_rfl) (by kernel_rfl) (by kernel_rfl) (by kernel_rfl) (fun _ _ _ h => h) (by rfl) (fun w' hS' => by (try dsimp only at hS'); go_split_ands; go_simp; (try with_reducible rfl)) ?_
      simp only [Act.put, List.getElem_toArray, List.getElem_cons_succ, List.getElem_cons_zero, List.setIfInBounds_toArray, List.set_cons_zero, List.set_cons_succ]
      refine Turns.take hS 14 _ rfl (by kernel_rfl) (by kernel_rfl) (by kernel_rfl) (by kernel_rfl) (fun _ _ _ h => h) (by rfl) (fun w' hS' => by (try dsimp only at hS'); go_split_ands; go_simp; (try with_reducible rfl)) ?_
      simp only [Act.put, List.getElem_toArray, List.getElem_cons_succ, List.getElem_cons_zero, List.setIfInBounds_toArray, List.set_cons_zero, List.set_cons_succ]
      refine Turns.rest (late_done (by kernel_rfl)) ?_
      refine any_tail 15 (by rfl) (by kernel_rfl) ?_
      simp only [List.drop_succ_cons, List.drop_zero]
      clear hS
      obtain ⟨c0, c1, c2, _⟩ := HT.out.1.cells3
      obtain ⟨b0, b1, b2, _⟩ := HT.out.2.cells3
      go_wp2_with (first
        | (go_at_call 14; refine (rphase_any _ _ _ _ _ k1 k2 ht).mono ?_; rintro e wx ⟨rfl, hb⟩; replace HT := Lib.hid (And.intro (HT.out.1.next hb) (HT.out.2.next hb)); obtain ⟨c0, c1, c2, _⟩ := HT.out.1.cells3; obtain ⟨b0, b1, b2, _⟩ := HT.out.2.cells3; clear hb))
      refine region_turns (fun (w' : World) => w'.cell? ⟨w.heap.size, 0, none⟩ = some (.int .i64 s0_0) ∧ w'.cell? ⟨w.heap.size, 1, none⟩ = some (.int .i64 s0_1) ∧ w'.cell? ⟨w.heap.size, 2, none⟩ = some (.int .i64 s0_2) ∧ w'.cell? ⟨wa.heap.size, 0, none⟩ = some (.int .i64 s0_0) ∧ w'.cell? ⟨wa.heap.size, 1, none⟩ = some (.int .i64 s0_1) ∧ w'.cell? ⟨wa.heap.size, 2, none⟩ = some (.int .i64 s0_2) ∧ Box w 23 #[.int .i64 s0_0, .int .i64 s0_1, .int .i64 s0_2] w' ∧ Box wa 25 #[.int .i64 s0_0, .int .i64 s0_1, .int .i64 s0_2] w') (fun j => decide (31 ≤ j)) (by kernel_rfl) (Box.two (And.intro HT.out.1.drew HT.out.2.drew)) (fun hS => ?_)
      refine Turns.take hS 0 _ rfl (by kernel_rfl) (by kernel_rfl) (by kernel_rfl) (by kernel_rfl) (fun _ _ _ h => h) (by rfl) (fun w' hS' => by (try dsimp only at hS'); go_split_ands; go_simp; (try with_reducible rfl)) ?_
      simp only [Act.put, List.getElem_toArray, List.getElem_cons_succ, List.getElem_cons_zero, List.setIfInBounds_toArray, List.set_cons_zero, List.set_cons_succ]
      refine Turns.take hS 1 _ rfl (by kernel_rfl) (by kernel_rfl) (by kernel_rfl) (by kernel_rfl) (fun _ _ _ h => h) (by rfl) (fun w' hS' => by (try dsimp only at hS'); go_split_ands; go_simp; (try with_reducible rfl)) ?_
      simp only [Act.put, List.getElem_toArray, List.getElem_cons_succ, List.getElem_cons_zero, List.setIfInBounds_toArray, List.set_cons_zero, List.set_cons_succ]
      refine Turns.take hS 3 _ rfl (by kernel_rfl) (by kernel_rfl) (by kernel_rfl) (by kernel_rfl) (fun _ _ _ h => h) (by rfl) (fun w' hS' => by (try dsimp only at hS'); go_split_ands; go_simp; (try with_reducible rfl)) ?_
      simp only [Act.put, List.getElem_toArray, List.getElem_cons_succ, List.getElem_cons_zero, List.setIfInBounds_toArray, List.set_cons_zero, List.set_cons_succ]
      refine Turns.take hS 4 _ rfl (by kernel_rfl) (by kernel_rfl) (by kernel_rfl) (by kernel_rfl) (fun _ _ _ h => h) (by rfl) (fun w' hS' => by (try dsimp only at hS'); go_split_ands; go_simp; (try with_reducible rfl)) ?_
      simp only [Act.put, List.getElem_toArray, List.getElem_cons_succ, List.getElem_cons_zero, List.setIfInBounds_toArray, List.set_cons_zero, List.set_cons_succ]
      refine Turns.next 2 rfl (by kernel_rfl) (by rfl) (fun K hK => ?_)
      go_simp
      go_at_call 12
      refine (mine_any _ _ _ _ _ hc hs).mono ?_
      rintro e wn2 ⟨rfl, hb⟩
      replace HT := Lib.hid (And.intro (hS.2.2.2.2.2.2.1.next hb) (hS.2.2.2.2.2.2.2.next hb))
      refine hK.out _ _ (show (fun (w' : World) => w'.cell? ⟨w.heap.size, 0, none⟩ = some (.int .i64 s0_0) ∧ w'.cell? ⟨w.heap.size, 1, none⟩ = some (.int .i64 s0_1) ∧ w'.cell? ⟨w.heap.size, 2, none⟩ = some (.int .i64 s0_2) ∧ w'.cell? ⟨wa.heap.size, 0, none⟩ = some (.int .i64 s0_0) ∧ w'.cell? ⟨wa.heap.size, 1, none⟩ = some (.int .i64 s0_1) ∧ w'.cell? ⟨wa.heap.size, 2, none⟩ = some (.int .i64 s0_2) ∧ Box w 23 #[.int .i64 s0_0, .int .i64 s0_1, .int .i64 s0_2] w' ∧ Box wa 25 #[.int .i64 s0_0, .int .i64 s0_1, .int .i64 s0_2] w') _ from Box.two HT.out) ?_
      clear hK K hS
      have hS := (show (fun (w' : World) => w'.cell? ⟨w.heap.size, 0, none⟩ = some (.int .i64 s0_0) ∧ w'.cell? ⟨w.heap.size, 1, none⟩ = some (.int .i64 s0_1) ∧ w'.cell? ⟨w.heap.size, 2, none⟩ = some (.int .i64 s0_2) ∧ w'.cell? ⟨wa.heap.size, 0, none⟩ = some (.int .i64 s0_0) ∧ w'.cell? ⟨wa.heap.size, 1, none⟩ = some (.int .i64 s0_1) ∧ w'.cell? ⟨wa.heap.size, 2, none⟩ = some (.int .i64 s0_2) ∧ Box w 23 #[.int .i64 s0_0, .int .i64 s0_1, .int .i64 s0_2] w' ∧ Box wa 25 #[.int .i64 s0_0, .int .i64 s0_1, .int .i64 s0_2] w') _ from Box.two HT.out)
      refine Turns.take hS 5 _ rfl (by kernel_rfl) (by kernel_rfl) (by kernel_rfl) (by kernel_rfl) (fun _ _ _ h => h) (by rfl) (fun w' hS' => by (try dsimp only at hS'); go_split_ands; go_simp; (try with_reducible rfl)) ?_
      simp only [Act.put, List.getElem_toArray, List.getElem_cons_succ, List.getElem_cons_zero, List.setIfInBounds_toArray, List.set_cons_zero, List.set_cons_succ]
      refine Turns.skip hS 6 rfl (by kernel_rfl) (by kernel_rfl) (by kernel_rfl) (by kernel_rfl) (fun _ _ _ h => h) (by rfl) ?_
      simp only [Act.put, List.getElem_toArray, List.getElem_cons_succ, List.getElem_cons_zero, List.setIfInBounds_toArray, List.set_cons_zero, List.set_cons_succ]
      refine Turns.skip hS 7 rfl (by kernel_rfl) (by kernel_rfl) (by kernel_rfl) (by kernel_rfl) (fun _ _ _ h => h) (by rfl) ?_
      simp only [Act.put, List.getElem_toArray, List.getElem_cons_succ, List.getElem_cons_zero, List.setIfInBounds_toArray, List.set_cons_zero, List.set_cons_succ]
      refine Turns.skip hS 8 rfl (by kernel_rfl) (by kernel_rfl) (by kernel_rfl) (by kernel_rfl) (fun _ _ _ h => h) (by rfl) ?_
      simp only [Act.put, List.getElem_toArray, List.getElem_cons_succ, List.getElem_cons_zero, List.setIfInBounds_toArray, List.set_cons_zero, List.set_cons_succ]
      refine Turns.skip hS 9 rfl (by kernel_rfl) (by kernel_rfl) (by kernel_rfl) (by kernel_rfl) (fun _ _ _ h => h) (by rfl) ?_
      simp only [Act.put, List.getElem_toArray, List.getElem_cons_succ, List.getElem_cons_zero, List.setIfInBounds_toArray, List.set_cons_zero, List.set_cons_succ]
      refine Turns.skip hS 10 rfl (by kernel_rfl) (by kernel_rfl) (by kernel_rfl) (by kernel_rfl) (fun _ _ _ h => h) (by rfl) ?_
      simp only [Act.put, List.getElem_toArray, List.getElem_cons_succ, List.getElem_cons_zero, List.setIfInBounds_toArray, List.set_cons_zero, List.set_cons_succ]
      refine Turns.skip hS 11 rfl (by kernel_rfl) (by kernel_rfl) (by kernel_rfl) (by kernel_rfl) (fun _ _ _ h => h) (by rfl) ?_
      simp only [Act.put, List.getElem_toArray, List.getElem_cons_succ, List.getElem_cons_zero, List.setIfInBounds_toArray, List.set_cons_zero, List.set_cons_succ]
      refine Turns.skip hS 12 rfl (by kernel_rfl) (by kernel_rfl) (by kernel_rfl) (by kernel_rfl) (fun _ _ _ h => h) (by rfl) ?_
      simp only [Act.put, List.getElem_toArray, List.getElem_cons_succ, List.getElem_cons_zero, List.setIfInBounds_toArray, List.set_cons_zero, List.set_cons_succ]
      refine Turns.take hS 13 _ rfl (by kernel_rfl) (by kernel_rfl) (by kernel_rfl) (by kernel_rfl) (fun _ _ _ h => h) (by rfl) (fun w' hS' => by (try dsimp only at hS'); go_split_ands; go_simp; (try with_reducible rfl)) ?_
      simp only [Act.put, List.getElem_toArray, List.getElem_cons_succ, List.getElem_cons_zero, List.setIfInBounds_toArray, List.set_cons_zero, List.set_cons_succ]
      refine Turns.take hS 14 _ rfl (by kernel_rfl) (by kernel_rfl) (by kernel_rfl) (by kernel_rfl) (fun _ _ _ h => h) (by rfl) (fun w' hS' => by (try dsimp only at hS'); go_split_ands; go_simp; (try with_reducible rfl)) ?_
      simp only [Act.put, List.getElem_toArray, List.getElem_cons_succ, List.getElem_cons_zero, List.setIfInBounds_toArray, List.set_cons_zero, List.set_cons_succ]
      refine Turns.take hS 15 _ rfl (by kernel_rfl) (by kernel_rfl) (by kernel_rfl) (by kernel_rfl) (fun _ _ _ h => h) (by rfl) (fun w' hS' => by (try dsimp only at hS'); go_split_ands; go_simp; (try with_reducible rfl)) ?_
      simp only [Act.put, List.getElem_toArray, List.getElem_cons_succ, List.getElem_cons_zero, List.setIfInBounds_toArray, List.set_cons_zero, List.set_cons_succ]
      refine Turns.take hS 16 _ rfl (by kernel_rfl) (by kernel_rfl) (by kernel_rfl) (by kernel_rfl) (fun _ _ _ h => h) (by rfl) (fun w' hS' => by (try dsimp only at hS'); go_split_ands; go_simp; (try with_reducible rfl)) ?_
      simp only [Act.put, List.getElem_toArray, List.getElem_cons_succ, List.getElem_cons_zero, List.setIfInBounds_toArray, List.set_cons_zero, List.set_cons_succ]
      refine Turns.take hS 17 _ rfl (by kernel_rfl) (by kernel_rfl) (by kernel_rfl) (by kernel_rfl) (fun _ _ _ h => h) (by rfl) (fun w' hS' => by (try dsimp only at hS'); go_split_ands; go_simp; (try with_reducible rfl)) ?_
      simp only [Act.put, List.getElem_toArray, List.getElem_cons_succ, List.getElem_cons_zero, List.setIfInBounds_toArray, List.set_cons_zero, List.set_cons_succ]
      refine Turns.take hS 19 _ rfl (by kernel_rfl) (by kernel_rfl) (by kernel_rfl) (by kernel_rfl) (fun _ _ _ h => h) (by rfl) (fun w' hS' => by (try dsimp only at hS'); go_split_ands; go_simp; (try with_reducible rfl)) ?_
      simp only [Act.put, List.getElem_toArray, List.getElem_cons_succ, List.getElem_cons_zero, List.setIfInBounds_toArray, List.set_cons_zero, List.set_cons_succ]
      refine Turns.next 18 rfl (by kernel_rfl) (by rfl) (fun K hK => ?_)
      go_simp
      go_at_call 13
      refine (rest_any _ _ _ _ _ hc ht).mono ?_
      rintro e wn18 ⟨rfl, hb⟩
      replace HT := Lib.hid (And.intro (hS.2.2.2.2.2.2.1.next hb) (hS.2.2.2.2.2.2.2.next hb))
      refine hK.out _ _ (show (fun (w' : World) => w'.cell? ⟨w.heap.size, 0, none⟩ = some (.int .i64 s0_0) ∧ w'.cell? ⟨w.heap.size, 1, none⟩ = some (.int .i64 s0_1) ∧ w'.cell? ⟨w.heap.size, 2, none⟩ = some (.int .i64 s0_2) ∧ w'.cell? ⟨wa.heap.size, 0, none⟩ = some (.int .i64 s0_0) ∧ w'.cell? ⟨wa.heap.size, 1, none⟩ = some (.int .i64 s0_1) ∧ w'.cell? ⟨wa.heap.size, 2, none⟩ = some (.int .i64 s0_2) ∧ Box w 23 #[.int .i64 s0_0, .int .i64 s0_1, .int .i64 s0_2] w' ∧ Box wa 25 #[.int .i64 s0_0, .int .i64 s0_1, .int .i64 s0_2] w') _ from Box.two HT.out) ?_
      clear hK K hS
      have hS := (show (fun (w' : World) => w'.cell? ⟨w.heap.size, 0, none⟩ = some (.int .i64 s0_0) ∧ w'.cell? ⟨w.heap.size, 1, none⟩ = some (.int .i64 s0_1) ∧ w'.cell? ⟨w.heap.size, 2, none⟩ = some (.int .i64 s0_2) ∧ w'.cell? ⟨wa.heap.size, 0, none⟩ = some (.int .i64 s0_0) ∧ w'.cell? ⟨wa.heap.size, 1, none⟩ = some (.int .i64 s0_1) ∧ w'.cell? ⟨wa.heap.size, 2, none⟩ = some (.int .i64 s0_2) ∧ Box w 23 #[.int .i64 s0_0, .int .i64 s0_1, .int .i64 s0_2] w' ∧ Box wa 25 #[.int .i64 s0_0, .int .i64 s0_1, .int .i64 s0_2] w') _ from Box.two HT.out)
      refine Turns.take hS 20 _ rfl (by kernel_rfl) (by kernel_rfl) (by kernel_rfl) (by kernel_rfl) (fun _ _ _ h => h) (by rfl) (fun w' hS' => by (try dsimp only at hS'); go_split_ands; go_simp; (try with_reducible rfl)) ?_
      simp only [Act.put, List.getElem_toArray, List.getElem_cons_succ, List.getElem_cons_zero, List.setIfInBounds_toArray, List.set_cons_zero, List.set_cons_succ]
      refine Turns.take hS 21 _ rfl (by kernel_rfl) (by kernel_rfl) (by kernel_rfl) (by kernel_rfl) (fun _ _ _ h => h) (by rfl) (fun w' hS' => by (try dsimp only at hS'); go_split_ands; go_simp; (try with_reducible rfl)) ?_
      simp only [Act.put, List.getElem_toArray, List.getElem_cons_succ, List.getElem_cons_zero, List.setIfInBounds_toArray, List.set_cons_zero, List.set_cons_succ]
      refine Turns.take hS 22 _ rfl (by kernel_rfl) (by kernel_rfl) (by kernel_rfl) (by kernel_rfl) (fun _ _ _ h => h) (by rfl) (fun w' hS' => by (try dsimp only at hS'); go_split_ands; go_simp; (try with_reducible rfl)) ?_
      simp only [Act.put, List.getElem_toArray, List.getElem_cons_succ, List.getElem_cons_zero, List.setIfInBounds_toArray, List.set_cons_zero, List.set_cons_succ]
      refine Turns.take hS 23 _ rfl (by kernel_rfl) (by kernel_rfl) (by kernel_rfl) (by kernel_rfl) (fun _ _ _ h => h) (by rfl) (fun w' hS' => by (try dsimp only at hS'); go_split_ands; go_simp; (try with_reducible rfl)) ?_
      simp only [Act.put, List.getElem_toArray, List.getElem_cons_succ, List.getElem_cons_zero, List.setIfInBounds_toArray, List.set_cons_zero, List.set_cons_succ]
      refine Turns.take hS 25 _ rfl (by kernel_rfl) (by kernel_rfl) (by kernel_rfl) (by kernel_rfl) (fun _ _ _ h => h) (by rfl) (fun w' hS' => by (try dsimp only at hS'); go_split_ands; go_simp; (try with_reducible rfl)) ?_
      simp only [Act.put, List.getElem_toArray, List.getElem_cons_succ, List.getElem_cons_zero, List.setIfInBounds_toArray, List.set_cons_zero, List.set_cons_succ]
      refine Turns.take hS 26 _ rfl (by kernel_rfl) (by kernel_rfl) (by kernel_rfl) (by kernel_rfl) (fun _ _ _ h => h) (by rfl) (fun w' hS' => by (try dsimp only at hS'); go_split_ands; go_simp; (try with_reducible rfl)) ?_
      simp only [Act.put, List.getElem_toArray, List.getElem_cons_succ, List.getElem_cons_zero, List.setIfInBounds_toArray, List.set_cons_zero, List.set_cons_succ]
      refine Turns.take hS 27 _ rfl (by kernel_rfl) (by kernel_rfl) (by kernel_rfl) (by kernel_rfl) (fun _ _ _ h => h) (by rfl) (fun w' hS' => by (try dsimp only at hS'); go_split_ands; go_simp; (try with_reducible rfl)) ?_
      simp only [Act.put, List.getElem_toArray, List.getElem_cons_succ, List.getElem_cons_zero, List.setIfInBounds_toArray, List.set_cons_zero, List.set_cons_succ]
      refine Turns.next 24 rfl (by kernel_rfl) (by rfl) (fun K hK => ?_)
      go_simp
      go_at_call 15
      refine (ticks_any _ _ _ _ k1 k2).mono ?_
      rintro e wn24 ⟨rfl, hb⟩
      replace HT := Lib.hid (And.intro (hS.2.2.2.2.2.2.1.next hb) (hS.2.2.2.2.2.2.2.next hb))
      refine hK.out _ _ (show (fun (w' : World) => w'.cell? ⟨w.heap.size, 0, none⟩ = some (.int .i64 s0_0) ∧ w'.cell? ⟨w.heap.size, 1, none⟩ = some (.int .i64 s0_1) ∧ w'.cell? ⟨w.heap.size, 2, none⟩ = some (.int .i64 s0_2) ∧ w'.cell? ⟨wa.heap.size, 0, none⟩ = some (.int .i64 s0_0) ∧ w'.cell? ⟨wa.heap.size, 1, none⟩ = some (.int .i64 s0_1) ∧ w'.cell? ⟨wa.heap.size, 2, none⟩ = some (.int .i64 s0_2) ∧ Box w 23 #[.int .i64 s0_0, .int .i64 s0_1, .int .i64 s0_2] w' ∧ Box wa 25 #[.int .i64 s0_0, .int .i64 s0_1, .int .i64 s0_2] w') _ from Box.two HT.out) ?_
      clear hK K hS
      have hS := (show (fun (w' : World) => w'.cell? ⟨w.heap.size, 0, none⟩ = some (.int .i64 s0_0) ∧ w'.cell? ⟨w.heap.size, 1, none⟩ = some (.int .i64 s0_1) ∧ w'.cell? ⟨w.heap.size, 2, none⟩ = some (.int .i64 s0_2) ∧ w'.cell? ⟨wa.heap.size, 0, none⟩ = some (.int .i64 s0_0) ∧ w'.cell? ⟨wa.heap.size, 1, none⟩ = some (.int .i64 s0_1) ∧ w'.cell? ⟨wa.heap.size, 2, none⟩ = some (.int .i64 s0_2) ∧ Box w 23 #[.int .i64 s0_0, .int .i64 s0_1, .int .i64 s0_2] w' ∧ Box wa 25 #[.int .i64 s0_0, .int .i64 s0_1, .int .i64 s0_2] w') _ from Box.two HT.out)
      refine Turns.take hS 28 _ rfl (by kernel_rfl) (by kernel_rfl) (by kernel_rfl) (by kernel_rfl) (fun _ _ _ h => h) (by rfl) (fun w' hS' => by (try dsimp only at hS'); go_split_ands; go_simp; (try with_reducible rfl)) ?_
      simp only [Act.put, List.getElem_toArray, List.getElem_cons_succ, List.getElem_cons_zero, List.setIfInBounds_toArray, List.set_cons_zero, List.set_cons_succ]
      refine Turns.take hS 29 _ rfl (by kernel_rfl) (by kernel_rfl) (by kernel_rfl) (by kernel_rfl) (fun _ _ _ h => h) (by rfl) (fun w' hS' => by (try dsimp only at hS'); go_split_ands; go_simp; (try with_reducible rfl)) ?_
      simp only [Act.put, List.getElem_toArray, List.getElem_cons_succ, List.getElem_cons_zero, List.setIfInBounds_toArray, List.set_cons_zero, List.set_cons_succ]
      refine Turns.take hS 30 _ rfl (by kernel_rfl) (by kernel_rfl) (by kernel_rfl) (by kernel_rfl) (fun _ _ _ h => h) (by rfl) (fun w' hS' => by (try dsimp only at hS'); go_split_ands; go_simp; (try with_reducible rfl)) ?_
      simp only [Act.put, List.getElem_toArray, List.getElem_cons_succ, List.getElem_cons_zero, List.setIfInBounds_toArray, List.set_cons_zero, List.set_cons_succ]
      refine Turns.rest (late_done (by kernel_rfl)) ?_
      refine any_tail 31 (by rfl) (by kernel_rfl) ?_
      simp only [List.drop_succ_cons, List.drop_zero]
      clear hS
      go_wp2
      go_ret
      exact ⟨rfl, HT.out.1.below⟩
  · rw [if_neg q] at hR
    have qd : decide (s0_1 * 1000 ≤ M) = true := decide_eq_true (by omega)
    by_cases g0 : 0 ≤ a1
    · have e0 : a1.tmod s0_0 = a1 % s0_0 := Int.tmod_eq_emod_of_nonneg g0
      by_cases g1 : a1 % s0_0 = s0_2
      · have g2 : (a1 % s0_0 == s0_2) = true := by simpa using g1
        have g3 : mineB s0_0 s0_2 a1 = true := mineB_yes g0 g1
        go_enter Try.func3, Try.ntmps3
        go_wp2_with (first
          | (go_at_call 7; refine (alive_yes _).mono ?_; rintro e wa ⟨rfl, hb⟩; have HT := Lib.hid (And.intro ((HB.out.next hb).alloc (.cells #[.int .i64 s0_0, .int .i64 s0_1, .int .i64 s0_2] 25)) (Box.start wa 25 #[.int .i64 s0_0, .int .i64 s0_1, .int .i64 s0_2])); obtain ⟨c0, c1, c2, _⟩ := HT.out.1.cells3; obtain ⟨b0, b1, b2, _⟩ := HT.out.2.cells3; obtain ⟨a0, a1', a2', _⟩ := (HB.out.next hb).cells3; clear hb)
          | (go_at_call 8; refine (rgood_yes _ _ _ _ hc).mono ?_; rintro e wx ⟨rfl, hb⟩; replace HT := Lib.hid (And.intro (HT.out.1.next hb) (HT.out.2.next hb)); obtain ⟨c0, c1, c2, _⟩ := HT.out.1.cells3; obtain ⟨b0, b1, b2, _⟩ := HT.out.2.cells3; clear hb))
        refine region_turns (fun (w' : World) => w'.cell? ⟨w.heap.size, 0, none⟩ = some (.int .i64 s0_0) ∧ w'.cell? ⟨w.heap.size, 1, none⟩ = some (.int .i64 s0_1) ∧ w'.cell? ⟨w.heap.size, 2, none⟩ = some (.int .i64 s0_2) ∧ w'.cell? ⟨wa.heap.size, 0, none⟩ = some (.int .i64 s0_0) ∧ w'.cell? ⟨wa.heap.size, 1, none⟩ = some (.int .i64 s0_1) ∧ w'.cell? ⟨wa.heap.size, 2, none⟩ = some (.int .i64 s0_2) ∧ Box w 23 #[.int .i64 s0_0, .int .i64 s0_1, .int .i64 s0_2] w' ∧ Box wa 25 #[.int .i64 s0_0, .int .i64 s0_1, .int .i64 s0_2] w') (fun j => decide (15 ≤ j)) (by kernel_rfl) (Box.two (And.intro HT.out.1.drew HT.out.2.drew)) (fun hS => ?_)
        refine Turns.take hS 0 _ rfl (by kernel_rfl) (by kernel_rfl) (by kernel_rfl) (by kernel_rfl) (fun _ _ _ h => h) (by rfl) (fun w' hS' => by (try dsimp only at hS'); go_split_ands; go_simp; (try with_reducible rfl)) ?_
        simp only [Act.put, List.getElem_toArray, List.getElem_cons_succ, List.getElem_cons_zero, List.setIfInBounds_toArray, List.set_cons_zero, List.set_cons_succ]
        refine Turns.take hS 2 _ rfl (by kernel_rfl) (by kernel_rfl) (by kernel_rfl) (by kernel_rfl) (fun _ _ _ h => h) (by rfl) (fun w' hS' => by (try dsimp only at hS'); go_split_ands; go_simp; (try with_reducible rfl)) ?_
        simp only [Act.put, List.getElem_toArray, List.getElem_cons_succ, List.getElem_cons_zero, List.setIfInBounds_toArray, List.set_cons_zero, List.set_cons_succ]
        refine Turns.next 1 rfl (by kernel_rfl) (by rfl) (fun K hK => ?_)
        go_simp
        go_at_call 9
        refine (good_yes _ _ _ _ hc).mono ?_
        rintro e wn1 ⟨rfl, hb⟩
        replace HT := Lib.hid (And.intro (hS.2.2.2.2.2.2.1.next hb) (hS.2.2.2.2.2.2.2.next hb))
        refine hK.out _ _ (show (fun (w' : World) => w'.cell? ⟨w.heap.size, 0, none⟩ = some (.int .i64 s0_0) ∧ w'.cell? ⟨w.heap.size, 1, none⟩ = some (.int .i64 s0_1) ∧ w'.cell? ⟨w.heap.size, 2, none⟩ = some (.int .i64 s0_2) ∧ w'.cell? ⟨wa.heap.size, 0, none⟩ = some (.int .i64 s0_0) ∧ w'.cell? ⟨wa.heap.size, 1, none⟩ = some (.int .i64 s0_1) ∧ w'.cell? ⟨wa.heap.size, 2, none⟩ = some (.int .i64 s0_2) ∧ Box w 23 #[.int .i64 s0_0, .int .i64 s0_1, .int .i64 s0_2] w' ∧ Box wa 25 #[.int .i64 s0_0, .int .i64 s0_1, .int .i64 s0_2] w') _ from Box.two HT.out) ?_
        clear hK K hS
        have hS := (show (fun (w' : World) => w'.cell? ⟨w.heap.size, 0, none⟩ = some (.int .i64 s0_0) ∧ w'.cell? ⟨w.heap.size, 1, none⟩ = some (.int .i64 s0_1) ∧ w'.cell? ⟨w.heap.size, 2, none⟩ = some (.int .i64 s0_2) ∧ w'.cell? ⟨wa.heap.size, 0, none⟩ = some (.int .i64 s0_0) ∧ w'.cell? ⟨wa.heap.size, 1, none⟩ = some (.int .i64 s0_1) ∧ w'.cell? ⟨wa.heap.size, 2, none⟩ = some (.int .i64 s0_2) ∧ Box w 23 #[.int .i64 s0_0, .int .i64 s0_1, .int .i64 s0_2] w' ∧ Box wa 25 #[.int .i64 s0_0, .int .i64 s0_1, .int .i64 s0_2] w') _ from Box.two HT.out)
        refine Turns.take hS 3 _ rfl (by kernel_rfl) (by kernel_rfl) (by kernel_rfl) (by kernel_rfl) (fun _ _ _ h => h) (by rfl) (fun w' hS' => by (try dsimp only at hS'); go_split_ands; go_simp; (try with_reducible rfl)) ?_
        simp only [Act.put, List.getElem_toArray, List.getElem_cons_succ, List.getElem_cons_zero, List.setIfInBounds_toArray, List.set_cons_zero, List.set_cons_succ]
        refine Turns.take hS 4 _ rfl (by kernel_rfl) (by kernel_rfl) (by kernel_rfl) (by kernel_rfl) (fun _ _ _ h => h) (by rfl) (fun w' hS' => by (try dsimp only at hS'); go_split_ands; go_simp; (try with_reducible rfl)) ?_
        simp only [Act.put, List.getElem_toArray, List.getElem_cons_succ, List.getElem_cons_zero, List.setIfInBounds_toArray, List.set_cons_zero, List.set_cons_succ]
        refine Turns.take hS 5 _ rfl (by kernel_rfl) (by kernel_rfl) (by kernel_rfl) (by kernel_rfl) (fun _ _ _ h => h) (by rfl) (fun w' hS' => by (try dsimp only at hS'); go_split_ands; go_simp; (try with_reducible rfl)) ?_
        simp only [Act.put, List.getElem_toArray, List.getElem_cons_succ, List.getElem_cons_zero, List.setIfInBounds_toArray, List.set_cons_zero, List.set_cons_succ]
        refine Turns.take hS 6 _ rfl (by kernel_rfl) (by kernel_rfl) (by kernel_rfl) (by kernel_rfl) (fun _ _ _ h => h) (by rfl) (fun w' hS' => by (try dsimp only at hS'); go_split_ands; go_simp; (try with_reducible rfl)) ?_
        simp only [Act.put, List.getElem_toArray, List.getElem_cons_succ, List.getElem_cons_zero, List.setIfInBounds_toArray, List.set_cons_zero, List.set_cons_succ]
        refine Turns.take hS 7 _ rfl (by kernel_rfl) (by kernel_rfl) (by kernel_rfl) (by kernel_rfl) (fun _ _ _ h => h) (by rfl) (fun w' hS' => by (try dsimp only at hS'); go_split_ands; go_simp; (try with_reducible rfl)) ?_
        simp only [Act.put, List.getElem_toArray, List.getElem_cons_succ, List.getElem_cons_zero, List.setIfInBounds_toArray, List.set_cons_zero, List.set_cons_succ]
        refine Turns.take hS 9 _ rfl (by kernel_rfl) (by kernel_rfl) (by kernel_rfl) (by kernel_rfl) (fun _ _ _ h => h) (by rfl) (fun w' hS' => by (try dsimp only at hS'); go_split_ands; go_simp; (try with_reducible rfl)) ?_
        simp only [Act.put, List.getElem_toArray, List.getElem_cons_succ, List.getElem_cons_zero, List.setIfInBounds_toArray, List.set_cons_zero, List.set_cons_succ]
        refine Turns.take hS 10 _ rfl (by kernel_rfl) (by kernel_rfl) (by kernel_rfl) (by kernel_rfl) (fun _ _ _ h => h) (by rfl) (fun w' hS' => by (try dsimp only at hS'); go_split_ands; go_simp; (try with_reducible rfl)) ?_
        simp only [Act.put, List.getElem_toArray, List.getElem_cons_succ, List.getElem_cons_zero, List.setIfInBounds_toArray, List.set_cons_zero, List.set_cons_succ]
        refine Turns.take hS 11 _ rfl (by kernel_rfl) (by kernel_rfl) (by kernel_rfl) (by kernel_rfl) (fun _ _ _ h => h) (by rfl) (fun w' hS' => by (try dsimp only at hS'); go_split_ands; go_simp; (try with_reducible rfl)) ?_
        simp only [Act.put, List.getElem_toArray, List.getElem_cons_succ, List.getElem_cons_zero, List.setIfInBounds_toArray, List.set_cons_zero, List.set_cons_succ]
        refine Turns.next 8 rfl (by kernel_rfl) (by rfl) (fun K hK => ?_)
        go_simp
        go_at_call 10
        refine (awake_any _ _ _ _ _ _ hc ht hg).mono ?_
        rintro e wn8 ⟨rfl, hb⟩
        replace HT := Lib.hid (And.intro (hS.2.2.2.2.2.2.1.next hb) (hS.2.2.2.2.2.2.2.next hb))
        refine hK.out _ _ (show (fun (w' : World) => w'.cell? ⟨w.heap.size, 0, none⟩ = some (.int .i64 s0_0) ∧ w'.cell? ⟨w.heap.size, 1, none⟩ = some (.int .i64 s0_1) ∧ w'.cell? ⟨w.heap.size, 2, none⟩ = some (.int .i64 s0_2) ∧ w'.cell? ⟨wa.heap.size, 0, none⟩ = some (.int .i64 s0_0) ∧ w'.cell? ⟨wa.heap.size, 1, none⟩ = some (.int .i64 s0_1) ∧ w'.cell? ⟨wa.heap.size, 2, none⟩ = some (.int .i64 s0_2) ∧ Box w 23 #[.int .i64 s0_0, .int .i64 s0_1, .int .i64 s0_2] w' ∧ Box wa 25 #[.int .i64 s0_0, .int .i64 s0_1, .int .i64 s0_2] w') _ from Box.two HT.out) ?_
        clear hK K hS
        have hS := (show (fun (w' : World) => w'.cell? ⟨w.heap.size, 0, none⟩ = some (.int .i64 s0_0) ∧ w'.cell? ⟨w.heap.size, 1, none⟩ = some (.int .i64 s0_1) ∧ w'.cell? ⟨w.heap.size, 2, none⟩ = some (.int .i64 s0_2) ∧ w'.cell? ⟨wa.heap.size, 0, none⟩ = some (.int .i64 s0_0) ∧ w'.cell? ⟨wa.heap.size, 1, none⟩ = some (.int .i64 s0_1) ∧ w'.cell? ⟨wa.heap.size, 2, none⟩ = some (.int .i64 s0_2) ∧ Box w 23 #[.int .i64 s0_0, .int .i64 s0_1, .int .i64 s0_2] w' ∧ Box wa 25 #[.int .i64 s0_0, .int .i64 s0_1, .int .i64 s0_2] w') _ from Box.two HT.out)
        refine Turns.next 12 rfl (by kernel_rfl) (by rfl) (fun K hK => ?_)
        go_simp
        go_at_call 11
        refine (rawake_any _ _ _ _ _ _ hc ht hg).mono ?_
        rintro e wn12 ⟨rfl, hb⟩
        replace HT := Lib.hid (And.intro (hS.2.2.2.2.2.2.1.next hb) (hS.2.2.2.2.2.2.2.next hb))
        refine hK.out _ _ (show (fun (w' : World) => w'.cell? ⟨w.heap.size, 0, none⟩ = some (.int .i64 s0_0) ∧ w'.cell? ⟨w.heap.size, 1, none⟩ = some (.int .i64 s0_1) ∧ w'.cell? ⟨w.heap.size, 2, none⟩ = some (.int .i64 s0_2) ∧ w'.cell? ⟨wa.heap.size, 0, none⟩ = some (.int .i64 s0_0) ∧ w'.cell? ⟨wa.heap.size, 1, none⟩ = some (.int .i64 s0_1) ∧ w'.cell? ⟨wa.heap.size, 2, none⟩ = some (.int .i64 s0_2) ∧ Box w 23 #[.int .i64 s0_0, .int .i64 s0_1, .int .i64 s0_2] w' ∧ Box wa 25 #[.int .i64 s0_0, .int .i64 s0_1, .int .i64 s0_2] w') _ from Box.two HT.out) ?_
        clear hK K hS
        have hS := (show (fun (w' : World) => w'.cell? ⟨w.heap.size, 0, none⟩ = some (.int .i64 s0_0) ∧ w'.cell? ⟨w.heap.size, 1, none⟩ = some (.int .i64 s0_1) ∧ w'.cell? ⟨w.heap.size, 2, none⟩ = some (.int .i64 s0_2) ∧ w'.cell? ⟨wa.heap.size, 0, none⟩ = some (.int .i64 s0_0) ∧ w'.cell? ⟨wa.heap.size, 1, none⟩ = some (.int .i64 s0_1) ∧ w'.cell? ⟨wa.heap.size, 2, none⟩ = some (.int .i64 s0_2) ∧ Box w 23 #[.int .i64 s0_0, .int .i64 s0_1, .int .i64 s0_2] w' ∧ Box wa 25 #[.int .i64 s0_0, .int .i64 s0_1, .int .i64 s0_2] w') _ from Box.two HT.out)
        refine Turns.take hS 13 _ rfl (by kernel_rfl) (by kernel_rfl) (by kernel_rfl) (by kernel_rfl) (fun _ _ _ h => h) (by rfl) (fun w' hS' => by (try dsimp only at hS'); go_split_ands; go_simp; (try with_reducible rfl)) ?_
        simp only [Act.put, List.getElem_toArray, List.getElem_cons_succ, List.getElem_cons_zero, List.setIfInBounds_toArray, List.set_cons_zero, List.set_cons_succ]
        refine Turns.take hS 14 _ rfl (by kernel_rfl) (by kernel_rfl) (by kernel_rfl) (by kernel_rfl) (fun _ _ _ h => h) (by rfl) (fun w' hS' => by (try dsimp only at hS'); go_split_ands; go_simp; (try with_reducible rfl)) ?_
        simp only [Act.put, List.getElem_toArray, List.getElem_cons_succ, List.getElem_cons_zero, List.setIfInBounds_toArray, List.set_cons_zero, List.set_cons_succ]
        refine Turns.rest (late_done (by kernel_rfl)) ?_
        refine any_tail 15 (by rfl) (by kernel_rfl) ?_
        simp only [List.drop_succ_cons, List.drop_zero]
        clear hS
        obtain ⟨c0, c1, c2, _⟩ := HT.out.1.cells3
        obtain ⟨b0, b1, b2, _⟩ := HT.out.2.cells3
        go_wp2_with (first
          | (go_at_call 14; refine (rphase_any _ _ _ _ _ k1 k2 ht).mono ?_; rintro e wx ⟨rfl, hb⟩; replace HT := Lib.hid (And.intro (HT.out.1.next hb) (HT.out.2.next hb)); obtain ⟨c0, c1, c2, _⟩ := HT.out.1.cells3; obtain ⟨b0, b1, b2, _⟩ := HT.out.2.cells3; clear hb))
        refine region_turns (fun (w' : World) => w'.cell? ⟨w.heap.size, 0, none⟩ = some (.int .i64 s0_0) ∧ w'.cell? ⟨w.heap.size, 1, none⟩ = some (.int .i64 s0_1) ∧ w'.cell? ⟨w.heap.size, 2, none⟩ = some (.int .i64 s0_2) ∧ w'.cell? ⟨wa.heap.size, 0, none⟩ = some (.int .i64 s0_0) ∧ w'.cell? ⟨wa.heap.size, 1, none⟩ = some (.int .i64 s0_1) ∧ w'.cell? ⟨wa.heap.size, 2, none⟩ = some (.int .i64 s0_2) ∧ Box w 23 #[.int .i64 s0_0, .int .i64 s0_1, .int .i64 s0_2] w' ∧ Box wa 25 #[.int .i64 s0_0, .int .i64 s0_1, .int .i64 s0_2] w') (fun j => decide (31 ≤ j)) (by kernel_rfl) (Box.two (And.intro HT.out.1.drew HT.out.2.drew)) (fun hS => ?_)
        refine Turns.take hS 0 _ rfl (by kernel_rfl) (by kernel_rfl) (by kernel_rfl) (by kernel_rfl) (fun _ _ _ h => h) (by rfl) (fun w' hS' => by (try dsimp only at hS'); go_split_ands; go_simp; (try with_reducible rfl)) ?_
        simp only [Act.put, List.getElem_toArray, List.getElem_cons_succ, List.getElem_cons_zero, List.setIfInBounds_toArray, List.set_cons_zero, List.set_cons_succ]
        refine Turns.take hS 1 _ rfl (by kernel_rfl) (by kernel_rfl) (by kernel_rfl) (by kernel_rfl) (fun _ _ _ h => h) (by rfl) (fun w' hS' => by (try dsimp only at hS'); go_split_ands; go_simp; (try with_reducible rfl)) ?_
        simp only [Act.put, List.getElem_toArray, List.getElem_cons_succ, List.getElem_cons_zero, List.setIfInBounds_toArray, List.set_cons_zero, List.set_cons_succ]
        refine Turns.take hS 3 _ rfl (by kernel_rfl) (by kernel_rfl) (by kernel_rfl) (by kernel_rfl) (fun _ _ _ h => h) (by rfl) (fun w' hS' => by (try dsimp only at hS'); go_split_ands; go_simp; (try with_reducible rfl)) ?_
        simp only [Act.put, List.getElem_toArray, List.getElem_cons_succ, List.getElem_cons_zero, List.setIfInBounds_toArray, List.set_cons_zero, List.set_cons_succ]
        refine Turns.take hS 4 _ rfl (by kernel_rfl) (by kernel_rfl) (by kernel_rfl) (by kernel_rfl) (fun _ _ _ h => h) (by rfl) (fun w' hS' => by (try dsimp only at hS'); go_split_ands; go_simp; (try with_reducible rfl)) ?_
        simp only [Act.put, List.getElem_toArray, List.getElem_cons_succ, List.getElem_cons_zero, List.setIfInBounds_toArray, List.set_cons_zero, List.set_cons_succ]
        refine Turns.next 2 rfl (by kernel_rfl) (by rfl) (fun K hK => ?_)
        go_simp
        go_at_call 12
        refine (mine_any _ _ _ _ _ hc hs).mono ?_
        rintro e wn2 ⟨rfl, hb⟩
        replace HT := Lib.hid (And.intro (hS.2.2.2.2.2.2.1.next hb) (hS.2.2.2.2.2.2.2.next hb))
        refine hK.out _ _ (show (fun (w' : World) => w'.cell? ⟨w.heap.size, 0, none⟩ = some (.int .i64 s0_0) ∧ w'.cell? ⟨w.heap.size, 1, none⟩ = some (.int .i64 s0_1) ∧ w'.cell? ⟨w.heap.size, 2, none⟩ = some (.int .i64 s0_2) ∧ w'.cell? ⟨wa.heap.size, 0, none⟩ = some (.int .i64 s0_0) ∧ w'.cell? ⟨wa.heap.size, 1, none⟩ = some (.int .i64 s0_1) ∧ w'.cell? ⟨wa.heap.size, 2, none⟩ = some (.int .i64 s0_2) ∧ Box w 23 #[.int .i64 s0_0, .int .i64 s0_1, .int .i64 s0_2] w' ∧ Box wa 25 #[.int .i64 s0_0, .int .i64 s0_1, .int .i64 s0_2] w') _ from Box.two HT.out) ?_
        clear hK K hS
        have hS := (show (fun (w' : World) => w'.cell? ⟨w.heap.size, 0, none⟩ = some (.int .i64 s0_0) ∧ w'.cell? ⟨w.heap.size, 1, none⟩ = some (.int .i64 s0_1) ∧ w'.cell? ⟨w.heap.size, 2, none⟩ = some (.int .i64 s0_2) ∧ w'.cell? ⟨wa.heap.size, 0, none⟩ = some (.int .i64 s0_0) ∧ w'.cell? ⟨wa.heap.size, 1, none⟩ = some (.int .i64 s0_1) ∧ w'.cell? ⟨wa.heap.size, 2, none⟩ = some (.int .i64 s0_2) ∧ Box w 23 #[.int .i64 s0_0, .int .i64 s0_1, .int .i64 s0_2] w' ∧ Box wa 25 #[.int .i64 s0_0, .int .i64 s0_1, .int .i64 s0_2] w') _ from Box.two HT.out)
        refine Turns.take hS 5 _ rfl (by kernel_rfl) (by kernel_rfl) (by kernel_rfl) (by kernel_rfl) (fun _ _ _ h => h) (by rfl) (fun w' hS' => by (try dsimp only at hS'); go_split_ands; go_simp; (try with_reducible rfl)) ?_
        simp only [Act.put, List.getElem_toArray, List.getElem_cons_succ, List.getElem_cons_zero, List.setIfInBounds_toArray, List.set_cons_zero, List.set_cons_succ]
        refine Turns.take hS 6 _ rfl (by kernel_rfl) (by kernel_rfl) (by kernel_rfl) (by kernel_rfl) (fun _ _ _ h => h) (by rfl) (fun w' hS' => by (try dsimp only at hS'); go_split_ands; go_simp; (try with_reducible rfl)) ?_
        simp only [Act.put, List.getElem_toArray, List.getElem_cons_succ, List.getElem_cons_zero, List.setIfInBounds_toArray, List.set_cons_zero, List.set_cons_succ]
        refine Turns.take hS 7 _ rfl (by kernel_rfl) (by kernel_rfl) (by kernel_rfl) (by kernel_rfl) (fun _ _ _ h => h) (by rfl) (fun w' hS' => by (try dsimp only at hS'); go_split_ands; go_simp; (try with_reducible rfl)) ?_
        simp only [Act.put, List.getElem_toArray, List.getElem_cons_succ, List.getElem_cons_zero, List.setIfInBounds_toArray, List.set_cons_zero, List.set_cons_succ]
        refine Turns.take hS 8 _ rfl (by kernel_rfl) (by kernel_rfl) (by kernel_rfl) (by kernel_rfl) (fun _ _ _ h => h) (by rfl) (fun w' hS' => by (try dsimp only at hS'); go_split_ands; go_simp; (try with_reducible rfl)) ?_
        simp only [Act.put, List.getElem_toArray, List.getElem_cons_succ, List.getElem_cons_zero, List.setIfInBounds_toArray, List.set_cons_zero, List.set_cons_succ]
        refine Turns.take hS 9 _ rfl (by kernel_rfl) (by kernel_rfl) (by kernel_rfl) (by kernel_rfl) (fun _ _ _ h => h) (by rfl) (fun w' hS' => by (try dsimp only at hS'); go_split_ands; go_simp; (try with_reducible rfl)) ?_
        simp only [Act.put, List.getElem_toArray, List.getElem_cons_succ, List.getElem_cons_zero, List.setIfInBounds_toArray, List.set_cons_zero, List.set_cons_succ]
        refine Turns.take hS 10 _ rfl (by kernel_rfl) (by kernel_rfl) (by kernel_rfl) (by kernel_rfl) (fun _ _ _ h => h) (by rfl) (fun w' hS' => by (try dsimp only at hS'); go_split_ands; go_simp; (try with_reducible rfl)) ?_
        simp only [Act.put, List.getElem_toArray, List.getElem_cons_succ, List.getElem_cons_zero, List.setIfInBounds_toArray, List.set_cons_zero, List.set_cons_succ]
        refine Turns.take hS 11 _ rfl (by kernel_rfl) (by kernel_rfl) (by kernel_rfl) (by kernel_rfl) (fun _ _ _ h => h) (by rfl) (fun w' hS' => by (try dsimp only at hS'); go_split_ands; go_simp; (try with_reducible rfl)) ?_
        simp only [Act.put, List.getElem_toArray, List.getElem_cons_succ, List.getElem_cons_zero, List.setIfInBounds_toArray, List.set_cons_zero, List.set_cons_succ]
        refine Turns.take hS 12 _ rfl (by kernel_rfl) (by kernel_rfl) (by kernel_rfl) (by kernel_rfl) (fun _ _ _ h => h) (by rfl) (fun w' hS' => by (try dsimp only at hS'); go_split_ands; go_simp; (try with_reducible rfl)) ?_
        simp only [Act.put, List.getElem_toArray, List.getElem_cons_succ, List.getElem_cons_zero, List.setIfInBounds_toArray, List.set_cons_zero, List.set_cons_succ]
        refine Turns.take hS 13 _ rfl (by kernel_rfl) (by kernel_rfl) (by kernel_rfl) (by kernel_rfl) (fun _ _ _ h => h) (by rfl) (fun w' hS' => by (try dsimp only at hS'); go_split_ands; go_simp; (try with_reducible rfl)) ?_
        simp only [Act.put, List.getElem_toArray, List.getElem_cons_succ, List.getElem_cons_zero, List.setIfInBounds_toArray, List.set_cons_zero, List.set_cons_succ]
        refine Turns.take hS 14 _ rfl (by kernel_rfl) (by kernel_rfl) (by kernel_rfl) (by kernel_rfl) (fun _ _ _ h => h) (by rfl) (fun w' hS' => by (try dsimp only at hS'); go_split_ands; go_simp; (try with_reducible rfl)) ?_
        simp only [Act.put, List.getElem_toArray, List.getElem_cons_succ, List.getElem_cons_zero, List.setIfInBounds_toArray, List.set_cons_zero, List.set_cons_succ]
        refine Turns.take hS 15 _ rfl (by kernel_rfl) (by kernel_rfl) (by kernel_rfl) (by kernel_rfl) (fun _ _ _ h => h) (by rfl) (fun w' hS' => by (try dsimp only at hS'); go_split_ands; go_simp; (try with_reducible rfl)) ?_
        simp only [Act.put, List.getElem_toArray, List.getElem_cons_succ, List.getElem_cons_zero, List.setIfInBounds_toArray, List.set_cons_zero, List.set_cons_succ]
        refine Turns.take hS 16 _ rfl (by kernel_rfl) (by kernel_rfl) (by kernel_rfl) (by kernel_rfl) (fun _ _ _ h => h) (by rfl) (fun w' hS' => by (try dsimp only at hS'); go_split_ands; go_simp; (try with_reducible rfl)) ?_
        simp only [Act.put, List.getElem_toArray, List.getElem_cons_succ, List.getElem_cons_zero, List.setIfInBounds_toArray, List.set_cons_zero, List.set_cons_succ]
        refine Turns.take hS 17 _ rfl (by kernel_rfl) (by kernel_rfl) (by kernel_rfl) (by kernel_rfl) (fun _ _ _ h => h) (by rfl) (fun w' hS' => by (try dsimp only at hS'); go_split_ands; go_simp; (try with_reducible rfl)) ?_
        simp only [Act.put, List.getElem_toArray, List.getElem_cons_succ, List.getElem_cons_zero, List.setIfInBounds_toArray, List.set_cons_zero, List.set_cons_succ]
        refine Turns.take hS 19 _ rfl (by kernel_rfl) (by kernel_rfl) (by kernel_rfl) (by kernel_rfl) (fun _ _ _ h => h) (by rfl) (fun w' hS' => by (try dsimp only at hS'); go_split_ands; go_simp; (try with_reducible rfl)) ?_
        simp only [Act.put, List.getElem_toArray, List.getElem_cons_succ, List.getElem_cons_zero, List.setIfInBounds_toArray, List.set_cons_zero, List.set_cons_succ]
        refine Turns.next 18 rfl (by kernel_rfl) (by rfl) (fun K hK => ?_)
        go_simp
        go_at_call 13
        refine (rest_any _ _ _ _ _ hc ht).mono ?_
        rintro e wn18 ⟨rfl, hb⟩
        replace HT := Lib.hid (And.intro (hS.2.2.2.2.2.2.1.next hb) (hS.2.2.2.2.2.2.2.next hb))
        refine hK.out _ _ (show (fun (w' : World) => w'.cell? ⟨w.heap.size, 0, none⟩ = some (.int .i64 s0_0) ∧ w'.cell? ⟨w.heap.size, 1, none⟩ = some (.int .i64 s0_1) ∧ w'.cell? ⟨w.heap.size, 2, none⟩ = some (.int .i64 s0_2) ∧ w'.cell? ⟨wa.heap.size, 0, none⟩ = some (.int .i64 s0_0) ∧ w'.cell? ⟨wa.heap.size, 1, none⟩ = some (.int .i64 s0_1) ∧ w'.cell? ⟨wa.heap.size, 2, none⟩ = some (.int .i64 s0_2) ∧ Box w 23 #[.int .i64 s0_0, .int .i64 s0_1, .int .i64 s0_2] w' ∧ Box wa 25 #[.int .i64 s0_0, .int .i64 s0_1, .int .i64 s0_2] w') _ from Box.two HT.out) ?_
        clear hK K hS
        have hS := (show (fun (w' : World) => w'.cell? ⟨w.heap.size, 0, none⟩ = some (.int .i64 s0_0) ∧ w'.cell? ⟨w.heap.size, 1, none⟩ = some (.int .i64 s0_1) ∧ w'.cell? ⟨w.heap.size, 2, none⟩ = some (.int .i64 s0_2) ∧ w'.cell? ⟨wa.heap.size, 0, none⟩ = some (.int .i64 s0_0) ∧ w'.cell? ⟨wa.heap.size, 1, none⟩ = some (.int .i64 s0_1) ∧ w'.cell? ⟨wa.heap.size, 2, none⟩ = some (.int .i64 s0_2) ∧ Box w 23 #[.int .i64 s0_0, .int .i64 s0_1, .int .i64 s0_2] w' ∧ Box wa 25 #[.int .i64 s0_0, .int .i64 s0_1, .int .i64 s0_2] w') _ from Box.two HT.out)
        refine Turns.take hS 20 _ rfl (by kernel_rfl) (by kernel_rfl) (by kernel_rfl) (by kernel_rfl) (fun _ _ _ h => h) (by rfl) (fun w' hS' => by (try dsimp only at hS'); go_split_ands; go_simp; (try with_reducible rfl)) ?_
        simp only [Act.put, List.getElem_toArray, List.getElem_cons_succ, List.getElem_cons_zero, List.setIfInBounds_toArray, List.set_cons_zero, List.set_cons_succ]
        refine Turns.take hS 21 _ rfl (by kernel_rfl) (by kernel_rfl) (by kernel_rfl) (by kernel_rfl) (fun _ _ _ h => h) (by rfl) (fun w' hS' => by (try dsimp only at hS'); go_split_ands; go_simp; (try with_reducible rfl)) ?_
        simp only [Act.put, List.getElem_toArray, List.getElem_cons_succ, List.getElem_cons_zero, List.setIfInBounds_toArray, List.set_cons_zero, List.set_cons_succ]
        refine Turns.take hS 22 _ rfl (by kernel_rfl) (by kernel_rfl) (by kernel_rfl) (by kernel_rfl) (fun _ _ _ h => h) (by rfl) (fun w' hS' => by (try dsimp only at hS'); go_split_ands; go_simp; (try with_reducible rfl)) ?_
        simp only [Act.put, List.getElem_toArray, List.getElem_cons_succ, List.getElem_cons_zero, List.setIfInBounds_toArray, List.set_cons_zero, List.set_cons_succ]
        refine Turns.take hS 23 _ rfl (by kernel_rfl) (by kernel_rfl) (by kernel_rfl) (by kernel_rfl) (fun _ _ _ h => h) (by rfl) (fun w' hS' => by (try dsimp only at hS'); go_split_ands; go_simp; (try with_reducible rfl)) ?_
        simp only [Act.put, List.getElem_toArray, List.getElem_cons_succ, List.getElem_cons_zero, List.setIfInBounds_toArray, List.set_cons_zero, List.set_cons_succ]
        refine Turns.take hS 25 _ rfl (by kernel_rfl) (by kernel_rfl) (by kernel_rfl) (by kernel_rfl) (fun _ _ _ h => h) (by rfl) (fun w' hS' => by (try dsimp only at hS'); go_split_ands; go_simp; (try with_reducible rfl)) ?_
        simp only [Act.put, List.getElem_toArray, List.getElem_cons_succ, List.getElem_cons_zero, List.setIfInBounds_toArray, List.set_cons_zero, List.set_cons_succ]
        refine Turns.take hS 26 _ rfl (by kernel_rfl) (by kernel_rfl) (by kernel_rfl) (by kernel_rfl) (fun _ _ _ h => h) (by rfl) (fun w' hS' => by (try dsimp only at hS'); go_split_ands; go_simp; (try with_reducible rfl)) ?_
        simp only [Act.put, List.getElem_toArray, List.getElem_cons_succ, List.getElem_cons_zero, List.setIfInBounds_toArray, List.set_cons_zero, List.set_cons_succ]
        refine Turns.take hS 27 _ rfl (by kernel_rfl) (by kernel_rfl) (by kernel_rfl) (by kernel_rfl) (fun _ _ _ h => h) (by rfl) (fun w' hS' => by (try dsimp only at hS'); go_split_ands; go_simp; (try with_reducible rfl)) ?_
        simp only [Act.put, List.getElem_toArray, List.getElem_cons_succ, List.getElem_cons_zero, List.setIfInBounds_toArray, List.set_cons_zero, List.set_cons_succ]
        refine Turns.next 24 rfl (by kernel_rfl) (by rfl) (fun K hK => ?_)
        go_simp
        go_at_call 15
        refine (ticks_any _ _ _ _ k1 k2).mono ?_
        rintro e wn24 ⟨rfl, hb⟩
        replace HT := Lib.hid (And.intro (hS.2.2.2.2.2.2.1.next hb) (hS.2.2.2.2.2.2.2.next hb))
        refine hK.out _ _ (show (fun (w' : World) => w'.cell? ⟨w.heap.size, 0, none⟩ = some (.int .i64 s0_0) ∧ w'.cell? ⟨w.heap.size, 1, none⟩ = some (.int .i64 s0_1) ∧ w'.cell? ⟨w.heap.size, 2, none⟩ = some (.int .i64 s0_2) ∧ w'.cell? ⟨wa.heap.size, 0, none⟩ = some (.int .i64 s0_0) ∧ w'.cell? ⟨wa.heap.size, 1, none⟩ = some (.int .i64 s0_1) ∧ w'.cell? ⟨wa.heap.size, 2, none⟩ = some (.int .i64 s0_2) ∧ Box w 23 #[.int .i64 s0_0, .int .i64 s0_1, .int .i64 s0_2] w' ∧ Box wa 25 #[.int .i64 s0_0, .int .i64 s0_1, .int .i64 s0_2] w') _ from Box.two HT.out) ?_
        clear hK K hS
        have hS := (show (fun (w' : World) => w'.cell? ⟨w.heap.size, 0, none⟩ = some (.int .i64 s0_0) ∧ w'.cell? ⟨w.heap.size, 1, none⟩ = some (.int .i64 s0_1) ∧ w'.cell? ⟨w.heap.size, 2, none⟩ = some (.int .i64 s0_2) ∧ w'.cell? ⟨wa.heap.size, 0, none⟩ = some (.int .i64 s0_0) ∧ w'.cell? ⟨wa.heap.size, 1, none⟩ = some (.int .i64 s0_1) ∧ w'.cell? ⟨wa.heap.size, 2, none⟩ = some (.int .i64 s0_2) ∧ Box w 23 #[.int .i64 s0_0, .int .i64 s0_1, .int .i64 s0_2] w' ∧ Box wa 25 #[.int .i64 s0_0, .int .i64 s0_1, .int .i64 s0_2] w') _ from Box.two HT.out)
        refine Turns.take hS 28 _ rfl (by kernel_rfl) (by kernel_rfl) (by kernel_rfl) (by kernel_rfl) (fun _ _ _ h => h) (by rfl) (fun w' hS' => by (try dsimp only at hS'); go_split_ands; go_simp; (try with_reducible rfl)) ?_
        simp only [Act.put, List.getElem_toArray, List.getElem_cons_succ, List.getElem_cons_zero, List.setIfInBounds_toArray, List.set_cons_zero, List.set_cons_succ]
        refine Turns.take hS 29 _ rfl (by kernel_rfl) (by kernel_rfl) (by kernel_rfl) (by kernel_rfl) (fun _ _ _ h => h) (by rfl) (fun w' hS' => by (try dsimp only at hS'); go_split_ands; go_simp; (try with_reducible rfl)) ?_
        simp only [Act.put, List.getElem_toArray, List.getElem_cons_succ, List.getElem_cons_zero, List.setIfInBounds_toArray, List.set_cons_zero, List.set_cons_succ]
        refine Turns.take hS 30 _ rfl (by kernel_rfl) (by kernel_rfl) (by kernel_rfl) (by kernel_rfl) (fun _ _ _ h => h) (by rfl) (fun w' hS' => by (try dsimp only at hS'); go_split_ands; go_simp; (try with_reducible rfl)) ?_
        simp only [Act.put, List.getElem_toArray, List.getElem_cons_succ, List.getElem_cons_zero, List.setIfInBounds_toArray, List.set_cons_zero, List.set_cons_succ]
        refine Turns.rest (late_done (by kernel_rfl)) ?_
        refine any_tail 31 (by rfl) (by kernel_rfl) ?_
        simp only [List.drop_succ_cons, List.drop_zero]
        clear hS
        go_wp2
        go_ret
        exact ⟨rfl, HT.out.1.below⟩
      · have g2 : (a1 % s0_0 == s0_2) = false := by simpa using g1
        have g3 : mineB s0_0 s0_2 a1 = false := mineB_no g1
        go_enter Try.func3, Try.ntmps3
        go_wp2_with (first
          | (go_at_call 7; refine (alive_yes _).mono ?_; rintro e wa ⟨rfl, hb⟩; have HT := Lib.hid (And.intro ((HB.out.next hb).alloc (.cells #[.int .i64 s0_0, .int .i64 s0_1, .int .i64 s0_2] 25)) (Box.start wa 25 #[.int .i64 s0_0, .int .i64 s0_1, .int .i64 s0_2])); obtain ⟨c0, c1, c2, _⟩ := HT.out.1.cells3; obtain ⟨b0, b1, b2, _⟩ := HT.out.2.cells3; obtain ⟨a0, a1', a2', _⟩ := (HB.out.next hb).cells3; clear hb)
          | (go_at_call 8; refine (rgood_yes _ _ _ _ hc).mono ?_; rintro e wx ⟨rfl, hb⟩; replace HT := Lib.hid (And.intro (HT.out.1.next hb) (HT.out.2.next hb)); obtain ⟨c0, c1, c2, _⟩ := HT.out.1.cells3; obtain ⟨b0, b1, b2, _⟩ := HT.out.2.cells3; clear hb))
        refine region_turns (fun (w' : World) => w'.cell? ⟨w.heap.size, 0, none⟩ = some (.int .i64 s0_0) ∧ w'.cell? ⟨w.heap.size, 1, none⟩ = some (.int .i64 s0_1) ∧ w'.cell? ⟨w.heap.size, 2, none⟩ = some (.int .i64 s0_2) ∧ w'.cell? ⟨wa.heap.size, 0, none⟩ = some (.int .i64 s0_0) ∧ w'.cell? ⟨wa.heap.size, 1, none⟩ = some (.int .i64 s0_1) ∧ w'.cell? ⟨wa.heap.size, 2, none⟩ = some (.int .i64 s0_2) ∧ Box w 23 #[.int .i64 s0_0, .int .i64 s0_1, .int .i64 s0_2] w' ∧ Box wa 25 #[.int .i64 s0_0, .int .i64 s0_1, .int .i64 s0_2] w') (fun j => decide (15 ≤ j)) (by kernel_rfl) (Box.two (And.intro HT.out.1.drew HT.out.2.drew)) (fun hS => ?_)
        refine Turns.take hS 0 _ rfl (by kernel_rfl) (by kernel_rfl) (by kernel_rfl) (by kernel_rfl) (fun _ _ _ h => h) (by rfl) (fun w' hS' => by (try dsimp only at hS'); go_split_ands; go_simp; (try with_reducible rfl)) ?_
        simp only [Act.put, List.getElem_toArray, List.getElem_cons_succ, List.getElem_cons_zero, List.setIfInBounds_toArray, List.set_cons_zero, List.set_cons_succ]
        refine Turns.take hS 2 _ rfl (by kernel_rfl) (by kernel_rfl) (by kernel_rfl) (by kernel_rfl) (fun _ _ _ h => h) (by rfl) (fun w' hS' => by (try dsimp only at hS'); go_split_ands; go_simp; (try with_reducible rfl)) ?_
        simp only [Act.put, List.getElem_toArray, List.getElem_cons_succ, List.getElem_cons_zero, List.setIfInBounds_toArray, List.set_cons_zero, List.set_cons_succ]
        refine Turns.next 1 rfl (by kernel_rfl) (by rfl) (fun K hK => ?_)
        go_simp
        go_at_call 9
        refine (good_yes _ _ _ _ hc).mono ?_
        rintro e wn1 ⟨rfl, hb⟩
        replace HT := Lib.hid (And.intro (hS.2.2.2.2.2.2.1.next hb) (hS.2.2.2.2.2.2.2.next hb))
        refine hK.out _ _ (show (fun (w' : World) => w'.cell? ⟨w.heap.size, 0, none⟩ = some (.int .i64 s0_0) ∧ w'.cell? ⟨w.heap.size, 1, none⟩ = some (.int .i64 s0_1) ∧ w'.cell? ⟨w.heap.size, 2, none⟩ = some (.int .i64 s0_2) ∧ w'.cell? ⟨wa.heap.size, 0, none⟩ = some (.int .i64 s0_0) ∧ w'.cell? ⟨wa.heap.size, 1, none⟩ = some (.int .i64 s0_1) ∧ w'.cell? ⟨wa.heap.size, 2, none⟩ = some (.int .i64 s0_2) ∧ Box w 23 #[.int .i64 s0_0, .int .i64 s0_1, .int .i64 s0_2] w' ∧ Box wa 25 #[.int .i64 s0_0, .int .i64 s0_1, .int .i64 s0_2] w') _ from Box.two HT.out) ?_
        clear hK K hS
        have hS := (show (fun (w' : World) => w'.cell? ⟨w.heap.size, 0, none⟩ = some (.int .i64 s0_0) ∧ w'.cell? ⟨w.heap.size, 1, none⟩ = some (.int .i64 s0_1) ∧ w'.cell? ⟨w.heap.size, 2, none⟩ = some (.int .i64 s0_2) ∧ w'.cell? ⟨wa.heap.size, 0, none⟩ = some (.int .i64 s0_0) ∧ w'.cell? ⟨wa.heap.size, 1, none⟩ = some (.int .i64 s0_1) ∧ w'.cell? ⟨wa.heap.size, 2, none⟩ = some (.int .i64 s0_2) ∧ Box w 23 #[.int .i64 s0_0, .int .i64 s0_1, .int .i64 s0_2] w' ∧ Box wa 25 #[.int .i64 s0_0, .int .i64 s0_1, .int .i64 s0_2] w') _ from Box.two HT.out)
        refine Turns.take hS 3 _ rfl (by kernel_rfl) (by kernel_rfl) (by kernel_rfl) (by kernel_rfl) (fun _ _ _ h => h) (by rfl) (fun w' hS' => by (try dsimp only at hS'); go_split_ands; go_simp; (try with_reducible rfl)) ?_
        simp only [Act.put, List.getElem_toArray, List.getElem_cons_succ, List.getElem_cons_zero, List.setIfInBounds_toArray, List.set_cons_zero, List.set_cons_succ]
        refine Turns.take hS 4 _ rfl (by kernel_rfl) (by kernel_rfl) (by kernel_rfl) (by kernel_rfl) (fun _ _ _ h => h) (by rfl) (fun w' hS' => by (try dsimp only at hS'); go_split_ands; go_simp; (try with_reducible rfl)) ?_
        simp only [Act.put, List.getElem_toArray, List.getElem_cons_succ, List.getElem_cons_zero, List.setIfInBounds_toArray, List.set_cons_zero, List.set_cons_succ]
        refine Turns.take hS 5 _ rfl (by kernel_rfl) (by kernel_rfl) (by kernel_rfl) (by kernel_rfl) (fun _ _ _ h => h) (by rfl) (fun w' hS' => by (try dsimp only at hS'); go_split_ands; go_simp; (try with_reducible rfl)) ?_
        simp only [Act.put, List.getElem_toArray, List.getElem_cons_succ, List.getElem_cons_zero, List.setIfInBounds_toArray, List.set_cons_zero, List.set_cons_succ]
        refine Turns.take hS 6 _ rfl (by kernel_rfl) (by kernel_rfl) (by kernel_rfl) (by kernel_rfl) (fun _ _ _ h => h) (by rfl) (fun w' hS' => by (try dsimp only at hS'); go_split_ands; go_simp; (try with_reducible rfl)) ?_
        simp only [Act.put, List.getElem_toArray, List.getElem_cons_succ, List.getElem_cons_zero, List.setIfInBounds_toArray, List.set_cons_zero, List.set_cons_succ]
        refine Turns.take hS 7 _ rfl (by kernel_rfl) (by kernel_rfl) (by kernel_rfl) (by kernel_rfl) (fun _ _ _ h => h) (by rfl) (fun w' hS' => by (try dsimp only at hS'); go_split_ands; go_simp; (try with_reducible rfl)) ?_
        simp only [Act.put, List.getElem_toArray, List.getElem_cons_succ, List.getElem_cons_zero, List.setIfInBounds_toArray, List.set_cons_zero, List.set_cons_succ]
        refine Turns.take hS 9 _ rfl (by kernel_rfl) (by kernel_rfl) (by kernel_rfl) (by kernel_rfl) (fun _ _ _ h => h) (by rfl) (fun w' hS' => by (try dsimp only at hS'); go_split_ands; go_simp; (try with_reducible rfl)) ?_
        simp only [Act.put, List.getElem_toArray, List.getElem_cons_succ, List.getElem_cons_zero, List.setIfInBounds_toArray, List.set_cons_zero, List.set_cons_succ]
        refine Turns.take hS 10 _ rfl (by kernel_rfl) (by kernel_rfl) (by kernel_rfl) (by kernel_rfl) (fun _ _ _ h => h) (by rfl) (fun w' hS' => by (try dsimp only at hS'); go_split_ands; go_simp; (try with_reducible rfl)) ?_
        simp only [Act.put, List.getElem_toArray, List.getElem_cons_succ, List.getElem_cons_zero, List.setIfInBounds_toArray, List.set_cons_zero, List.set_cons_succ]
        refine Turns.take hS 11 _ rfl (by kernel_rfl) (by kernel_rfl) (by kernel_rfl) (by kernel_rfl) (fun _ _ _ h => h) (by rfl) (fun w' hS' => by (try dsimp only at hS'); go_split_ands; go_simp; (try with_reducible rfl)) ?_
        simp only [Act.put, List.getElem_toArray, List.getElem_cons_succ, List.getElem_cons_zero, List.setIfInBounds_toArray, List.set_cons_zero, List.set_cons_succ]
        refine Turns.next 8 rfl (by kernel_rfl) (by rfl) (fun K hK => ?_)
        go_simp
        go_at_call 10
        refine (awake_any _ _ _ _ _ _ hc ht hg).mono ?_
        rintro e wn8 ⟨rfl, hb⟩
        replace HT := Lib.hid (And.intro (hS.2.2.2.2.2.2.1.next hb) (hS.2.2.2.2.2.2.2.next hb))
        refine hK.out _ _ (show (fun (w' : World) => w'.cell? ⟨w.heap.size, 0, none⟩ = some (.int .i64 s0_0) ∧ w'.cell? ⟨w.heap.size, 1, none⟩ = some (.int .i64 s0_1) ∧ w'.cell? ⟨w.heap.size, 2, none⟩ = some (.int .i64 s0_2) ∧ w'.cell? ⟨wa.heap.size, 0, none⟩ = some (.int .i64 s0_0) ∧ w'.cell? ⟨wa.heap.size, 1, none⟩ = some (.int .i64 s0_1) ∧ w'.cell? ⟨wa.heap.size, 2, none⟩ = some (.int .i64 s0_2) ∧ Box w 23 #[.int .i64 s0_0, .int .i64 s0_1, .int .i64 s0_2] w' ∧ Box wa 25 #[.int .i64 s0_0, .int .i64 s0_1, .int .i64 s0_2] w') _ from Box.two HT.out) ?_
        clear hK K hS
        have hS := (show (fun (w' : World) => w'.cell? ⟨w.heap.size, 0, none⟩ = some (.int .i64 s0_0) ∧ w'.cell? ⟨w.heap.size, 1, none⟩ = some (.int .i64 s0_1) ∧ w'.cell? ⟨w.heap.size, 2, none⟩ = some (.int .i64 s0_2) ∧ w'.cell? ⟨wa.heap.size, 0, none⟩ = some (.int .i64 s0_0) ∧ w'.cell? ⟨wa.heap.size, 1, none⟩ = some (.int .i64 s0_1) ∧ w'.cell? ⟨wa.heap.size, 2, none⟩ = some (.int .i64 s0_2) ∧ Box w 23 #[.int .i64 s0_0, .int .i64 s0_1, .int .i64 s0_2] w' ∧ Box wa 25 #[.int .i64 s0_0, .int .i64 s0_1, .int .i64 s0_2] w') _ from Box.two HT.out)
        refine Turns.next 12 rfl (by kernel_rfl) (by rfl) (fun K hK => ?_)
        go_simp
        go_at_call 11
        refine (rawake_any _ _ _ _ _ _ hc ht hg).mono ?_
        rintro e wn12 ⟨rfl, hb⟩
        replace HT := Lib.hid (And.intro (hS.2.2.2.2.2.2.1.next hb) (hS.2.2.2.2.2.2.2.next hb))
        refine hK.out _ _ (show (fun (w' : World) => w'.cell? ⟨w.heap.size, 0, none⟩ = some (.int .i64 s0_0) ∧ w'.cell? ⟨w.heap.size, 1, none⟩ = some (.int .i64 s0_1) ∧ w'.cell? ⟨w.heap.size, 2, none⟩ = some (.int .i64 s0_2) ∧ w'.cell? ⟨wa.heap.size, 0, none⟩ = some (.int .i64 s0_0) ∧ w'.cell? ⟨wa.heap.size, 1, none⟩ = some (.int .i64 s0_1) ∧ w'.cell? ⟨wa.heap.size, 2, none⟩ = some (.int .i64 s0_2) ∧ Box w 23 #[.int .i64 s0_0, .int .i64 s0_1, .int .i64 s0_2] w' ∧ Box wa 25 #[.int .i64 s0_0, .int .i64 s0_1, .int .i64 s0_2] w') _ from Box.two HT.out) ?_
        clear hK K hS
        have hS := (show (fun (w' : World) => w'.cell? ⟨w.heap.size, 0, none⟩ = some (.int .i64 s0_0) ∧ w'.cell? ⟨w.heap.size, 1, none⟩ = some (.int .i64 s0_1) ∧ w'.cell? ⟨w.heap.size, 2, none⟩ = some (.int .i64 s0_2) ∧ w'.cell? ⟨wa.heap.size, 0, none⟩ = some (.int .i64 s0_0) ∧ w'.cell? ⟨wa.heap.size, 1, none⟩ = some (.int .i64 s0_1) ∧ w'.cell? ⟨wa.heap.size, 2, none⟩ = some (.int .i64 s0_2) ∧ Box w 23 #[.int .i64 s0_0, .int .i64 s0_1, .int .i64 s0_2] w' ∧ Box wa 25 #[.int .i64 s0_0, .int .i64 s0_1, .int .i64 s0_2] w') _ from Box.two HT.out)
        refine Turns.take hS 13 _ rfl (by kernel_rfl) (by kernel_rfl) (by kernel_rfl) (by kernel_rfl) (fun _ _ _ h => h) (by rfl) (fun w' hS' => by (try dsimp only at hS'); go_split_ands; go_simp; (try with_reducible rfl)) ?_
        simp only [Act.put, List.getElem_toArray, List.getElem_cons_succ, List.getElem_cons_zero, List.setIfInBounds_toArray, List.set_cons_zero, List.set_cons_succ]
        refine Turns.take hS 14 _ rfl (by kernel_rfl) (by kernel_rfl) (by kernel_rfl) (by kernel_rfl) (fun _ _ _ h => h) (by rfl) (fun w' hS' => by (try dsimp only at hS'); go_split_ands; go_simp; (try with_reducible rfl)) ?_
        simp only [Act.put, List.getElem_toArray, List.getElem_cons_succ, List.getElem_cons_zero, List.setIfInBounds_toArray, List.set_cons_zero, List.set_cons_succ]
        refine Turns.rest (late_done (by kernel_rfl)) ?_
        refine any_tail 15 (by rfl) (by kernel_rfl) ?_
        simp only [List.drop_succ_cons, List.drop_zero]
        clear hS
        obtain ⟨c0, c1, c2, _⟩ := HT.out.1.cells3
        obtain ⟨b0, b1, b2, _⟩ := HT.out.2.cells3
        go_wp2_with (first
          | (go_at_call 14; refine (rphase_any _ _ _ _ _ k1 k2 ht).mono ?_; rintro e wx ⟨rfl, hb⟩; replace HT := Lib.hid (And.intro (HT.out.1.next hb) (HT.out.2.next hb)); obtain ⟨c0, c1, c2, _⟩ := HT.out.1.cells3; obtain ⟨b0, b1, b2, _⟩ := HT.out.2.cells3; clear hb))
        refine region_turns (fun (w' : World) => w'.cell? ⟨w.heap.size, 0, none⟩ = some (.int .i64 s0_0) ∧ w'.cell? ⟨w.heap.size, 1, none⟩ = some (.int .i64 s0_1) ∧ w'.cell? ⟨w.heap.size, 2, none⟩ = some (.int .i64 s0_2) ∧ w'.cell? ⟨wa.heap.size, 0, none⟩ = some (.int .i64 s0_0) ∧ w'.cell? ⟨wa.heap.size, 1, none⟩ = some (.int .i64 s0_1) ∧ w'.cell? ⟨wa.heap.size, 2, none⟩ = some (.int .i64 s0_2) ∧ Box w 23 #[.int .i64 s0_0, .int .i64 s0_1, .int .i64 s0_2] w' ∧ Box wa 25 #[.int .i64 s0_0, .int .i64 s0_1, .int .i64 s0_2] w') (fun j => decide (31 ≤ j)) (by kernel_rfl) (Box.two (And.intro HT.out.1.drew HT.out.2.drew)) (fun hS => ?_)
        refine Turns.take hS 0 _ rfl (by kernel_rfl) (by kernel_rfl) (by kernel_rfl) (by kernel_rfl) (fun _ _ _ h => h) (by rfl) (fun w' hS' => by (try dsimp only at hS'); go_split_ands; go_simp; (try with_reducible rfl)) ?_
        simp only [Act.put, List.getElem_toArray, List.getElem_cons_succ, List.getElem_cons_zero, List.setIfInBounds_toArray, List.set_cons_zero, List.set_cons_succ]
        refine Turns.take hS 1 _ rfl (by kernel_rfl) (by kernel_rfl) (by kernel_rfl) (by kernel_rfl) (fun _ _ _ h => h) (by rfl) (fun w' hS' => by (try dsimp only at hS'); go_split_ands; go_simp; (try with_reducible rfl)) ?_
        simp only [Act.put, List.getElem_toArray, List.getElem_cons_succ, List.getElem_cons_zero, List.setIfInBounds_toArray, List.set_cons_zero, List.set_cons_succ]
        refine Turns.take hS 3 _ rfl (by kernel_rfl) (by kernel_rfl) (by kernel_rfl) (by kernel_rfl) (fun _ _ _ h => h) (by rfl) (fun w' hS' => by (try dsimp only at hS'); go_split_ands; go_simp; (try with_reducible rfl)) ?_
        simp only [Act.put, List.getElem_toArray, List.getElem_cons_succ, List.getElem_cons_zero, List.setIfInBounds_toArray, List.set_cons_zero, List.set_cons_succ]
        refine Turns.take hS 4 _ rfl (by kernel_rfl) (by kernel_rfl) (by kernel_rfl) (by kernel_rfl) (fun _ _ _ h => h) (by rfl) (fun w' hS' => by (try dsimp only at hS'); go_split_ands; go_simp; (try with_reducible rfl)) ?_
        simp only [Act.put, List.getElem_toArray, List.getElem_cons_succ, List.getElem_cons_zero, List.setIfInBounds_toArray, List.set_cons_zero, List.set_cons_succ]
        refine Turns.next 2 rfl (by kernel_rfl) (by rfl) (fun K hK => ?_)
        go_simp
        go_at_call 12
        refine (mine_any _ _ _ _ _ hc hs).mono ?_
        rintro e wn2 ⟨rfl, hb⟩
        replace HT := Lib.hid (And.intro (hS.2.2.2.2.2.2.1.next hb) (hS.2.2.2.2.2.2.2.next hb))
        refine hK.out _ _ (show (fun (w' : World) => w'.cell? ⟨w.heap.size, 0, none⟩ = some (.int .i64 s0_0) ∧ w'.cell? ⟨w.heap.size, 1, none⟩ = some (.int .i64 s0_1) ∧ w'.cell? ⟨w.heap.size, 2, none⟩ = some (.int .i64 s0_2) ∧ w'.cell? ⟨wa.heap.size, 0, none⟩ = some (.int .i64 s0_0) ∧ w'.cell? ⟨wa.heap.size, 1, none⟩ = some (.int .i64 s0_1) ∧ w'.cell? ⟨wa.heap.size, 2, none⟩ = some (.int .i64 s0_2) ∧ Box w 23 #[.int .i64 s0_0, .int .i64 s0_1, .int .i64 s0_2] w' ∧ Box wa 25 #[.int .i64 s0_0, .int .i64 s0_1, .int .i64 s0_2] w') _ from Box.two HT.out) ?_
        clear hK K hS
        have hS := (show (fun (w' : World) => w'.cell? ⟨w.heap.size, 0, none⟩ = some (.int .i64 s0_0) ∧ w'.cell? ⟨w.heap.size, 1, none⟩ = some (.int .i64 s0_1) ∧ w'.cell? ⟨w.heap.size, 2, none⟩ = some (.int .i64 s0_2) ∧ w'.cell? ⟨wa.heap.size, 0, none⟩ = some (.int .i64 s0_0) ∧ w'.cell? ⟨wa.heap.size, 1, none⟩ = some (.int .i64 s0_1) ∧ w'.cell? ⟨wa.heap.size, 2, none⟩ = some (.int .i64 s0_2) ∧ Box w 23 #[.int .i64 s0_0, .int .i64 s0_1, .int .i64 s0_2] w' ∧ Box wa 25 #[.int .i64 s0_0, .int .i64 s0_1, .int .i64 s0_2] w') _ from Box.two HT.out)
        refine Turns.take hS 5 _ rfl (by kernel_rfl) (by kernel_rfl) (by kernel_rfl) (by kernel_rfl) (fun _ _ _ h => h) (by rfl) (fun w' hS' => by (try dsimp only at hS'); go_split_ands; go_simp; (try with_reducible rfl)) ?_
        simp only [Act.put, List.getElem_toArray, List.getElem_cons_succ, List.getElem_cons_zero, List.setIfInBounds_toArray, List.set_cons_zero, List.set_cons_succ]
        refine Turns.take hS 6 _ rfl (by kernel_rfl) (by kernel_rfl) (by kernel_rfl) (by kernel_rfl) (fun _ _ _ h => h) (by rfl) (fun w' hS' => by (try dsimp only at hS'); go_split_ands; go_simp; (try with_reducible rfl)) ?_
        simp only [Act.put, List.getElem_toArray, List.getElem_cons_succ, List.getElem_cons_zero, List.setIfInBounds_toArray, List.set_cons_zero, List.set_cons_succ]
        refine Turns.take hS 7 _ rfl (by kernel_rfl) (by kernel_rfl) (by kernel_rfl) (by kernel_rfl) (fun _ _ _ h => h) (by rfl) (fun w' hS' => by (try dsimp only at hS'); go_split_ands; go_simp; (try with_reducible rfl)) ?_
        simp only [Act.put, List.getElem_toArray, List.getElem_cons_succ, List.getElem_cons_zero, List.setIfInBounds_toArray, List.set_cons_zero, List.set_cons_succ]
        refine Turns.take hS 8 _ rfl (by kernel_rfl) (by kernel_rfl) (by kernel_rfl) (by kernel_rfl) (fun _ _ _ h => h) (by rfl) (fun w' hS' => by (try dsimp only at hS'); go_split_ands; go_simp; (try with_reducible rfl)) ?_
        simp only [Act.put, List.getElem_toArray, List.getElem_cons_succ, List.getElem_cons_zero, List.setIfInBounds_toArray, List.set_cons_zero, List.set_cons_succ]
        refine Turns.take hS 9 _ rfl (by kernel_rfl) (by kernel_rfl) (by kernel_rfl) (by kernel_rfl) (fun _ _ _ h => h) (by rfl) (fun w' hS' => by (try dsimp only at hS'); go_split_ands; go_simp; (try with_reducible rfl)) ?_
        simp only [Act.put, List.getElem_toArray, List.getElem_cons_succ, List.getElem_cons_zero, List.setIfInBounds_toArray, List.set_cons_zero, List.set_cons_succ]
        refine Turns.take hS 10 _ rfl (by kernel_rfl) (by kernel_rfl) (by kernel_rfl) (by kernel_rfl) (fun _ _ _ h => h) (by rfl) (fun w' hS' => by (try dsimp only at hS'); go_split_ands; go_simp; (try with_reducible rfl)) ?_
        simp only [Act.put, List.getElem_toArray, List.getElem_cons_succ, List.getElem_cons_zero, List.setIfInBounds_toArray, List.set_cons_zero, List.set_cons_succ]
        refine Turns.take hS 11 _ rfl (by kernel_rfl) (by kernel_rfl) (by kernel_rfl) (by kernel_rfl) (fun _ _ _ h => h) (by rfl) (fun w' hS' => by (try dsimp only at hS'); go_split_ands; go_simp; (try with_reducible rfl)) ?_
        simp only [Act.put, List.getElem_toArray, List.getElem_cons_succ, List.getElem_cons_zero, List.setIfInBounds_toArray, List.set_cons_zero, List.set_cons_succ]
        refine Turns.take hS 12 _ rfl (by kernel_rfl) (by kernel_rfl) (by kernel_rfl) (by kernel_rfl) (fun _ _ _ h => h) (by rfl) (fun w' hS' => by (try dsimp only at hS'); go_split_ands; go_simp; (try with_reducible rfl)) ?_
        simp only [Act.put, List.getElem_toArray, List.getElem_cons_succ, List.getElem_cons_zero, List.setIfInBounds_toArray, List.set_cons_zero, List.set_cons_succ]
        refine Turns.take hS 13 _ rfl (by kernel_rfl) (by kernel_rfl) (by kernel_rfl) (by kernel_rfl) (fun _ _ _ h => h) (by rfl) (fun w' hS' => by (try dsimp only at hS'); go_split_ands; go_simp; (try with_reducible rfl)) ?_
        simp only [Act.put, List.getElem_toArray, List.getElem_cons_succ, List.getElem_cons_zero, List.setIfInBounds_toArray, List.set_cons_zero, List.set_cons_succ]
        refine Turns.take hS 14 _ rfl (by kernel_rfl) (by kernel_rfl) (by kernel_rfl) (by kernel_rfl) (fun _ _ _ h => h) (by rfl) (fun w' hS' => by (try dsimp only at hS'); go_split_ands; go_simp; (try with_reducible rfl)) ?_
        simp only [Act.put, List.getElem_toArray, List.getElem_cons_succ, List.getElem_cons_zero, List.setIfInBounds_toArray, List.set_cons_zero, List.set_cons_succ]
        refine Turns.take hS 15 _ rfl (by kernel_rfl) (by kernel_rfl) (by kernel_rfl) (by kernel_rfl) (fun _ _ _ h => h) (by rfl) (fun w' hS' => by (try dsimp only at hS'); go_split_ands; go_simp; (try with_reducible rfl)) ?_
        simp only [Act.put, List.getElem_toArray, List.getElem_cons_succ, List.getElem_cons_zero, List.setIfInBounds_toArray, List.set_cons_zero, List.set_cons_succ]
        refine Turns.take hS 16 _ rfl (by kernel_rfl) (by kernel_rfl) (by kernel_rfl) (by kernel_rfl) (fun _ _ _ h => h) (by rfl) (fun w' hS' => by (try dsimp only at hS'); go_split_ands; go_simp; (try with_reducible rfl)) ?_
        simp only [Act.put, List.getElem_toArray, List.getElem_cons_succ, List.getElem_cons_zero, List.setIfInBounds_toArray, List.set_cons_zero, List.set_cons_succ]
        refine Turns.take hS 17 _ rfl (by kernel_rfl) (by kernel_rfl) (by kernel_rfl) (by kernel_rfl) (fun _ _ _ h => h) (by rfl) (fun w' hS' => by (try dsimp only at hS'); go_split_ands; go_simp; (try with_reducible rfl)) ?_
        simp only [Act.put, List.getElem_toArray, List.getElem_cons_succ, List.getElem_cons_zero, List.setIfInBounds_toArray, List.set_cons_zero, List.set_cons_succ]
        refine Turns.take hS 19 _ rfl (by kernel_rfl) (by kernel_rfl) (by kernel_rfl) (by kernel_rfl) (fun _ _ _ h => h) (by rfl) (fun w' hS' => by (try dsimp only at hS'); go_split_ands; go_simp; (try with_reducible rfl)) ?_
        simp only [Act.put, List.getElem_toArray, List.getElem_cons_succ, List.getElem_cons_zero, List.setIfInBounds_toArray, List.set_cons_zero, List.set_cons_succ]
        refine Turns.next 18 rfl (by kernel_rfl) (by rfl) (fun K hK => ?_)
        go_simp
        go_at_call 13
        refine (rest_any _ _ _ _ _ hc ht).mono ?_
        rintro e wn18 ⟨rfl, hb⟩
        replace HT := Lib.hid (And.intro (hS.2.2.2.2.2.2.1.next hb) (hS.2.2.2.2.2.2.2.next hb))
        refine hK.out _ _ (show (fun (w' : World) => w'.cell? ⟨w.heap.size, 0, none⟩ = some (.int .i64 s0_0) ∧ w'.cell? ⟨w.heap.size, 1, none⟩ = some (.int .i64 s0_1) ∧ w'.cell? ⟨w.heap.size, 2, none⟩ = some (.int .i64 s0_2) ∧ w'.cell? ⟨wa.heap.size, 0, none⟩ = some (.int .i64 s0_0) ∧ w'.cell? ⟨wa.heap.size, 1, none⟩ = some (.int .i64 s0_1) ∧ w'.cell? ⟨wa.heap.size, 2, none⟩ = some (.int .i64 s0_2) ∧ Box w 23 #[.int .i64 s0_0, .int .i64 s0_1, .int .i64 s0_2] w' ∧ Box wa 25 #[.int .i64 s0_0, .int .i64 s0_1, .int .i64 s0_2] w') _ from Box.two HT.out) ?_
        clear hK K hS
        have hS := (show (fun (w' : World) => w'.cell? ⟨w.heap.size, 0, none⟩ = some (.int .i64 s0_0) ∧ w'.cell? ⟨w.heap.size, 1, none⟩ = some (.int .i64 s0_1) ∧ w'.cell? ⟨w.heap.size, 2, none⟩ = some (.int .i64 s0_2) ∧ w'.cell? ⟨wa.heap.size, 0, none⟩ = some (.int .i64 s0_0) ∧ w'.cell? ⟨wa.heap.size, 1, none⟩ = some (.int .i64 s0_1) ∧ w'.cell? ⟨wa.heap.size, 2, none⟩ = some (.int .i64 s0_2) ∧ Box w 23 #[.int .i64 s0_0, .int .i64 s0_1, .int .i64 s0_2] w' ∧ Box wa 25 #[.int .i64 s0_0, .int .i64 s0_1, .int .i64 s0_2] w') _ from Box.two HT.out)
        refine Turns.take hS 20 _ rfl (by kernel_rfl) (by kernel_rfl) (by kernel_rfl) (by kernel_rfl) (fun _ _ _ h => h) (by rfl) (fun w' hS' => by (try dsimp only at hS'); go_split_ands; go_simp; (try with_reducible rfl)) ?_
        simp only [Act.put, List.getElem_toArray, List.getElem_cons_succ, List.getElem_cons_zero, List.setIfInBounds_toArray, List.set_cons_zero, List.set_cons_succ]
        refine Turns.take hS 21 _ rfl (by kernel_rfl) (by kernel_rfl) (by kernel_rfl) (by kernel_rfl) (fun _ _ _ h => h) (by rfl) (fun w' hS' => by (try dsimp only at hS'); go_split_ands; go_simp; (try with_reducible rfl)) ?_
        simp only [Act.put, List.getElem_toArray, List.getElem_cons_succ, List.getElem_cons_zero, List.setIfInBounds_toArray, List.set_cons_zero, List.set_cons_succ]
        refine Turns.take hS 22 _ rfl (by kernel_rfl) (by kernel_rfl) (by kernel_rfl) (by kernel_rfl) (fun _ _ _ h => h) (by rfl) (fun w' hS' => by (try dsimp only at hS'); go_split_ands; go_simp; (try with_reducible rfl)) ?_
        simp only [Act.put, List.getElem_toArray, List.getElem_cons_succ, List.getElem_cons_zero, List.setIfInBounds_toArray, List.set_cons_zero, List.set_cons_succ]
        refine Turns.take hS 23 _ rfl (by kernel_rfl) (by kernel_rfl) (by kernel_rfl) (by kernel_rfl) (fun _ _ _ h => h) (by rfl) (fun w' hS' => by (try dsimp only at hS'); go_split_ands; go_simp; (try with_reducible rfl)) ?_
        simp only [Act.put, List.getElem_toArray, List.getElem_cons_succ, List.getElem_cons_zero, List.setIfInBounds_toArray, List.set_cons_zero, List.set_cons_succ]
        refine Turns.take hS 25 _ rfl (by kernel_rfl) (by kernel_rfl) (by kernel_rfl) (by kernel_rfl) (fun _ _ _ h => h) (by rfl) (fun w' hS' => by (try dsimp only at hS'); go_split_ands; go_simp; (try with_reducible rfl)) ?_
        simp only [Act.put, List.getElem_toArray, List.getElem_cons_succ, List.getElem_cons_zero, List.setIfInBounds_toArray, List.set_cons_zero, List.set_cons_succ]
        refine Turns.take hS 26 _ rfl (by kernel_rfl) (by kernel_rfl) (by kernel_rfl) (by kernel_rfl) (fun _ _ _ h => h) (by rfl) (fun w' hS' => by (try dsimp only at hS'); go_split_ands; go_simp; (try with_reducible rfl)) ?_
        simp only [Act.put, List.getElem_toArray, List.getElem_cons_succ, List.getElem_cons_zero, List.setIfInBounds_toArray, List.set_cons_zero, List.set_cons_succ]
        refine Turns.take hS 27 _ rfl (by kernel_rfl) (by kernel_rfl) (by kernel_rfl) (by kernel_rfl) (fun _ _ _ h => h) (by rfl) (fun w' hS' => by (try dsimp only at hS'); go_split_ands; go_simp; (try with_reducible rfl)) ?_
        simp only [Act.put, List.getElem_toArray, List.getElem_cons_succ, List.getElem_cons_zero, List.setIfInBounds_toArray, List.set_cons_zero, List.set_cons_succ]
        refine Turns.next 24 rfl (by kernel_rfl) (by rfl) (fun K hK => ?_)
        go_simp
        go_at_call 15
        refine (ticks_any _ _ _ _ k1 k2).mono ?_
        rintro e wn24 ⟨rfl, hb⟩
        replace HT := Lib.hid (And.intro (hS.2.2.2.2.2.2.1.next hb) (hS.2.2.2.2.2.2.2.next hb))
        refine hK.out _ _ (show (fun (w' : World) => w'.cell? ⟨w.heap.size, 0, none⟩ = some (.int .i64 s0_0) ∧ w'.cell? ⟨w.heap.size, 1, none⟩ = some (.int .i64 s0_1) ∧ w'.cell? ⟨w.heap.size, 2, none⟩ = some (.int .i64 s0_2) ∧ w'.cell? ⟨wa.heap.size, 0, none⟩ = some (.int .i64 s0_0) ∧ w'.cell? ⟨wa.heap.size, 1, none⟩ = some (.int .i64 s0_1) ∧ w'.cell? ⟨wa.heap.size, 2, none⟩ = some (.int .i64 s0_2) ∧ Box w 23 #[.int .i64 s0_0, .int .i64 s0_1, .int .i64 s0_2] w' ∧ Box wa 25 #[.int .i64 s0_0, .int .i64 s0_1, .int .i64 s0_2] w') _ from Box.two HT.out) ?_
        clear hK K hS
        have hS := (show (fun (w' : World) => w'.cell? ⟨w.heap.size, 0, none⟩ = some (.int .i64 s0_0) ∧ w'.cell? ⟨w.heap.size, 1, none⟩ = some (.int .i64 s0_1) ∧ w'.cell? ⟨w.heap.size, 2, none⟩ = some (.int .i64 s0_2) ∧ w'.cell? ⟨wa.heap.size, 0, none⟩ = some (.int .i64 s0_0) ∧ w'.cell? ⟨wa.heap.size, 1, none⟩ = some (.int .i64 s0_1) ∧ w'.cell? ⟨wa.heap.size, 2, none⟩ = some (.int .i64 s0_2) ∧ Box w 23 #[.int .i64 s0_0, .int .i64 s0_1, .int .i64 s0_2] w' ∧ Box wa 25 #[.int .i64 s0_0, .int .i64 s0_1, .int .i64 s0_2] w') _ from Box.two HT.out)
        refine Turns.take hS 28 _ rfl (by kernel_rfl) (by kernel_rfl) (by kernel_rfl) (by kernel_rfl) (fun _ _ _ h => h) (by rfl) (fun w' hS' => by (try dsimp only at hS'); go_split_ands; go_simp; (try with_reducible rfl)) ?_
        simp only [Act.put, List.getElem_toArray, List.getElem_cons_succ, List.getElem_cons_zero, List.setIfInBounds_toArray, List.set_cons_zero, List.set_cons_succ]
        refine Turns.take hS 29 _ rfl (by kernel_rfl) (by kernel_rfl) (by kernel_rfl) (by kernel_rfl) (fun _ _ _ h => h) (by rfl) (fun w' hS' => by (try dsimp only at hS'); go_split_ands; go_simp; (try with_reducible rfl)) ?_
        simp only [Act.put, List.getElem_toArray, List.getElem_cons_succ, List.getElem_cons_zero, List.setIfInBounds_toArray, List.set_cons_zero, List.set_cons_succ]
        refine Turns.take hS 30 _ rfl (by kernel_rfl) (by kernel_rfl) (by kernel_rfl) (by kernel_rfl) (fun _ _ _ h => h) (by rfl) (fun w' hS' => by (try dsimp only at hS'); go_split_ands; go_simp; (try with_reducible rfl)) ?_
        simp only [Act.put, List.getElem_toArray, List.getElem_cons_succ, List.getElem_cons_zero, List.setIfInBounds_toArray, List.set_cons_zero, List.set_cons_succ]
        refine Turns.rest (late_done (by kernel_rfl)) ?_
        refine any_tail 31 (by rfl) (by kernel_rfl) ?_
        simp only [List.drop_succ_cons, List.drop_zero]
        clear hS
        go_wp2
        go_ret
        exact ⟨rfl, HT.out.1.below⟩
    · have g3 : mineB s0_0 s0_2 a1 = false := mineB_neg g0
      have g1 : decide (0 ≤ a1) = false := decide_eq_false g0
      go_enter Try.func3, Try.ntmps3
      go_wp2_with (first
        | (go_at_call 7; refine (alive_yes _).mono ?_; rintro e wa ⟨rfl, hb⟩; have HT := Lib.hid (And.intro ((HB.out.next hb).alloc (.cells #[.int .i64 s0_0, .int .i64 s0_1, .int .i64 s0_2] 25)) (Box.start wa 25 #[.int .i64 s0_0, .int .i64 s0_1, .int .i64 s0_2])); obtain ⟨c0, c1, c2, _⟩ := HT.out.1.cells3; obtain ⟨b0, b1, b2, _⟩ := HT.out.2.cells3; obtain ⟨a0, a1', a2', _⟩ := (HB.out.next hb).cells3; clear hb)
        | (go_at_call 8; refine (rgood_yes _ _ _ _ hc).mono ?_; rintro e wx ⟨rfl, hb⟩; replace HT := Lib.hid (And.intro (HT.out.1.next hb) (HT.out.2.next hb)); obtain ⟨c0, c1, c2, _⟩ := HT.out.1.cells3; obtain ⟨b0, b1, b2, _⟩ := HT.out.2.cells3; clear hb))
      refine region_turns (fun (w' : World) => w'.cell? ⟨w.heap.size, 0, none⟩ = some (.int .i64 s0_0) ∧ w'.cell? ⟨w.heap.size, 1, none⟩ = some (.int .i64 s0_1) ∧ w'.cell? ⟨w.heap.size, 2, none⟩ = some (.int .i64 s0_2) ∧ w'.cell? ⟨wa.heap.size, 0, none⟩ = some (.int .i64 s0_0) ∧ w'.cell? ⟨wa.heap.size, 1, none⟩ = some (.int .i64 s0_1) ∧ w'.cell? ⟨wa.heap.size, 2, none⟩ = some (.int .i64 s0_2) ∧ Box w 23 #[.int .i64 s0_0, .int .i64 s0_1, .int .i64 s0_2] w' ∧ Box wa 25 #[.int .i64 s0_0, .int .i64 s0_1, .int .i64 s0_2] w') (fun j => decide (15 ≤ j)) (by kernel_rfl) (Box.two (And.intro HT.out.1.drew HT.out.2.drew)) (fun hS => ?_)
      refine Turns.take hS 0 _ rfl (by kernel_rfl) (by kernel_rfl) (by kernel_rfl) (by kernel_rfl) (fun _ _ _ h => h) (by rfl) (fun w' hS' => by (try dsimp only at hS'); go_split_ands; go_simp; (try with_reducible rfl)) ?_
      simp only [Act.put, List.getElem_toArray, List.getElem_cons_succ, List.getElem_cons_zero, List.setIfInBounds_toArray, List.set_cons_zero, List.set_cons_succ]
      refine Turns.take hS 2 _ rfl (by kernel_rfl) (by kernel_rfl) (by kernel_rfl) (by kernel_rfl) (fun _ _ _ h => h) (by rfl) (fun w' hS' => by (try dsimp only at hS'); go_split_ands; go_simp; (try with_reducible rfl)) ?_
      simp only [Act.put, List.getElem_toArray, List.getElem_cons_succ, List.getElem_cons_zero, List.setIfInBounds_toArray, List.set_cons_zero, List.set_cons_succ]
      refine Turns.next 1 rfl (by kernel_rfl) (by rfl) (fun K hK => ?_)
      go_simp
      go_at_call 9
      refine (good_yes _ _ _ _ hc).mono ?_
      rintro e wn1 ⟨rfl, hb⟩
      replace HT := Lib.hid (And.intro (hS.2.2.2.2.2.2.1.next hb) (hS.2.2.2.2.2.2.2.next hb))
      refine hK.out _ _ (show (fun (w' : World) => w'.cell? ⟨w.heap.size, 0, none⟩ = some (.int .i64 s0_0) ∧ w'.cell? ⟨w.heap.size, 1, none⟩ = some (.int .i64 s0_1) ∧ w'.cell? ⟨w.heap.size, 2, none⟩ = some (.int .i64 s0_2) ∧ w'.cell? ⟨wa.heap.size, 0, none⟩ = some (.int .i64 s0_0) ∧ w'.cell? ⟨wa.heap.size, 1, none⟩ = some (.int .i64 s0_1) ∧ w'.cell? ⟨wa.heap.size, 2, none⟩ = some (.int .i64 s0_2) ∧ Box w 23 #[.int .i64 s0_0, .int .i64 s0_1, .int .i64 s0_2] w' ∧ Box wa 25 #[.int .i64 s0_0, .int .i64 s0_1, .int .i64 s0_2] w') _ from Box.two HT.out) ?_
      clear hK K hS
      have hS := (show (fun (w' : World) => w'.cell? ⟨w.heap.size, 0, none⟩ = some (.int .i64 s0_0) ∧ w'.cell? ⟨w.heap.size, 1, none⟩ = some (.int .i64 s0_1) ∧ w'.cell? ⟨w.heap.size, 2, none⟩ = some (.int .i64 s0_2) ∧ w'.cell? ⟨wa.heap.size, 0, none⟩ = some (.int .i64 s0_0) ∧ w'.cell? ⟨wa.heap.size, 1, none⟩ = some (.int .i64 s0_1) ∧ w'.cell? ⟨wa.heap.size, 2, none⟩ = some (.int .i64 s0_2) ∧ Box w 23 #[.int .i64 s0_0, .int .i64 s0_1, .int .i64 s0_2] w' ∧ Box wa 25 #[.int .i64 s0_0, .int .i64 s0_1, .int .i64 s0_2] w') _ from Box.two HT.out)
      refine Turns.take hS 3 _ rfl (by kernel_rfl) (by kernel_rfl) (by kernel_rfl) (by kernel_rfl) (fun _ _ _ h => h) (by rfl) (fun w' hS' => by (try dsimp only at hS'); go_split_ands; go_simp; (try with_reducible rfl)) ?_
      simp only [Act.put, List.getElem_toArray, List.getElem_cons_succ, List.getElem_cons_zero, List.setIfInBounds_toArray, List.set_cons_zero, List.set_cons_succ]
      refine Turns.take hS 4 _ rfl (by kernel_rfl) (by kernel_rfl) (by kernel_rfl) (by kernel_rfl) (fun _ _ _ h => h) (by rfl) (fun w' hS' => by (try dsimp only at hS'); go_split_ands; go_simp; (try with_reducible rfl)) ?_
      simp only [Act.put, List.getElem_toArray, List.getElem_cons_succ, List.getElem_cons_zero, List.setIfInBounds_toArray, List.set_cons_zero, List.set_cons_succ]
      refine Turns.take hS 5 _ rfl (by kernel_rfl) (by kernel_rfl) (by kernel_rfl) (by kernel_rfl) (fun _ _ _ h => h) (by rfl) (fun w' hS' => by (try dsimp only at hS'); go_split_ands; go_simp; (try with_reducible rfl)) ?_
      simp only [Act.put, List.getElem_toArray, List.getElem_cons_succ, List.getElem_cons_zero, List.setIfInBounds_toArray, List.set_cons_zero, List.set_cons_succ]
      refine Turns.take hS 6 _ rfl (by kernel_rfl) (by kernel_rfl) (by kernel_rfl) (by kernel_rfl) (fun _ _ _ h => h) (by rfl) (fun w' hS' => by (try dsimp only at hS'); go_split_ands; go_simp; (try with_reducible rfl)) ?_
      simp only [Act.put, List.getElem_toArray, List.getElem_cons_succ, List.getElem_cons_zero, List.setIfInBounds_toArray, List.set_cons_zero, List.set_cons_succ]
      refine Turns.take hS 7 _ rfl (by kernel_rfl) (by kernel_rfl) (by kernel_rfl) (by kernel_rfl) (fun _ _ _ h => h) (by rfl) (fun w' hS' => by (try dsimp only at hS'); go_split_ands; go_simp; (try with_reducible rfl)) ?_
      simp only [Act.put, List.getElem_toArray, List.getElem_cons_succ, List.getElem_cons_zero, List.setIfInBounds_toArray, List.set_cons_zero, List.set_cons_succ]
      refine Turns.take hS 9 _ rfl (by kernel_rfl) (by kernel_rfl) (by kernel_rfl) (by kernel_rfl) (fun _ _ _ h => h) (by rfl) (fun w' hS' => by (try dsimp only at hS'); go_split_ands; go_simp; (try with_reducible rfl)) ?_
      simp only [Act.put, List.getElem_toArray, List.getElem_cons_succ, List.getElem_cons_zero, List.setIfInBounds_toArray, List.set_cons_zero, List.set_cons_succ]
      refine Turns.take hS 10 _ rfl (by kernel_rfl) (by kernel_rfl) (by kernel_rfl) (by kernel_rfl) (fun _ _ _ h => h) (by rfl) (fun w' hS' => by (try dsimp only at hS'); go_split_ands; go_simp; (try with_reducible rfl)) ?_
      simp only [Act.put, List.getElem_toArray, List.getElem_cons_succ, List.getElem_cons_zero, List.setIfInBounds_toArray, List.set_cons_zero, List.set_cons_succ]
      refine Turns.take hS 11 _ rfl (by kernel_rfl) (by kernel_rfl) (by kernel_rfl) (by kernel_rfl) (fun _ _ _ h => h) (by rfl) (fun w' hS' => by (try dsimp only at hS'); go_split_ands; go_simp; (try with_reducible rfl)) ?_
      simp only [Act.put, List.getElem_toArray, List.getElem_cons_succ, List.getElem_cons_zero, List.setIfInBounds_toArray, List.set_cons_zero, List.set_cons_succ]
      refine Turns.next 8 rfl (by kernel_rfl) (by rfl) (fun K hK => ?_)
      go_simp
      go_at_call 10
      refine (awake_any _ _ _ _ _ _ hc ht hg).mono ?_
      rintro e wn8 ⟨rfl, hb⟩
      replace HT := Lib.hid (And.intro (hS.2.2.2.2.2.2.1.next hb) (hS.2.2.2.2.2.2.2.next hb))
      refine hK.out _ _ (show (fun (w' : World) => w'.cell? ⟨w.heap.size, 0, none⟩ = some (.int .i64 s0_0) ∧ w'.cell? ⟨w.heap.size, 1, none⟩ = some (.int .i64 s0_1) ∧ w'.cell? ⟨w.heap.size, 2, none⟩ = some (.int .i64 s0_2) ∧ w'.cell? ⟨wa.heap.size, 0, none⟩ = some (.int .i64 s0_0) ∧ w'.cell? ⟨wa.heap.size, 1, none⟩ = some (.int .i64 s0_1) ∧ w'.cell? ⟨wa.heap.size, 2, none⟩ = some (.int .i64 s0_2) ∧ Box w 23 #[.int .i64 s0_0, .int .i64 s0_1, .int .i64 s0_2] w' ∧ Box wa 25 #[.int .i64 s0_0, .int .i64 s0_1, .int .i64 s0_2] w') _ from Box.two HT.out) ?_
      clear hK K hS
      have hS := (show (fun (w' : World) => w'.cell? ⟨w.heap.size, 0, none⟩ = some (.int .i64 s0_0) ∧ w'.cell? ⟨w.heap.size, 1, none⟩ = some (.int .i64 s0_1) ∧ w'.cell? ⟨w.heap.size, 2, none⟩ = some (.int .i64 s0_2) ∧ w'.cell? ⟨wa.heap.size, 0, none⟩ = some (.int .i64 s0_0) ∧ w'.cell? ⟨wa.heap.size, 1, none⟩ = some (.int .i64 s0_1) ∧ w'.cell? ⟨wa.heap.size, 2, none⟩ = some (.int .i64 s0_2) ∧ Box w 23 #[.int .i64 s0_0, .int .i64 s0_1, .int .i64 s0_2] w' ∧ Box wa 25 #[.int .i64 s0_0, .int .i64 s0_1, .int .i64 s0_2] w') _ from Box.two HT.out)
      refine Turns.next 12 rfl (by kernel_rfl) (by rfl) (fun K hK => ?_)
      go_simp
      go_at_call 11
      refine (rawake_any _ _ _ _ _ _ hc ht hg).mono ?_
      rintro e wn12 ⟨rfl, hb⟩
      replace HT := Lib.hid (And.intro (hS.2.2.2.2.2.2.1.next hb) (hS.2.2.2.2.2.2.2.next hb))
      refine hK.out _ _ (show (fun (w' : World) => w'.cell? ⟨w.heap.size, 0, none⟩ = some (.int .i64 s0_0) ∧ w'.cell? ⟨w.heap.size, 1, none⟩ = some (.int .i64 s0_1) ∧ w'.cell? ⟨w.heap.size, 2, none⟩ = some (.int .i64 s0_2) ∧ w'.cell? ⟨wa.heap.size, 0, none⟩ = some (.int .i64 s0_0) ∧ w'.cell? ⟨wa.heap.size, 1, none⟩ = some (.int .i64 s0_1) ∧ w'.cell? ⟨wa.heap.size, 2, none⟩ = some (.int .i64 s0_2) ∧ Box w 23 #[.int .i64 s0_0, .int .i64 s0_1, .int .i64 s0_2] w' ∧ Box wa 25 #[.int .i64 s0_0, .int .i64 s0_1, .int .i64 s0_2] w') _ from Box.two HT.out) ?_
      clear hK K hS
      have hS := (show (fun (w' : World) => w'.cell? ⟨w.heap.size, 0, none⟩ = some (.int .i64 s0_0) ∧ w'.cell? ⟨w.heap.size, 1, none⟩ = some (.int .i64 s0_1) ∧ w'.cell? ⟨w.heap.size, 2, none⟩ = some (.int .i64 s0_2) ∧ w'.cell? ⟨wa.heap.size, 0, none⟩ = some (.int .i64 s0_0) ∧ w'.cell? ⟨wa.heap.size, 1, none⟩ = some (.int .i64 s0_1) ∧ w'.cell? ⟨wa.heap.size, 2, none⟩ = some (.int .i64 s0_2) ∧ Box w 23 #[.int .i64 s0_0, .int .i64 s0_1, .int .i64 s0_2] w' ∧ Box wa 25 #[.int .i64 s0_0, .int .i64 s0_1, .int .i64 s0_2] w') _ from Box.two HT.out)
      refine Turns.take hS 13 _ rfl (by kernel_rfl) (by kernel_rfl) (by kernel_rfl) (by kernel_rfl) (fun _ _ _ h => h) (by rfl) (fun w' hS' => by (try dsimp only at hS'); go_split_ands; go_simp; (try with_reducible rfl)) ?_
      simp only [Act.put, List.getElem_toArray, List.getElem_cons_succ, List.getElem_cons_zero, List.setIfInBounds_toArray, List.set_cons_zero, List.set_cons_succ]
      refine Turns.take hS 14 _ rfl (by kernel_rfl) (by kernel_rfl) (by kernel_rfl) (by kernel_rfl) (fun _ _ _ h => h) (by rfl) (fun w' hS' => by (try dsimp only at hS'); go_split_ands; go_simp; (try with_reducible rfl)) ?_
      simp only [Act.put, List.getElem_toArray, List.getElem_cons_succ, List.getElem_cons_zero, List.setIfInBounds_toArray, List.set_cons_zero, List.set_cons_succ]
      refine Turns.rest (late_done (by kernel_rfl)) ?_
      refine any_tail 15 (by rfl) (by kernel_rfl) ?_
      simp only [List.drop_succ_cons, List.drop_zero]
      clear hS
      obtain ⟨c0, c1, c2, _⟩ := HT.out.1.cells3
      obtain ⟨b0, b1, b2, _⟩ := HT.out.2.cells3
      go_wp2_with (first
        | (go_at_call 14; refine (rphase_any _ _ _ _ _ k1 k2 ht).mono ?_; rintro e wx ⟨rfl, hb⟩; replace HT := Lib.hid (And.intro (HT.out.1.next hb) (HT.out.2.next hb)); obtain ⟨c0, c1, c2, _⟩ := HT.out.1.cells3; obtain ⟨b0, b1, b2, _⟩ := HT.out.2.cells3; clear hb))
      refine region_turns (fun (w' : World) => w'.cell? ⟨w.heap.size, 0, none⟩ = some (.int .i64 s0_0) ∧ w'.cell? ⟨w.heap.size, 1, none⟩ = some (.int .i64 s0_1) ∧ w'.cell? ⟨w.heap.size, 2, none⟩ = some (.int .i64 s0_2) ∧ w'.cell? ⟨wa.heap.size, 0, none⟩ = some (.int .i64 s0_0) ∧ w'.cell? ⟨wa.heap.size, 1, none⟩ = some (.int .i64 s0_1) ∧ w'.cell? ⟨wa.heap.size, 2, none⟩ = some (.int .i64 s0_2) ∧ Box w 23 #[.int .i64 s0_0, .int .i64 s0_1, .int .i64 s0_2] w' ∧ Box wa 25 #[.int .i64 s0_0, .int .i64 s0_1, .int .i64 s0_2] w') (fun j => decide (31 ≤ j)) (by kernel_rfl) (Box.two (And.intro HT.out.1.drew HT.out.2.drew)) (fun hS => ?_)
      refine Turns.take hS 0 _ rfl (by kernel_rfl) (by kernel_rfl) (by kernel_rfl) (by kernel_rfl) (fun _ _ _ h => h) (by rfl) (fun w' hS' => by (try dsimp only at hS'); go_split_ands; go_simp; (try with_reducible rfl)) ?_
      simp only [Act.put, List.getElem_toArray, List.getElem_cons_succ, List.getElem_cons_zero, List.setIfInBounds_toArray, List.set_cons_zero, List.set_cons_succ]
      refine Turns.take hS 1 _ rfl (by kernel_rfl) (by kernel_rfl) (by kernel_rfl) (by kernel_rfl) (fun _ _ _ h => h) (by rfl) (fun w' hS' => by (try dsimp only at hS'); go_split_ands; go_simp; (try with_reducible rfl)) ?_
      simp only [Act.put, List.getElem_toArray, List.getElem_cons_succ, List.getElem_cons_zero, List.setIfInBounds_toArray, List.set_cons_zero, List.set_cons_succ]
      refine Turns.take hS 3 _ rfl (by kernel_rfl) (by kernel_rfl) (by kernel_rfl) (by kernel_rfl) (fun _ _ _ h => h) (by rfl) (fun w' hS' => by (try dsimp only at hS'); go_split_ands; go_simp; (try with_reducible rfl)) ?_
      simp only [Act.put, List.getElem_toArray, List.getElem_cons_succ, List.getElem_cons_zero, List.setIfInBounds_toArray, List.set_cons_zero, List.set_cons_succ]
      refine Turns.take hS 4 _ rfl (by kernel_rfl) (by kernel_rfl) (by kernel_rfl) (by kernel_rfl) (fun _ _ _ h => h) (by rfl) (fun w' hS' => by (try dsimp only at hS'); go_split_ands; go_simp; (try with_reducible rfl)) ?_
      simp only [Act.put, List.getElem_toArray, List.getElem_cons_succ, List.getElem_cons_zero, List.setIfInBounds_toArray, List.set_cons_zero, List.set_cons_succ]
      refine Turns.next 2 rfl (by kernel_rfl) (by rfl) (fun K hK => ?_)
      go_simp
      go_at_call 12
      refine (mine_any _ _ _ _ _ hc hs).mono ?_
      rintro e wn2 ⟨rfl, hb⟩
      replace HT := Lib.hid (And.intro (hS.2.2.2.2.2.2.1.next hb) (hS.2.2.2.2.2.2.2.next hb))
      refine hK.out _ _ (show (fun (w' : World) => w'.cell? ⟨w.heap.size, 0, none⟩ = some (.int .i64 s0_0) ∧ w'.cell? ⟨w.heap.size, 1, none⟩ = some (.int .i64 s0_1) ∧ w'.cell? ⟨w.heap.size, 2, none⟩ = some (.int .i64 s0_2) ∧ w'.cell? ⟨wa.heap.size, 0, none⟩ = some (.int .i64 s0_0) ∧ w'.cell? ⟨wa.heap.size, 1, none⟩ = some (.int .i64 s0_1) ∧ w'.cell? ⟨wa.heap.size, 2, none⟩ = some (.int .i64 s0_2) ∧ Box w 23 #[.int .i64 s0_0, .int .i64 s0_1, .int .i64 s0_2] w' ∧ Box wa 25 #[.int .i64 s0_0, .int .i64 s0_1, .int .i64 s0_2] w') _ from Box.two HT.out) ?_
      clear hK K hS
      have hS := (show (fun (w' : World) => w'.cell? ⟨w.heap.size, 0, none⟩ = some (.int .i64 s0_0) ∧ w'.cell? ⟨w.heap.size, 1, none⟩ = some (.int .i64 s0_1) ∧ w'.cell? ⟨w.heap.size, 2, none⟩ = some (.int .i64 s0_2) ∧ w'.cell? ⟨wa.heap.size, 0, none⟩ = some (.int .i64 s0_0) ∧ w'.cell? ⟨wa.heap.size, 1, none⟩ = some (.int .i64 s0_1) ∧ w'.cell? ⟨wa.heap.size, 2, none⟩ = some (.int .i64 s0_2) ∧ Box w 23 #[.int .i64 s0_0, .int .i64 s0_1, .int .i64 s0_2] w' ∧ Box wa 25 #[.int .i64 s0_0, .int .i64 s0_1, .int .i64 s0_2] w') _ from Box.two HT.out)
      refine Turns.take hS 5 _ rfl (by kernel_rfl) (by kernel_rfl) (by kernel_rfl) (by kernel_rfl) (fun _ _ _ h => h) (by rfl) (fun w' hS' => by (try dsimp only at hS'); go_split_ands; go_simp; (try with_reducible rfl)) ?_
      simp only [Act.put, List.getElem_toArray, List.getElem_cons_succ, List.getElem_cons_zero, List.setIfInBounds_toArray, List.set_cons_zero, List.set_cons_succ]
      refine Turns.skip hS 6 rfl (by kernel_rfl) (by kernel_rfl) (by kernel_rfl) (by kernel_rfl) (fun _ _ _ h => h) (by rfl) ?_
      simp only [Act.put, List.getElem_toArray, List.getElem_cons_succ, List.getElem_cons_zero, List.setIfInBounds_toArray, List.set_cons_zero, List.set_cons_succ]
      refine Turns.skip hS 7 rfl (by kernel_rfl) (by kernel_rfl) (by kernel_rfl) (by kernel_rfl) (fun _ _ _ h => h) (by rfl) ?_
      simp only [Act.put, List.getElem_toArray, List.getElem_cons_succ, List.getElem_cons_zero, List.setIfInBounds_toArray, List.set_cons_zero, List.set_cons_succ]
      refine Turns.skip hS 8 rfl (by kernel_rfl) (by kernel_rfl) (by kernel_rfl) (by kernel_rfl) (fun _ _ _ h => h) (by rfl) ?_
      simp only [Act.put, List.getElem_toArray, List.getElem_cons_succ, List.getElem_cons_zero, List.setIfInBounds_toArray, List.set_cons_zero, List.set_cons_succ]
      refine Turns.skip hS 9 rfl (by kernel_rfl) (by kernel_rfl) (by kernel_rfl) (by kernel_rfl) (fun _ _ _ h => h) (by rfl) ?_
      simp only [Act.put, List.getElem_toArray, List.getElem_cons_succ, List.getElem_cons_zero, List.setIfInBounds_toArray, List.set_cons_zero, List.set_cons_succ]
      refine Turns.skip hS 10 rfl (by kernel_rfl) (by kernel_rfl) (by kernel_rfl) (by kernel_rfl) (fun _ _ _ h => h) (by rfl) ?_
      simp only [Act.put, List.getElem_toArray, List.getElem_cons_succ, List.getElem_cons_zero, List.setIfInBounds_toArray, List.set_cons_zero, List.set_cons_succ]
      refine Turns.skip hS 11 rfl (by kernel_rfl) (by kernel_rfl) (by kernel_rfl) (by kernel_rfl) (fun _ _ _ h => h) (by rfl) ?_
      simp only [Act.put, List.getElem_toArray, List.getElem_cons_succ, List.getElem_cons_zero, List.setIfInBounds_toArray, List.set_cons_zero, List.set_cons_succ]
      refine Turns.skip hS 12 rfl (by kernel_rfl) (by kernel_rfl) (by kernel_rfl) (by kernel_rfl) (fun _ _ _ h => h) (by rfl) ?_
      simp only [Act.put, List.getElem_toArray, List.getElem_cons_succ, List.getElem_cons_zero, List.setIfInBounds_toArray, List.set_cons_zero, List.set_cons_succ]
      refine Turns.take hS 13 _ rfl (by kernel_rfl) (by kernel_rfl) (by kernel_rfl) (by kernel_rfl) (fun _ _ _ h => h) (by rfl) (fun w' hS' => by (try dsimp only at hS'); go_split_ands; go_simp; (try with_reducible rfl)) ?_
      simp only [Act.put, List.getElem_toArray, List.getElem_cons_succ, List.getElem_cons_zero, List.setIfInBounds_toArray, List.set_cons_zero, List.set_cons_succ]
      refine Turns.take hS 14 _ rfl (by kernel_rfl) (by kernel_rfl) (by kernel_rfl) (by kernel_rfl) (fun _ _ _ h => h) (by rfl) (fun w' hS' => by (try dsimp only at hS'); go_split_ands; go_simp; (try with_reducible rfl)) ?_
      simp only [Act.put, List.getElem_toArray, List.getElem_cons_succ, List.getElem_cons_zero, List.setIfInBounds_toArray, List.set_cons_zero, List.set_cons_succ]
      refine Turns.take hS 15 _ rfl (by kernel_rfl) (by kernel_rfl) (by kernel_rfl) (by kernel_rfl) (fun _ _ _ h => h) (by rfl) (fun w' hS' => by (try dsimp only at hS'); go_split_ands; go_simp; (try with_reducible rfl)) ?_
      simp only [Act.put, List.getElem_toArray, List.getElem_cons_succ, List.getElem_cons_zero, List.setIfInBounds_toArray, List.set_cons_zero, List.set_cons_succ]
      refine Turns.take hS 16 _ rfl (by kernel_rfl) (by kernel_rfl) (by kernel_rfl) (by kernel_rfl) (fun _ _ _ h => h) (by rfl) (fun w' hS' => by (try dsimp only at hS'); go_split_ands; go_simp; (try with_reducible rfl)) ?_
      simp only [Act.put, List.getElem_toArray, List.getElem_cons_succ, List.getElem_cons_zero, List.setIfInBounds_toArray, List.set_cons_zero, List.set_cons_succ]
      refine Turns.take hS 17 _ rfl (by kernel_rfl) (by kernel_rfl) (by kernel_rfl) (by kernel_rfl) (fun _ _ _ h => h) (by rfl) (fun w' hS' => by (try dsimp only at hS'); go_split_ands; go_simp; (try with_reducible rfl)) ?_
      simp only [Act.put, List.getElem_toArray, List.getElem_cons_succ, List.getElem_cons_zero, List.setIfInBounds_toArray, List.set_cons_zero, List.set_cons_succ]
      refine Turns.take hS 19 _ rfl (by kernel_rfl) (by kernel_rfl) (by kernel_rfl) (by kernel_rfl) (fun _ _ _ h => h) (by rfl) (fun w' hS' => by (try dsimp only at hS'); go_split_ands; go_simp; (try with_reducible rfl)) ?_
      simp only [Act.put, List.getElem_toArray, List.getElem_cons_succ, List.getElem_cons_zero, List.setIfInBounds_toArray, List.set_cons_zero, List.set_cons_succ]
      refine Turns.next 18 rfl (by kernel_rfl) (by rfl) (fun K hK => ?_)
      go_simp
      go_at_call 13
      refine (rest_any _ _ _ _ _ hc ht).mono ?_
      rintro e wn18 ⟨rfl, hb⟩
      replace HT := Lib.hid (And.intro (hS.2.2.2.2.2.2.1.next hb) (hS.2.2.2.2.2.2.2.next hb))
      refine hK.out _ _ (show (fun (w' : World) => w'.cell? ⟨w.heap.size, 0, none⟩ = some (.int .i64 s0_0) ∧ w'.cell? ⟨w.heap.size, 1, none⟩ = some (.int .i64 s0_1) ∧ w'.cell? ⟨w.heap.size, 2, none⟩ = some (.int .i64 s0_2) ∧ w'.cell? ⟨wa.heap.size, 0, none⟩ = some (.int .i64 s0_0) ∧ w'.cell? ⟨wa.heap.size, 1, none⟩ = some (.int .i64 s0_1) ∧ w'.cell? ⟨wa.heap.size, 2, none⟩ = some (.int .i64 s0_2) ∧ Box w 23 #[.int .i64 s0_0, .int .i64 s0_1, .int .i64 s0_2] w' ∧ Box wa 25 #[.int .i64 s0_0, .int .i64 s0_1, .int .i64 s0_2] w') _ from Box.two HT.out) ?_
      clear hK K hS
      have hS := (show (fun (w' : World) => w'.cell? ⟨w.heap.size, 0, none⟩ = some (.int .i64 s0_0) ∧ w'.cell? ⟨w.heap.size, 1, none⟩ = some (.int .i64 s0_1) ∧ w'.cell? ⟨w.heap.size, 2, none⟩ = some (.int .i64 s0_2) ∧ w'.cell? ⟨wa.heap.size, 0, none⟩ = some (.int .i64 s0_0) ∧ w'.cell? ⟨wa.heap.size, 1, none⟩ = some (.int .i64 s0_1) ∧ w'.cell? ⟨wa.heap.size, 2, none⟩ = some (.int .i64 s0_2) ∧ Box w 23 #[.int .i64 s0_0, .int .i64 s0_1, .int .i64 s0_2] w' ∧ Box wa 25 #[.int .i64 s0_0, .int .i64 s0_1, .int .i64 s0_2] w') _ from Box.two HT.out)
      refine Turns.take hS 20 _ rfl (by kernel_rfl) (by kernel_rfl) (by kernel_rfl) (by kernel_rfl) (fun _ _ _ h => h) (by rfl) (fun w' hS' => by (try dsimp only at hS'); go_split_ands; go_simp; (try with_reducible rfl)) ?_
      simp only [Act.put, List.getElem_toArray, List.getElem_cons_succ, List.getElem_cons_zero, List.setIfInBounds_toArray, List.set_cons_zero, List.set_cons_succ]
      refine Turns.take hS 21 _ rfl (by kernel_rfl) (by kernel_rfl) (by kernel_rfl) (by kernel_rfl) (fun _ _ _ h => h) (by rfl) (fun w' hS' => by (try dsimp only at hS'); go_split_ands; go_simp; (try with_reducible rfl)) ?_
      simp only [Act.put, List.getElem_toArray, List.getElem_cons_succ, List.getElem_cons_zero, List.setIfInBounds_toArray, List.set_cons_zero, List.set_cons_succ]
      refine Turns.take hS 22 _ rfl (by kernel_rfl) (by kernel_rfl) (by kernel_rfl) (by kernel_rfl) (fun _ _ _ h => h) (by rfl) (fun w' hS' => by (try dsimp only at hS'); go_split_ands; go_simp; (try with_reducible rfl)) ?_
      simp only [Act.put, List.getElem_toArray, List.getElem_cons_succ, List.getElem_cons_zero, List.setIfInBounds_toArray, List.set_cons_zero, List.set_cons_succ]
      refine Turns.take hS 23 _ rfl (by kernel_rfl) (by kernel_rfl) (by kernel_rfl) (by kernel_rfl) (fun _ _ _ h => h) (by rfl) (fun w' hS' => by (try dsimp only at hS'); go_split_ands; go_simp; (try with_reducible rfl)) ?_
      simp only [Act.put, List.getElem_toArray, List.getElem_cons_succ, List.getElem_cons_zero, List.setIfInBounds_toArray, List.set_cons_zero, List.set_cons_succ]
      refine Turns.take hS 25 _ rfl (by kernel_rfl) (by kernel_rfl) (by kernel_rfl) (by kernel_rfl) (fun _ _ _ h => h) (by rfl) (fun w' hS' => by (try dsimp only at hS'); go_split_ands; go_simp; (try with_reducible rfl)) ?_
      simp only [Act.put, List.getElem_toArray, List.getElem_cons_succ, List.getElem_cons_zero, List.setIfInBounds_toArray, List.set_cons_zero, List.set_cons_succ]
      refine Turns.take hS 26 _ rfl (by kernel_rfl) (by kernel_rfl) (by kernel_rfl) (by kernel_rfl) (fun _ _ _ h => h) (by rfl) (fun w' hS' => by (try dsimp only at hS'); go_split_ands; go_simp; (try with_reducible rfl)) ?_
      simp only [Act.put, List.getElem_toArray, List.getElem_cons_succ, List.getElem_cons_zero, List.setIfInBounds_toArray, List.set_cons_zero, List.set_cons_succ]
      refine Turns.take hS 27 _ rfl (by kernel_rfl) (by kernel_rfl) (by kernel_rfl) (by kernel_rfl) (fun _ _ _ h => h) (by rfl) (fun w' hS' => by (try dsimp only at hS'); go_split_ands; go_simp; (try with_reducible rfl)) ?_
      simp only [Act.put, List.getElem_toArray, List.getElem_cons_succ, List.getElem_cons_zero, List.setIfInBounds_toArray, List.set_cons_zero, List.set_cons_succ]
      refine Turns.next 24 rfl (by kernel_rfl) (by rfl) (fun K hK => ?_)
      go_simp
      go_at_call 15
      refine (ticks_any _ _ _ _ k1 k2).mono ?_
      rintro e wn24 ⟨rfl, hb⟩
      replace HT := Lib.hid (And.intro (hS.2.2.2.2.2.2.1.next hb) (hS.2.2.2.2.2.2.2.next hb))
      refine hK.out _ _ (show (fun (w' : World) => w'.cell? ⟨w.heap.size, 0, none⟩ = some (.int .i64 s0_0) ∧ w'.cell? ⟨w.heap.size, 1, none⟩ = some (.int .i64 s0_1) ∧ w'.cell? ⟨w.heap.size, 2, none⟩ = some (.int .i64 s0_2) ∧ w'.cell? ⟨wa.heap.size, 0, none⟩ = some (.int .i64 s0_0) ∧ w'.cell? ⟨wa.heap.size, 1, none⟩ = some (.int .i64 s0_1) ∧ w'.cell? ⟨wa.heap.size, 2, none⟩ = some (.int .i64 s0_2) ∧ Box w 23 #[.int .i64 s0_0, .int .i64 s0_1, .int .i64 s0_2] w' ∧ Box wa 25 #[.int .i64 s0_0, .int .i64 s0_1, .int .i64 s0_2] w') _ from Box.two HT.out) ?_
      clear hK K hS
      have hS := (show (fun (w' : World) => w'.cell? ⟨w.heap.size, 0, none⟩ = some (.int .i64 s0_0) ∧ w'.cell? ⟨w.heap.size, 1, none⟩ = some (.int .i64 s0_1) ∧ w'.cell? ⟨w.heap.size, 2, none⟩ = some (.int .i64 s0_2) ∧ w'.cell? ⟨wa.heap.size, 0, none⟩ = some (.int .i64 s0_0) ∧ w'.cell? ⟨wa.heap.size, 1, none⟩ = some (.int .i64 s0_1) ∧ w'.cell? ⟨wa.heap.size, 2, none⟩ = some (.int .i64 s0_2) ∧ Box w 23 #[.int .i64 s0_0, .int .i64 s0_1, .int .i64 s0_2] w' ∧ Box wa 25 #[.int .i64 s0_0, .int .i64 s0_1, .int .i64 s0_2] w') _ from Box.two HT.out)
      refine Turns.take hS 28 _ rfl (by kernel_rfl) (by kernel_rfl) (by kernel_rfl) (by kernel_rfl) (fun _ _ _ h => h) (by rfl) (fun w' hS' => by (try dsimp only at hS'); go_split_ands; go_simp; (try with_reducible rfl)) ?_
      simp only [Act.put, List.getElem_toArray, List.getElem_cons_succ, List.getElem_cons_zero, List.setIfInBounds_toArray, List.set_cons_zero, List.set_cons_succ]
      refine Turns.take hS 29 _ rfl (by kernel_rfl) (by kernel_rfl) (by kernel_rfl) (by kernel_rfl) (fun _ _ _ h => h) (by rfl) (fun w' hS' => by (try dsimp only at hS'); go_split_ands; go_simp; (try with_reducible rfl)) ?_
      simp only [Act.put, List.getElem_toArray, List.getElem_cons_succ, List.getElem_cons_zero, List.setIfInBounds_toArray, List.set_cons_zero, List.set_cons_succ]
      refine Turns.take hS 30 _ rfl (by kernel_rfl) (by kernel_rfl) (by kernel_rfl) (by kernel_rfl) (fun _ _ _ h => h) (by rfl) (fun w' hS' => by (try dsimp only at hS'); go_split_ands; go_simp; (try with_reducible rfl)) ?_
      simp only [Act.put, List.getElem_toArray, List.getElem_cons_succ, List.getElem_cons_zero, List.setIfInBounds_toArray, List.set_cons_zero, List.set_cons_succ]
      refine Turns.rest (late_done (by kernel_rfl)) ?_
      refine any_tail 31 (by rfl) (by kernel_rfl) ?_
      simp only [List.drop_succ_cons, List.drop_zero]
      clear hS
      go_wp2
      go_ret
      exact ⟨rfl, HT.out.1.below⟩

set_option maxRecDepth 100000 in
theorem lifted (os : Os) (started : os.Started) (H : Type) (enc : TypeId × Value → H) :
    ReturnsInHanded {} Try.checked os 3 .any (Rows.dutyAnswersSpec.pre6 enc Try.prog Try.f3 Rows.dutyAnswersRow.domain false) (Rows.dutyAnswersSpec.post enc Try.prog Try.f3 false true false false) := by
  refine returnsInHanded_of_change (C := Try.checked) own started (by kernel_rfl) Try.func3
    (ChangeSpec.witness6 (enc := enc) (C := Try.checked) false ⟨#[], #[.agg #[.int .i64 0, .int .i64 0, .int .i64 0], .int .i64 0, .int .i64 0, .int .i64 0], []⟩ 8 (by kernel_rfl) (by kernel_rfl) (by kernel_rfl) (by kernel_rfl)) ?_
  intro W base args ds gs before hval0 hW hcnd _
  have hval : ∀ (j : Nat) t v, Try.f3.params[j]? = some t → args[j]? = some v → Value.okWide Try.prog W .any base t v := hval0
  have hW' := hW
  obtain ⟨p, q, hA0, hV, rfl, hfz, hnd⟩ := hW
  have hA : DataW.TrodAll enc Try.prog W 0 (fun _ => true) true Try.f3.params.toList args.toList ds p := hA0
  have hAk := hA
  rw [Try.params3] at hA hval
  obtain ⟨v0, vs0, d0, ds0, p0, q0, hargs, rfl, hp, h0, r0⟩ := trodAll_cons hA
  obtain ⟨v1, vs1, d1, ds1, p1, q1, rfl, rfl, rfl, h1, r1⟩ := trodAll_cons r0
  obtain ⟨v2, vs2, d2, ds2, p2, q2, rfl, rfl, rfl, h2, r2⟩ := trodAll_cons r1
  obtain ⟨v3, vs3, d3, ds3, p3, q3, rfl, rfl, rfl, h3, r3⟩ := trodAll_cons r2
  obtain ⟨rfl, rfl, rfl⟩ := trodAll_nil r3
  obtain rfl : args = #[v0, v1, v2, v3] := by cases args; simp_all
  obtain ⟨rfl, rfl⟩ := trodVars_none hV
  clear hA0 hval0 hargs
  simp only [List.append_nil] at hW'
  have hend : ∀ W' : World, Below W.heap.size W W' → Rows.dutyAnswersSpec.post enc Try.prog Try.f3 false true false false W #[v0, v1, v2, v3] (.bool true) W' := fun W' hb =>
    law_post (tb := 4) hW' hAk rfl (by kernel_rfl) (by kernel_rfl) (by kernel_rfl) Try.underlying4 rfl rfl rfl hb
  clear hW' hAk hp
  obtain ⟨ns0, rfl, hl0, hw0⟩ := ints_struct (ks := [.i64, .i64, .i64]) Try.underlying23 (by kernel_rfl) (by kernel_rfl) (by kernel_rfl) (hval 0 23 v0 rfl rfl) h0
  obtain ⟨s0_0, s0_1, s0_2, rfl⟩ := split3 hl0
  clear hl0
  obtain ⟨a1, rfl, rfl, rfl, w1⟩ := open_int Try.underlying3 (hval 1 3 v1 rfl rfl) h1
  obtain ⟨a2, rfl, rfl, rfl, w2⟩ := open_int Try.underlying3 (hval 2 3 v2 rfl rfl) h2
  obtain ⟨a3, rfl, rfl, rfl, w3⟩ := open_int Try.underlying3 (hval 3 3 v3 rfl rfl) h3
  refine (walk s0_0 s0_1 s0_2 a1 a2 a3 W (hw0 0 _ _ rfl rfl) (hw0 1 _ _ rfl rfl) (hw0 2 _ _ rfl rfl) w1 w2 w3).mono fun e W' ⟨he, hg⟩ => ?_
  subst he
  exact ⟨_, rfl, hend W' hg⟩

theorem over : Rows.dutyAnswersRow.holds Try.pinned (OpenSpec.ofChange Rows.dutyAnswersSpec) :=
  OpenClaim.holds_of_wide 3 Try.f3 rfl rfl rfl rfl rfl rfl rfl ⟨rfl, rfl, rfl, rfl, rfl⟩ rfl rfl rfl rfl rfl (by kernel_rfl) Try.func3 (by kernel_rfl)
    (of_decide_eq_true (by kernel_rfl)) (by unfold Func.isWrapper; first | (rw [if_pos (by decide +kernel)]; kernel_rfl) | (rw [if_neg (by decide +kernel)]; exact ⟨rfl, rfl⟩))
    (fun os started H enc _ => lifted os started H enc)

/-- THE STATEMENT -/
theorem proved : Rows.DutyAnswersSaid :=
  over
#print axioms proved
end Go.Proofs.Ythkpalfpohhmoaa.dutyAnswers
