/-
  Package civil: Good, Number, Of and Text answer what the document says, of all dates and numbers: the law answers true for every date and number of 64 bits. Condition: the library's tables lie as the program's text lays them (the card ties them).
  The walk is the prover's own; the frame of the row's step follows the kit's template.
-/
import Derived.Test.YtfidmbpbgjgaiaaDoorRows
import Derived.Test.YtfidmbpbgjgaiaaDoorLawKit
import Derived.Test.YtfidmbpbgjgaiaaDoorCards
import Derived.Test.YtfidmbpbgjgaiaaDoorTie
import Derived.SevenTiedAt
import Derived.Test.YtfidmbpbgjgaiaaDoorStructArg
import Derived.Test.YtfidmbpbgjgaiaaDoorCvY
import Derived.Deep.CutRange
import Derived.Deep.CutBlock
namespace Go.Proofs.YtfidmbpbgjgaiaaDoor.civilDates
open Go.ChangeShapes Go.WideShapes Go.ChangeAt Go.RowKit Go.ChangeMaps Go.WideElems
set_option linter.unusedVariables false

theorem split3 {ns : List Int} (h : ns.length = 3) : ∃ s0_0 s0_1 s0_2 : Int, ns = [s0_0, s0_1, s0_2] := by
  match ns, h with
  | [y0, y1, y2], _ => exact ⟨_, _, _, rfl⟩
theorem own : ownKnob Tryd.prog.godebug = none := by kernel_rfl
set_option linter.unusedSimpArgs false in
set_option maxHeartbeats 4000000 in
theorem walk (s0_0 s0_1 s0_2 : Int) (a1 : Int) (w : World) (w0_0 : (Lit.int .i64 s0_0).wf = true) (w0_1 : (Lit.int .i64 s0_1).wf = true) (w0_2 : (Lit.int .i64 s0_2).wf = true) (w1 : (Lit.int .i64 a1).wf = true) (hT : Tab w) :
    Calls Tryd.prog 3 #[.agg #[.int .i64 s0_0, .int .i64 s0_1, .int .i64 s0_2], .int .i64 a1] w fun e w' => e = .returned (.bool true) ∧ Below w.heap.size w w' := by
  have HT := Lib.hid hT
  clear hT
  have hf := fits_wf w1
  obtain ⟨q1, q2⟩ := hf
  have HB := Lib.hid (Box.start w 23 #[.int .i64 s0_0, .int .i64 s0_1, .int .i64 s0_2])
  obtain ⟨c0, c1, c2, _⟩ := HB.out.cells3
  have HT1 := Lib.hid (HT.out.below (below_alloc w (.cells #[.int .i64 s0_0, .int .i64 s0_1, .int .i64 s0_2] 23)))
  by_cases hc : CanD s0_0 s0_1 s0_2
  · have k1 := fun W => rgood_any s0_0 s0_1 s0_2 W
    rw [goodD_yes hc] at k1
    have k2 := fun W => number_yes s0_0 s0_1 s0_2 W hc
    obtain ⟨N, hN⟩ : ∃ N, numV s0_0 s0_1 s0_2 = N := ⟨_, rfl⟩
    rw [hN] at k2
    have sz : (textB s0_0 s0_1 s0_2).toList == (textB s0_0 s0_1 s0_2).toList := beq_self_eq_true _
    go_enter Tryd.func3, Tryd.ntmps3
    go_upto_region 6 with (first
      | (go_at_call 8; refine (alive_yes _ HT1.out).mono ?_; rintro e wa ⟨rfl, hb⟩; replace HB := Lib.hid (HB.out.next hb); clear c0 c1 c2; obtain ⟨c0, c1, c2, _⟩ := HB.out.cells3; have HM := Lib.hid (Box.start wa 25 #[.int .i64 s0_0, .int .i64 s0_1, .int .i64 s0_2]); replace HB := Lib.hid (HB.out.next (Box.start wa 25 #[.int .i64 s0_0, .int .i64 s0_1, .int .i64 s0_2]).below); obtain ⟨m0, m1, m2, _⟩ := HM.out.cells3; clear hb)
      | (go_at_call 9; refine (k1 _).mono ?_; rintro e wx ⟨rfl, hb⟩; replace HB := Lib.hid (HB.out.next hb); replace HM := Lib.hid (HM.out.next hb); clear c0 c1 c2 m0 m1 m2; obtain ⟨c0, c1, c2, _⟩ := HB.out.cells3; clear hb)
      | (go_at_call 10; refine (k2 _).mono ?_; rintro e wx ⟨rfl, hb⟩; replace HB := Lib.hid (HB.out.next hb); replace HM := Lib.hid (HM.out.next hb); clear c0 c1 c2 hb))
    refine region_turns (fun (w' : World) => w'.cell? ⟨w.heap.size, 0, none⟩ = some (.int .i64 s0_0) ∧ w'.cell? ⟨w.heap.size, 1, none⟩ = some (.int .i64 s0_1) ∧ w'.cell? ⟨w.heap.size, 2, none⟩ = some (.int .i64 s0_2) ∧ w'.cell? ⟨wa.heap.size, 0, none⟩ = some (.int .i64 s0_0) ∧ w'.cell? ⟨wa.heap.size, 1, none⟩ = some (.int .i64 s0_1) ∧ w'.cell? ⟨wa.heap.size, 2, none⟩ = some (.int .i64 s0_2) ∧ Box w 23 #[.int .i64 s0_0, .int .i64 s0_1, .int .i64 s0_2] w' ∧ Box wa 25 #[.int .i64 s0_0, .int .i64 s0_1, .int .i64 s0_2] w') (fun j => decide (33 ≤ j)) (by kernel_rfl) (Box.two ⟨HB.out.drew, HM.out.drew⟩) (fun hS => ?_)
    refine Turns.take hS 0 _ rfl (by kernel_rfl) (by kernel_rfl) (by kernel_rfl) (by kernel_rfl) (fun _ _ _ h => h) (by rfl) (fun w' hS' => by (try dsimp only at hS'); go_split_ands; go_simp; (try with_reducible rfl)) ?_
    simp only [Act.put, List.getElem_toArray, List.getElem_cons_succ, List.getElem_cons_zero, List.setIfInBounds_toArray, List.set_cons_zero, List.set_cons_succ]
    refine Turns.take hS 2 _ rfl (by kernel_rfl) (by kernel_rfl) (by kernel_rfl) (by kernel_rfl) (fun _ _ _ h => h) (by rfl) (fun w' hS' => by (try dsimp only at hS'); go_split_ands; go_simp; (try with_reducible rfl)) ?_
    simp only [Act.put, List.getElem_toArray, List.getElem_cons_succ, List.getElem_cons_zero, List.setIfInBounds_toArray, List.set_cons_zero, List.set_cons_succ]
    refine Turns.next 1 rfl (by kernel_rfl) (by rfl) (fun K hK => ?_)
    go_simp
    go_at_call 11
    refine (good_any s0_0 s0_1 s0_2 _).mono ?_
    rintro e wq ⟨rfl, hb⟩
    rw [goodD_yes hc]
    have HE := Lib.hid (And.intro (hS.2.2.2.2.2.2.1.next hb) (hS.2.2.2.2.2.2.2.next hb))
    refine hK.out _ _ (show (fun (w' : World) => w'.cell? ⟨w.heap.size, 0, none⟩ = some (.int .i64 s0_0) ∧ w'.cell? ⟨w.heap.size, 1, none⟩ = some (.int .i64 s0_1) ∧ w'.cell? ⟨w.heap.size, 2, none⟩ = some (.int .i64 s0_2) ∧ w'.cell? ⟨wa.heap.size, 0, none⟩ = some (.int .i64 s0_0) ∧ w'.cell? ⟨wa.heap.size, 1, none⟩ = some (.int .i64 s0_1) ∧ w'.cell? ⟨wa.heap.size, 2, none⟩ = some (.int .i64 s0_2) ∧ Box w 23 #[.int .i64 s0_0, .int .i64 s0_1, .int .i64 s0_2] w' ∧ Box wa 25 #[.int .i64 s0_0, .int .i64 s0_1, .int .i64 s0_2] w') _ from Box.two HE.out) ?_
    clear hK K hS
    have hS := (show (fun (w' : World) => w'.cell? ⟨w.heap.size, 0, none⟩ = some (.int .i64 s0_0) ∧ w'.cell? ⟨w.heap.size, 1, none⟩ = some (.int .i64 s0_1) ∧ w'.cell? ⟨w.heap.size, 2, none⟩ = some (.int .i64 s0_2) ∧ w'.cell? ⟨wa.heap.size, 0, none⟩ = some (.int .i64 s0_0) ∧ w'.cell? ⟨wa.heap.size, 1, none⟩ = some (.int .i64 s0_1) ∧ w'.cell? ⟨wa.heap.size, 2, none⟩ = some (.int .i64 s0_2) ∧ Box w 23 #[.int .i64 s0_0, .int .i64 s0_1, .int .i64 s0_2] w' ∧ Box wa 25 #[.int .i64 s0_0, .int .i64 s0_1, .int .i64 s0_2] w') _ from Box.two HE.out)
    refine Turns.take hS 3 _ rfl (by kernel_rfl) (by kernel_rfl) (by kernel_rfl) (by kernel_rfl) (fun _ _ _ h => h) (by rfl) (fun w' hS' => by (try dsimp only at hS'); go_split_ands; go_simp; (try with_reducible rfl)) ?_
    simp only [Act.put, List.getElem_toArray, List.getElem_cons_succ, List.getElem_cons_zero, List.setIfInBounds_toArray, List.set_cons_zero, List.set_cons_succ]
    refine Turns.take hS 4 _ rfl (by kernel_rfl) (by kernel_rfl) (by kernel_rfl) (by kernel_rfl) (fun _ _ _ h => h) (by rfl) (fun w' hS' => by (try dsimp only at hS'); go_split_ands; go_simp; (try with_reducible rfl)) ?_
    simp only [Act.put, List.getElem_toArray, List.getElem_cons_succ, List.getElem_cons_zero, List.setIfInBounds_toArray, List.set_cons_zero, List.set_cons_succ]
    refine Turns.take hS 5 _ rfl (by kernel_rfl) (by kernel_rfl) (by kernel_rfl) (by kernel_rfl) (fun _ _ _ h => h) (by rfl) (fun w' hS' => by (try dsimp only at hS'); go_split_ands; go_simp; (try with_reducible rfl)) ?_
    simp only [Act.put, List.getElem_toArray, List.getElem_cons_succ, List.getElem_cons_zero, List.setIfInBounds_toArray, List.set_cons_zero, List.set_cons_succ]
    refine Turns.take hS 6 _ rfl (by kernel_rfl) (by kernel_rfl) (by kernel_rfl) (by kernel_rfl) (fun _ _ _ h => h) (by rfl) (fun w' hS' => by (try dsimp only at hS'); go_split_ands; go_simp; (try with_reducible rfl)) ?_
    simp only [Act.put, List.getElem_toArray, List.getElem_cons_succ, List.getElem_cons_zero, List.setIfInBounds_toArray, List.set_cons_zero, List.set_cons_succ]
    refine Turns.take hS 7 _ rfl (by kernel_rfl) (by kernel_rfl) (by kernel_rfl) (by kernel_rfl) (fun _ _ _ h => h) (by rfl) (fun w' hS' => by (try dsimp only at hS'); go_split_ands; go_simp; (try with_reducible rfl)) ?_
    simp only [Act.put, List.getElem_toArray, List.getElem_cons_succ, List.getElem_cons_zero, List.setIfInBounds_toArray, List.set_cons_zero, List.set_cons_succ]
    refine Turns.take hS 8 _ rfl (by kernel_rfl) (by kernel_rfl) (by kernel_rfl) (by kernel_rfl) (fun _ _ _ h => h) (by rfl) (fun w' hS' => by (try dsimp only at hS'); go_split_ands; go_simp; (try with_reducible rfl)) ?_
    simp only [Act.put, List.getElem_toArray, List.getElem_cons_succ, List.getElem_cons_zero, List.setIfInBounds_toArray, List.set_cons_zero, List.set_cons_succ]
    refine Turns.take hS 9 _ rfl (by kernel_rfl) (by kernel_rfl) (by kernel_rfl) (by kernel_rfl) (fun _ _ _ h => h) (by rfl) (fun w' hS' => by (try dsimp only at hS'); go_split_ands; go_simp; (try with_reducible rfl)) ?_
    simp only [Act.put, List.getElem_toArray, List.getElem_cons_succ, List.getElem_cons_zero, List.setIfInBounds_toArray, List.set_cons_zero, List.set_cons_succ]
    refine Turns.take hS 10 _ rfl (by kernel_rfl) (by kernel_rfl) (by kernel_rfl) (by kernel_rfl) (fun _ _ _ h => h) (by rfl) (fun w' hS' => by (try dsimp only at hS'); go_split_ands; go_simp; (try with_reducible rfl)) ?_
    simp only [Act.put, List.getElem_toArray, List.getElem_cons_succ, List.getElem_cons_zero, List.setIfInBounds_toArray, List.set_cons_zero, List.set_cons_succ]
    refine Turns.take hS 12 _ rfl (by kernel_rfl) (by kernel_rfl) (by kernel_rfl) (by kernel_rfl) (fun _ _ _ h => h) (by rfl) (fun w' hS' => by (try dsimp only at hS'); go_split_ands; go_simp; (try with_reducible rfl)) ?_
    simp only [Act.put, List.getElem_toArray, List.getElem_cons_succ, List.getElem_cons_zero, List.setIfInBounds_toArray, List.set_cons_zero, List.set_cons_succ]
    refine Turns.next 11 rfl (by kernel_rfl) (by rfl) (fun K hK => ?_)
    go_simp
    go_at_call 12
    refine (text_yes s0_0 s0_1 s0_2 _ hc (HT.out.below hS.2.2.2.2.2.2.1.below)).mono ?_
    rintro e wq ⟨rfl, hb⟩
    have HE := Lib.hid (And.intro (hS.2.2.2.2.2.2.1.next hb) (hS.2.2.2.2.2.2.2.next hb))
    refine hK.out _ _ (show (fun (w' : World) => w'.cell? ⟨w.heap.size, 0, none⟩ = some (.int .i64 s0_0) ∧ w'.cell? ⟨w.heap.size, 1, none⟩ = some (.int .i64 s0_1) ∧ w'.cell? ⟨w.heap.size, 2, none⟩ = some (.int .i64 s0_2) ∧ w'.cell? ⟨wa.heap.size, 0, none⟩ = some (.int .i64 s0_0) ∧ w'.cell? ⟨wa.heap.size, 1, none⟩ = some (.int .i64 s0_1) ∧ w'.cell? ⟨wa.heap.size, 2, none⟩ = some (.int .i64 s0_2) ∧ Box w 23 #[.int .i64 s0_0, .int .i64 s0_1, .int .i64 s0_2] w' ∧ Box wa 25 #[.int .i64 s0_0, .int .i64 s0_1, .int .i64 s0_2] w') _ from Box.two HE.out) ?_
    clear hK K hS
    have hS := (show (fun (w' : World) => w'.cell? ⟨w.heap.size, 0, none⟩ = some (.int .i64 s0_0) ∧ w'.cell? ⟨w.heap.size, 1, none⟩ = some (.int .i64 s0_1) ∧ w'.cell? ⟨w.heap.size, 2, none⟩ = some (.int .i64 s0_2) ∧ w'.cell? ⟨wa.heap.size, 0, none⟩ = some (.int .i64 s0_0) ∧ w'.cell? ⟨wa.heap.size, 1, none⟩ = some (.int .i64 s0_1) ∧ w'.cell? ⟨wa.heap.size, 2, none⟩ = some (.int .i64 s0_2) ∧ Box w 23 #[.int .i64 s0_0, .int .i64 s0_1, .int .i64 s0_2] w' ∧ Box wa 25 #[.int .i64 s0_0, .int .i64 s0_1, .int .i64 s0_2] w') _ from Box.two HE.out)
    refine Turns.next 13 rfl (by kernel_rfl) (by rfl) (fun K hK => ?_)
    go_simp
    go_at_call 13
    refine (rtext_yes s0_0 s0_1 s0_2 _ hc).mono ?_
    rintro e wq ⟨rfl, hb⟩
    have HE := Lib.hid (And.intro (hS.2.2.2.2.2.2.1.next hb) (hS.2.2.2.2.2.2.2.next hb))
    refine hK.out _ _ (show (fun (w' : World) => w'.cell? ⟨w.heap.size, 0, none⟩ = some (.int .i64 s0_0) ∧ w'.cell? ⟨w.heap.size, 1, none⟩ = some (.int .i64 s0_1) ∧ w'.cell? ⟨w.heap.size, 2, none⟩ = some (.int .i64 s0_2) ∧ w'.cell? ⟨wa.heap.size, 0, none⟩ = some (.int .i64 s0_0) ∧ w'.cell? ⟨wa.heap.size, 1, none⟩ = some (.int .i64 s0_1) ∧ w'.cell? ⟨wa.heap.size, 2, none⟩ = some (.int .i64 s0_2) ∧ Box w 23 #[.int .i64 s0_0, .int .i64 s0_1, .int .i64 s0_2] w' ∧ Box wa 25 #[.int .i64 s0_0, .int .i64 s0_1, .int .i64 s0_2] w') _ from Box.two HE.out) ?_
    clear hK K hS
    have hS := (show (fun (w' : World) => w'.cell? ⟨w.heap.size, 0, none⟩ = some (.int .i64 s0_0) ∧ w'.cell? ⟨w.heap.size, 1, none⟩ = some (.int .i64 s0_1) ∧ w'.cell? ⟨w.heap.size, 2, none⟩ = some (.int .i64 s0_2) ∧ w'.cell? ⟨wa.heap.size, 0, none⟩ = some (.int .i64 s0_0) ∧ w'.cell? ⟨wa.heap.size, 1, none⟩ = some (.int .i64 s0_1) ∧ w'.cell? ⟨wa.heap.size, 2, none⟩ = some (.int .i64 s0_2) ∧ Box w 23 #[.int .i64 s0_0, .int .i64 s0_1, .int .i64 s0_2] w' ∧ Box wa 25 #[.int .i64 s0_0, .int .i64 s0_1, .int .i64 s0_2] w') _ from Box.two HE.out)
    refine Turns.take hS 14 _ rfl (by kernel_rfl) (by kernel_rfl) (by kernel_rfl) (by kernel_rfl) (fun _ _ _ h => h) (by rfl) (fun w' hS' => by (try dsimp only at hS'); go_split_ands; go_simp; (try with_reducible rfl)) ?_
    simp only [Act.put, List.getElem_toArray, List.getElem_cons_succ, List.getElem_cons_zero, List.setIfInBounds_toArray, List.set_cons_zero, List.set_cons_succ]
    refine Turns.take hS 15 _ rfl (by kernel_rfl) (by kernel_rfl) (by kernel_rfl) (by kernel_rfl) (fun _ _ _ h => h) (by rfl) (fun w' hS' => by (try dsimp only at hS'); go_split_ands; go_simp; (try with_reducible rfl)) ?_
    simp only [Act.put, List.getElem_toArray, List.getElem_cons_succ, List.getElem_cons_zero, List.setIfInBounds_toArray, List.set_cons_zero, List.set_cons_succ]
    refine Turns.take hS 16 _ rfl (by kernel_rfl) (by kernel_rfl) (by kernel_rfl) (by kernel_rfl) (fun _ _ _ h => h) (by rfl) (fun w' hS' => by (try dsimp only at hS'); go_split_ands; go_simp; (try with_reducible rfl)) ?_
    simp only [Act.put, List.getElem_toArray, List.getElem_cons_succ, List.getElem_cons_zero, List.setIfInBounds_toArray, List.set_cons_zero, List.set_cons_succ]
    refine Turns.take hS 17 _ rfl (by kernel_rfl) (by kernel_rfl) (by kernel_rfl) (by kernel_rfl) (fun _ _ _ h => h) (by rfl) (fun w' hS' => by (try dsimp only at hS'); go_split_ands; go_simp; (try with_reducible rfl)) ?_
    simp only [Act.put, List.getElem_toArray, List.getElem_cons_succ, List.getElem_cons_zero, List.setIfInBounds_toArray, List.set_cons_zero, List.set_cons_succ]
    refine Turns.take hS 18 _ rfl (by kernel_rfl) (by kernel_rfl) (by kernel_rfl) (by kernel_rfl) (fun _ _ _ h => h) (by rfl) (fun w' hS' => by (try dsimp only at hS'); go_split_ands; go_simp; (try with_reducible rfl)) ?_
    simp only [Act.put, List.getElem_toArray, List.getElem_cons_succ, List.getElem_cons_zero, List.setIfInBounds_toArray, List.set_cons_zero, List.set_cons_succ]
    refine Turns.take hS 19 _ rfl (by kernel_rfl) (by kernel_rfl) (by kernel_rfl) (by kernel_rfl) (fun _ _ _ h => h) (by rfl) (fun w' hS' => by (try dsimp only at hS'); go_split_ands; go_simp; (try with_reducible rfl)) ?_
    simp only [Act.put, List.getElem_toArray, List.getElem_cons_succ, List.getElem_cons_zero, List.setIfInBounds_toArray, List.set_cons_zero, List.set_cons_succ]
    refine Turns.take hS 20 _ rfl (by kernel_rfl) (by kernel_rfl) (by kernel_rfl) (by kernel_rfl) (fun _ _ _ h => h) (by rfl) (fun w' hS' => by (try dsimp only at hS'); go_split_ands; go_simp; (try with_reducible rfl)) ?_
    simp only [Act.put, List.getElem_toArray, List.getElem_cons_succ, List.getElem_cons_zero, List.setIfInBounds_toArray, List.set_cons_zero, List.set_cons_succ]
    refine Turns.next 21 rfl (by kernel_rfl) (by rfl) (fun K hK => ?_)
    go_simp
    go_at_call 14
    refine (rnumber_any s0_0 s0_1 s0_2 _ hc).mono ?_
    rintro e wq ⟨rfl, hb⟩
    rw [hN]
    have HE := Lib.hid (And.intro (hS.2.2.2.2.2.2.1.next hb) (hS.2.2.2.2.2.2.2.next hb))
    refine hK.out _ _ (show (fun (w' : World) => w'.cell? ⟨w.heap.size, 0, none⟩ = some (.int .i64 s0_0) ∧ w'.cell? ⟨w.heap.size, 1, none⟩ = some (.int .i64 s0_1) ∧ w'.cell? ⟨w.heap.size, 2, none⟩ = some (.int .i64 s0_2) ∧ w'.cell? ⟨wa.heap.size, 0, none⟩ = some (.int .i64 s0_0) ∧ w'.cell? ⟨wa.heap.size, 1, none⟩ = some (.int .i64 s0_1) ∧ w'.cell? ⟨wa.heap.size, 2, none⟩ = some (.int .i64 s0_2) ∧ Box w 23 #[.int .i64 s0_0, .int .i64 s0_1, .int .i64 s0_2] w' ∧ Box wa 25 #[.int .i64 s0_0, .int .i64 s0_1, .int .i64 s0_2] w') _ from Box.two HE.out) ?_
    clear hK K hS
    have hS := (show (fun (w' : World) => w'.cell? ⟨w.heap.size, 0, none⟩ = some (.int .i64 s0_0) ∧ w'.cell? ⟨w.heap.size, 1, none⟩ = some (.int .i64 s0_1) ∧ w'.cell? ⟨w.heap.size, 2, none⟩ = some (.int .i64 s0_2) ∧ w'.cell? ⟨wa.heap.size, 0, none⟩ = some (.int .i64 s0_0) ∧ w'.cell? ⟨wa.heap.size, 1, none⟩ = some (.int .i64 s0_1) ∧ w'.cell? ⟨wa.heap.size, 2, none⟩ = some (.int .i64 s0_2) ∧ Box w 23 #[.int .i64 s0_0, .int .i64 s0_1, .int .i64 s0_2] w' ∧ Box wa 25 #[.int .i64 s0_0, .int .i64 s0_1, .int .i64 s0_2] w') _ from Box.two HE.out)
    refine Turns.take hS 22 _ rfl (by kernel_rfl) (by kernel_rfl) (by kernel_rfl) (by kernel_rfl) (fun _ _ _ h => h) (by rfl) (fun w' hS' => by (try dsimp only at hS'); go_split_ands; go_simp; (try with_reducible rfl)) ?_
    simp only [Act.put, List.getElem_toArray, List.getElem_cons_succ, List.getElem_cons_zero, List.setIfInBounds_toArray, List.set_cons_zero, List.set_cons_succ]
    refine Turns.take hS 23 _ rfl (by kernel_rfl) (by kernel_rfl) (by kernel_rfl) (by kernel_rfl) (fun _ _ _ h => h) (by rfl) (fun w' hS' => by (try dsimp only at hS'); go_split_ands; go_simp; (try with_reducible rfl)) ?_
    simp only [Act.put, List.getElem_toArray, List.getElem_cons_succ, List.getElem_cons_zero, List.setIfInBounds_toArray, List.set_cons_zero, List.set_cons_succ]
    refine Turns.take hS 24 _ rfl (by kernel_rfl) (by kernel_rfl) (by kernel_rfl) (by kernel_rfl) (fun _ _ _ h => h) (by rfl) (fun w' hS' => by (try dsimp only at hS'); go_split_ands; go_simp; (try with_reducible rfl)) ?_
    simp only [Act.put, List.getElem_toArray, List.getElem_cons_succ, List.getElem_cons_zero, List.setIfInBounds_toArray, List.set_cons_zero, List.set_cons_succ]
    refine Turns.take hS 25 _ rfl (by kernel_rfl) (by kernel_rfl) (by kernel_rfl) (by kernel_rfl) (fun _ _ _ h => h) (by rfl) (fun w' hS' => by (try dsimp only at hS'); go_split_ands; go_simp; (try with_reducible rfl)) ?_
    simp only [Act.put, List.getElem_toArray, List.getElem_cons_succ, List.getElem_cons_zero, List.setIfInBounds_toArray, List.set_cons_zero, List.set_cons_succ]
    refine Turns.take hS 26 _ rfl (by kernel_rfl) (by kernel_rfl) (by kernel_rfl) (by kernel_rfl) (fun _ _ _ h => h) (by rfl) (fun w' hS' => by (try dsimp only at hS'); go_split_ands; go_simp; (try with_reducible rfl)) ?_
    simp only [Act.put, List.getElem_toArray, List.getElem_cons_succ, List.getElem_cons_zero, List.setIfInBounds_toArray, List.set_cons_zero, List.set_cons_succ]
    refine Turns.take hS 27 _ rfl (by kernel_rfl) (by kernel_rfl) (by kernel_rfl) (by kernel_rfl) (fun _ _ _ h => h) (by rfl) (fun w' hS' => by (try dsimp only at hS'); go_split_ands; go_simp; (try with_reducible rfl)) ?_
    simp only [Act.put, List.getElem_toArray, List.getElem_cons_succ, List.getElem_cons_zero, List.setIfInBounds_toArray, List.set_cons_zero, List.set_cons_succ]
    refine Turns.take hS 28 _ rfl (by kernel_rfl) (by kernel_rfl) (by kernel_rfl) (by kernel_rfl) (fun _ _ _ h => h) (by rfl) (fun w' hS' => by (try dsimp only at hS'); go_split_ands; go_simp; (try with_reducible rfl)) ?_
    simp only [Act.put, List.getElem_toArray, List.getElem_cons_succ, List.getElem_cons_zero, List.setIfInBounds_toArray, List.set_cons_zero, List.set_cons_succ]
    refine Turns.skip hS 29 rfl (by kernel_rfl) (by kernel_rfl) (by kernel_rfl) (by kernel_rfl) (fun _ _ _ h => h) (by rfl) ?_
    simp only [Act.put, List.getElem_toArray, List.getElem_cons_succ, List.getElem_cons_zero, List.setIfInBounds_toArray, List.set_cons_zero, List.set_cons_succ]
    refine Turns.skip hS 30 rfl (by kernel_rfl) (by kernel_rfl) (by kernel_rfl) (by kernel_rfl) (fun _ _ _ h => h) (by rfl) ?_
    simp only [Act.put, List.getElem_toArray, List.getElem_cons_succ, List.getElem_cons_zero, List.setIfInBounds_toArray, List.set_cons_zero, List.set_cons_succ]
    refine Turns.take hS 31 _ rfl (by kernel_rfl) (by kernel_rfl) (by kernel_rfl) (by kernel_rfl) (fun _ _ _ h => h) (by rfl) (fun w' hS' => by (try dsimp only at hS'); go_split_ands; go_simp; (try with_reducible rfl)) ?_
    simp only [Act.put, List.getElem_toArray, List.getElem_cons_succ, List.getElem_cons_zero, List.setIfInBounds_toArray, List.set_cons_zero, List.set_cons_succ]
    refine Turns.take hS 32 _ rfl (by kernel_rfl) (by kernel_rfl) (by kernel_rfl) (by kernel_rfl) (fun _ _ _ h => h) (by rfl) (fun w' hS' => by (try dsimp only at hS'); go_split_ands; go_simp; (try with_reducible rfl)) ?_
    simp only [Act.put, List.getElem_toArray, List.getElem_cons_succ, List.getElem_cons_zero, List.setIfInBounds_toArray, List.set_cons_zero, List.set_cons_succ]
    refine Turns.rest (late_done (by kernel_rfl)) ?_
    refine any_tail 33 (by rfl) (by kernel_rfl) ?_
    simp only [List.drop_succ_cons, List.drop_zero]
    clear hS
    replace HB := Lib.hid HE.out.1
    clear HE HM
    by_cases hr : a1 < -719162 ∨ 2932896 < a1
    · have k6 := fun W => of_no a1 W hr
      unfold GaveDate at k6
      have mk3 := fun W => Box.start W 23 #[.int .i64 0, .int .i64 0, .int .i64 0]
      by_cases hl : a1 < -719162
      · clear hr
        go_wp2_with (first
          | (go_at_call 15; with_reducible refine (k6 _).mono ?_; rintro e w2 ⟨rfl, hb⟩; have HX := Lib.hid (mk3 w2); replace HB := Lib.hid ((HB.out.next hb).next (mk3 w2).below); obtain ⟨x0, x1, x2, _⟩ := HX.out.cells3; clear hb)
          | (go_at_call 15; with_reducible refine (k7 _).mono ?_; rintro e w2 ⟨⟨y, m, d, hcd, hn, rfl⟩, hb⟩; have HX := Lib.hid (Box.start w2 23 #[.int .i64 y, .int .i64 m, .int .i64 d]); replace HB := Lib.hid ((HB.out.next hb).next (Box.start w2 23 #[.int .i64 y, .int .i64 m, .int .i64 d]).below); obtain ⟨x0, x1, x2, _⟩ := HX.out.cells3; clear hb)
          | (go_at_call 9; refine (rgood_any y m d _).mono ?_; rintro e w3 ⟨rfl, hb⟩; rw [goodD_yes hcd]; replace HX := Lib.hid (HX.out.next hb); replace HB := Lib.hid (HB.out.next hb); clear x0 x1 x2; obtain ⟨x0, x1, x2, _⟩ := HX.out.cells3; clear hb)
          | (go_at_call 14; refine (rnumber_any y m d _ hcd).mono ?_; rintro e w4 ⟨rfl, hb⟩; rw [hn]; replace HB := Lib.hid (HB.out.next hb); clear x0 x1 x2 hb))
        go_ret
        exact ⟨rfl, HB.out.below⟩
      · have hg : 2932896 < a1 := by omega
        have d0 : decide (a1 < -719162) = false := decide_eq_false hl
        clear hr
        go_wp2_with (first
          | (go_at_call 15; with_reducible refine (k6 _).mono ?_; rintro e w2 ⟨rfl, hb⟩; have HX := Lib.hid (mk3 w2); replace HB := Lib.hid ((HB.out.next hb).next (mk3 w2).below); obtain ⟨x0, x1, x2, _⟩ := HX.out.cells3; clear hb)
          | (go_at_call 15; with_reducible refine (k7 _).mono ?_; rintro e w2 ⟨⟨y, m, d, hcd, hn, rfl⟩, hb⟩; have HX := Lib.hid (Box.start w2 23 #[.int .i64 y, .int .i64 m, .int .i64 d]); replace HB := Lib.hid ((HB.out.next hb).next (Box.start w2 23 #[.int .i64 y, .int .i64 m, .int .i64 d]).below); obtain ⟨x0, x1, x2, _⟩ := HX.out.cells3; clear hb)
          | (go_at_call 9; refine (rgood_any y m d _).mono ?_; rintro e w3 ⟨rfl, hb⟩; rw [goodD_yes hcd]; replace HX := Lib.hid (HX.out.next hb); replace HB := Lib.hid (HB.out.next hb); clear x0 x1 x2; obtain ⟨x0, x1, x2, _⟩ := HX.out.cells3; clear hb)
          | (go_at_call 14; refine (rnumber_any y m d _ hcd).mono ?_; rintro e w4 ⟨rfl, hb⟩; rw [hn]; replace HB := Lib.hid (HB.out.next hb); clear x0 x1 x2 hb))
        go_ret
        exact ⟨rfl, HB.out.below⟩
    · have d0 : decide (a1 < -719162) = false := decide_eq_false (by omega)
      have d1 : decide (2932896 < a1) = false := decide_eq_false (by omega)
      have k7 := fun W => of_yes a1 W (by omega) (by omega)
      unfold GaveDate at k7
      clear hr
      go_wp2_with (first
        | (go_at_call 15; with_reducible refine (k6 _).mono ?_; rintro e w2 ⟨rfl, hb⟩; have HX := Lib.hid (mk3 w2); replace HB := Lib.hid ((HB.out.next hb).next (mk3 w2).below); obtain ⟨x0, x1, x2, _⟩ := HX.out.cells3; clear hb)
        | (go_at_call 15; with_reducible refine (k7 _).mono ?_; rintro e w2 ⟨⟨y, m, d, hcd, hn, rfl⟩, hb⟩; have HX := Lib.hid (Box.start w2 23 #[.int .i64 y, .int .i64 m, .int .i64 d]); replace HB := Lib.hid ((HB.out.next hb).next (Box.start w2 23 #[.int .i64 y, .int .i64 m, .int .i64 d]).below); obtain ⟨x0, x1, x2, _⟩ := HX.out.cells3; clear hb)
        | (go_at_call 9; refine (rgood_any y m d _).mono ?_; rintro e w3 ⟨rfl, hb⟩; rw [goodD_yes hcd]; replace HX := Lib.hid (HX.out.next hb); replace HB := Lib.hid (HB.out.next hb); clear x0 x1 x2; obtain ⟨x0, x1, x2, _⟩ := HX.out.cells3; clear hb)
        | (go_at_call 14; refine (rnumber_any y m d _ hcd).mono ?_; rintro e w4 ⟨rfl, hb⟩; rw [hn]; replace HB := Lib.hid (HB.out.next hb); clear x0 x1 x2 hb))
      go_ret
      exact ⟨rfl, HB.out.below⟩
  · have k1 := fun W => rgood_any s0_0 s0_1 s0_2 W
    rw [goodD_no hc] at k1
    have k2 := fun W => number_no s0_0 s0_1 s0_2 W hc
    go_enter Tryd.func3, Tryd.ntmps3
    go_upto_region 6 with (first
      | (go_at_call 8; refine (alive_yes _ HT1.out).mono ?_; rintro e wa ⟨rfl, hb⟩; replace HB := Lib.hid (HB.out.next hb); clear c0 c1 c2; obtain ⟨c0, c1, c2, _⟩ := HB.out.cells3; have HM := Lib.hid (Box.start wa 25 #[.int .i64 s0_0, .int .i64 s0_1, .int .i64 s0_2]); replace HB := Lib.hid (HB.out.next (Box.start wa 25 #[.int .i64 s0_0, .int .i64 s0_1, .int .i64 s0_2]).below); obtain ⟨m0, m1, m2, _⟩ := HM.out.cells3; clear hb)
      | (go_at_call 9; refine (k1 _).mono ?_; rintro e wx ⟨rfl, hb⟩; replace HB := Lib.hid (HB.out.next hb); replace HM := Lib.hid (HM.out.next hb); clear c0 c1 c2 m0 m1 m2; obtain ⟨c0, c1, c2, _⟩ := HB.out.cells3; clear hb)
      | (go_at_call 10; refine (k2 _).mono ?_; rintro e wx ⟨rfl, hb⟩; replace HB := Lib.hid (HB.out.next hb); replace HM := Lib.hid (HM.out.next hb); clear c0 c1 c2 hb))
    refine region_turns (fun (w' : World) => w'.cell? ⟨w.heap.size, 0, none⟩ = some (.int .i64 s0_0) ∧ w'.cell? ⟨w.heap.size, 1, none⟩ = some (.int .i64 s0_1) ∧ w'.cell? ⟨w.heap.size, 2, none⟩ = some (.int .i64 s0_2) ∧ w'.cell? ⟨wa.heap.size, 0, none⟩ = some (.int .i64 s0_0) ∧ w'.cell? ⟨wa.heap.size, 1, none⟩ = some (.int .i64 s0_1) ∧ w'.cell? ⟨wa.heap.size, 2, none⟩ = some (.int .i64 s0_2) ∧ Box w 23 #[.int .i64 s0_0, .int .i64 s0_1, .int .i64 s0_2] w' ∧ Box wa 25 #[.int .i64 s0_0, .int .i64 s0_1, .int .i64 s0_2] w') (fun j => decide (33 ≤ j)) (by kernel_rfl) (Box.two ⟨HB.out.drew, HM.out.drew⟩) (fun hS => ?_)
    refine Turns.take hS 0 _ rfl (by kernel_rfl) (by kernel_rfl) (by kernel_rfl) (by kernel_rfl) (fun _ _ _ h => h) (by rfl) (fun w' hS' => by (try dsimp only at hS'); go_split_ands; go_simp; (try with_reducible rfl)) ?_
    simp only [Act.put, List.getElem_toArray, List.getElem_cons_succ, List.getElem_cons_zero, List.setIfInBounds_toArray, List.set_cons_zero, List.set_cons_succ]
    refine Turns.take hS 2 _ rfl (by kernel_rfl) (by kernel_rfl) (by kernel_rfl) (by kernel_rfl) (fun _ _ _ h => h) (by rfl) (fun w' hS' => by (try dsimp only at hS'); go_split_ands; go_simp; (try with_reducible rfl)) ?_
    simp only [Act.put, List.getElem_toArray, List.getElem_cons_succ, List.getElem_cons_zero, List.setIfInBounds_toArray, List.set_cons_zero, List.set_cons_succ]
    refine Turns.next 1 rfl (by kernel_rfl) (by rfl) (fun K hK => ?_)
    go_simp
    go_at_call 11
    refine (good_any s0_0 s0_1 s0_2 _).mono ?_
    rintro e wq ⟨rfl, hb⟩
    rw [goodD_no hc]
    have HE := Lib.hid (And.intro (hS.2.2.2.2.2.2.1.next hb) (hS.2.2.2.2.2.2.2.next hb))
    refine hK.out _ _ (show (fun (w' : World) => w'.cell? ⟨w.heap.size, 0, none⟩ = some (.int .i64 s0_0) ∧ w'.cell? ⟨w.heap.size, 1, none⟩ = some (.int .i64 s0_1) ∧ w'.cell? ⟨w.heap.size, 2, none⟩ = some (.int .i64 s0_2) ∧ w'.cell? ⟨wa.heap.size, 0, none⟩ = some (.int .i64 s0_0) ∧ w'.cell? ⟨wa.heap.size, 1, none⟩ = some (.int .i64 s0_1) ∧ w'.cell? ⟨wa.heap.size, 2, none⟩ = some (.int .i64 s0_2) ∧ Box w 23 #[.int .i64 s0_0, .int .i64 s0_1, .int .i64 s0_2] w' ∧ Box wa 25 #[.int .i64 s0_0, .int .i64 s0_1, .int .i64 s0_2] w') _ from Box.two HE.out) ?_
    clear hK K hS
    have hS := (show (fun (w' : World) => w'.cell? ⟨w.heap.size, 0, none⟩ = some (.int .i64 s0_0) ∧ w'.cell? ⟨w.heap.size, 1, none⟩ = some (.int .i64 s0_1) ∧ w'.cell? ⟨w.heap.size, 2, none⟩ = some (.int .i64 s0_2) ∧ w'.cell? ⟨wa.heap.size, 0, none⟩ = some (.int .i64 s0_0) ∧ w'.cell? ⟨wa.heap.size, 1, none⟩ = some (.int .i64 s0_1) ∧ w'.cell? ⟨wa.heap.size, 2, none⟩ = some (.int .i64 s0_2) ∧ Box w 23 #[.int .i64 s0_0, .int .i64 s0_1, .int .i64 s0_2] w' ∧ Box wa 25 #[.int .i64 s0_0, .int .i64 s0_1, .int .i64 s0_2] w') _ from Box.two HE.out)
    refine Turns.take hS 3 _ rfl (by kernel_rfl) (by kernel_rfl) (by kernel_rfl) (by kernel_rfl) (fun _ _ _ h => h) (by rfl) (fun w' hS' => by (try dsimp only at hS'); go_split_ands; go_simp; (try with_reducible rfl)) ?_
    simp only [Act.put, List.getElem_toArray, List.getElem_cons_succ, List.getElem_cons_zero, List.setIfInBounds_toArray, List.set_cons_zero, List.set_cons_succ]
    refine Turns.take hS 4 _ rfl (by kernel_rfl) (by kernel_rfl) (by kernel_rfl) (by kernel_rfl) (fun _ _ _ h => h) (by rfl) (fun w' hS' => by (try dsimp only at hS'); go_split_ands; go_simp; (try with_reducible rfl)) ?_
    simp only [Act.put, List.getElem_toArray, List.getElem_cons_succ, List.getElem_cons_zero, List.setIfInBounds_toArray, List.set_cons_zero, List.set_cons_succ]
    refine Turns.take hS 5 _ rfl (by kernel_rfl) (by kernel_rfl) (by kernel_rfl) (by kernel_rfl) (fun _ _ _ h => h) (by rfl) (fun w' hS' => by (try dsimp only at hS'); go_split_ands; go_simp; (try with_reducible rfl)) ?_
    simp only [Act.put, List.getElem_toArray, List.getElem_cons_succ, List.getElem_cons_zero, List.setIfInBounds_toArray, List.set_cons_zero, List.set_cons_succ]
    refine Turns.take hS 6 _ rfl (by kernel_rfl) (by kernel_rfl) (by kernel_rfl) (by kernel_rfl) (fun _ _ _ h => h) (by rfl) (fun w' hS' => by (try dsimp only at hS'); go_split_ands; go_simp; (try with_reducible rfl)) ?_
    simp only [Act.put, List.getElem_toArray, List.getElem_cons_succ, List.getElem_cons_zero, List.setIfInBounds_toArray, List.set_cons_zero, List.set_cons_succ]
    refine Turns.take hS 7 _ rfl (by kernel_rfl) (by kernel_rfl) (by kernel_rfl) (by kernel_rfl) (fun _ _ _ h => h) (by rfl) (fun w' hS' => by (try dsimp only at hS'); go_split_ands; go_simp; (try with_reducible rfl)) ?_
    simp only [Act.put, List.getElem_toArray, List.getElem_cons_succ, List.getElem_cons_zero, List.setIfInBounds_toArray, List.set_cons_zero, List.set_cons_succ]
    refine Turns.take hS 8 _ rfl (by kernel_rfl) (by kernel_rfl) (by kernel_rfl) (by kernel_rfl) (fun _ _ _ h => h) (by rfl) (fun w' hS' => by (try dsimp only at hS'); go_split_ands; go_simp; (try with_reducible rfl)) ?_
    simp only [Act.put, List.getElem_toArray, List.getElem_cons_succ, List.getElem_cons_zero, List.setIfInBounds_toArray, List.set_cons_zero, List.set_cons_succ]
    refine Turns.take hS 9 _ rfl (by kernel_rfl) (by kernel_rfl) (by kernel_rfl) (by kernel_rfl) (fun _ _ _ h => h) (by rfl) (fun w' hS' => by (try dsimp only at hS'); go_split_ands; go_simp; (try with_reducible rfl)) ?_
    simp only [Act.put, List.getElem_toArray, List.getElem_cons_succ, List.getElem_cons_zero, List.setIfInBounds_toArray, List.set_cons_zero, List.set_cons_succ]
    refine Turns.take hS 10 _ rfl (by kernel_rfl) (by kernel_rfl) (by kernel_rfl) (by kernel_rfl) (fun _ _ _ h => h) (by rfl) (fun w' hS' => by (try dsimp only at hS'); go_split_ands; go_simp; (try with_reducible rfl)) ?_
    simp only [Act.put, List.getElem_toArray, List.getElem_cons_succ, List.getElem_cons_zero, List.setIfInBounds_toArray, List.set_cons_zero, List.set_cons_succ]
    refine Turns.take hS 12 _ rfl (by kernel_rfl) (by kernel_rfl) (by kernel_rfl) (by kernel_rfl) (fun _ _ _ h => h) (by rfl) (fun w' hS' => by (try dsimp only at hS'); go_split_ands; go_simp; (try with_reducible rfl)) ?_
    simp only [Act.put, List.getElem_toArray, List.getElem_cons_succ, List.getElem_cons_zero, List.setIfInBounds_toArray, List.set_cons_zero, List.set_cons_succ]
    refine Turns.next 11 rfl (by kernel_rfl) (by rfl) (fun K hK => ?_)
    go_simp
    go_at_call 12
    refine (text_no s0_0 s0_1 s0_2 _ hc).mono ?_
    rintro e wq ⟨rfl, hb⟩
    have HE := Lib.hid (And.intro (hS.2.2.2.2.2.2.1.next hb) (hS.2.2.2.2.2.2.2.next hb))
    refine hK.out _ _ (show (fun (w' : World) => w'.cell? ⟨w.heap.size, 0, none⟩ = some (.int .i64 s0_0) ∧ w'.cell? ⟨w.heap.size, 1, none⟩ = some (.int .i64 s0_1) ∧ w'.cell? ⟨w.heap.size, 2, none⟩ = some (.int .i64 s0_2) ∧ w'.cell? ⟨wa.heap.size, 0, none⟩ = some (.int .i64 s0_0) ∧ w'.cell? ⟨wa.heap.size, 1, none⟩ = some (.int .i64 s0_1) ∧ w'.cell? ⟨wa.heap.size, 2, none⟩ = some (.int .i64 s0_2) ∧ Box w 23 #[.int .i64 s0_0, .int .i64 s0_1, .int .i64 s0_2] w' ∧ Box wa 25 #[.int .i64 s0_0, .int .i64 s0_1, .int .i64 s0_2] w') _ from Box.two HE.out) ?_
    clear hK K hS
    have hS := (show (fun (w' : World) => w'.cell? ⟨w.heap.size, 0, none⟩ = some (.int .i64 s0_0) ∧ w'.cell? ⟨w.heap.size, 1, none⟩ = some (.int .i64 s0_1) ∧ w'.cell? ⟨w.heap.size, 2, none⟩ = some (.int .i64 s0_2) ∧ w'.cell? ⟨wa.heap.size, 0, none⟩ = some (.int .i64 s0_0) ∧ w'.cell? ⟨wa.heap.size, 1, none⟩ = some (.int .i64 s0_1) ∧ w'.cell? ⟨wa.heap.size, 2, none⟩ = some (.int .i64 s0_2) ∧ Box w 23 #[.int .i64 s0_0, .int .i64 s0_1, .int .i64 s0_2] w' ∧ Box wa 25 #[.int .i64 s0_0, .int .i64 s0_1, .int .i64 s0_2] w') _ from Box.two HE.out)
    refine Turns.next 13 rfl (by kernel_rfl) (by rfl) (fun K hK => ?_)
    go_simp
    go_at_call 13
    refine (rtext_no s0_0 s0_1 s0_2 _ hc).mono ?_
    rintro e wq ⟨rfl, hb⟩
    have HE := Lib.hid (And.intro (hS.2.2.2.2.2.2.1.next hb) (hS.2.2.2.2.2.2.2.next hb))
    refine hK.out _ _ (show (fun (w' : World) => w'.cell? ⟨w.heap.size, 0, none⟩ = some (.int .i64 s0_0) ∧ w'.cell? ⟨w.heap.size, 1, none⟩ = some (.int .i64 s0_1) ∧ w'.cell? ⟨w.heap.size, 2, none⟩ = some (.int .i64 s0_2) ∧ w'.cell? ⟨wa.heap.size, 0, none⟩ = some (.int .i64 s0_0) ∧ w'.cell? ⟨wa.heap.size, 1, none⟩ = some (.int .i64 s0_1) ∧ w'.cell? ⟨wa.heap.size, 2, none⟩ = some (.int .i64 s0_2) ∧ Box w 23 #[.int .i64 s0_0, .int .i64 s0_1, .int .i64 s0_2] w' ∧ Box wa 25 #[.int .i64 s0_0, .int .i64 s0_1, .int .i64 s0_2] w') _ from Box.two HE.out) ?_
    clear hK K hS
    have hS := (show (fun (w' : World) => w'.cell? ⟨w.heap.size, 0, none⟩ = some (.int .i64 s0_0) ∧ w'.cell? ⟨w.heap.size, 1, none⟩ = some (.int .i64 s0_1) ∧ w'.cell? ⟨w.heap.size, 2, none⟩ = some (.int .i64 s0_2) ∧ w'.cell? ⟨wa.heap.size, 0, none⟩ = some (.int .i64 s0_0) ∧ w'.cell? ⟨wa.heap.size, 1, none⟩ = some (.int .i64 s0_1) ∧ w'.cell? ⟨wa.heap.size, 2, none⟩ = some (.int .i64 s0_2) ∧ Box w 23 #[.int .i64 s0_0, .int .i64 s0_1, .int .i64 s0_2] w' ∧ Box wa 25 #[.int .i64 s0_0, .int .i64 s0_1, .int .i64 s0_2] w') _ from Box.two HE.out)
    refine Turns.take hS 14 _ rfl (by kernel_rfl) (by kernel_rfl) (by kernel_rfl) (by kernel_rfl) (fun _ _ _ h => h) (by rfl) (fun w' hS' => by (try dsimp only at hS'); go_split_ands; go_simp; (try with_reducible rfl)) ?_
    simp only [Act.put, List.getElem_toArray, List.getElem_cons_succ, List.getElem_cons_zero, List.setIfInBounds_toArray, List.set_cons_zero, List.set_cons_succ]
    refine Turns.take hS 15 _ rfl (by kernel_rfl) (by kernel_rfl) (by kernel_rfl) (by kernel_rfl) (fun _ _ _ h => h) (by rfl) (fun w' hS' => by (try dsimp only at hS'); go_split_ands; go_simp; (try with_reducible rfl)) ?_
    simp only [Act.put, List.getElem_toArray, List.getElem_cons_succ, List.getElem_cons_zero, List.setIfInBounds_toArray, List.set_cons_zero, List.set_cons_succ]
    refine Turns.take hS 16 _ rfl (by kernel_rfl) (by kernel_rfl) (by kernel_rfl) (by kernel_rfl) (fun _ _ _ h => h) (by rfl) (fun w' hS' => by (try dsimp only at hS'); go_split_ands; go_simp; (try with_reducible rfl)) ?_
    simp only [Act.put, List.getElem_toArray, List.getElem_cons_succ, List.getElem_cons_zero, List.setIfInBounds_toArray, List.set_cons_zero, List.set_cons_succ]
    refine Turns.take hS 17 _ rfl (by kernel_rfl) (by kernel_rfl) (by kernel_rfl) (by kernel_rfl) (fun _ _ _ h => h) (by rfl) (fun w' hS' => by (try dsimp only at hS'); go_split_ands; go_simp; (try with_reducible rfl)) ?_
    simp only [Act.put, List.getElem_toArray, List.getElem_cons_succ, List.getElem_cons_zero, List.setIfInBounds_toArray, List.set_cons_zero, List.set_cons_succ]
    refine Turns.take hS 18 _ rfl (by kernel_rfl) (by kernel_rfl) (by kernel_rfl) (by kernel_rfl) (fun _ _ _ h => h) (by rfl) (fun w' hS' => by (try dsimp only at hS'); go_split_ands; go_simp; (try with_reducible rfl)) ?_
    simp only [Act.put, List.getElem_toArray, List.getElem_cons_succ, List.getElem_cons_zero, List.setIfInBounds_toArray, List.set_cons_zero, List.set_cons_succ]
    refine Turns.skip hS 19 rfl (by kernel_rfl) (by kernel_rfl) (by kernel_rfl) (by kernel_rfl) (fun _ _ _ h => h) (by rfl) ?_
    simp only [Act.put, List.getElem_toArray, List.getElem_cons_succ, List.getElem_cons_zero, List.setIfInBounds_toArray, List.set_cons_zero, List.set_cons_succ]
    refine Turns.skip hS 20 rfl (by kernel_rfl) (by kernel_rfl) (by kernel_rfl) (by kernel_rfl) (fun _ _ _ h => h) (by rfl) ?_
    simp only [Act.put, List.getElem_toArray, List.getElem_cons_succ, List.getElem_cons_zero, List.setIfInBounds_toArray, List.set_cons_zero, List.set_cons_succ]
    refine Turns.skip hS 21 rfl (by kernel_rfl) (by kernel_rfl) (by kernel_rfl) (by kernel_rfl) (fun _ _ _ h => h) (by rfl) ?_
    simp only [Act.put, List.getElem_toArray, List.getElem_cons_succ, List.getElem_cons_zero, List.setIfInBounds_toArray, List.set_cons_zero, List.set_cons_succ]
    refine Turns.skip hS 22 rfl (by kernel_rfl) (by kernel_rfl) (by kernel_rfl) (by kernel_rfl) (fun _ _ _ h => h) (by rfl) ?_
    simp only [Act.put, List.getElem_toArray, List.getElem_cons_succ, List.getElem_cons_zero, List.setIfInBounds_toArray, List.set_cons_zero, List.set_cons_succ]
    refine Turns.take hS 23 _ rfl (by kernel_rfl) (by kernel_rfl) (by kernel_rfl) (by kernel_rfl) (fun _ _ _ h => h) (by rfl) (fun w' hS' => by (try dsimp only at hS'); go_split_ands; go_simp; (try with_reducible rfl)) ?_
    simp only [Act.put, List.getElem_toArray, List.getElem_cons_succ, List.getElem_cons_zero, List.setIfInBounds_toArray, List.set_cons_zero, List.set_cons_succ]
    refine Turns.take hS 24 _ rfl (by kernel_rfl) (by kernel_rfl) (by kernel_rfl) (by kernel_rfl) (fun _ _ _ h => h) (by rfl) (fun w' hS' => by (try dsimp only at hS'); go_split_ands; go_simp; (try with_reducible rfl)) ?_
    simp only [Act.put, List.getElem_toArray, List.getElem_cons_succ, List.getElem_cons_zero, List.setIfInBounds_toArray, List.set_cons_zero, List.set_cons_succ]
    refine Turns.take hS 25 _ rfl (by kernel_rfl) (by kernel_rfl) (by kernel_rfl) (by kernel_rfl) (fun _ _ _ h => h) (by rfl) (fun w' hS' => by (try dsimp only at hS'); go_split_ands; go_simp; (try with_reducible rfl)) ?_
    simp only [Act.put, List.getElem_toArray, List.getElem_cons_succ, List.getElem_cons_zero, List.setIfInBounds_toArray, List.set_cons_zero, List.set_cons_succ]
    refine Turns.take hS 26 _ rfl (by kernel_rfl) (by kernel_rfl) (by kernel_rfl) (by kernel_rfl) (fun _ _ _ h => h) (by rfl) (fun w' hS' => by (try dsimp only at hS'); go_split_ands; go_simp; (try with_reducible rfl)) ?_
    simp only [Act.put, List.getElem_toArray, List.getElem_cons_succ, List.getElem_cons_zero, List.setIfInBounds_toArray, List.set_cons_zero, List.set_cons_succ]
    refine Turns.take hS 27 _ rfl (by kernel_rfl) (by kernel_rfl) (by kernel_rfl) (by kernel_rfl) (fun _ _ _ h => h) (by rfl) (fun w' hS' => by (try dsimp only at hS'); go_split_ands; go_simp; (try with_reducible rfl)) ?_
    simp only [Act.put, List.getElem_toArray, List.getElem_cons_succ, List.getElem_cons_zero, List.setIfInBounds_toArray, List.set_cons_zero, List.set_cons_succ]
    refine Turns.take hS 28 _ rfl (by kernel_rfl) (by kernel_rfl) (by kernel_rfl) (by kernel_rfl) (fun _ _ _ h => h) (by rfl) (fun w' hS' => by (try dsimp only at hS'); go_split_ands; go_simp; (try with_reducible rfl)) ?_
    simp only [Act.put, List.getElem_toArray, List.getElem_cons_succ, List.getElem_cons_zero, List.setIfInBounds_toArray, List.set_cons_zero, List.set_cons_succ]
    refine Turns.take hS 29 _ rfl (by kernel_rfl) (by kernel_rfl) (by kernel_rfl) (by kernel_rfl) (fun _ _ _ h => h) (by rfl) (fun w' hS' => by (try dsimp only at hS'); go_split_ands; go_simp; (try with_reducible rfl)) ?_
    simp only [Act.put, List.getElem_toArray, List.getElem_cons_succ, List.getElem_cons_zero, List.setIfInBounds_toArray, List.set_cons_zero, List.set_cons_succ]
    refine Turns.take hS 30 _ rfl (by kernel_rfl) (by kernel_rfl) (by kernel_rfl) (by kernel_rfl) (fun _ _ _ h => h) (by rfl) (fun w' hS' => by (try dsimp only at hS'); go_split_ands; go_simp; (try with_reducible rfl)) ?_
    simp only [Act.put, List.getElem_toArray, List.getElem_cons_succ, List.getElem_cons_zero, List.setIfInBounds_toArray, List.set_cons_zero, List.set_cons_succ]
    refine Turns.take hS 31 _ rfl (by kernel_rfl) (by kernel_rfl) (by kernel_rfl) (by kernel_rfl) (fun _ _ _ h => h) (by rfl) (fun w' hS' => by (try dsimp only at hS'); go_split_ands; go_simp; (try with_reducible rfl)) ?_
    simp only [Act.put, List.getElem_toArray, List.getElem_cons_succ, List.getElem_cons_zero, List.setIfInBounds_toArray, List.set_cons_zero, List.set_cons_succ]
    refine Turns.take hS 32 _ rfl (by kernel_rfl) (by kernel_rfl) (by kernel_rfl) (by kernel_rfl) (fun _ _ _ h => h) (by rfl) (fun w' hS' => by (try dsimp only at hS'); go_split_ands; go_simp; (try with_reducible rfl)) ?_
    simp only [Act.put, List.getElem_toArray, List.getElem_cons_succ, List.getElem_cons_zero, List.setIfInBounds_toArray, List.set_cons_zero, List.set_cons_succ]
    refine Turns.rest (late_done (by kernel_rfl)) ?_
    refine any_tail 33 (by rfl) (by kernel_rfl) ?_
    simp only [List.drop_succ_cons, List.drop_zero]
    clear hS
    replace HB := Lib.hid HE.out.1
    clear HE HM
    by_cases hr : a1 < -719162 ∨ 2932896 < a1
    · have k6 := fun W => of_no a1 W hr
      unfold GaveDate at k6
      have mk3 := fun W => Box.start W 23 #[.int .i64 0, .int .i64 0, .int .i64 0]
      by_cases hl : a1 < -719162
      · clear hr
        go_wp2_with (first
          | (go_at_call 15; with_reducible refine (k6 _).mono ?_; rintro e w2 ⟨rfl, hb⟩; have HX := Lib.hid (mk3 w2); replace HB := Lib.hid ((HB.out.next hb).next (mk3 w2).below); obtain ⟨x0, x1, x2, _⟩ := HX.out.cells3; clear hb)
          | (go_at_call 15; with_reducible refine (k7 _).mono ?_; rintro e w2 ⟨⟨y, m, d, hcd, hn, rfl⟩, hb⟩; have HX := Lib.hid (Box.start w2 23 #[.int .i64 y, .int .i64 m, .int .i64 d]); replace HB := Lib.hid ((HB.out.next hb).next (Box.start w2 23 #[.int .i64 y, .int .i64 m, .int .i64 d]).below); obtain ⟨x0, x1, x2, _⟩ := HX.out.cells3; clear hb)
          | (go_at_call 9; refine (rgood_any y m d _).mono ?_; rintro e w3 ⟨rfl, hb⟩; rw [goodD_yes hcd]; replace HX := Lib.hid (HX.out.next hb); replace HB := Lib.hid (HB.out.next hb); clear x0 x1 x2; obtain ⟨x0, x1, x2, _⟩ := HX.out.cells3; clear hb)
          | (go_at_call 14; refine (rnumber_any y m d _ hcd).mono ?_; rintro e w4 ⟨rfl, hb⟩; rw [hn]; replace HB := Lib.hid (HB.out.next hb); clear x0 x1 x2 hb))
        go_ret
        exact ⟨rfl, HB.out.below⟩
      · have hg : 2932896 < a1 := by omega
        have d0 : decide (a1 < -719162) = false := decide_eq_false hl
        clear hr
        go_wp2_with (first
          | (go_at_call 15; with_reducible refine (k6 _).mono ?_; rintro e w2 ⟨rfl, hb⟩; have HX := Lib.hid (mk3 w2); replace HB := Lib.hid ((HB.out.next hb).next (mk3 w2).below); obtain ⟨x0, x1, x2, _⟩ := HX.out.cells3; clear hb)
          | (go_at_call 15; with_reducible refine (k7 _).mono ?_; rintro e w2 ⟨⟨y, m, d, hcd, hn, rfl⟩, hb⟩; have HX := Lib.hid (Box.start w2 23 #[.int .i64 y, .int .i64 m, .int .i64 d]); replace HB := Lib.hid ((HB.out.next hb).next (Box.start w2 23 #[.int .i64 y, .int .i64 m, .int .i64 d]).below); obtain ⟨x0, x1, x2, _⟩ := HX.out.cells3; clear hb)
          | (go_at_call 9; refine (rgood_any y m d _).mono ?_; rintro e w3 ⟨rfl, hb⟩; rw [goodD_yes hcd]; replace HX := Lib.hid (HX.out.next hb); replace HB := Lib.hid (HB.out.next hb); clear x0 x1 x2; obtain ⟨x0, x1, x2, _⟩ := HX.out.cells3; clear hb)
          | (go_at_call 14; refine (rnumber_any y m d _ hcd).mono ?_; rintro e w4 ⟨rfl, hb⟩; rw [hn]; replace HB := Lib.hid (HB.out.next hb); clear x0 x1 x2 hb))
        go_ret
        exact ⟨rfl, HB.out.below⟩
    · have d0 : decide (a1 < -719162) = false := decide_eq_false (by omega)
      have d1 : decide (2932896 < a1) = false := decide_eq_false (by omega)
      have k7 := fun W => of_yes a1 W (by omega) (by omega)
      unfold GaveDate at k7
      clear hr
      go_wp2_with (first
        | (go_at_call 15; with_reducible refine (k6 _).mono ?_; rintro e w2 ⟨rfl, hb⟩; have HX := Lib.hid (mk3 w2); replace HB := Lib.hid ((HB.out.next hb).next (mk3 w2).below); obtain ⟨x0, x1, x2, _⟩ := HX.out.cells3; clear hb)
        | (go_at_call 15; with_reducible refine (k7 _).mono ?_; rintro e w2 ⟨⟨y, m, d, hcd, hn, rfl⟩, hb⟩; have HX := Lib.hid (Box.start w2 23 #[.int .i64 y, .int .i64 m, .int .i64 d]); replace HB := Lib.hid ((HB.out.next hb).next (Box.start w2 23 #[.int .i64 y, .int .i64 m, .int .i64 d]).below); obtain ⟨x0, x1, x2, _⟩ := HX.out.cells3; clear hb)
        | (go_at_call 9; refine (rgood_any y m d _).mono ?_; rintro e w3 ⟨rfl, hb⟩; rw [goodD_yes hcd]; replace HX := Lib.hid (HX.out.next hb); replace HB := Lib.hid (HB.out.next hb); clear x0 x1 x2; obtain ⟨x0, x1, x2, _⟩ := HX.out.cells3; clear hb)
        | (go_at_call 14; refine (rnumber_any y m d _ hcd).mono ?_; rintro e w4 ⟨rfl, hb⟩; rw [hn]; replace HB := Lib.hid (HB.out.next hb); clear x0 x1 x2 hb))
      go_ret
      exact ⟨rfl, HB.out.below⟩

set_option maxRecDepth 100000 in
theorem lifted (os : Os) (started : os.Started) (H : Type) (enc : TypeId × Value → H) :
    ReturnsInHanded {} Tryd.checked os 3 .any (fun w args => (Rows.civilDatesSpec.pre enc Tryd.prog Tryd.f3 [] false w args ∧ laidMetH Tryd.prog laidTab w) ∧ sizedMet enc Tryd.prog Tryd.f3 (OpenSpec.ofChange Rows.civilDatesSpec) false w args) (Rows.civilDatesSpec.post enc Tryd.prog Tryd.f3 false true false false) := by
  refine returnsInHanded_of_change_and (C := Tryd.checked) (X := fun w _ => laidMetH Tryd.prog laidTab w) (fun _ _ _ hh h => h.of_heap hh) own started (by kernel_rfl) Tryd.func3
    (ChangeSpec.witness_shaped (enc := enc) (C := Tryd.checked) (os := os) (X := fun w _ => laidMetH Tryd.prog laidTab w) false (World.doorLaid Tryd.prog 14 os) #[.agg #[.int .i64 0, .int .i64 0, .int .i64 0], .int .i64 0] 8 rfl (World.shaped_of_RefB (by kernel_rfl) (by kernel_rfl)) (by kernel_rfl) (by kernel_rfl) (by kernel_rfl) (door_met os _)) ?_
  intro W base args ds gs before hval0 hW _ _ hL _
  have hval : ∀ (j : Nat) t v, Tryd.f3.params[j]? = some t → args[j]? = some v → Value.okWide Tryd.prog W .any base t v := hval0
  have hW' := hW
  obtain ⟨p, q, hA0, hV, rfl, hfz, hnd⟩ := hW
  have hA : DataW.TrodAll enc Tryd.prog W 0 (fun _ => true) true Tryd.f3.params.toList args.toList ds p := hA0
  have hAk := hA
  rw [Tryd.params3] at hA hval
  obtain ⟨v0, vs0, d0, ds0, p0, q0, hargs, rfl, hp, h0, r0⟩ := trodAll_cons hA
  obtain ⟨v1, vs1, d1, ds1, p1, q1, rfl, rfl, rfl, h1, r1⟩ := trodAll_cons r0
  obtain ⟨rfl, rfl, rfl⟩ := trodAll_nil r1
  obtain rfl : args = #[v0, v1] := by cases args; simp_all
  obtain ⟨rfl, rfl⟩ := trodVars_none hV
  clear hA0 hval0 hargs
  simp only [List.append_nil] at hW'
  have hend : ∀ W' : World, Below W.heap.size W W' → Rows.civilDatesSpec.post enc Tryd.prog Tryd.f3 false true false false W #[v0, v1] (.bool true) W' := fun W' hb =>
    law_post (tb := 4) hW' hAk rfl (by kernel_rfl) (by kernel_rfl) (by kernel_rfl) Tryd.underlying4 rfl rfl rfl hb
  clear hW' hAk hp
  obtain ⟨ns0, rfl, hl0, hw0⟩ := ints_struct (ks := [.i64, .i64, .i64]) Tryd.underlying23 (by kernel_rfl) (by kernel_rfl) (by kernel_rfl) (hval 0 23 v0 rfl rfl) h0
  obtain ⟨s0_0, s0_1, s0_2, rfl⟩ := split3 hl0
  clear hl0
  obtain ⟨a1, rfl, rfl, rfl, w1⟩ := open_int Tryd.underlying3 (hval 1 3 v1 rfl rfl) h1
  refine (walk s0_0 s0_1 s0_2 a1 W (hw0 0 _ _ rfl rfl) (hw0 1 _ _ rfl rfl) (hw0 2 _ _ rfl rfl) w1 (tab_of_laid hL)).mono fun e W' ⟨he, hg⟩ => ?_
  subst he
  exact ⟨_, rfl, hend W' hg⟩

theorem over : Rows.civilDatesRow.holds Tryd.pinned (OpenSpec.ofChange Rows.civilDatesSpec) :=
  OpenClaim.holds_of_wide 3 Tryd.f3 rfl rfl rfl rfl rfl rfl rfl ⟨rfl, rfl, rfl, rfl, rfl⟩ rfl rfl rfl rfl rfl (by kernel_rfl) Tryd.func3 (by kernel_rfl)
    (of_decide_eq_true (by kernel_rfl)) (by unfold Func.isWrapper; first | (rw [if_pos (by decide +kernel)]; kernel_rfl) | (rw [if_neg (by decide +kernel)]; exact ⟨rfl, rfl⟩))
    (fun os started H enc _ => lifted os started H enc)

/-- THE STATEMENT: the tied card -/
theorem proved : Rows.CivilDatesCardSaid :=
  Claim7.holds_tied_plain_at .later [] [.data, .data, .data] true (true, "1eb08ae58e5a573565d0be32814ac72911309f6115d4ae61345bb52bf53f26a3") false
    over (fun _ h => by cases h) (by kernel_rfl) (fun _ h => by cases h) civilDates_row_tie rfl ⟨rfl, rfl⟩ (by kernel_rfl) rfl
    (fun f fn hf hfn => by
      obtain rfl : f = 3 := Option.some.inj ((show Tryd.prog.funcNamed "angelus/angeluslaw20.CivilDates" = some 3 by kernel_rfl).symm.trans hf) |>.symm
      obtain rfl : fn = Tryd.f3 := (Option.some.inj (Tryd.func3.symm.trans hfn)).symm
      exact ⟨by kernel_rfl, fun j t ht => by
        rw [Tryd.params3] at ht
        have hm : t ∈ [23, 3] := by simpa using Array.mem_of_getElem? ht
        have hall : ([23, 3].all fun u => !Tryd.prog.wantsStandIn u) = true := by kernel_rfl
        exact (show Tryd.prog.wantsStandIn t = false by simpa using List.all_eq_true.1 hall t hm)⟩)
    (by kernel_rfl)
#print axioms proved
end Go.Proofs.YtfidmbpbgjgaiaaDoor.civilDates
