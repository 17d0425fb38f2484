/-
  All bounds of terms are the document's formulas, of all terms and numbers: for all terms, rounds and hops the law answers true; without conditions.
  The walk is the prover's own; the frame of the row's step follows the kit's template.
-/
import Derived.Test.YtgcmeoogmjganaaRows
import Derived.Test.YtgcmeoogmjganaaLawKit
import Derived.Test.YtgcmeoogmjganaaStructArg
import Derived.Test.YtgcmeoogmjganaaBdH
import Derived.IntWalk
import Derived.LoopTactic
import Derived.Deep.CutBlock
import Derived.Deep.CutRange
import Derived.BigQuiet
namespace Go.Proofs.Ytgcmeoogmjganaa.boundIs
open Go.ChangeShapes Go.WideShapes Go.ChangeAt Go.RowKit Go.ChangeMaps Go.WideElems
set_option linter.unusedVariables false

theorem split4 {ns : List Int} (h : ns.length = 4) : ∃ s0_0 s0_1 s0_2 s0_3 : Int, ns = [s0_0, s0_1, s0_2, s0_3] := by
  match ns, h with
  | [y0, y1, y2, y3], _ => exact ⟨_, _, _, _, rfl⟩
theorem own : ownKnob Try.prog.godebug = none := by kernel_rfl
theorem three {w0 w1 w2 W : World} {t0 t1 t2 : TypeId} {a b c d : Value} (h : Box w0 t0 #[a, b, c, d] W ∧ Box w1 t1 #[a, b, c, d] W ∧ Box w2 t2 #[a, b, c, d] W) :
    W.cell? ⟨w0.heap.size, 0, none⟩ = some a ∧ W.cell? ⟨w0.heap.size, 1, none⟩ = some b ∧ W.cell? ⟨w0.heap.size, 2, none⟩ = some c ∧ W.cell? ⟨w0.heap.size, 3, none⟩ = some d ∧
    W.cell? ⟨w1.heap.size, 0, none⟩ = some a ∧ W.cell? ⟨w1.heap.size, 1, none⟩ = some b ∧ W.cell? ⟨w1.heap.size, 2, none⟩ = some c ∧ W.cell? ⟨w1.heap.size, 3, none⟩ = some d ∧
    W.cell? ⟨w2.heap.size, 0, none⟩ = some a ∧ W.cell? ⟨w2.heap.size, 1, none⟩ = some b ∧ W.cell? ⟨w2.heap.size, 2, none⟩ = some c ∧ W.cell? ⟨w2.heap.size, 3, none⟩ = some d ∧
    Box w0 t0 #[a, b, c, d] W ∧ Box w1 t1 #[a, b, c, d] W ∧ Box w2 t2 #[a, b, c, d] W :=
  ⟨h.1.holds.cell 0, h.1.holds.cell 1, h.1.holds.cell 2, h.1.holds.cell 3, h.2.1.holds.cell 0, h.2.1.holds.cell 1, h.2.1.holds.cell 2, h.2.1.holds.cell 3, h.2.2.holds.cell 0, h.2.2.holds.cell 1, h.2.2.holds.cell 2, h.2.2.holds.cell 3, h⟩
set_option linter.unusedSimpArgs false in
set_option maxHeartbeats 8000000 in
set_option maxRecDepth 100000 in
theorem walk (s0_0 s0_1 s0_2 s0_3 : Int) (a1 : Int) (a2 : Int) (w : World) (w0_0 : (Lit.int .i64 s0_0).wf = true) (w0_1 : (Lit.int .i64 s0_1).wf = true) (w0_2 : (Lit.int .i64 s0_2).wf = true) (w0_3 : (Lit.int .i64 s0_3).wf = true) (w1 : (Lit.int .i64 a1).wf = true) (w2 : (Lit.int .i64 a2).wf = true) :
    Calls Try.prog 3 #[.agg #[.int .i64 s0_0, .int .i64 s0_1, .int .i64 s0_2, .int .i64 s0_3], .int .i64 a1, .int .i64 a2] w fun e w' => e = .returned (.bool true) ∧ Below w.heap.size w w' := by
  have HB := Lib.hid (Box.start w 23 #[.int .i64 s0_0, .int .i64 s0_1, .int .i64 s0_2, .int .i64 s0_3])
  obtain ⟨c0, c1, c2, c3, _⟩ := HB.out.bd4
  have hg := fun W => bgood_any s0_0 s0_1 s0_2 s0_3 W
  have rhg := fun W => rbgood_any s0_0 s0_1 s0_2 s0_3 W
  obtain ⟨G, eG⟩ : ∃ G, bdGood s0_0 s0_1 s0_2 s0_3 = G := ⟨_, rfl⟩
  simp only [eG] at hg rhg
  clear eG
  have qG : (G == G) = true := by simp
  have ht := fun W => ticks_any s0_0 s0_1 s0_2 s0_3 a1 W
  have rht := fun W => rticks_any s0_0 s0_1 s0_2 s0_3 a1 W
  obtain ⟨T, eT⟩ : ∃ T, bdTicks s0_0 s0_1 s0_2 s0_3 a1 = T := ⟨_, rfl⟩
  simp only [eT] at ht rht
  clear eT
  have qT : (T == T) = true := by simp
  have hl := fun W => lag_any s0_0 s0_1 s0_2 s0_3 a1 W
  have rhl := fun W => rlag_any s0_0 s0_1 s0_2 s0_3 a1 W
  obtain ⟨X, eX⟩ : ∃ X, bdLag s0_0 s0_1 s0_2 s0_3 a1 = X := ⟨_, rfl⟩
  simp only [eX] at hl rhl
  clear eX
  have qX : (X == X) = true := by simp
  have hh := fun W => hop_any s0_0 s0_1 s0_2 s0_3 W
  have rhh := fun W => rhop_any s0_0 s0_1 s0_2 s0_3 W
  obtain ⟨H, eH⟩ : ∃ H, bdHop s0_0 s0_1 s0_2 s0_3 = H := ⟨_, rfl⟩
  simp only [eH] at hh rhh
  clear eH
  have qH : (H == H) = true := by simp
  have hr := fun W => brest_any s0_0 s0_1 s0_2 s0_3 W
  have rhr := fun W => rbrest_any s0_0 s0_1 s0_2 s0_3 W
  obtain ⟨Y, eY⟩ : ∃ Y, bdRest s0_0 s0_1 s0_2 s0_3 = Y := ⟨_, rfl⟩
  simp only [eY] at hr rhr
  clear eY
  have qY : (Y == Y) = true := by simp
  have he := fun W => berror_any s0_0 s0_1 s0_2 s0_3 a2 W
  have rhe := fun W => rberror_any s0_0 s0_1 s0_2 s0_3 a2 W
  obtain ⟨E, eE⟩ : ∃ E, bdError s0_0 s0_1 s0_2 s0_3 a2 = E := ⟨_, rfl⟩
  simp only [eE] at he rhe
  clear eE
  have qE : (E == E) = true := by simp
  go_enter Try.func3, Try.ntmps3
  go_upto_region 5 with (first
    | (go_at_call 9; refine (alive_yes _).mono ?_; rintro e wa ⟨rfl, hb⟩; replace HB := Lib.hid (HB.out.next hb); obtain ⟨c0, c1, c2, c3, _⟩ := HB.out.bd4; have HT := Lib.hid (And.intro (HB.out.alloc (.cells #[.int .i64 s0_0, .int .i64 s0_1, .int .i64 s0_2, .int .i64 s0_3] 25)) (Box.start wa 25 #[.int .i64 s0_0, .int .i64 s0_1, .int .i64 s0_2, .int .i64 s0_3])); obtain ⟨x0, x1, x2, x3, _⟩ := HT.out.1.bd4; obtain ⟨y0, y1, y2, y3, _⟩ := HT.out.2.bd4; clear hb)
    | (go_at_call 10; refine (bof_any s0_0 s0_1 s0_2 s0_3 0 0 0 0 _).mono ?_; rintro e wo ⟨rfl, hb⟩; have H3 := Lib.hid (And.intro ((HT.out.1.next hb).alloc (.cells #[.int .i64 s0_0, .int .i64 s0_1, .int .i64 s0_2, .int .i64 s0_3] 23)) (And.intro ((HT.out.2.next hb).alloc (.cells #[.int .i64 s0_0, .int .i64 s0_1, .int .i64 s0_2, .int .i64 s0_3] 23)) (Box.start wo 23 #[.int .i64 s0_0, .int .i64 s0_1, .int .i64 s0_2, .int .i64 s0_3]))); clear hb))
  refine region_turns (fun (w' : World) => w'.cell? ⟨w.heap.size, 0, none⟩ = some (.int .i64 s0_0) ∧ w'.cell? ⟨w.heap.size, 1, none⟩ = some (.int .i64 s0_1) ∧ w'.cell? ⟨w.heap.size, 2, none⟩ = some (.int .i64 s0_2) ∧ w'.cell? ⟨w.heap.size, 3, none⟩ = some (.int .i64 s0_3) ∧ w'.cell? ⟨wa.heap.size, 0, none⟩ = some (.int .i64 s0_0) ∧ w'.cell? ⟨wa.heap.size, 1, none⟩ = some (.int .i64 s0_1) ∧ w'.cell? ⟨wa.heap.size, 2, none⟩ = some (.int .i64 s0_2) ∧ w'.cell? ⟨wa.heap.size, 3, none⟩ = some (.int .i64 s0_3) ∧ w'.cell? ⟨wo.heap.size, 0, none⟩ = some (.int .i64 s0_0) ∧ w'.cell? ⟨wo.heap.size, 1, none⟩ = some (.int .i64 s0_1) ∧ w'.cell? ⟨wo.heap.size, 2, none⟩ = some (.int .i64 s0_2) ∧ w'.cell? ⟨wo.heap.size, 3, none⟩ = some (.int .i64 s0_3) ∧ Box w 23 #[.int .i64 s0_0, .int .i64 s0_1, .int .i64 s0_2, .int .i64 s0_3] w' ∧ Box wa 25 #[.int .i64 s0_0, .int .i64 s0_1, .int .i64 s0_2, .int .i64 s0_3] w' ∧ Box wo 23 #[.int .i64 s0_0, .int .i64 s0_1, .int .i64 s0_2, .int .i64 s0_3] w') (fun j => decide (52 ≤ j)) (by kernel_rfl) (three ⟨H3.out.1.drew, H3.out.2.1.drew, H3.out.2.2.drew⟩) (fun hS => ?_)
  refine Turns.take hS 0 _ rfl (by kernel_rfl) (by kernel_rfl) (by kernel_rfl) (by kernel_rfl) (fun _ _ _ h => h) (by rfl) (fun w' hS' => by (try dsimp only at hS'); go_split_ands; go_simp; (try with_reducible rfl)) ?_
  simp only [Act.put, List.getElem_toArray, List.getElem_cons_succ, List.getElem_cons_zero, List.setIfInBounds_toArray, List.set_cons_zero, List.set_cons_succ]
  refine Turns.take hS 2 _ rfl (by kernel_rfl) (by kernel_rfl) (by kernel_rfl) (by kernel_rfl) (fun _ _ _ h => h) (by rfl) (fun w' hS' => by (try dsimp only at hS'); go_split_ands; go_simp; (try with_reducible rfl)) ?_
  simp only [Act.put, List.getElem_toArray, List.getElem_cons_succ, List.getElem_cons_zero, List.setIfInBounds_toArray, List.set_cons_zero, List.set_cons_succ]
  refine Turns.next 1 rfl (by kernel_rfl) (by rfl) (fun K hK => ?_)
  go_simp
  go_at_call 11
  refine (hg _).mono ?_
  rintro e wn1 ⟨rfl, hb⟩
  replace H3 := Lib.hid (And.intro (hS.2.2.2.2.2.2.2.2.2.2.2.2.1.next hb) (And.intro (hS.2.2.2.2.2.2.2.2.2.2.2.2.2.1.next hb) (hS.2.2.2.2.2.2.2.2.2.2.2.2.2.2.next hb)))
  clear hb
  refine hK.out _ _ (show (fun (w' : World) => w'.cell? ⟨w.heap.size, 0, none⟩ = some (.int .i64 s0_0) ∧ w'.cell? ⟨w.heap.size, 1, none⟩ = some (.int .i64 s0_1) ∧ w'.cell? ⟨w.heap.size, 2, none⟩ = some (.int .i64 s0_2) ∧ w'.cell? ⟨w.heap.size, 3, none⟩ = some (.int .i64 s0_3) ∧ w'.cell? ⟨wa.heap.size, 0, none⟩ = some (.int .i64 s0_0) ∧ w'.cell? ⟨wa.heap.size, 1, none⟩ = some (.int .i64 s0_1) ∧ w'.cell? ⟨wa.heap.size, 2, none⟩ = some (.int .i64 s0_2) ∧ w'.cell? ⟨wa.heap.size, 3, none⟩ = some (.int .i64 s0_3) ∧ w'.cell? ⟨wo.heap.size, 0, none⟩ = some (.int .i64 s0_0) ∧ w'.cell? ⟨wo.heap.size, 1, none⟩ = some (.int .i64 s0_1) ∧ w'.cell? ⟨wo.heap.size, 2, none⟩ = some (.int .i64 s0_2) ∧ w'.cell? ⟨wo.heap.size, 3, none⟩ = some (.int .i64 s0_3) ∧ Box w 23 #[.int .i64 s0_0, .int .i64 s0_1, .int .i64 s0_2, .int .i64 s0_3] w' ∧ Box wa 25 #[.int .i64 s0_0, .int .i64 s0_1, .int .i64 s0_2, .int .i64 s0_3] w' ∧ Box wo 23 #[.int .i64 s0_0, .int .i64 s0_1, .int .i64 s0_2, .int .i64 s0_3] w') _ from three H3.out) ?_
  clear hK K hS
  have hS := (show (fun (w' : World) => w'.cell? ⟨w.heap.size, 0, none⟩ = some (.int .i64 s0_0) ∧ w'.cell? ⟨w.heap.size, 1, none⟩ = some (.int .i64 s0_1) ∧ w'.cell? ⟨w.heap.size, 2, none⟩ = some (.int .i64 s0_2) ∧ w'.cell? ⟨w.heap.size, 3, none⟩ = some (.int .i64 s0_3) ∧ w'.cell? ⟨wa.heap.size, 0, none⟩ = some (.int .i64 s0_0) ∧ w'.cell? ⟨wa.heap.size, 1, none⟩ = some (.int .i64 s0_1) ∧ w'.cell? ⟨wa.heap.size, 2, none⟩ = some (.int .i64 s0_2) ∧ w'.cell? ⟨wa.heap.size, 3, none⟩ = some (.int .i64 s0_3) ∧ w'.cell? ⟨wo.heap.size, 0, none⟩ = some (.int .i64 s0_0) ∧ w'.cell? ⟨wo.heap.size, 1, none⟩ = some (.int .i64 s0_1) ∧ w'.cell? ⟨wo.heap.size, 2, none⟩ = some (.int .i64 s0_2) ∧ w'.cell? ⟨wo.heap.size, 3, none⟩ = some (.int .i64 s0_3) ∧ Box w 23 #[.int .i64 s0_0, .int .i64 s0_1, .int .i64 s0_2, .int .i64 s0_3] w' ∧ Box wa 25 #[.int .i64 s0_0, .int .i64 s0_1, .int .i64 s0_2, .int .i64 s0_3] w' ∧ Box wo 23 #[.int .i64 s0_0, .int .i64 s0_1, .int .i64 s0_2, .int .i64 s0_3] w') _ from three H3.out)
  refine Turns.next 3 rfl (by kernel_rfl) (by rfl) (fun K hK => ?_)
  go_simp
  go_at_call 12
  refine (rhg _).mono ?_
  rintro e wn3 ⟨rfl, hb⟩
  replace H3 := Lib.hid (And.intro (hS.2.2.2.2.2.2.2.2.2.2.2.2.1.next hb) (And.intro (hS.2.2.2.2.2.2.2.2.2.2.2.2.2.1.next hb) (hS.2.2.2.2.2.2.2.2.2.2.2.2.2.2.next hb)))
  clear hb
  refine hK.out _ _ (show (fun (w' : World) => w'.cell? ⟨w.heap.size, 0, none⟩ = some (.int .i64 s0_0) ∧ w'.cell? ⟨w.heap.size, 1, none⟩ = some (.int .i64 s0_1) ∧ w'.cell? ⟨w.heap.size, 2, none⟩ = some (.int .i64 s0_2) ∧ w'.cell? ⟨w.heap.size, 3, none⟩ = some (.int .i64 s0_3) ∧ w'.cell? ⟨wa.heap.size, 0, none⟩ = some (.int .i64 s0_0) ∧ w'.cell? ⟨wa.heap.size, 1, none⟩ = some (.int .i64 s0_1) ∧ w'.cell? ⟨wa.heap.size, 2, none⟩ = some (.int .i64 s0_2) ∧ w'.cell? ⟨wa.heap.size, 3, none⟩ = some (.int .i64 s0_3) ∧ w'.cell? ⟨wo.heap.size, 0, none⟩ = some (.int .i64 s0_0) ∧ w'.cell? ⟨wo.heap.size, 1, none⟩ = some (.int .i64 s0_1) ∧ w'.cell? ⟨wo.heap.size, 2, none⟩ = some (.int .i64 s0_2) ∧ w'.cell? ⟨wo.heap.size, 3, none⟩ = some (.int .i64 s0_3) ∧ Box w 23 #[.int .i64 s0_0, .int .i64 s0_1, .int .i64 s0_2, .int .i64 s0_3] w' ∧ Box wa 25 #[.int .i64 s0_0, .int .i64 s0_1, .int .i64 s0_2, .int .i64 s0_3] w' ∧ Box wo 23 #[.int .i64 s0_0, .int .i64 s0_1, .int .i64 s0_2, .int .i64 s0_3] w') _ from three H3.out) ?_
  clear hK K hS
  have hS := (show (fun (w' : World) => w'.cell? ⟨w.heap.size, 0, none⟩ = some (.int .i64 s0_0) ∧ w'.cell? ⟨w.heap.size, 1, none⟩ = some (.int .i64 s0_1) ∧ w'.cell? ⟨w.heap.size, 2, none⟩ = some (.int .i64 s0_2) ∧ w'.cell? ⟨w.heap.size, 3, none⟩ = some (.int .i64 s0_3) ∧ w'.cell? ⟨wa.heap.size, 0, none⟩ = some (.int .i64 s0_0) ∧ w'.cell? ⟨wa.heap.size, 1, none⟩ = some (.int .i64 s0_1) ∧ w'.cell? ⟨wa.heap.size, 2, none⟩ = some (.int .i64 s0_2) ∧ w'.cell? ⟨wa.heap.size, 3, none⟩ = some (.int .i64 s0_3) ∧ w'.cell? ⟨wo.heap.size, 0, none⟩ = some (.int .i64 s0_0) ∧ w'.cell? ⟨wo.heap.size, 1, none⟩ = some (.int .i64 s0_1) ∧ w'.cell? ⟨wo.heap.size, 2, none⟩ = some (.int .i64 s0_2) ∧ w'.cell? ⟨wo.heap.size, 3, none⟩ = some (.int .i64 s0_3) ∧ Box w 23 #[.int .i64 s0_0, .int .i64 s0_1, .int .i64 s0_2, .int .i64 s0_3] w' ∧ Box wa 25 #[.int .i64 s0_0, .int .i64 s0_1, .int .i64 s0_2, .int .i64 s0_3] w' ∧ Box wo 23 #[.int .i64 s0_0, .int .i64 s0_1, .int .i64 s0_2, .int .i64 s0_3] w') _ from three H3.out)
  refine Turns.take hS 4 _ rfl (by kernel_rfl) (by kernel_rfl) (by kernel_rfl) (by kernel_rfl) (fun _ _ _ h => h) (by rfl) (fun w' hS' => by (try dsimp only at hS'); go_split_ands; go_simp; (try with_reducible rfl)) ?_
  simp only [Act.put, List.getElem_toArray, List.getElem_cons_succ, List.getElem_cons_zero, List.setIfInBounds_toArray, List.set_cons_zero, List.set_cons_succ]
  refine Turns.take hS 5 _ rfl (by kernel_rfl) (by kernel_rfl) (by kernel_rfl) (by kernel_rfl) (fun _ _ _ h => h) (by rfl) (fun w' hS' => by (try dsimp only at hS'); go_split_ands; go_simp; (try with_reducible rfl)) ?_
  simp only [Act.put, List.getElem_toArray, List.getElem_cons_succ, List.getElem_cons_zero, List.setIfInBounds_toArray, List.set_cons_zero, List.set_cons_succ]
  refine Turns.take hS 6 _ rfl (by kernel_rfl) (by kernel_rfl) (by kernel_rfl) (by kernel_rfl) (fun _ _ _ h => h) (by rfl) (fun w' hS' => by (try dsimp only at hS'); go_split_ands; go_simp; (try with_reducible rfl)) ?_
  simp only [Act.put, List.getElem_toArray, List.getElem_cons_succ, List.getElem_cons_zero, List.setIfInBounds_toArray, List.set_cons_zero, List.set_cons_succ]
  refine Turns.take hS 7 _ rfl (by kernel_rfl) (by kernel_rfl) (by kernel_rfl) (by kernel_rfl) (fun _ _ _ h => h) (by rfl) (fun w' hS' => by (try dsimp only at hS'); go_split_ands; go_simp; (try with_reducible rfl)) ?_
  simp only [Act.put, List.getElem_toArray, List.getElem_cons_succ, List.getElem_cons_zero, List.setIfInBounds_toArray, List.set_cons_zero, List.set_cons_succ]
  refine Turns.take hS 8 _ rfl (by kernel_rfl) (by kernel_rfl) (by kernel_rfl) (by kernel_rfl) (fun _ _ _ h => h) (by rfl) (fun w' hS' => by (try dsimp only at hS'); go_split_ands; go_simp; (try with_reducible rfl)) ?_
  simp only [Act.put, List.getElem_toArray, List.getElem_cons_succ, List.getElem_cons_zero, List.setIfInBounds_toArray, List.set_cons_zero, List.set_cons_succ]
  refine Turns.take hS 9 _ rfl (by kernel_rfl) (by kernel_rfl) (by kernel_rfl) (by kernel_rfl) (fun _ _ _ h => h) (by rfl) (fun w' hS' => by (try dsimp only at hS'); go_split_ands; go_simp; (try with_reducible rfl)) ?_
  simp only [Act.put, List.getElem_toArray, List.getElem_cons_succ, List.getElem_cons_zero, List.setIfInBounds_toArray, List.set_cons_zero, List.set_cons_succ]
  refine Turns.take hS 10 _ rfl (by kernel_rfl) (by kernel_rfl) (by kernel_rfl) (by kernel_rfl) (fun _ _ _ h => h) (by rfl) (fun w' hS' => by (try dsimp only at hS'); go_split_ands; go_simp; (try with_reducible rfl)) ?_
  simp only [Act.put, List.getElem_toArray, List.getElem_cons_succ, List.getElem_cons_zero, List.setIfInBounds_toArray, List.set_cons_zero, List.set_cons_succ]
  refine Turns.take hS 11 _ rfl (by kernel_rfl) (by kernel_rfl) (by kernel_rfl) (by kernel_rfl) (fun _ _ _ h => h) (by rfl) (fun w' hS' => by (try dsimp only at hS'); go_split_ands; go_simp; (try with_reducible rfl)) ?_
  simp only [Act.put, List.getElem_toArray, List.getElem_cons_succ, List.getElem_cons_zero, List.setIfInBounds_toArray, List.set_cons_zero, List.set_cons_succ]
  refine Turns.take hS 12 _ rfl (by kernel_rfl) (by kernel_rfl) (by kernel_rfl) (by kernel_rfl) (fun _ _ _ h => h) (by rfl) (fun w' hS' => by (try dsimp only at hS'); go_split_ands; go_simp; (try with_reducible rfl)) ?_
  simp only [Act.put, List.getElem_toArray, List.getElem_cons_succ, List.getElem_cons_zero, List.setIfInBounds_toArray, List.set_cons_zero, List.set_cons_succ]
  refine Turns.take hS 14 _ rfl (by kernel_rfl) (by kernel_rfl) (by kernel_rfl) (by kernel_rfl) (fun _ _ _ h => h) (by rfl) (fun w' hS' => by (try dsimp only at hS'); go_split_ands; go_simp; (try with_reducible rfl)) ?_
  simp only [Act.put, List.getElem_toArray, List.getElem_cons_succ, List.getElem_cons_zero, List.setIfInBounds_toArray, List.set_cons_zero, List.set_cons_succ]
  refine Turns.take hS 15 _ rfl (by kernel_rfl) (by kernel_rfl) (by kernel_rfl) (by kernel_rfl) (fun _ _ _ h => h) (by rfl) (fun w' hS' => by (try dsimp only at hS'); go_split_ands; go_simp; (try with_reducible rfl)) ?_
  simp only [Act.put, List.getElem_toArray, List.getElem_cons_succ, List.getElem_cons_zero, List.setIfInBounds_toArray, List.set_cons_zero, List.set_cons_succ]
  refine Turns.next 13 rfl (by kernel_rfl) (by rfl) (fun K hK => ?_)
  go_simp
  go_at_call 13
  refine (ht _).mono ?_
  rintro e wn13 ⟨rfl, hb⟩
  replace H3 := Lib.hid (And.intro (hS.2.2.2.2.2.2.2.2.2.2.2.2.1.next hb) (And.intro (hS.2.2.2.2.2.2.2.2.2.2.2.2.2.1.next hb) (hS.2.2.2.2.2.2.2.2.2.2.2.2.2.2.next hb)))
  clear hb
  refine hK.out _ _ (show (fun (w' : World) => w'.cell? ⟨w.heap.size, 0, none⟩ = some (.int .i64 s0_0) ∧ w'.cell? ⟨w.heap.size, 1, none⟩ = some (.int .i64 s0_1) ∧ w'.cell? ⟨w.heap.size, 2, none⟩ = some (.int .i64 s0_2) ∧ w'.cell? ⟨w.heap.size, 3, none⟩ = some (.int .i64 s0_3) ∧ w'.cell? ⟨wa.heap.size, 0, none⟩ = some (.int .i64 s0_0) ∧ w'.cell? ⟨wa.heap.size, 1, none⟩ = some (.int .i64 s0_1) ∧ w'.cell? ⟨wa.heap.size, 2, none⟩ = some (.int .i64 s0_2) ∧ w'.cell? ⟨wa.heap.size, 3, none⟩ = some (.int .i64 s0_3) ∧ w'.cell? ⟨wo.heap.size, 0, none⟩ = some (.int .i64 s0_0) ∧ w'.cell? ⟨wo.heap.size, 1, none⟩ = some (.int .i64 s0_1) ∧ w'.cell? ⟨wo.heap.size, 2, none⟩ = some (.int .i64 s0_2) ∧ w'.cell? ⟨wo.heap.size, 3, none⟩ = some (.int .i64 s0_3) ∧ Box w 23 #[.int .i64 s0_0, .int .i64 s0_1, .int .i64 s0_2, .int .i64 s0_3] w' ∧ Box wa 25 #[.int .i64 s0_0, .int .i64 s0_1, .int .i64 s0_2, .int .i64 s0_3] w' ∧ Box wo 23 #[.int .i64 s0_0, .int .i64 s0_1, .int .i64 s0_2, .int .i64 s0_3] w') _ from three H3.out) ?_
  clear hK K hS
  have hS := (show (fun (w' : World) => w'.cell? ⟨w.heap.size, 0, none⟩ = some (.int .i64 s0_0) ∧ w'.cell? ⟨w.heap.size, 1, none⟩ = some (.int .i64 s0_1) ∧ w'.cell? ⟨w.heap.size, 2, none⟩ = some (.int .i64 s0_2) ∧ w'.cell? ⟨w.heap.size, 3, none⟩ = some (.int .i64 s0_3) ∧ w'.cell? ⟨wa.heap.size, 0, none⟩ = some (.int .i64 s0_0) ∧ w'.cell? ⟨wa.heap.size, 1, none⟩ = some (.int .i64 s0_1) ∧ w'.cell? ⟨wa.heap.size, 2, none⟩ = some (.int .i64 s0_2) ∧ w'.cell? ⟨wa.heap.size, 3, none⟩ = some (.int .i64 s0_3) ∧ w'.cell? ⟨wo.heap.size, 0, none⟩ = some (.int .i64 s0_0) ∧ w'.cell? ⟨wo.heap.size, 1, none⟩ = some (.int .i64 s0_1) ∧ w'.cell? ⟨wo.heap.size, 2, none⟩ = some (.int .i64 s0_2) ∧ w'.cell? ⟨wo.heap.size, 3, none⟩ = some (.int .i64 s0_3) ∧ Box w 23 #[.int .i64 s0_0, .int .i64 s0_1, .int .i64 s0_2, .int .i64 s0_3] w' ∧ Box wa 25 #[.int .i64 s0_0, .int .i64 s0_1, .int .i64 s0_2, .int .i64 s0_3] w' ∧ Box wo 23 #[.int .i64 s0_0, .int .i64 s0_1, .int .i64 s0_2, .int .i64 s0_3] w') _ from three H3.out)
  refine Turns.next 16 rfl (by kernel_rfl) (by rfl) (fun K hK => ?_)
  go_simp
  go_at_call 14
  refine (rht _).mono ?_
  rintro e wn16 ⟨rfl, hb⟩
  replace H3 := Lib.hid (And.intro (hS.2.2.2.2.2.2.2.2.2.2.2.2.1.next hb) (And.intro (hS.2.2.2.2.2.2.2.2.2.2.2.2.2.1.next hb) (hS.2.2.2.2.2.2.2.2.2.2.2.2.2.2.next hb)))
  clear hb
  refine hK.out _ _ (show (fun (w' : World) => w'.cell? ⟨w.heap.size, 0, none⟩ = some (.int .i64 s0_0) ∧ w'.cell? ⟨w.heap.size, 1, none⟩ = some (.int .i64 s0_1) ∧ w'.cell? ⟨w.heap.size, 2, none⟩ = some (.int .i64 s0_2) ∧ w'.cell? ⟨w.heap.size, 3, none⟩ = some (.int .i64 s0_3) ∧ w'.cell? ⟨wa.heap.size, 0, none⟩ = some (.int .i64 s0_0) ∧ w'.cell? ⟨wa.heap.size, 1, none⟩ = some (.int .i64 s0_1) ∧ w'.cell? ⟨wa.heap.size, 2, none⟩ = some (.int .i64 s0_2) ∧ w'.cell? ⟨wa.heap.size, 3, none⟩ = some (.int .i64 s0_3) ∧ w'.cell? ⟨wo.heap.size, 0, none⟩ = some (.int .i64 s0_0) ∧ w'.cell? ⟨wo.heap.size, 1, none⟩ = some (.int .i64 s0_1) ∧ w'.cell? ⟨wo.heap.size, 2, none⟩ = some (.int .i64 s0_2) ∧ w'.cell? ⟨wo.heap.size, 3, none⟩ = some (.int .i64 s0_3) ∧ Box w 23 #[.int .i64 s0_0, .int .i64 s0_1, .int .i64 s0_2, .int .i64 s0_3] w' ∧ Box wa 25 #[.int .i64 s0_0, .int .i64 s0_1, .int .i64 s0_2, .int .i64 s0_3] w' ∧ Box wo 23 #[.int .i64 s0_0, .int .i64 s0_1, .int .i64 s0_2, .int .i64 s0_3] w') _ from three H3.out) ?_
  clear hK K hS
  have hS := (show (fun (w' : World) => w'.cell? ⟨w.heap.size, 0, none⟩ = some (.int .i64 s0_0) ∧ w'.cell? ⟨w.heap.size, 1, none⟩ = some (.int .i64 s0_1) ∧ w'.cell? ⟨w.heap.size, 2, none⟩ = some (.int .i64 s0_2) ∧ w'.cell? ⟨w.heap.size, 3, none⟩ = some (.int .i64 s0_3) ∧ w'.cell? ⟨wa.heap.size, 0, none⟩ = some (.int .i64 s0_0) ∧ w'.cell? ⟨wa.heap.size, 1, none⟩ = some (.int .i64 s0_1) ∧ w'.cell? ⟨wa.heap.size, 2, none⟩ = some (.int .i64 s0_2) ∧ w'.cell? ⟨wa.heap.size, 3, none⟩ = some (.int .i64 s0_3) ∧ w'.cell? ⟨wo.heap.size, 0, none⟩ = some (.int .i64 s0_0) ∧ w'.cell? ⟨wo.heap.size, 1, none⟩ = some (.int .i64 s0_1) ∧ w'.cell? ⟨wo.heap.size, 2, none⟩ = some (.int .i64 s0_2) ∧ w'.cell? ⟨wo.heap.size, 3, none⟩ = some (.int .i64 s0_3) ∧ Box w 23 #[.int .i64 s0_0, .int .i64 s0_1, .int .i64 s0_2, .int .i64 s0_3] w' ∧ Box wa 25 #[.int .i64 s0_0, .int .i64 s0_1, .int .i64 s0_2, .int .i64 s0_3] w' ∧ Box wo 23 #[.int .i64 s0_0, .int .i64 s0_1, .int .i64 s0_2, .int .i64 s0_3] w') _ from three H3.out)
  refine Turns.take hS 17 _ rfl (by kernel_rfl) (by kernel_rfl) (by kernel_rfl) (by kernel_rfl) (fun _ _ _ h => h) (by rfl) (fun w' hS' => by (try dsimp only at hS'); go_split_ands; go_simp; (try with_reducible rfl)) ?_
  simp only [Act.put, List.getElem_toArray, List.getElem_cons_succ, List.getElem_cons_zero, List.setIfInBounds_toArray, List.set_cons_zero, List.set_cons_succ]
  refine Turns.take hS 18 _ rfl (by kernel_rfl) (by kernel_rfl) (by kernel_rfl) (by kernel_rfl) (fun _ _ _ h => h) (by rfl) (fun w' hS' => by (try dsimp only at hS'); go_split_ands; go_simp; (try with_reducible rfl)) ?_
  simp only [Act.put, List.getElem_toArray, List.getElem_cons_succ, List.getElem_cons_zero, List.setIfInBounds_toArray, List.set_cons_zero, List.set_cons_succ]
  refine Turns.take hS 19 _ rfl (by kernel_rfl) (by kernel_rfl) (by kernel_rfl) (by kernel_rfl) (fun _ _ _ h => h) (by rfl) (fun w' hS' => by (try dsimp only at hS'); go_split_ands; go_simp; (try with_reducible rfl)) ?_
  simp only [Act.put, List.getElem_toArray, List.getElem_cons_succ, List.getElem_cons_zero, List.setIfInBounds_toArray, List.set_cons_zero, List.set_cons_succ]
  refine Turns.take hS 20 _ rfl (by kernel_rfl) (by kernel_rfl) (by kernel_rfl) (by kernel_rfl) (fun _ _ _ h => h) (by rfl) (fun w' hS' => by (try dsimp only at hS'); go_split_ands; go_simp; (try with_reducible rfl)) ?_
  simp only [Act.put, List.getElem_toArray, List.getElem_cons_succ, List.getElem_cons_zero, List.setIfInBounds_toArray, List.set_cons_zero, List.set_cons_succ]
  refine Turns.take hS 21 _ rfl (by kernel_rfl) (by kernel_rfl) (by kernel_rfl) (by kernel_rfl) (fun _ _ _ h => h) (by rfl) (fun w' hS' => by (try dsimp only at hS'); go_split_ands; go_simp; (try with_reducible rfl)) ?_
  simp only [Act.put, List.getElem_toArray, List.getElem_cons_succ, List.getElem_cons_zero, List.setIfInBounds_toArray, List.set_cons_zero, List.set_cons_succ]
  refine Turns.take hS 23 _ rfl (by kernel_rfl) (by kernel_rfl) (by kernel_rfl) (by kernel_rfl) (fun _ _ _ h => h) (by rfl) (fun w' hS' => by (try dsimp only at hS'); go_split_ands; go_simp; (try with_reducible rfl)) ?_
  simp only [Act.put, List.getElem_toArray, List.getElem_cons_succ, List.getElem_cons_zero, List.setIfInBounds_toArray, List.set_cons_zero, List.set_cons_succ]
  refine Turns.take hS 24 _ rfl (by kernel_rfl) (by kernel_rfl) (by kernel_rfl) (by kernel_rfl) (fun _ _ _ h => h) (by rfl) (fun w' hS' => by (try dsimp only at hS'); go_split_ands; go_simp; (try with_reducible rfl)) ?_
  simp only [Act.put, List.getElem_toArray, List.getElem_cons_succ, List.getElem_cons_zero, List.setIfInBounds_toArray, List.set_cons_zero, List.set_cons_succ]
  refine Turns.next 22 rfl (by kernel_rfl) (by rfl) (fun K hK => ?_)
  go_simp
  go_at_call 15
  refine (hl _).mono ?_
  rintro e wn22 ⟨rfl, hb⟩
  replace H3 := Lib.hid (And.intro (hS.2.2.2.2.2.2.2.2.2.2.2.2.1.next hb) (And.intro (hS.2.2.2.2.2.2.2.2.2.2.2.2.2.1.next hb) (hS.2.2.2.2.2.2.2.2.2.2.2.2.2.2.next hb)))
  clear hb
  refine hK.out _ _ (show (fun (w' : World) => w'.cell? ⟨w.heap.size, 0, none⟩ = some (.int .i64 s0_0) ∧ w'.cell? ⟨w.heap.size, 1, none⟩ = some (.int .i64 s0_1) ∧ w'.cell? ⟨w.heap.size, 2, none⟩ = some (.int .i64 s0_2) ∧ w'.cell? ⟨w.heap.size, 3, none⟩ = some (.int .i64 s0_3) ∧ w'.cell? ⟨wa.heap.size, 0, none⟩ = some (.int .i64 s0_0) ∧ w'.cell? ⟨wa.heap.size, 1, none⟩ = some (.int .i64 s0_1) ∧ w'.cell? ⟨wa.heap.size, 2, none⟩ = some (.int .i64 s0_2) ∧ w'.cell? ⟨wa.heap.size, 3, none⟩ = some (.int .i64 s0_3) ∧ w'.cell? ⟨wo.heap.size, 0, none⟩ = some (.int .i64 s0_0) ∧ w'.cell? ⟨wo.heap.size, 1, none⟩ = some (.int .i64 s0_1) ∧ w'.cell? ⟨wo.heap.size, 2, none⟩ = some (.int .i64 s0_2) ∧ w'.cell? ⟨wo.heap.size, 3, none⟩ = some (.int .i64 s0_3) ∧ Box w 23 #[.int .i64 s0_0, .int .i64 s0_1, .int .i64 s0_2, .int .i64 s0_3] w' ∧ Box wa 25 #[.int .i64 s0_0, .int .i64 s0_1, .int .i64 s0_2, .int .i64 s0_3] w' ∧ Box wo 23 #[.int .i64 s0_0, .int .i64 s0_1, .int .i64 s0_2, .int .i64 s0_3] w') _ from three H3.out) ?_
  clear hK K hS
  have hS := (show (fun (w' : World) => w'.cell? ⟨w.heap.size, 0, none⟩ = some (.int .i64 s0_0) ∧ w'.cell? ⟨w.heap.size, 1, none⟩ = some (.int .i64 s0_1) ∧ w'.cell? ⟨w.heap.size, 2, none⟩ = some (.int .i64 s0_2) ∧ w'.cell? ⟨w.heap.size, 3, none⟩ = some (.int .i64 s0_3) ∧ w'.cell? ⟨wa.heap.size, 0, none⟩ = some (.int .i64 s0_0) ∧ w'.cell? ⟨wa.heap.size, 1, none⟩ = some (.int .i64 s0_1) ∧ w'.cell? ⟨wa.heap.size, 2, none⟩ = some (.int .i64 s0_2) ∧ w'.cell? ⟨wa.heap.size, 3, none⟩ = some (.int .i64 s0_3) ∧ w'.cell? ⟨wo.heap.size, 0, none⟩ = some (.int .i64 s0_0) ∧ w'.cell? ⟨wo.heap.size, 1, none⟩ = some (.int .i64 s0_1) ∧ w'.cell? ⟨wo.heap.size, 2, none⟩ = some (.int .i64 s0_2) ∧ w'.cell? ⟨wo.heap.size, 3, none⟩ = some (.int .i64 s0_3) ∧ Box w 23 #[.int .i64 s0_0, .int .i64 s0_1, .int .i64 s0_2, .int .i64 s0_3] w' ∧ Box wa 25 #[.int .i64 s0_0, .int .i64 s0_1, .int .i64 s0_2, .int .i64 s0_3] w' ∧ Box wo 23 #[.int .i64 s0_0, .int .i64 s0_1, .int .i64 s0_2, .int .i64 s0_3] w') _ from three H3.out)
  refine Turns.next 25 rfl (by kernel_rfl) (by rfl) (fun K hK => ?_)
  go_simp
  go_at_call 16
  refine (rhl _).mono ?_
  rintro e wn25 ⟨rfl, hb⟩
  replace H3 := Lib.hid (And.intro (hS.2.2.2.2.2.2.2.2.2.2.2.2.1.next hb) (And.intro (hS.2.2.2.2.2.2.2.2.2.2.2.2.2.1.next hb) (hS.2.2.2.2.2.2.2.2.2.2.2.2.2.2.next hb)))
  clear hb
  refine hK.out _ _ (show (fun (w' : World) => w'.cell? ⟨w.heap.size, 0, none⟩ = some (.int .i64 s0_0) ∧ w'.cell? ⟨w.heap.size, 1, none⟩ = some (.int .i64 s0_1) ∧ w'.cell? ⟨w.heap.size, 2, none⟩ = some (.int .i64 s0_2) ∧ w'.cell? ⟨w.heap.size, 3, none⟩ = some (.int .i64 s0_3) ∧ w'.cell? ⟨wa.heap.size, 0, none⟩ = some (.int .i64 s0_0) ∧ w'.cell? ⟨wa.heap.size, 1, none⟩ = some (.int .i64 s0_1) ∧ w'.cell? ⟨wa.heap.size, 2, none⟩ = some (.int .i64 s0_2) ∧ w'.cell? ⟨wa.heap.size, 3, none⟩ = some (.int .i64 s0_3) ∧ w'.cell? ⟨wo.heap.size, 0, none⟩ = some (.int .i64 s0_0) ∧ w'.cell? ⟨wo.heap.size, 1, none⟩ = some (.int .i64 s0_1) ∧ w'.cell? ⟨wo.heap.size, 2, none⟩ = some (.int .i64 s0_2) ∧ w'.cell? ⟨wo.heap.size, 3, none⟩ = some (.int .i64 s0_3) ∧ Box w 23 #[.int .i64 s0_0, .int .i64 s0_1, .int .i64 s0_2, .int .i64 s0_3] w' ∧ Box wa 25 #[.int .i64 s0_0, .int .i64 s0_1, .int .i64 s0_2, .int .i64 s0_3] w' ∧ Box wo 23 #[.int .i64 s0_0, .int .i64 s0_1, .int .i64 s0_2, .int .i64 s0_3] w') _ from three H3.out) ?_
  clear hK K hS
  have hS := (show (fun (w' : World) => w'.cell? ⟨w.heap.size, 0, none⟩ = some (.int .i64 s0_0) ∧ w'.cell? ⟨w.heap.size, 1, none⟩ = some (.int .i64 s0_1) ∧ w'.cell? ⟨w.heap.size, 2, none⟩ = some (.int .i64 s0_2) ∧ w'.cell? ⟨w.heap.size, 3, none⟩ = some (.int .i64 s0_3) ∧ w'.cell? ⟨wa.heap.size, 0, none⟩ = some (.int .i64 s0_0) ∧ w'.cell? ⟨wa.heap.size, 1, none⟩ = some (.int .i64 s0_1) ∧ w'.cell? ⟨wa.heap.size, 2, none⟩ = some (.int .i64 s0_2) ∧ w'.cell? ⟨wa.heap.size, 3, none⟩ = some (.int .i64 s0_3) ∧ w'.cell? ⟨wo.heap.size, 0, none⟩ = some (.int .i64 s0_0) ∧ w'.cell? ⟨wo.heap.size, 1, none⟩ = some (.int .i64 s0_1) ∧ w'.cell? ⟨wo.heap.size, 2, none⟩ = some (.int .i64 s0_2) ∧ w'.cell? ⟨wo.heap.size, 3, none⟩ = some (.int .i64 s0_3) ∧ Box w 23 #[.int .i64 s0_0, .int .i64 s0_1, .int .i64 s0_2, .int .i64 s0_3] w' ∧ Box wa 25 #[.int .i64 s0_0, .int .i64 s0_1, .int .i64 s0_2, .int .i64 s0_3] w' ∧ Box wo 23 #[.int .i64 s0_0, .int .i64 s0_1, .int .i64 s0_2, .int .i64 s0_3] w') _ from three H3.out)
  refine Turns.take hS 26 _ rfl (by kernel_rfl) (by kernel_rfl) (by kernel_rfl) (by kernel_rfl) (fun _ _ _ h => h) (by rfl) (fun w' hS' => by (try dsimp only at hS'); go_split_ands; go_simp; (try with_reducible rfl)) ?_
  simp only [Act.put, List.getElem_toArray, List.getElem_cons_succ, List.getElem_cons_zero, List.setIfInBounds_toArray, List.set_cons_zero, List.set_cons_succ]
  refine Turns.take hS 27 _ rfl (by kernel_rfl) (by kernel_rfl) (by kernel_rfl) (by kernel_rfl) (fun _ _ _ h => h) (by rfl) (fun w' hS' => by (try dsimp only at hS'); go_split_ands; go_simp; (try with_reducible rfl)) ?_
  simp only [Act.put, List.getElem_toArray, List.getElem_cons_succ, List.getElem_cons_zero, List.setIfInBounds_toArray, List.set_cons_zero, List.set_cons_succ]
  refine Turns.take hS 28 _ rfl (by kernel_rfl) (by kernel_rfl) (by kernel_rfl) (by kernel_rfl) (fun _ _ _ h => h) (by rfl) (fun w' hS' => by (try dsimp only at hS'); go_split_ands; go_simp; (try with_reducible rfl)) ?_
  simp only [Act.put, List.getElem_toArray, List.getElem_cons_succ, List.getElem_cons_zero, List.setIfInBounds_toArray, List.set_cons_zero, List.set_cons_succ]
  refine Turns.take hS 29 _ rfl (by kernel_rfl) (by kernel_rfl) (by kernel_rfl) (by kernel_rfl) (fun _ _ _ h => h) (by rfl) (fun w' hS' => by (try dsimp only at hS'); go_split_ands; go_simp; (try with_reducible rfl)) ?_
  simp only [Act.put, List.getElem_toArray, List.getElem_cons_succ, List.getElem_cons_zero, List.setIfInBounds_toArray, List.set_cons_zero, List.set_cons_succ]
  refine Turns.take hS 31 _ rfl (by kernel_rfl) (by kernel_rfl) (by kernel_rfl) (by kernel_rfl) (fun _ _ _ h => h) (by rfl) (fun w' hS' => by (try dsimp only at hS'); go_split_ands; go_simp; (try with_reducible rfl)) ?_
  simp only [Act.put, List.getElem_toArray, List.getElem_cons_succ, List.getElem_cons_zero, List.setIfInBounds_toArray, List.set_cons_zero, List.set_cons_succ]
  refine Turns.next 30 rfl (by kernel_rfl) (by rfl) (fun K hK => ?_)
  go_simp
  go_at_call 17
  refine (hh _).mono ?_
  rintro e wn30 ⟨rfl, hb⟩
  replace H3 := Lib.hid (And.intro (hS.2.2.2.2.2.2.2.2.2.2.2.2.1.next hb) (And.intro (hS.2.2.2.2.2.2.2.2.2.2.2.2.2.1.next hb) (hS.2.2.2.2.2.2.2.2.2.2.2.2.2.2.next hb)))
  clear hb
  refine hK.out _ _ (show (fun (w' : World) => w'.cell? ⟨w.heap.size, 0, none⟩ = some (.int .i64 s0_0) ∧ w'.cell? ⟨w.heap.size, 1, none⟩ = some (.int .i64 s0_1) ∧ w'.cell? ⟨w.heap.size, 2, none⟩ = some (.int .i64 s0_2) ∧ w'.cell? ⟨w.heap.size, 3, none⟩ = some (.int .i64 s0_3) ∧ w'.cell? ⟨wa.heap.size, 0, none⟩ = some (.int .i64 s0_0) ∧ w'.cell? ⟨wa.heap.size, 1, none⟩ = some (.int .i64 s0_1) ∧ w'.cell? ⟨wa.heap.size, 2, none⟩ = some (.int .i64 s0_2) ∧ w'.cell? ⟨wa.heap.size, 3, none⟩ = some (.int .i64 s0_3) ∧ w'.cell? ⟨wo.heap.size, 0, none⟩ = some (.int .i64 s0_0) ∧ w'.cell? ⟨wo.heap.size, 1, none⟩ = some (.int .i64 s0_1) ∧ w'.cell? ⟨wo.heap.size, 2, none⟩ = some (.int .i64 s0_2) ∧ w'.cell? ⟨wo.heap.size, 3, none⟩ = some (.int .i64 s0_3) ∧ Box w 23 #[.int .i64 s0_0, .int .i64 s0_1, .int .i64 s0_2, .int .i64 s0_3] w' ∧ Box wa 25 #[.int .i64 s0_0, .int .i64 s0_1, .int .i64 s0_2, .int .i64 s0_3] w' ∧ Box wo 23 #[.int .i64 s0_0, .int .i64 s0_1, .int .i64 s0_2, .int .i64 s0_3] w') _ from three H3.out) ?_
  clear hK K hS
  have hS := (show (fun (w' : World) => w'.cell? ⟨w.heap.size, 0, none⟩ = some (.int .i64 s0_0) ∧ w'.cell? ⟨w.heap.size, 1, none⟩ = some (.int .i64 s0_1) ∧ w'.cell? ⟨w.heap.size, 2, none⟩ = some (.int .i64 s0_2) ∧ w'.cell? ⟨w.heap.size, 3, none⟩ = some (.int .i64 s0_3) ∧ w'.cell? ⟨wa.heap.size, 0, none⟩ = some (.int .i64 s0_0) ∧ w'.cell? ⟨wa.heap.size, 1, none⟩ = some (.int .i64 s0_1) ∧ w'.cell? ⟨wa.heap.size, 2, none⟩ = some (.int .i64 s0_2) ∧ w'.cell? ⟨wa.heap.size, 3, none⟩ = some (.int .i64 s0_3) ∧ w'.cell? ⟨wo.heap.size, 0, none⟩ = some (.int .i64 s0_0) ∧ w'.cell? ⟨wo.heap.size, 1, none⟩ = some (.int .i64 s0_1) ∧ w'.cell? ⟨wo.heap.size, 2, none⟩ = some (.int .i64 s0_2) ∧ w'.cell? ⟨wo.heap.size, 3, none⟩ = some (.int .i64 s0_3) ∧ Box w 23 #[.int .i64 s0_0, .int .i64 s0_1, .int .i64 s0_2, .int .i64 s0_3] w' ∧ Box wa 25 #[.int .i64 s0_0, .int .i64 s0_1, .int .i64 s0_2, .int .i64 s0_3] w' ∧ Box wo 23 #[.int .i64 s0_0, .int .i64 s0_1, .int .i64 s0_2, .int .i64 s0_3] w') _ from three H3.out)
  refine Turns.next 32 rfl (by kernel_rfl) (by rfl) (fun K hK => ?_)
  go_simp
  go_at_call 18
  refine (rhh _).mono ?_
  rintro e wn32 ⟨rfl, hb⟩
  replace H3 := Lib.hid (And.intro (hS.2.2.2.2.2.2.2.2.2.2.2.2.1.next hb) (And.intro (hS.2.2.2.2.2.2.2.2.2.2.2.2.2.1.next hb) (hS.2.2.2.2.2.2.2.2.2.2.2.2.2.2.next hb)))
  clear hb
  refine hK.out _ _ (show (fun (w' : World) => w'.cell? ⟨w.heap.size, 0, none⟩ = some (.int .i64 s0_0) ∧ w'.cell? ⟨w.heap.size, 1, none⟩ = some (.int .i64 s0_1) ∧ w'.cell? ⟨w.heap.size, 2, none⟩ = some (.int .i64 s0_2) ∧ w'.cell? ⟨w.heap.size, 3, none⟩ = some (.int .i64 s0_3) ∧ w'.cell? ⟨wa.heap.size, 0, none⟩ = some (.int .i64 s0_0) ∧ w'.cell? ⟨wa.heap.size, 1, none⟩ = some (.int .i64 s0_1) ∧ w'.cell? ⟨wa.heap.size, 2, none⟩ = some (.int .i64 s0_2) ∧ w'.cell? ⟨wa.heap.size, 3, none⟩ = some (.int .i64 s0_3) ∧ w'.cell? ⟨wo.heap.size, 0, none⟩ = some (.int .i64 s0_0) ∧ w'.cell? ⟨wo.heap.size, 1, none⟩ = some (.int .i64 s0_1) ∧ w'.cell? ⟨wo.heap.size, 2, none⟩ = some (.int .i64 s0_2) ∧ w'.cell? ⟨wo.heap.size, 3, none⟩ = some (.int .i64 s0_3) ∧ Box w 23 #[.int .i64 s0_0, .int .i64 s0_1, .int .i64 s0_2, .int .i64 s0_3] w' ∧ Box wa 25 #[.int .i64 s0_0, .int .i64 s0_1, .int .i64 s0_2, .int .i64 s0_3] w' ∧ Box wo 23 #[.int .i64 s0_0, .int .i64 s0_1, .int .i64 s0_2, .int .i64 s0_3] w') _ from three H3.out) ?_
  clear hK K hS
  have hS := (show (fun (w' : World) => w'.cell? ⟨w.heap.size, 0, none⟩ = some (.int .i64 s0_0) ∧ w'.cell? ⟨w.heap.size, 1, none⟩ = some (.int .i64 s0_1) ∧ w'.cell? ⟨w.heap.size, 2, none⟩ = some (.int .i64 s0_2) ∧ w'.cell? ⟨w.heap.size, 3, none⟩ = some (.int .i64 s0_3) ∧ w'.cell? ⟨wa.heap.size, 0, none⟩ = some (.int .i64 s0_0) ∧ w'.cell? ⟨wa.heap.size, 1, none⟩ = some (.int .i64 s0_1) ∧ w'.cell? ⟨wa.heap.size, 2, none⟩ = some (.int .i64 s0_2) ∧ w'.cell? ⟨wa.heap.size, 3, none⟩ = some (.int .i64 s0_3) ∧ w'.cell? ⟨wo.heap.size, 0, none⟩ = some (.int .i64 s0_0) ∧ w'.cell? ⟨wo.heap.size, 1, none⟩ = some (.int .i64 s0_1) ∧ w'.cell? ⟨wo.heap.size, 2, none⟩ = some (.int .i64 s0_2) ∧ w'.cell? ⟨wo.heap.size, 3, none⟩ = some (.int .i64 s0_3) ∧ Box w 23 #[.int .i64 s0_0, .int .i64 s0_1, .int .i64 s0_2, .int .i64 s0_3] w' ∧ Box wa 25 #[.int .i64 s0_0, .int .i64 s0_1, .int .i64 s0_2, .int .i64 s0_3] w' ∧ Box wo 23 #[.int .i64 s0_0, .int .i64 s0_1, .int .i64 s0_2, .int .i64 s0_3] w') _ from three H3.out)
  refine Turns.take hS 33 _ rfl (by kernel_rfl) (by kernel_rfl) (by kernel_rfl) (by kernel_rfl) (fun _ _ _ h => h) (by rfl) (fun w' hS' => by (try dsimp only at hS'); go_split_ands; go_simp; (try with_reducible rfl)) ?_
  simp only [Act.put, List.getElem_toArray, List.getElem_cons_succ, List.getElem_cons_zero, List.setIfInBounds_toArray, List.set_cons_zero, List.set_cons_succ]
  refine Turns.take hS 34 _ rfl (by kernel_rfl) (by kernel_rfl) (by kernel_rfl) (by kernel_rfl) (fun _ _ _ h => h) (by rfl) (fun w' hS' => by (try dsimp only at hS'); go_split_ands; go_simp; (try with_reducible rfl)) ?_
  simp only [Act.put, List.getElem_toArray, List.getElem_cons_succ, List.getElem_cons_zero, List.setIfInBounds_toArray, List.set_cons_zero, List.set_cons_succ]
  refine Turns.take hS 35 _ rfl (by kernel_rfl) (by kernel_rfl) (by kernel_rfl) (by kernel_rfl) (fun _ _ _ h => h) (by rfl) (fun w' hS' => by (try dsimp only at hS'); go_split_ands; go_simp; (try with_reducible rfl)) ?_
  simp only [Act.put, List.getElem_toArray, List.getElem_cons_succ, List.getElem_cons_zero, List.setIfInBounds_toArray, List.set_cons_zero, List.set_cons_succ]
  refine Turns.take hS 36 _ rfl (by kernel_rfl) (by kernel_rfl) (by kernel_rfl) (by kernel_rfl) (fun _ _ _ h => h) (by rfl) (fun w' hS' => by (try dsimp only at hS'); go_split_ands; go_simp; (try with_reducible rfl)) ?_
  simp only [Act.put, List.getElem_toArray, List.getElem_cons_succ, List.getElem_cons_zero, List.setIfInBounds_toArray, List.set_cons_zero, List.set_cons_succ]
  refine Turns.take hS 38 _ rfl (by kernel_rfl) (by kernel_rfl) (by kernel_rfl) (by kernel_rfl) (fun _ _ _ h => h) (by rfl) (fun w' hS' => by (try dsimp only at hS'); go_split_ands; go_simp; (try with_reducible rfl)) ?_
  simp only [Act.put, List.getElem_toArray, List.getElem_cons_succ, List.getElem_cons_zero, List.setIfInBounds_toArray, List.set_cons_zero, List.set_cons_succ]
  refine Turns.next 37 rfl (by kernel_rfl) (by rfl) (fun K hK => ?_)
  go_simp
  go_at_call 19
  refine (hr _).mono ?_
  rintro e wn37 ⟨rfl, hb⟩
  replace H3 := Lib.hid (And.intro (hS.2.2.2.2.2.2.2.2.2.2.2.2.1.next hb) (And.intro (hS.2.2.2.2.2.2.2.2.2.2.2.2.2.1.next hb) (hS.2.2.2.2.2.2.2.2.2.2.2.2.2.2.next hb)))
  clear hb
  refine hK.out _ _ (show (fun (w' : World) => w'.cell? ⟨w.heap.size, 0, none⟩ = some (.int .i64 s0_0) ∧ w'.cell? ⟨w.heap.size, 1, none⟩ = some (.int .i64 s0_1) ∧ w'.cell? ⟨w.heap.size, 2, none⟩ = some (.int .i64 s0_2) ∧ w'.cell? ⟨w.heap.size, 3, none⟩ = some (.int .i64 s0_3) ∧ w'.cell? ⟨wa.heap.size, 0, none⟩ = some (.int .i64 s0_0) ∧ w'.cell? ⟨wa.heap.size, 1, none⟩ = some (.int .i64 s0_1) ∧ w'.cell? ⟨wa.heap.size, 2, none⟩ = some (.int .i64 s0_2) ∧ w'.cell? ⟨wa.heap.size, 3, none⟩ = some (.int .i64 s0_3) ∧ w'.cell? ⟨wo.heap.size, 0, none⟩ = some (.int .i64 s0_0) ∧ w'.cell? ⟨wo.heap.size, 1, none⟩ = some (.int .i64 s0_1) ∧ w'.cell? ⟨wo.heap.size, 2, none⟩ = some (.int .i64 s0_2) ∧ w'.cell? ⟨wo.heap.size, 3, none⟩ = some (.int .i64 s0_3) ∧ Box w 23 #[.int .i64 s0_0, .int .i64 s0_1, .int .i64 s0_2, .int .i64 s0_3] w' ∧ Box wa 25 #[.int .i64 s0_0, .int .i64 s0_1, .int .i64 s0_2, .int .i64 s0_3] w' ∧ Box wo 23 #[.int .i64 s0_0, .int .i64 s0_1, .int .i64 s0_2, .int .i64 s0_3] w') _ from three H3.out) ?_
  clear hK K hS
  have hS := (show (fun (w' : World) => w'.cell? ⟨w.heap.size, 0, none⟩ = some (.int .i64 s0_0) ∧ w'.cell? ⟨w.heap.size, 1, none⟩ = some (.int .i64 s0_1) ∧ w'.cell? ⟨w.heap.size, 2, none⟩ = some (.int .i64 s0_2) ∧ w'.cell? ⟨w.heap.size, 3, none⟩ = some (.int .i64 s0_3) ∧ w'.cell? ⟨wa.heap.size, 0, none⟩ = some (.int .i64 s0_0) ∧ w'.cell? ⟨wa.heap.size, 1, none⟩ = some (.int .i64 s0_1) ∧ w'.cell? ⟨wa.heap.size, 2, none⟩ = some (.int .i64 s0_2) ∧ w'.cell? ⟨wa.heap.size, 3, none⟩ = some (.int .i64 s0_3) ∧ w'.cell? ⟨wo.heap.size, 0, none⟩ = some (.int .i64 s0_0) ∧ w'.cell? ⟨wo.heap.size, 1, none⟩ = some (.int .i64 s0_1) ∧ w'.cell? ⟨wo.heap.size, 2, none⟩ = some (.int .i64 s0_2) ∧ w'.cell? ⟨wo.heap.size, 3, none⟩ = some (.int .i64 s0_3) ∧ Box w 23 #[.int .i64 s0_0, .int .i64 s0_1, .int .i64 s0_2, .int .i64 s0_3] w' ∧ Box wa 25 #[.int .i64 s0_0, .int .i64 s0_1, .int .i64 s0_2, .int .i64 s0_3] w' ∧ Box wo 23 #[.int .i64 s0_0, .int .i64 s0_1, .int .i64 s0_2, .int .i64 s0_3] w') _ from three H3.out)
  refine Turns.next 39 rfl (by kernel_rfl) (by rfl) (fun K hK => ?_)
  go_simp
  go_at_call 20
  refine (rhr _).mono ?_
  rintro e wn39 ⟨rfl, hb⟩
  replace H3 := Lib.hid (And.intro (hS.2.2.2.2.2.2.2.2.2.2.2.2.1.next hb) (And.intro (hS.2.2.2.2.2.2.2.2.2.2.2.2.2.1.next hb) (hS.2.2.2.2.2.2.2.2.2.2.2.2.2.2.next hb)))
  clear hb
  refine hK.out _ _ (show (fun (w' : World) => w'.cell? ⟨w.heap.size, 0, none⟩ = some (.int .i64 s0_0) ∧ w'.cell? ⟨w.heap.size, 1, none⟩ = some (.int .i64 s0_1) ∧ w'.cell? ⟨w.heap.size, 2, none⟩ = some (.int .i64 s0_2) ∧ w'.cell? ⟨w.heap.size, 3, none⟩ = some (.int .i64 s0_3) ∧ w'.cell? ⟨wa.heap.size, 0, none⟩ = some (.int .i64 s0_0) ∧ w'.cell? ⟨wa.heap.size, 1, none⟩ = some (.int .i64 s0_1) ∧ w'.cell? ⟨wa.heap.size, 2, none⟩ = some (.int .i64 s0_2) ∧ w'.cell? ⟨wa.heap.size, 3, none⟩ = some (.int .i64 s0_3) ∧ w'.cell? ⟨wo.heap.size, 0, none⟩ = some (.int .i64 s0_0) ∧ w'.cell? ⟨wo.heap.size, 1, none⟩ = some (.int .i64 s0_1) ∧ w'.cell? ⟨wo.heap.size, 2, none⟩ = some (.int .i64 s0_2) ∧ w'.cell? ⟨wo.heap.size, 3, none⟩ = some (.int .i64 s0_3) ∧ Box w 23 #[.int .i64 s0_0, .int .i64 s0_1, .int .i64 s0_2, .int .i64 s0_3] w' ∧ Box wa 25 #[.int .i64 s0_0, .int .i64 s0_1, .int .i64 s0_2, .int .i64 s0_3] w' ∧ Box wo 23 #[.int .i64 s0_0, .int .i64 s0_1, .int .i64 s0_2, .int .i64 s0_3] w') _ from three H3.out) ?_
  clear hK K hS
  have hS := (show (fun (w' : World) => w'.cell? ⟨w.heap.size, 0, none⟩ = some (.int .i64 s0_0) ∧ w'.cell? ⟨w.heap.size, 1, none⟩ = some (.int .i64 s0_1) ∧ w'.cell? ⟨w.heap.size, 2, none⟩ = some (.int .i64 s0_2) ∧ w'.cell? ⟨w.heap.size, 3, none⟩ = some (.int .i64 s0_3) ∧ w'.cell? ⟨wa.heap.size, 0, none⟩ = some (.int .i64 s0_0) ∧ w'.cell? ⟨wa.heap.size, 1, none⟩ = some (.int .i64 s0_1) ∧ w'.cell? ⟨wa.heap.size, 2, none⟩ = some (.int .i64 s0_2) ∧ w'.cell? ⟨wa.heap.size, 3, none⟩ = some (.int .i64 s0_3) ∧ w'.cell? ⟨wo.heap.size, 0, none⟩ = some (.int .i64 s0_0) ∧ w'.cell? ⟨wo.heap.size, 1, none⟩ = some (.int .i64 s0_1) ∧ w'.cell? ⟨wo.heap.size, 2, none⟩ = some (.int .i64 s0_2) ∧ w'.cell? ⟨wo.heap.size, 3, none⟩ = some (.int .i64 s0_3) ∧ Box w 23 #[.int .i64 s0_0, .int .i64 s0_1, .int .i64 s0_2, .int .i64 s0_3] w' ∧ Box wa 25 #[.int .i64 s0_0, .int .i64 s0_1, .int .i64 s0_2, .int .i64 s0_3] w' ∧ Box wo 23 #[.int .i64 s0_0, .int .i64 s0_1, .int .i64 s0_2, .int .i64 s0_3] w') _ from three H3.out)
  refine Turns.take hS 40 _ rfl (by kernel_rfl) (by kernel_rfl) (by kernel_rfl) (by kernel_rfl) (fun _ _ _ h => h) (by rfl) (fun w' hS' => by (try dsimp only at hS'); go_split_ands; go_simp; (try with_reducible rfl)) ?_
  simp only [Act.put, List.getElem_toArray, List.getElem_cons_succ, List.getElem_cons_zero, List.setIfInBounds_toArray, List.set_cons_zero, List.set_cons_succ]
  refine Turns.take hS 41 _ rfl (by kernel_rfl) (by kernel_rfl) (by kernel_rfl) (by kernel_rfl) (fun _ _ _ h => h) (by rfl) (fun w' hS' => by (try dsimp only at hS'); go_split_ands; go_simp; (try with_reducible rfl)) ?_
  simp only [Act.put, List.getElem_toArray, List.getElem_cons_succ, List.getElem_cons_zero, List.setIfInBounds_toArray, List.set_cons_zero, List.set_cons_succ]
  refine Turns.take hS 42 _ rfl (by kernel_rfl) (by kernel_rfl) (by kernel_rfl) (by kernel_rfl) (fun _ _ _ h => h) (by rfl) (fun w' hS' => by (try dsimp only at hS'); go_split_ands; go_simp; (try with_reducible rfl)) ?_
  simp only [Act.put, List.getElem_toArray, List.getElem_cons_succ, List.getElem_cons_zero, List.setIfInBounds_toArray, List.set_cons_zero, List.set_cons_succ]
  refine Turns.take hS 43 _ rfl (by kernel_rfl) (by kernel_rfl) (by kernel_rfl) (by kernel_rfl) (fun _ _ _ h => h) (by rfl) (fun w' hS' => by (try dsimp only at hS'); go_split_ands; go_simp; (try with_reducible rfl)) ?_
  simp only [Act.put, List.getElem_toArray, List.getElem_cons_succ, List.getElem_cons_zero, List.setIfInBounds_toArray, List.set_cons_zero, List.set_cons_succ]
  refine Turns.take hS 44 _ rfl (by kernel_rfl) (by kernel_rfl) (by kernel_rfl) (by kernel_rfl) (fun _ _ _ h => h) (by rfl) (fun w' hS' => by (try dsimp only at hS'); go_split_ands; go_simp; (try with_reducible rfl)) ?_
  simp only [Act.put, List.getElem_toArray, List.getElem_cons_succ, List.getElem_cons_zero, List.setIfInBounds_toArray, List.set_cons_zero, List.set_cons_succ]
  refine Turns.take hS 46 _ rfl (by kernel_rfl) (by kernel_rfl) (by kernel_rfl) (by kernel_rfl) (fun _ _ _ h => h) (by rfl) (fun w' hS' => by (try dsimp only at hS'); go_split_ands; go_simp; (try with_reducible rfl)) ?_
  simp only [Act.put, List.getElem_toArray, List.getElem_cons_succ, List.getElem_cons_zero, List.setIfInBounds_toArray, List.set_cons_zero, List.set_cons_succ]
  refine Turns.take hS 47 _ rfl (by kernel_rfl) (by kernel_rfl) (by kernel_rfl) (by kernel_rfl) (fun _ _ _ h => h) (by rfl) (fun w' hS' => by (try dsimp only at hS'); go_split_ands; go_simp; (try with_reducible rfl)) ?_
  simp only [Act.put, List.getElem_toArray, List.getElem_cons_succ, List.getElem_cons_zero, List.setIfInBounds_toArray, List.set_cons_zero, List.set_cons_succ]
  refine Turns.next 45 rfl (by kernel_rfl) (by rfl) (fun K hK => ?_)
  go_simp
  go_at_call 21
  refine (he _).mono ?_
  rintro e wn45 ⟨rfl, hb⟩
  replace H3 := Lib.hid (And.intro (hS.2.2.2.2.2.2.2.2.2.2.2.2.1.next hb) (And.intro (hS.2.2.2.2.2.2.2.2.2.2.2.2.2.1.next hb) (hS.2.2.2.2.2.2.2.2.2.2.2.2.2.2.next hb)))
  clear hb
  refine hK.out _ _ (show (fun (w' : World) => w'.cell? ⟨w.heap.size, 0, none⟩ = some (.int .i64 s0_0) ∧ w'.cell? ⟨w.heap.size, 1, none⟩ = some (.int .i64 s0_1) ∧ w'.cell? ⟨w.heap.size, 2, none⟩ = some (.int .i64 s0_2) ∧ w'.cell? ⟨w.heap.size, 3, none⟩ = some (.int .i64 s0_3) ∧ w'.cell? ⟨wa.heap.size, 0, none⟩ = some (.int .i64 s0_0) ∧ w'.cell? ⟨wa.heap.size, 1, none⟩ = some (.int .i64 s0_1) ∧ w'.cell? ⟨wa.heap.size, 2, none⟩ = some (.int .i64 s0_2) ∧ w'.cell? ⟨wa.heap.size, 3, none⟩ = some (.int .i64 s0_3) ∧ w'.cell? ⟨wo.heap.size, 0, none⟩ = some (.int .i64 s0_0) ∧ w'.cell? ⟨wo.heap.size, 1, none⟩ = some (.int .i64 s0_1) ∧ w'.cell? ⟨wo.heap.size, 2, none⟩ = some (.int .i64 s0_2) ∧ w'.cell? ⟨wo.heap.size, 3, none⟩ = some (.int .i64 s0_3) ∧ Box w 23 #[.int .i64 s0_0, .int .i64 s0_1, .int .i64 s0_2, .int .i64 s0_3] w' ∧ Box wa 25 #[.int .i64 s0_0, .int .i64 s0_1, .int .i64 s0_2, .int .i64 s0_3] w' ∧ Box wo 23 #[.int .i64 s0_0, .int .i64 s0_1, .int .i64 s0_2, .int .i64 s0_3] w') _ from three H3.out) ?_
  clear hK K hS
  have hS := (show (fun (w' : World) => w'.cell? ⟨w.heap.size, 0, none⟩ = some (.int .i64 s0_0) ∧ w'.cell? ⟨w.heap.size, 1, none⟩ = some (.int .i64 s0_1) ∧ w'.cell? ⟨w.heap.size, 2, none⟩ = some (.int .i64 s0_2) ∧ w'.cell? ⟨w.heap.size, 3, none⟩ = some (.int .i64 s0_3) ∧ w'.cell? ⟨wa.heap.size, 0, none⟩ = some (.int .i64 s0_0) ∧ w'.cell? ⟨wa.heap.size, 1, none⟩ = some (.int .i64 s0_1) ∧ w'.cell? ⟨wa.heap.size, 2, none⟩ = some (.int .i64 s0_2) ∧ w'.cell? ⟨wa.heap.size, 3, none⟩ = some (.int .i64 s0_3) ∧ w'.cell? ⟨wo.heap.size, 0, none⟩ = some (.int .i64 s0_0) ∧ w'.cell? ⟨wo.heap.size, 1, none⟩ = some (.int .i64 s0_1) ∧ w'.cell? ⟨wo.heap.size, 2, none⟩ = some (.int .i64 s0_2) ∧ w'.cell? ⟨wo.heap.size, 3, none⟩ = some (.int .i64 s0_3) ∧ Box w 23 #[.int .i64 s0_0, .int .i64 s0_1, .int .i64 s0_2, .int .i64 s0_3] w' ∧ Box wa 25 #[.int .i64 s0_0, .int .i64 s0_1, .int .i64 s0_2, .int .i64 s0_3] w' ∧ Box wo 23 #[.int .i64 s0_0, .int .i64 s0_1, .int .i64 s0_2, .int .i64 s0_3] w') _ from three H3.out)
  refine Turns.next 48 rfl (by kernel_rfl) (by rfl) (fun K hK => ?_)
  go_simp
  go_at_call 22
  refine (rhe _).mono ?_
  rintro e wn48 ⟨rfl, hb⟩
  replace H3 := Lib.hid (And.intro (hS.2.2.2.2.2.2.2.2.2.2.2.2.1.next hb) (And.intro (hS.2.2.2.2.2.2.2.2.2.2.2.2.2.1.next hb) (hS.2.2.2.2.2.2.2.2.2.2.2.2.2.2.next hb)))
  clear hb
  refine hK.out _ _ (show (fun (w' : World) => w'.cell? ⟨w.heap.size, 0, none⟩ = some (.int .i64 s0_0) ∧ w'.cell? ⟨w.heap.size, 1, none⟩ = some (.int .i64 s0_1) ∧ w'.cell? ⟨w.heap.size, 2, none⟩ = some (.int .i64 s0_2) ∧ w'.cell? ⟨w.heap.size, 3, none⟩ = some (.int .i64 s0_3) ∧ w'.cell? ⟨wa.heap.size, 0, none⟩ = some (.int .i64 s0_0) ∧ w'.cell? ⟨wa.heap.size, 1, none⟩ = some (.int .i64 s0_1) ∧ w'.cell? ⟨wa.heap.size, 2, none⟩ = some (.int .i64 s0_2) ∧ w'.cell? ⟨wa.heap.size, 3, none⟩ = some (.int .i64 s0_3) ∧ w'.cell? ⟨wo.heap.size, 0, none⟩ = some (.int .i64 s0_0) ∧ w'.cell? ⟨wo.heap.size, 1, none⟩ = some (.int .i64 s0_1) ∧ w'.cell? ⟨wo.heap.size, 2, none⟩ = some (.int .i64 s0_2) ∧ w'.cell? ⟨wo.heap.size, 3, none⟩ = some (.int .i64 s0_3) ∧ Box w 23 #[.int .i64 s0_0, .int .i64 s0_1, .int .i64 s0_2, .int .i64 s0_3] w' ∧ Box wa 25 #[.int .i64 s0_0, .int .i64 s0_1, .int .i64 s0_2, .int .i64 s0_3] w' ∧ Box wo 23 #[.int .i64 s0_0, .int .i64 s0_1, .int .i64 s0_2, .int .i64 s0_3] w') _ from three H3.out) ?_
  clear hK K hS
  have hS := (show (fun (w' : World) => w'.cell? ⟨w.heap.size, 0, none⟩ = some (.int .i64 s0_0) ∧ w'.cell? ⟨w.heap.size, 1, none⟩ = some (.int .i64 s0_1) ∧ w'.cell? ⟨w.heap.size, 2, none⟩ = some (.int .i64 s0_2) ∧ w'.cell? ⟨w.heap.size, 3, none⟩ = some (.int .i64 s0_3) ∧ w'.cell? ⟨wa.heap.size, 0, none⟩ = some (.int .i64 s0_0) ∧ w'.cell? ⟨wa.heap.size, 1, none⟩ = some (.int .i64 s0_1) ∧ w'.cell? ⟨wa.heap.size, 2, none⟩ = some (.int .i64 s0_2) ∧ w'.cell? ⟨wa.heap.size, 3, none⟩ = some (.int .i64 s0_3) ∧ w'.cell? ⟨wo.heap.size, 0, none⟩ = some (.int .i64 s0_0) ∧ w'.cell? ⟨wo.heap.size, 1, none⟩ = some (.int .i64 s0_1) ∧ w'.cell? ⟨wo.heap.size, 2, none⟩ = some (.int .i64 s0_2) ∧ w'.cell? ⟨wo.heap.size, 3, none⟩ = some (.int .i64 s0_3) ∧ Box w 23 #[.int .i64 s0_0, .int .i64 s0_1, .int .i64 s0_2, .int .i64 s0_3] w' ∧ Box wa 25 #[.int .i64 s0_0, .int .i64 s0_1, .int .i64 s0_2, .int .i64 s0_3] w' ∧ Box wo 23 #[.int .i64 s0_0, .int .i64 s0_1, .int .i64 s0_2, .int .i64 s0_3] w') _ from three H3.out)
  refine Turns.take hS 49 _ rfl (by kernel_rfl) (by kernel_rfl) (by kernel_rfl) (by kernel_rfl) (fun _ _ _ h => h) (by rfl) (fun w' hS' => by (try dsimp only at hS'); go_split_ands; go_simp; (try with_reducible rfl)) ?_
  simp only [Act.put, List.getElem_toArray, List.getElem_cons_succ, List.getElem_cons_zero, List.setIfInBounds_toArray, List.set_cons_zero, List.set_cons_succ]
  refine Turns.take hS 50 _ rfl (by kernel_rfl) (by kernel_rfl) (by kernel_rfl) (by kernel_rfl) (fun _ _ _ h => h) (by rfl) (fun w' hS' => by (try dsimp only at hS'); go_split_ands; go_simp; (try with_reducible rfl)) ?_
  simp only [Act.put, List.getElem_toArray, List.getElem_cons_succ, List.getElem_cons_zero, List.setIfInBounds_toArray, List.set_cons_zero, List.set_cons_succ]
  refine Turns.take hS 51 _ rfl (by kernel_rfl) (by kernel_rfl) (by kernel_rfl) (by kernel_rfl) (fun _ _ _ h => h) (by rfl) (fun w' hS' => by (try dsimp only at hS'); go_split_ands; go_simp; (try with_reducible rfl)) ?_
  simp only [Act.put, List.getElem_toArray, List.getElem_cons_succ, List.getElem_cons_zero, List.setIfInBounds_toArray, List.set_cons_zero, List.set_cons_succ]
  refine Turns.rest (late_done (by kernel_rfl)) ?_
  refine any_tail 52 (by rfl) (by kernel_rfl) ?_
  simp only [List.drop_succ_cons, List.drop_zero]
  clear hS
  go_wp2
  go_ret
  exact ⟨rfl, H3.out.1.below⟩

set_option maxRecDepth 100000 in
theorem lifted (os : Os) (started : os.Started) (H : Type) (enc : TypeId × Value → H) :
    ReturnsInHanded {} Try.checked os 3 .any (Rows.boundIsSpec.pre6 enc Try.prog Try.f3 Rows.boundIsRow.domain false) (Rows.boundIsSpec.post enc Try.prog Try.f3 false true false false) := by
  refine returnsInHanded_of_change (C := Try.checked) own started (by kernel_rfl) Try.func3
    (ChangeSpec.witness6 (enc := enc) (C := Try.checked) false ⟨#[], #[.agg #[.int .i64 0, .int .i64 0, .int .i64 0, .int .i64 0], .int .i64 0, .int .i64 0], []⟩ 8 (by kernel_rfl) (by kernel_rfl) (by kernel_rfl) (by kernel_rfl)) ?_
  intro W base args ds gs before hval0 hW hcnd _
  have hval : ∀ (j : Nat) t v, Try.f3.params[j]? = some t → args[j]? = some v → Value.okWide Try.prog W .any base t v := hval0
  have hW' := hW
  obtain ⟨p, q, hA0, hV, rfl, hfz, hnd⟩ := hW
  have hA : DataW.TrodAll enc Try.prog W 0 (fun _ => true) true Try.f3.params.toList args.toList ds p := hA0
  have hAk := hA
  rw [Try.params3] at hA hval
  obtain ⟨v0, vs0, d0, ds0, p0, q0, hargs, rfl, hp, h0, r0⟩ := trodAll_cons hA
  obtain ⟨v1, vs1, d1, ds1, p1, q1, rfl, rfl, rfl, h1, r1⟩ := trodAll_cons r0
  obtain ⟨v2, vs2, d2, ds2, p2, q2, rfl, rfl, rfl, h2, r2⟩ := trodAll_cons r1
  obtain ⟨rfl, rfl, rfl⟩ := trodAll_nil r2
  obtain rfl : args = #[v0, v1, v2] := by cases args; simp_all
  obtain ⟨rfl, rfl⟩ := trodVars_none hV
  clear hA0 hval0 hargs
  simp only [List.append_nil] at hW'
  have hend : ∀ W' : World, Below W.heap.size W W' → Rows.boundIsSpec.post enc Try.prog Try.f3 false true false false W #[v0, v1, v2] (.bool true) W' := fun W' hb =>
    law_post (tb := 4) hW' hAk rfl (by kernel_rfl) (by kernel_rfl) (by kernel_rfl) Try.underlying4 rfl rfl rfl hb
  clear hW' hAk hp
  obtain ⟨ns0, rfl, hl0, hw0⟩ := ints_struct (ks := [.i64, .i64, .i64, .i64]) Try.underlying23 (by kernel_rfl) (by kernel_rfl) (by kernel_rfl) (hval 0 23 v0 rfl rfl) h0
  obtain ⟨s0_0, s0_1, s0_2, s0_3, rfl⟩ := split4 hl0
  clear hl0
  obtain ⟨a1, rfl, rfl, rfl, w1⟩ := open_int Try.underlying3 (hval 1 3 v1 rfl rfl) h1
  obtain ⟨a2, rfl, rfl, rfl, w2⟩ := open_int Try.underlying3 (hval 2 3 v2 rfl rfl) h2
  refine (walk s0_0 s0_1 s0_2 s0_3 a1 a2 W (hw0 0 _ _ rfl rfl) (hw0 1 _ _ rfl rfl) (hw0 2 _ _ rfl rfl) (hw0 3 _ _ rfl rfl) w1 w2).mono fun e W' ⟨he, hg⟩ => ?_
  subst he
  exact ⟨_, rfl, hend W' hg⟩

theorem over : Rows.boundIsRow.holds Try.pinned (OpenSpec.ofChange Rows.boundIsSpec) :=
  OpenClaim.holds_of_wide 3 Try.f3 rfl rfl rfl rfl rfl rfl rfl ⟨rfl, rfl, rfl, rfl, rfl⟩ rfl rfl rfl rfl rfl (by kernel_rfl) Try.func3 (by kernel_rfl)
    (of_decide_eq_true (by kernel_rfl)) (by unfold Func.isWrapper; first | (rw [if_pos (by decide +kernel)]; kernel_rfl) | (rw [if_neg (by decide +kernel)]; exact ⟨rfl, rfl⟩))
    (fun os started H enc _ => lifted os started H enc)

/-- THE STATEMENT -/
theorem proved : Rows.BoundIsSaid :=
  over
#print axioms proved
end Go.Proofs.Ytgcmeoogmjganaa.boundIs
