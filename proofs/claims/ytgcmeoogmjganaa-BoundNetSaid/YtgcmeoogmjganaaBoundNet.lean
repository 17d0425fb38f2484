/-
  All bounds of nets are the document's formulas, of all nets and numbers: for all nets and timeouts the law answers true; without conditions.
  The walk is the prover's own; the frame of the row's step follows the kit's template.
-/
import Derived.Test.YtgcmeoogmjganaaRows
import Derived.Test.YtgcmeoogmjganaaLawKit
import Derived.Test.YtgcmeoogmjganaaStructArg
import Derived.Test.YtgcmeoogmjganaaBdH
import Derived.IntWalk
import Derived.LoopTactic
import Derived.Deep.CutBlock
import Derived.Deep.CutRange
import Derived.BigQuiet
namespace Go.Proofs.Ytgcmeoogmjganaa.boundNet
open Go.ChangeShapes Go.WideShapes Go.ChangeAt Go.RowKit Go.ChangeMaps Go.WideElems
set_option linter.unusedVariables false

theorem split5 {ns : List Int} (h : ns.length = 5) : ∃ s0_0 s0_1 s0_2 s0_3 s0_4 : Int, ns = [s0_0, s0_1, s0_2, s0_3, s0_4] := by
  match ns, h with
  | [y0, y1, y2, y3, y4], _ => exact ⟨_, _, _, _, _, rfl⟩
theorem own : ownKnob Try.prog.godebug = none := by kernel_rfl
theorem two5 {w0 w1 W : World} {t0 t1 : TypeId} {a b c d f : Value} (h : Box w0 t0 #[a, b, c, d, f] W ∧ Box w1 t1 #[a, b, c, d, f] W) :
    W.cell? ⟨w0.heap.size, 0, none⟩ = some a ∧ W.cell? ⟨w0.heap.size, 1, none⟩ = some b ∧ W.cell? ⟨w0.heap.size, 2, none⟩ = some c ∧ W.cell? ⟨w0.heap.size, 3, none⟩ = some d ∧ W.cell? ⟨w0.heap.size, 4, none⟩ = some f ∧
    W.cell? ⟨w1.heap.size, 0, none⟩ = some a ∧ W.cell? ⟨w1.heap.size, 1, none⟩ = some b ∧ W.cell? ⟨w1.heap.size, 2, none⟩ = some c ∧ W.cell? ⟨w1.heap.size, 3, none⟩ = some d ∧ W.cell? ⟨w1.heap.size, 4, none⟩ = some f ∧
    Box w0 t0 #[a, b, c, d, f] W ∧ Box w1 t1 #[a, b, c, d, f] W :=
  ⟨h.1.holds.cell 0, h.1.holds.cell 1, h.1.holds.cell 2, h.1.holds.cell 3, h.1.holds.cell 4, h.2.holds.cell 0, h.2.holds.cell 1, h.2.holds.cell 2, h.2.holds.cell 3, h.2.holds.cell 4, h⟩
set_option linter.unusedSimpArgs false in
set_option maxHeartbeats 8000000 in
set_option maxRecDepth 100000 in
theorem walk (s0_0 s0_1 s0_2 s0_3 s0_4 : Int) (a1 : Int) (w : World) (w0_0 : (Lit.int .i64 s0_0).wf = true) (w0_1 : (Lit.int .i64 s0_1).wf = true) (w0_2 : (Lit.int .i64 s0_2).wf = true) (w0_3 : (Lit.int .i64 s0_3).wf = true) (w0_4 : (Lit.int .i64 s0_4).wf = true) (w1 : (Lit.int .i64 a1).wf = true) :
    Calls Try.prog 4 #[.agg #[.int .i64 s0_0, .int .i64 s0_1, .int .i64 s0_2, .int .i64 s0_3, .int .i64 s0_4], .int .i64 a1] w fun e w' => e = .returned (.bool true) ∧ Below w.heap.size w w' := by
  have HB := Lib.hid (Box.start w 40 #[.int .i64 s0_0, .int .i64 s0_1, .int .i64 s0_2, .int .i64 s0_3, .int .i64 s0_4])
  obtain ⟨c0, c1, c2, c3, c4, _⟩ := HB.out.bd5
  have hg := fun W => ngood_any s0_0 s0_1 s0_2 s0_3 s0_4 W
  have rhg := fun W => rcan_any s0_0 s0_1 s0_2 s0_3 s0_4 W
  have hb_ := fun W => behind_any s0_0 s0_1 s0_2 s0_3 s0_4 W
  have rhb := fun W => rbehind_any s0_0 s0_1 s0_2 s0_3 s0_4 W
  have hp := fun W => patience_any s0_0 s0_1 s0_2 s0_3 s0_4 W
  have hs := fun W => settle_any s0_0 s0_1 s0_2 s0_3 s0_4 a1 W
  have rhs := fun W => rsettle_any s0_0 s0_1 s0_2 s0_3 s0_4 a1 W
  have bb := ntBehind_bd s0_0 s0_1 s0_2 s0_3 s0_4
  obtain ⟨Z, eZ⟩ : ∃ Z, ntSettle s0_0 s0_1 s0_2 s0_3 s0_4 a1 = Z := ⟨_, rfl⟩
  simp only [eZ] at hs rhs
  clear eZ
  have qZ : (Z == Z) = true := by simp
  cases eg : ntGood s0_0 s0_1 s0_2 s0_3 s0_4
  · have z1 : ntBehind s0_0 s0_1 s0_2 s0_3 s0_4 = 0 := by unfold ntBehind; rw [if_neg]; rw [eg]; exact Bool.false_ne_true
    have z2 : ntPatience s0_0 s0_1 s0_2 s0_3 s0_4 = 0 := by unfold ntPatience; rw [if_neg]; rw [eg]; exact Bool.false_ne_true
    simp only [eg] at hg rhg
    simp only [z1] at hb_ rhb
    simp only [z2] at hp
    clear z1 z2 eg bb
    go_enter Try.func4, Try.ntmps4
    go_upto_region 7 with (first
      | (go_at_call 9; refine (alive_yes _).mono ?_; rintro e wa ⟨rfl, hb⟩; replace HB := Lib.hid (HB.out.next hb); obtain ⟨c0, c1, c2, c3, c4, _⟩ := HB.out.bd5; have HT := Lib.hid (And.intro (HB.out.alloc (.cells #[.int .i64 s0_0, .int .i64 s0_1, .int .i64 s0_2, .int .i64 s0_3, .int .i64 s0_4] 41)) (Box.start wa 41 #[.int .i64 s0_0, .int .i64 s0_1, .int .i64 s0_2, .int .i64 s0_3, .int .i64 s0_4])); obtain ⟨x0, x1, x2, x3, x4, y0, y1, y2, y3, y4, _⟩ := two5 HT.out; clear hb)
      | (go_at_call 23; refine (rhg _).mono ?_; rintro e wx ⟨rfl, hb⟩; replace HT := Lib.hid (And.intro (HT.out.1.next hb) (HT.out.2.next hb)); obtain ⟨x0, x1, x2, x3, x4, y0, y1, y2, y3, y4, _⟩ := two5 HT.out; clear hb)
      | (go_at_call 24; refine (rhb _).mono ?_; rintro e wx ⟨rfl, hb⟩; replace HT := Lib.hid (And.intro (HT.out.1.next hb) (HT.out.2.next hb)); obtain ⟨x0, x1, x2, x3, x4, y0, y1, y2, y3, y4, _⟩ := two5 HT.out; clear hb))
    refine region_turns (fun (w' : World) => w'.cell? ⟨w.heap.size, 0, none⟩ = some (.int .i64 s0_0) ∧ w'.cell? ⟨w.heap.size, 1, none⟩ = some (.int .i64 s0_1) ∧ w'.cell? ⟨w.heap.size, 2, none⟩ = some (.int .i64 s0_2) ∧ w'.cell? ⟨w.heap.size, 3, none⟩ = some (.int .i64 s0_3) ∧ w'.cell? ⟨w.heap.size, 4, none⟩ = some (.int .i64 s0_4) ∧ w'.cell? ⟨wa.heap.size, 0, none⟩ = some (.int .i64 s0_0) ∧ w'.cell? ⟨wa.heap.size, 1, none⟩ = some (.int .i64 s0_1) ∧ w'.cell? ⟨wa.heap.size, 2, none⟩ = some (.int .i64 s0_2) ∧ w'.cell? ⟨wa.heap.size, 3, none⟩ = some (.int .i64 s0_3) ∧ w'.cell? ⟨wa.heap.size, 4, none⟩ = some (.int .i64 s0_4) ∧ Box w 40 #[.int .i64 s0_0, .int .i64 s0_1, .int .i64 s0_2, .int .i64 s0_3, .int .i64 s0_4] w' ∧ Box wa 41 #[.int .i64 s0_0, .int .i64 s0_1, .int .i64 s0_2, .int .i64 s0_3, .int .i64 s0_4] w') (fun j => decide (28 ≤ j)) (by kernel_rfl) (two5 ⟨HT.out.1.drew, HT.out.2.drew⟩) (fun hS => ?_)
    refine Turns.take hS 0 _ rfl (by kernel_rfl) (by kernel_rfl) (by kernel_rfl) (by kernel_rfl) (fun _ _ _ h => h) (by rfl) (fun w' hS' => by (try dsimp only at hS'); go_split_ands; go_simp; (try with_reducible rfl)) ?_
    simp only [Act.put, List.getElem_toArray, List.getElem_cons_succ, List.getElem_cons_zero, List.setIfInBounds_toArray, List.set_cons_zero, List.set_cons_succ]
    refine Turns.take hS 2 _ rfl (by kernel_rfl) (by kernel_rfl) (by kernel_rfl) (by kernel_rfl) (fun _ _ _ h => h) (by rfl) (fun w' hS' => by (try dsimp only at hS'); go_split_ands; go_simp; (try with_reducible rfl)) ?_
    simp only [Act.put, List.getElem_toArray, List.getElem_cons_succ, List.getElem_cons_zero, List.setIfInBounds_toArray, List.set_cons_zero, List.set_cons_succ]
    refine Turns.next 1 rfl (by kernel_rfl) (by rfl) (fun K hK => ?_)
    go_simp
    go_at_call 25
    refine (hg _).mono ?_
    rintro e wn1 ⟨rfl, hb⟩
    replace HT := Lib.hid (And.intro (hS.2.2.2.2.2.2.2.2.2.2.1.next hb) (hS.2.2.2.2.2.2.2.2.2.2.2.next hb))
    clear hb
    refine hK.out _ _ (show (fun (w' : World) => w'.cell? ⟨w.heap.size, 0, none⟩ = some (.int .i64 s0_0) ∧ w'.cell? ⟨w.heap.size, 1, none⟩ = some (.int .i64 s0_1) ∧ w'.cell? ⟨w.heap.size, 2, none⟩ = some (.int .i64 s0_2) ∧ w'.cell? ⟨w.heap.size, 3, none⟩ = some (.int .i64 s0_3) ∧ w'.cell? ⟨w.heap.size, 4, none⟩ = some (.int .i64 s0_4) ∧ w'.cell? ⟨wa.heap.size, 0, none⟩ = some (.int .i64 s0_0) ∧ w'.cell? ⟨wa.heap.size, 1, none⟩ = some (.int .i64 s0_1) ∧ w'.cell? ⟨wa.heap.size, 2, none⟩ = some (.int .i64 s0_2) ∧ w'.cell? ⟨wa.heap.size, 3, none⟩ = some (.int .i64 s0_3) ∧ w'.cell? ⟨wa.heap.size, 4, none⟩ = some (.int .i64 s0_4) ∧ Box w 40 #[.int .i64 s0_0, .int .i64 s0_1, .int .i64 s0_2, .int .i64 s0_3, .int .i64 s0_4] w' ∧ Box wa 41 #[.int .i64 s0_0, .int .i64 s0_1, .int .i64 s0_2, .int .i64 s0_3, .int .i64 s0_4] w') _ from two5 HT.out) ?_
    clear hK K hS
    have hS := (show (fun (w' : World) => w'.cell? ⟨w.heap.size, 0, none⟩ = some (.int .i64 s0_0) ∧ w'.cell? ⟨w.heap.size, 1, none⟩ = some (.int .i64 s0_1) ∧ w'.cell? ⟨w.heap.size, 2, none⟩ = some (.int .i64 s0_2) ∧ w'.cell? ⟨w.heap.size, 3, none⟩ = some (.int .i64 s0_3) ∧ w'.cell? ⟨w.heap.size, 4, none⟩ = some (.int .i64 s0_4) ∧ w'.cell? ⟨wa.heap.size, 0, none⟩ = some (.int .i64 s0_0) ∧ w'.cell? ⟨wa.heap.size, 1, none⟩ = some (.int .i64 s0_1) ∧ w'.cell? ⟨wa.heap.size, 2, none⟩ = some (.int .i64 s0_2) ∧ w'.cell? ⟨wa.heap.size, 3, none⟩ = some (.int .i64 s0_3) ∧ w'.cell? ⟨wa.heap.size, 4, none⟩ = some (.int .i64 s0_4) ∧ Box w 40 #[.int .i64 s0_0, .int .i64 s0_1, .int .i64 s0_2, .int .i64 s0_3, .int .i64 s0_4] w' ∧ Box wa 41 #[.int .i64 s0_0, .int .i64 s0_1, .int .i64 s0_2, .int .i64 s0_3, .int .i64 s0_4] w') _ from two5 HT.out)
    refine Turns.next 3 rfl (by kernel_rfl) (by rfl) (fun K hK => ?_)
    go_simp
    go_at_call 23
    refine (rhg _).mono ?_
    rintro e wn3 ⟨rfl, hb⟩
    replace HT := Lib.hid (And.intro (hS.2.2.2.2.2.2.2.2.2.2.1.next hb) (hS.2.2.2.2.2.2.2.2.2.2.2.next hb))
    clear hb
    refine hK.out _ _ (show (fun (w' : World) => w'.cell? ⟨w.heap.size, 0, none⟩ = some (.int .i64 s0_0) ∧ w'.cell? ⟨w.heap.size, 1, none⟩ = some (.int .i64 s0_1) ∧ w'.cell? ⟨w.heap.size, 2, none⟩ = some (.int .i64 s0_2) ∧ w'.cell? ⟨w.heap.size, 3, none⟩ = some (.int .i64 s0_3) ∧ w'.cell? ⟨w.heap.size, 4, none⟩ = some (.int .i64 s0_4) ∧ w'.cell? ⟨wa.heap.size, 0, none⟩ = some (.int .i64 s0_0) ∧ w'.cell? ⟨wa.heap.size, 1, none⟩ = some (.int .i64 s0_1) ∧ w'.cell? ⟨wa.heap.size, 2, none⟩ = some (.int .i64 s0_2) ∧ w'.cell? ⟨wa.heap.size, 3, none⟩ = some (.int .i64 s0_3) ∧ w'.cell? ⟨wa.heap.size, 4, none⟩ = some (.int .i64 s0_4) ∧ Box w 40 #[.int .i64 s0_0, .int .i64 s0_1, .int .i64 s0_2, .int .i64 s0_3, .int .i64 s0_4] w' ∧ Box wa 41 #[.int .i64 s0_0, .int .i64 s0_1, .int .i64 s0_2, .int .i64 s0_3, .int .i64 s0_4] w') _ from two5 HT.out) ?_
    clear hK K hS
    have hS := (show (fun (w' : World) => w'.cell? ⟨w.heap.size, 0, none⟩ = some (.int .i64 s0_0) ∧ w'.cell? ⟨w.heap.size, 1, none⟩ = some (.int .i64 s0_1) ∧ w'.cell? ⟨w.heap.size, 2, none⟩ = some (.int .i64 s0_2) ∧ w'.cell? ⟨w.heap.size, 3, none⟩ = some (.int .i64 s0_3) ∧ w'.cell? ⟨w.heap.size, 4, none⟩ = some (.int .i64 s0_4) ∧ w'.cell? ⟨wa.heap.size, 0, none⟩ = some (.int .i64 s0_0) ∧ w'.cell? ⟨wa.heap.size, 1, none⟩ = some (.int .i64 s0_1) ∧ w'.cell? ⟨wa.heap.size, 2, none⟩ = some (.int .i64 s0_2) ∧ w'.cell? ⟨wa.heap.size, 3, none⟩ = some (.int .i64 s0_3) ∧ w'.cell? ⟨wa.heap.size, 4, none⟩ = some (.int .i64 s0_4) ∧ Box w 40 #[.int .i64 s0_0, .int .i64 s0_1, .int .i64 s0_2, .int .i64 s0_3, .int .i64 s0_4] w' ∧ Box wa 41 #[.int .i64 s0_0, .int .i64 s0_1, .int .i64 s0_2, .int .i64 s0_3, .int .i64 s0_4] w') _ from two5 HT.out)
    refine Turns.take hS 4 _ rfl (by kernel_rfl) (by kernel_rfl) (by kernel_rfl) (by kernel_rfl) (fun _ _ _ h => h) (by rfl) (fun w' hS' => by (try dsimp only at hS'); go_split_ands; go_simp; (try with_reducible rfl)) ?_
    simp only [Act.put, List.getElem_toArray, List.getElem_cons_succ, List.getElem_cons_zero, List.setIfInBounds_toArray, List.set_cons_zero, List.set_cons_succ]
    refine Turns.take hS 5 _ rfl (by kernel_rfl) (by kernel_rfl) (by kernel_rfl) (by kernel_rfl) (fun _ _ _ h => h) (by rfl) (fun w' hS' => by (try dsimp only at hS'); go_split_ands; go_simp; (try with_reducible rfl)) ?_
    simp only [Act.put, List.getElem_toArray, List.getElem_cons_succ, List.getElem_cons_zero, List.setIfInBounds_toArray, List.set_cons_zero, List.set_cons_succ]
    refine Turns.take hS 6 _ rfl (by kernel_rfl) (by kernel_rfl) (by kernel_rfl) (by kernel_rfl) (fun _ _ _ h => h) (by rfl) (fun w' hS' => by (try dsimp only at hS'); go_split_ands; go_simp; (try with_reducible rfl)) ?_
    simp only [Act.put, List.getElem_toArray, List.getElem_cons_succ, List.getElem_cons_zero, List.setIfInBounds_toArray, List.set_cons_zero, List.set_cons_succ]
    refine Turns.take hS 8 _ rfl (by kernel_rfl) (by kernel_rfl) (by kernel_rfl) (by kernel_rfl) (fun _ _ _ h => h) (by rfl) (fun w' hS' => by (try dsimp only at hS'); go_split_ands; go_simp; (try with_reducible rfl)) ?_
    simp only [Act.put, List.getElem_toArray, List.getElem_cons_succ, List.getElem_cons_zero, List.setIfInBounds_toArray, List.set_cons_zero, List.set_cons_succ]
    refine Turns.next 7 rfl (by kernel_rfl) (by rfl) (fun K hK => ?_)
    go_simp
    go_at_call 26
    refine (hb_ _).mono ?_
    rintro e wn7 ⟨rfl, hb⟩
    replace HT := Lib.hid (And.intro (hS.2.2.2.2.2.2.2.2.2.2.1.next hb) (hS.2.2.2.2.2.2.2.2.2.2.2.next hb))
    clear hb
    refine hK.out _ _ (show (fun (w' : World) => w'.cell? ⟨w.heap.size, 0, none⟩ = some (.int .i64 s0_0) ∧ w'.cell? ⟨w.heap.size, 1, none⟩ = some (.int .i64 s0_1) ∧ w'.cell? ⟨w.heap.size, 2, none⟩ = some (.int .i64 s0_2) ∧ w'.cell? ⟨w.heap.size, 3, none⟩ = some (.int .i64 s0_3) ∧ w'.cell? ⟨w.heap.size, 4, none⟩ = some (.int .i64 s0_4) ∧ w'.cell? ⟨wa.heap.size, 0, none⟩ = some (.int .i64 s0_0) ∧ w'.cell? ⟨wa.heap.size, 1, none⟩ = some (.int .i64 s0_1) ∧ w'.cell? ⟨wa.heap.size, 2, none⟩ = some (.int .i64 s0_2) ∧ w'.cell? ⟨wa.heap.size, 3, none⟩ = some (.int .i64 s0_3) ∧ w'.cell? ⟨wa.heap.size, 4, none⟩ = some (.int .i64 s0_4) ∧ Box w 40 #[.int .i64 s0_0, .int .i64 s0_1, .int .i64 s0_2, .int .i64 s0_3, .int .i64 s0_4] w' ∧ Box wa 41 #[.int .i64 s0_0, .int .i64 s0_1, .int .i64 s0_2, .int .i64 s0_3, .int .i64 s0_4] w') _ from two5 HT.out) ?_
    clear hK K hS
    have hS := (show (fun (w' : World) => w'.cell? ⟨w.heap.size, 0, none⟩ = some (.int .i64 s0_0) ∧ w'.cell? ⟨w.heap.size, 1, none⟩ = some (.int .i64 s0_1) ∧ w'.cell? ⟨w.heap.size, 2, none⟩ = some (.int .i64 s0_2) ∧ w'.cell? ⟨w.heap.size, 3, none⟩ = some (.int .i64 s0_3) ∧ w'.cell? ⟨w.heap.size, 4, none⟩ = some (.int .i64 s0_4) ∧ w'.cell? ⟨wa.heap.size, 0, none⟩ = some (.int .i64 s0_0) ∧ w'.cell? ⟨wa.heap.size, 1, none⟩ = some (.int .i64 s0_1) ∧ w'.cell? ⟨wa.heap.size, 2, none⟩ = some (.int .i64 s0_2) ∧ w'.cell? ⟨wa.heap.size, 3, none⟩ = some (.int .i64 s0_3) ∧ w'.cell? ⟨wa.heap.size, 4, none⟩ = some (.int .i64 s0_4) ∧ Box w 40 #[.int .i64 s0_0, .int .i64 s0_1, .int .i64 s0_2, .int .i64 s0_3, .int .i64 s0_4] w' ∧ Box wa 41 #[.int .i64 s0_0, .int .i64 s0_1, .int .i64 s0_2, .int .i64 s0_3, .int .i64 s0_4] w') _ from two5 HT.out)
    refine Turns.next 9 rfl (by kernel_rfl) (by rfl) (fun K hK => ?_)
    go_simp
    go_at_call 24
    refine (rhb _).mono ?_
    rintro e wn9 ⟨rfl, hb⟩
    replace HT := Lib.hid (And.intro (hS.2.2.2.2.2.2.2.2.2.2.1.next hb) (hS.2.2.2.2.2.2.2.2.2.2.2.next hb))
    clear hb
    refine hK.out _ _ (show (fun (w' : World) => w'.cell? ⟨w.heap.size, 0, none⟩ = some (.int .i64 s0_0) ∧ w'.cell? ⟨w.heap.size, 1, none⟩ = some (.int .i64 s0_1) ∧ w'.cell? ⟨w.heap.size, 2, none⟩ = some (.int .i64 s0_2) ∧ w'.cell? ⟨w.heap.size, 3, none⟩ = some (.int .i64 s0_3) ∧ w'.cell? ⟨w.heap.size, 4, none⟩ = some (.int .i64 s0_4) ∧ w'.cell? ⟨wa.heap.size, 0, none⟩ = some (.int .i64 s0_0) ∧ w'.cell? ⟨wa.heap.size, 1, none⟩ = some (.int .i64 s0_1) ∧ w'.cell? ⟨wa.heap.size, 2, none⟩ = some (.int .i64 s0_2) ∧ w'.cell? ⟨wa.heap.size, 3, none⟩ = some (.int .i64 s0_3) ∧ w'.cell? ⟨wa.heap.size, 4, none⟩ = some (.int .i64 s0_4) ∧ Box w 40 #[.int .i64 s0_0, .int .i64 s0_1, .int .i64 s0_2, .int .i64 s0_3, .int .i64 s0_4] w' ∧ Box wa 41 #[.int .i64 s0_0, .int .i64 s0_1, .int .i64 s0_2, .int .i64 s0_3, .int .i64 s0_4] w') _ from two5 HT.out) ?_
    clear hK K hS
    have hS := (show (fun (w' : World) => w'.cell? ⟨w.heap.size, 0, none⟩ = some (.int .i64 s0_0) ∧ w'.cell? ⟨w.heap.size, 1, none⟩ = some (.int .i64 s0_1) ∧ w'.cell? ⟨w.heap.size, 2, none⟩ = some (.int .i64 s0_2) ∧ w'.cell? ⟨w.heap.size, 3, none⟩ = some (.int .i64 s0_3) ∧ w'.cell? ⟨w.heap.size, 4, none⟩ = some (.int .i64 s0_4) ∧ w'.cell? ⟨wa.heap.size, 0, none⟩ = some (.int .i64 s0_0) ∧ w'.cell? ⟨wa.heap.size, 1, none⟩ = some (.int .i64 s0_1) ∧ w'.cell? ⟨wa.heap.size, 2, none⟩ = some (.int .i64 s0_2) ∧ w'.cell? ⟨wa.heap.size, 3, none⟩ = some (.int .i64 s0_3) ∧ w'.cell? ⟨wa.heap.size, 4, none⟩ = some (.int .i64 s0_4) ∧ Box w 40 #[.int .i64 s0_0, .int .i64 s0_1, .int .i64 s0_2, .int .i64 s0_3, .int .i64 s0_4] w' ∧ Box wa 41 #[.int .i64 s0_0, .int .i64 s0_1, .int .i64 s0_2, .int .i64 s0_3, .int .i64 s0_4] w') _ from two5 HT.out)
    refine Turns.take hS 10 _ rfl (by kernel_rfl) (by kernel_rfl) (by kernel_rfl) (by kernel_rfl) (fun _ _ _ h => h) (by rfl) (fun w' hS' => by (try dsimp only at hS'); go_split_ands; go_simp; (try with_reducible rfl)) ?_
    simp only [Act.put, List.getElem_toArray, List.getElem_cons_succ, List.getElem_cons_zero, List.setIfInBounds_toArray, List.set_cons_zero, List.set_cons_succ]
    refine Turns.take hS 11 _ rfl (by kernel_rfl) (by kernel_rfl) (by kernel_rfl) (by kernel_rfl) (fun _ _ _ h => h) (by rfl) (fun w' hS' => by (try dsimp only at hS'); go_split_ands; go_simp; (try with_reducible rfl)) ?_
    simp only [Act.put, List.getElem_toArray, List.getElem_cons_succ, List.getElem_cons_zero, List.setIfInBounds_toArray, List.set_cons_zero, List.set_cons_succ]
    refine Turns.take hS 12 _ rfl (by kernel_rfl) (by kernel_rfl) (by kernel_rfl) (by kernel_rfl) (fun _ _ _ h => h) (by rfl) (fun w' hS' => by (try dsimp only at hS'); go_split_ands; go_simp; (try with_reducible rfl)) ?_
    simp only [Act.put, List.getElem_toArray, List.getElem_cons_succ, List.getElem_cons_zero, List.setIfInBounds_toArray, List.set_cons_zero, List.set_cons_succ]
    refine Turns.take hS 13 _ rfl (by kernel_rfl) (by kernel_rfl) (by kernel_rfl) (by kernel_rfl) (fun _ _ _ h => h) (by rfl) (fun w' hS' => by (try dsimp only at hS'); go_split_ands; go_simp; (try with_reducible rfl)) ?_
    simp only [Act.put, List.getElem_toArray, List.getElem_cons_succ, List.getElem_cons_zero, List.setIfInBounds_toArray, List.set_cons_zero, List.set_cons_succ]
    refine Turns.take hS 15 _ rfl (by kernel_rfl) (by kernel_rfl) (by kernel_rfl) (by kernel_rfl) (fun _ _ _ h => h) (by rfl) (fun w' hS' => by (try dsimp only at hS'); go_split_ands; go_simp; (try with_reducible rfl)) ?_
    simp only [Act.put, List.getElem_toArray, List.getElem_cons_succ, List.getElem_cons_zero, List.setIfInBounds_toArray, List.set_cons_zero, List.set_cons_succ]
    refine Turns.next 14 rfl (by kernel_rfl) (by rfl) (fun K hK => ?_)
    go_simp
    go_at_call 27
    refine (hp _).mono ?_
    rintro e wn14 ⟨rfl, hb⟩
    replace HT := Lib.hid (And.intro (hS.2.2.2.2.2.2.2.2.2.2.1.next hb) (hS.2.2.2.2.2.2.2.2.2.2.2.next hb))
    clear hb
    refine hK.out _ _ (show (fun (w' : World) => w'.cell? ⟨w.heap.size, 0, none⟩ = some (.int .i64 s0_0) ∧ w'.cell? ⟨w.heap.size, 1, none⟩ = some (.int .i64 s0_1) ∧ w'.cell? ⟨w.heap.size, 2, none⟩ = some (.int .i64 s0_2) ∧ w'.cell? ⟨w.heap.size, 3, none⟩ = some (.int .i64 s0_3) ∧ w'.cell? ⟨w.heap.size, 4, none⟩ = some (.int .i64 s0_4) ∧ w'.cell? ⟨wa.heap.size, 0, none⟩ = some (.int .i64 s0_0) ∧ w'.cell? ⟨wa.heap.size, 1, none⟩ = some (.int .i64 s0_1) ∧ w'.cell? ⟨wa.heap.size, 2, none⟩ = some (.int .i64 s0_2) ∧ w'.cell? ⟨wa.heap.size, 3, none⟩ = some (.int .i64 s0_3) ∧ w'.cell? ⟨wa.heap.size, 4, none⟩ = some (.int .i64 s0_4) ∧ Box w 40 #[.int .i64 s0_0, .int .i64 s0_1, .int .i64 s0_2, .int .i64 s0_3, .int .i64 s0_4] w' ∧ Box wa 41 #[.int .i64 s0_0, .int .i64 s0_1, .int .i64 s0_2, .int .i64 s0_3, .int .i64 s0_4] w') _ from two5 HT.out) ?_
    clear hK K hS
    have hS := (show (fun (w' : World) => w'.cell? ⟨w.heap.size, 0, none⟩ = some (.int .i64 s0_0) ∧ w'.cell? ⟨w.heap.size, 1, none⟩ = some (.int .i64 s0_1) ∧ w'.cell? ⟨w.heap.size, 2, none⟩ = some (.int .i64 s0_2) ∧ w'.cell? ⟨w.heap.size, 3, none⟩ = some (.int .i64 s0_3) ∧ w'.cell? ⟨w.heap.size, 4, none⟩ = some (.int .i64 s0_4) ∧ w'.cell? ⟨wa.heap.size, 0, none⟩ = some (.int .i64 s0_0) ∧ w'.cell? ⟨wa.heap.size, 1, none⟩ = some (.int .i64 s0_1) ∧ w'.cell? ⟨wa.heap.size, 2, none⟩ = some (.int .i64 s0_2) ∧ w'.cell? ⟨wa.heap.size, 3, none⟩ = some (.int .i64 s0_3) ∧ w'.cell? ⟨wa.heap.size, 4, none⟩ = some (.int .i64 s0_4) ∧ Box w 40 #[.int .i64 s0_0, .int .i64 s0_1, .int .i64 s0_2, .int .i64 s0_3, .int .i64 s0_4] w' ∧ Box wa 41 #[.int .i64 s0_0, .int .i64 s0_1, .int .i64 s0_2, .int .i64 s0_3, .int .i64 s0_4] w') _ from two5 HT.out)
    refine Turns.take hS 16 _ rfl (by kernel_rfl) (by kernel_rfl) (by kernel_rfl) (by kernel_rfl) (fun _ _ _ h => h) (by rfl) (fun w' hS' => by (try dsimp only at hS'); go_split_ands; go_simp; (try with_reducible rfl)) ?_
    simp only [Act.put, List.getElem_toArray, List.getElem_cons_succ, List.getElem_cons_zero, List.setIfInBounds_toArray, List.set_cons_zero, List.set_cons_succ]
    refine Turns.take hS 17 _ rfl (by kernel_rfl) (by kernel_rfl) (by kernel_rfl) (by kernel_rfl) (fun _ _ _ h => h) (by rfl) (fun w' hS' => by (try dsimp only at hS'); go_split_ands; go_simp; (try with_reducible rfl)) ?_
    simp only [Act.put, List.getElem_toArray, List.getElem_cons_succ, List.getElem_cons_zero, List.setIfInBounds_toArray, List.set_cons_zero, List.set_cons_succ]
    refine Turns.take hS 18 _ rfl (by kernel_rfl) (by kernel_rfl) (by kernel_rfl) (by kernel_rfl) (fun _ _ _ h => h) (by rfl) (fun w' hS' => by (try dsimp only at hS'); go_split_ands; go_simp; (try with_reducible rfl)) ?_
    simp only [Act.put, List.getElem_toArray, List.getElem_cons_succ, List.getElem_cons_zero, List.setIfInBounds_toArray, List.set_cons_zero, List.set_cons_succ]
    refine Turns.take hS 19 _ rfl (by kernel_rfl) (by kernel_rfl) (by kernel_rfl) (by kernel_rfl) (fun _ _ _ h => h) (by rfl) (fun w' hS' => by (try dsimp only at hS'); go_split_ands; go_simp; (try with_reducible rfl)) ?_
    simp only [Act.put, List.getElem_toArray, List.getElem_cons_succ, List.getElem_cons_zero, List.setIfInBounds_toArray, List.set_cons_zero, List.set_cons_succ]
    refine Turns.take hS 20 _ rfl (by kernel_rfl) (by kernel_rfl) (by kernel_rfl) (by kernel_rfl) (fun _ _ _ h => h) (by rfl) (fun w' hS' => by (try dsimp only at hS'); go_split_ands; go_simp; (try with_reducible rfl)) ?_
    simp only [Act.put, List.getElem_toArray, List.getElem_cons_succ, List.getElem_cons_zero, List.setIfInBounds_toArray, List.set_cons_zero, List.set_cons_succ]
    refine Turns.take hS 22 _ rfl (by kernel_rfl) (by kernel_rfl) (by kernel_rfl) (by kernel_rfl) (fun _ _ _ h => h) (by rfl) (fun w' hS' => by (try dsimp only at hS'); go_split_ands; go_simp; (try with_reducible rfl)) ?_
    simp only [Act.put, List.getElem_toArray, List.getElem_cons_succ, List.getElem_cons_zero, List.setIfInBounds_toArray, List.set_cons_zero, List.set_cons_succ]
    refine Turns.take hS 23 _ rfl (by kernel_rfl) (by kernel_rfl) (by kernel_rfl) (by kernel_rfl) (fun _ _ _ h => h) (by rfl) (fun w' hS' => by (try dsimp only at hS'); go_split_ands; go_simp; (try with_reducible rfl)) ?_
    simp only [Act.put, List.getElem_toArray, List.getElem_cons_succ, List.getElem_cons_zero, List.setIfInBounds_toArray, List.set_cons_zero, List.set_cons_succ]
    refine Turns.next 21 rfl (by kernel_rfl) (by rfl) (fun K hK => ?_)
    go_simp
    go_at_call 28
    refine (hs _).mono ?_
    rintro e wn21 ⟨rfl, hb⟩
    replace HT := Lib.hid (And.intro (hS.2.2.2.2.2.2.2.2.2.2.1.next hb) (hS.2.2.2.2.2.2.2.2.2.2.2.next hb))
    clear hb
    refine hK.out _ _ (show (fun (w' : World) => w'.cell? ⟨w.heap.size, 0, none⟩ = some (.int .i64 s0_0) ∧ w'.cell? ⟨w.heap.size, 1, none⟩ = some (.int .i64 s0_1) ∧ w'.cell? ⟨w.heap.size, 2, none⟩ = some (.int .i64 s0_2) ∧ w'.cell? ⟨w.heap.size, 3, none⟩ = some (.int .i64 s0_3) ∧ w'.cell? ⟨w.heap.size, 4, none⟩ = some (.int .i64 s0_4) ∧ w'.cell? ⟨wa.heap.size, 0, none⟩ = some (.int .i64 s0_0) ∧ w'.cell? ⟨wa.heap.size, 1, none⟩ = some (.int .i64 s0_1) ∧ w'.cell? ⟨wa.heap.size, 2, none⟩ = some (.int .i64 s0_2) ∧ w'.cell? ⟨wa.heap.size, 3, none⟩ = some (.int .i64 s0_3) ∧ w'.cell? ⟨wa.heap.size, 4, none⟩ = some (.int .i64 s0_4) ∧ Box w 40 #[.int .i64 s0_0, .int .i64 s0_1, .int .i64 s0_2, .int .i64 s0_3, .int .i64 s0_4] w' ∧ Box wa 41 #[.int .i64 s0_0, .int .i64 s0_1, .int .i64 s0_2, .int .i64 s0_3, .int .i64 s0_4] w') _ from two5 HT.out) ?_
    clear hK K hS
    have hS := (show (fun (w' : World) => w'.cell? ⟨w.heap.size, 0, none⟩ = some (.int .i64 s0_0) ∧ w'.cell? ⟨w.heap.size, 1, none⟩ = some (.int .i64 s0_1) ∧ w'.cell? ⟨w.heap.size, 2, none⟩ = some (.int .i64 s0_2) ∧ w'.cell? ⟨w.heap.size, 3, none⟩ = some (.int .i64 s0_3) ∧ w'.cell? ⟨w.heap.size, 4, none⟩ = some (.int .i64 s0_4) ∧ w'.cell? ⟨wa.heap.size, 0, none⟩ = some (.int .i64 s0_0) ∧ w'.cell? ⟨wa.heap.size, 1, none⟩ = some (.int .i64 s0_1) ∧ w'.cell? ⟨wa.heap.size, 2, none⟩ = some (.int .i64 s0_2) ∧ w'.cell? ⟨wa.heap.size, 3, none⟩ = some (.int .i64 s0_3) ∧ w'.cell? ⟨wa.heap.size, 4, none⟩ = some (.int .i64 s0_4) ∧ Box w 40 #[.int .i64 s0_0, .int .i64 s0_1, .int .i64 s0_2, .int .i64 s0_3, .int .i64 s0_4] w' ∧ Box wa 41 #[.int .i64 s0_0, .int .i64 s0_1, .int .i64 s0_2, .int .i64 s0_3, .int .i64 s0_4] w') _ from two5 HT.out)
    refine Turns.next 24 rfl (by kernel_rfl) (by rfl) (fun K hK => ?_)
    go_simp
    go_at_call 29
    refine (rhs _).mono ?_
    rintro e wn24 ⟨rfl, hb⟩
    replace HT := Lib.hid (And.intro (hS.2.2.2.2.2.2.2.2.2.2.1.next hb) (hS.2.2.2.2.2.2.2.2.2.2.2.next hb))
    clear hb
    refine hK.out _ _ (show (fun (w' : World) => w'.cell? ⟨w.heap.size, 0, none⟩ = some (.int .i64 s0_0) ∧ w'.cell? ⟨w.heap.size, 1, none⟩ = some (.int .i64 s0_1) ∧ w'.cell? ⟨w.heap.size, 2, none⟩ = some (.int .i64 s0_2) ∧ w'.cell? ⟨w.heap.size, 3, none⟩ = some (.int .i64 s0_3) ∧ w'.cell? ⟨w.heap.size, 4, none⟩ = some (.int .i64 s0_4) ∧ w'.cell? ⟨wa.heap.size, 0, none⟩ = some (.int .i64 s0_0) ∧ w'.cell? ⟨wa.heap.size, 1, none⟩ = some (.int .i64 s0_1) ∧ w'.cell? ⟨wa.heap.size, 2, none⟩ = some (.int .i64 s0_2) ∧ w'.cell? ⟨wa.heap.size, 3, none⟩ = some (.int .i64 s0_3) ∧ w'.cell? ⟨wa.heap.size, 4, none⟩ = some (.int .i64 s0_4) ∧ Box w 40 #[.int .i64 s0_0, .int .i64 s0_1, .int .i64 s0_2, .int .i64 s0_3, .int .i64 s0_4] w' ∧ Box wa 41 #[.int .i64 s0_0, .int .i64 s0_1, .int .i64 s0_2, .int .i64 s0_3, .int .i64 s0_4] w') _ from two5 HT.out) ?_
    clear hK K hS
    have hS := (show (fun (w' : World) => w'.cell? ⟨w.heap.size, 0, none⟩ = some (.int .i64 s0_0) ∧ w'.cell? ⟨w.heap.size, 1, none⟩ = some (.int .i64 s0_1) ∧ w'.cell? ⟨w.heap.size, 2, none⟩ = some (.int .i64 s0_2) ∧ w'.cell? ⟨w.heap.size, 3, none⟩ = some (.int .i64 s0_3) ∧ w'.cell? ⟨w.heap.size, 4, none⟩ = some (.int .i64 s0_4) ∧ w'.cell? ⟨wa.heap.size, 0, none⟩ = some (.int .i64 s0_0) ∧ w'.cell? ⟨wa.heap.size, 1, none⟩ = some (.int .i64 s0_1) ∧ w'.cell? ⟨wa.heap.size, 2, none⟩ = some (.int .i64 s0_2) ∧ w'.cell? ⟨wa.heap.size, 3, none⟩ = some (.int .i64 s0_3) ∧ w'.cell? ⟨wa.heap.size, 4, none⟩ = some (.int .i64 s0_4) ∧ Box w 40 #[.int .i64 s0_0, .int .i64 s0_1, .int .i64 s0_2, .int .i64 s0_3, .int .i64 s0_4] w' ∧ Box wa 41 #[.int .i64 s0_0, .int .i64 s0_1, .int .i64 s0_2, .int .i64 s0_3, .int .i64 s0_4] w') _ from two5 HT.out)
    refine Turns.take hS 25 _ rfl (by kernel_rfl) (by kernel_rfl) (by kernel_rfl) (by kernel_rfl) (fun _ _ _ h => h) (by rfl) (fun w' hS' => by (try dsimp only at hS'); go_split_ands; go_simp; (try with_reducible rfl)) ?_
    simp only [Act.put, List.getElem_toArray, List.getElem_cons_succ, List.getElem_cons_zero, List.setIfInBounds_toArray, List.set_cons_zero, List.set_cons_succ]
    refine Turns.take hS 26 _ rfl (by kernel_rfl) (by kernel_rfl) (by kernel_rfl) (by kernel_rfl) (fun _ _ _ h => h) (by rfl) (fun w' hS' => by (try dsimp only at hS'); go_split_ands; go_simp; (try with_reducible rfl)) ?_
    simp only [Act.put, List.getElem_toArray, List.getElem_cons_succ, List.getElem_cons_zero, List.setIfInBounds_toArray, List.set_cons_zero, List.set_cons_succ]
    refine Turns.take hS 27 _ rfl (by kernel_rfl) (by kernel_rfl) (by kernel_rfl) (by kernel_rfl) (fun _ _ _ h => h) (by rfl) (fun w' hS' => by (try dsimp only at hS'); go_split_ands; go_simp; (try with_reducible rfl)) ?_
    simp only [Act.put, List.getElem_toArray, List.getElem_cons_succ, List.getElem_cons_zero, List.setIfInBounds_toArray, List.set_cons_zero, List.set_cons_succ]
    refine Turns.rest (late_done (by kernel_rfl)) ?_
    refine any_tail 28 (by rfl) (by kernel_rfl) ?_
    simp only [List.drop_succ_cons, List.drop_zero]
    clear hS
    go_wp2
    go_ret
    exact ⟨rfl, HT.out.1.below⟩
  have z2 : ntPatience s0_0 s0_1 s0_2 s0_3 s0_4 = ntBehind s0_0 s0_1 s0_2 s0_3 s0_4 + 4 := by unfold ntPatience; rw [if_pos eg]
  obtain ⟨B, eB⟩ : ∃ B, ntBehind s0_0 s0_1 s0_2 s0_3 s0_4 = B := ⟨_, rfl⟩
  rw [eB] at z2 bb
  simp only [eg] at hg rhg
  simp only [eB] at hb_ rhb
  simp only [z2] at hp
  clear z2 eg eB
  obtain ⟨b1, b2⟩ := bb
  have qB : (B == B) = true := by simp
  have qP : (B + 4 == B + 4) = true := by simp
  have qW : IntKind.i64.wrap (B + 4) = B + 4 := IntWalk.i64_in _ (by omega)
  go_enter Try.func4, Try.ntmps4
  go_upto_region 7 with (first
    | (go_at_call 9; refine (alive_yes _).mono ?_; rintro e wa ⟨rfl, hb⟩; replace HB := Lib.hid (HB.out.next hb); obtain ⟨c0, c1, c2, c3, c4, _⟩ := HB.out.bd5; have HT := Lib.hid (And.intro (HB.out.alloc (.cells #[.int .i64 s0_0, .int .i64 s0_1, .int .i64 s0_2, .int .i64 s0_3, .int .i64 s0_4] 41)) (Box.start wa 41 #[.int .i64 s0_0, .int .i64 s0_1, .int .i64 s0_2, .int .i64 s0_3, .int .i64 s0_4])); obtain ⟨x0, x1, x2, x3, x4, y0, y1, y2, y3, y4, _⟩ := two5 HT.out; clear hb)
    | (go_at_call 23; refine (rhg _).mono ?_; rintro e wx ⟨rfl, hb⟩; replace HT := Lib.hid (And.intro (HT.out.1.next hb) (HT.out.2.next hb)); obtain ⟨x0, x1, x2, x3, x4, y0, y1, y2, y3, y4, _⟩ := two5 HT.out; clear hb)
    | (go_at_call 24; refine (rhb _).mono ?_; rintro e wx ⟨rfl, hb⟩; replace HT := Lib.hid (And.intro (HT.out.1.next hb) (HT.out.2.next hb)); obtain ⟨x0, x1, x2, x3, x4, y0, y1, y2, y3, y4, _⟩ := two5 HT.out; clear hb))
  refine region_turns (fun (w' : World) => w'.cell? ⟨w.heap.size, 0, none⟩ = some (.int .i64 s0_0) ∧ w'.cell? ⟨w.heap.size, 1, none⟩ = some (.int .i64 s0_1) ∧ w'.cell? ⟨w.heap.size, 2, none⟩ = some (.int .i64 s0_2) ∧ w'.cell? ⟨w.heap.size, 3, none⟩ = some (.int .i64 s0_3) ∧ w'.cell? ⟨w.heap.size, 4, none⟩ = some (.int .i64 s0_4) ∧ w'.cell? ⟨wa.heap.size, 0, none⟩ = some (.int .i64 s0_0) ∧ w'.cell? ⟨wa.heap.size, 1, none⟩ = some (.int .i64 s0_1) ∧ w'.cell? ⟨wa.heap.size, 2, none⟩ = some (.int .i64 s0_2) ∧ w'.cell? ⟨wa.heap.size, 3, none⟩ = some (.int .i64 s0_3) ∧ w'.cell? ⟨wa.heap.size, 4, none⟩ = some (.int .i64 s0_4) ∧ Box w 40 #[.int .i64 s0_0, .int .i64 s0_1, .int .i64 s0_2, .int .i64 s0_3, .int .i64 s0_4] w' ∧ Box wa 41 #[.int .i64 s0_0, .int .i64 s0_1, .int .i64 s0_2, .int .i64 s0_3, .int .i64 s0_4] w') (fun j => decide (28 ≤ j)) (by kernel_rfl) (two5 ⟨HT.out.1.drew, HT.out.2.drew⟩) (fun hS => ?_)
  refine Turns.take hS 0 _ rfl (by kernel_rfl) (by kernel_rfl) (by kernel_rfl) (by kernel_rfl) (fun _ _ _ h => h) (by rfl) (fun w' hS' => by (try dsimp only at hS'); go_split_ands; go_simp; (try with_reducible rfl)) ?_
  simp only [Act.put, List.getElem_toArray, List.getElem_cons_succ, List.getElem_cons_zero, List.setIfInBounds_toArray, List.set_cons_zero, List.set_cons_succ]
  refine Turns.take hS 2 _ rfl (by kernel_rfl) (by kernel_rfl) (by kernel_rfl) (by kernel_rfl) (fun _ _ _ h => h) (by rfl) (fun w' hS' => by (try dsimp only at hS'); go_split_ands; go_simp; (try with_reducible rfl)) ?_
  simp only [Act.put, List.getElem_toArray, List.getElem_cons_succ, List.getElem_cons_zero, List.setIfInBounds_toArray, List.set_cons_zero, List.set_cons_succ]
  refine Turns.next 1 rfl (by kernel_rfl) (by rfl) (fun K hK => ?_)
  go_simp
  go_at_call 25
  refine (hg _).mono ?_
  rintro e wn1 ⟨rfl, hb⟩
  replace HT := Lib.hid (And.intro (hS.2.2.2.2.2.2.2.2.2.2.1.next hb) (hS.2.2.2.2.2.2.2.2.2.2.2.next hb))
  clear hb
  refine hK.out _ _ (show (fun (w' : World) => w'.cell? ⟨w.heap.size, 0, none⟩ = some (.int .i64 s0_0) ∧ w'.cell? ⟨w.heap.size, 1, none⟩ = some (.int .i64 s0_1) ∧ w'.cell? ⟨w.heap.size, 2, none⟩ = some (.int .i64 s0_2) ∧ w'.cell? ⟨w.heap.size, 3, none⟩ = some (.int .i64 s0_3) ∧ w'.cell? ⟨w.heap.size, 4, none⟩ = some (.int .i64 s0_4) ∧ w'.cell? ⟨wa.heap.size, 0, none⟩ = some (.int .i64 s0_0) ∧ w'.cell? ⟨wa.heap.size, 1, none⟩ = some (.int .i64 s0_1) ∧ w'.cell? ⟨wa.heap.size, 2, none⟩ = some (.int .i64 s0_2) ∧ w'.cell? ⟨wa.heap.size, 3, none⟩ = some (.int .i64 s0_3) ∧ w'.cell? ⟨wa.heap.size, 4, none⟩ = some (.int .i64 s0_4) ∧ Box w 40 #[.int .i64 s0_0, .int .i64 s0_1, .int .i64 s0_2, .int .i64 s0_3, .int .i64 s0_4] w' ∧ Box wa 41 #[.int .i64 s0_0, .int .i64 s0_1, .int .i64 s0_2, .int .i64 s0_3, .int .i64 s0_4] w') _ from two5 HT.out) ?_
  clear hK K hS
  have hS := (show (fun (w' : World) => w'.cell? ⟨w.heap.size, 0, none⟩ = some (.int .i64 s0_0) ∧ w'.cell? ⟨w.heap.size, 1, none⟩ = some (.int .i64 s0_1) ∧ w'.cell? ⟨w.heap.size, 2, none⟩ = some (.int .i64 s0_2) ∧ w'.cell? ⟨w.heap.size, 3, none⟩ = some (.int .i64 s0_3) ∧ w'.cell? ⟨w.heap.size, 4, none⟩ = some (.int .i64 s0_4) ∧ w'.cell? ⟨wa.heap.size, 0, none⟩ = some (.int .i64 s0_0) ∧ w'.cell? ⟨wa.heap.size, 1, none⟩ = some (.int .i64 s0_1) ∧ w'.cell? ⟨wa.heap.size, 2, none⟩ = some (.int .i64 s0_2) ∧ w'.cell? ⟨wa.heap.size, 3, none⟩ = some (.int .i64 s0_3) ∧ w'.cell? ⟨wa.heap.size, 4, none⟩ = some (.int .i64 s0_4) ∧ Box w 40 #[.int .i64 s0_0, .int .i64 s0_1, .int .i64 s0_2, .int .i64 s0_3, .int .i64 s0_4] w' ∧ Box wa 41 #[.int .i64 s0_0, .int .i64 s0_1, .int .i64 s0_2, .int .i64 s0_3, .int .i64 s0_4] w') _ from two5 HT.out)
  refine Turns.next 3 rfl (by kernel_rfl) (by rfl) (fun K hK => ?_)
  go_simp
  go_at_call 23
  refine (rhg _).mono ?_
  rintro e wn3 ⟨rfl, hb⟩
  replace HT := Lib.hid (And.intro (hS.2.2.2.2.2.2.2.2.2.2.1.next hb) (hS.2.2.2.2.2.2.2.2.2.2.2.next hb))
  clear hb
  refine hK.out _ _ (show (fun (w' : World) => w'.cell? ⟨w.heap.size, 0, none⟩ = some (.int .i64 s0_0) ∧ w'.cell? ⟨w.heap.size, 1, none⟩ = some (.int .i64 s0_1) ∧ w'.cell? ⟨w.heap.size, 2, none⟩ = some (.int .i64 s0_2) ∧ w'.cell? ⟨w.heap.size, 3, none⟩ = some (.int .i64 s0_3) ∧ w'.cell? ⟨w.heap.size, 4, none⟩ = some (.int .i64 s0_4) ∧ w'.cell? ⟨wa.heap.size, 0, none⟩ = some (.int .i64 s0_0) ∧ w'.cell? ⟨wa.heap.size, 1, none⟩ = some (.int .i64 s0_1) ∧ w'.cell? ⟨wa.heap.size, 2, none⟩ = some (.int .i64 s0_2) ∧ w'.cell? ⟨wa.heap.size, 3, none⟩ = some (.int .i64 s0_3) ∧ w'.cell? ⟨wa.heap.size, 4, none⟩ = some (.int .i64 s0_4) ∧ Box w 40 #[.int .i64 s0_0, .int .i64 s0_1, .int .i64 s0_2, .int .i64 s0_3, .int .i64 s0_4] w' ∧ Box wa 41 #[.int .i64 s0_0, .int .i64 s0_1, .int .i64 s0_2, .int .i64 s0_3, .int .i64 s0_4] w') _ from two5 HT.out) ?_
  clear hK K hS
  have hS := (show (fun (w' : World) => w'.cell? ⟨w.heap.size, 0, none⟩ = some (.int .i64 s0_0) ∧ w'.cell? ⟨w.heap.size, 1, none⟩ = some (.int .i64 s0_1) ∧ w'.cell? ⟨w.heap.size, 2, none⟩ = some (.int .i64 s0_2) ∧ w'.cell? ⟨w.heap.size, 3, none⟩ = some (.int .i64 s0_3) ∧ w'.cell? ⟨w.heap.size, 4, none⟩ = some (.int .i64 s0_4) ∧ w'.cell? ⟨wa.heap.size, 0, none⟩ = some (.int .i64 s0_0) ∧ w'.cell? ⟨wa.heap.size, 1, none⟩ = some (.int .i64 s0_1) ∧ w'.cell? ⟨wa.heap.size, 2, none⟩ = some (.int .i64 s0_2) ∧ w'.cell? ⟨wa.heap.size, 3, none⟩ = some (.int .i64 s0_3) ∧ w'.cell? ⟨wa.heap.size, 4, none⟩ = some (.int .i64 s0_4) ∧ Box w 40 #[.int .i64 s0_0, .int .i64 s0_1, .int .i64 s0_2, .int .i64 s0_3, .int .i64 s0_4] w' ∧ Box wa 41 #[.int .i64 s0_0, .int .i64 s0_1, .int .i64 s0_2, .int .i64 s0_3, .int .i64 s0_4] w') _ from two5 HT.out)
  refine Turns.take hS 4 _ rfl (by kernel_rfl) (by kernel_rfl) (by kernel_rfl) (by kernel_rfl) (fun _ _ _ h => h) (by rfl) (fun w' hS' => by (try dsimp only at hS'); go_split_ands; go_simp; (try with_reducible rfl)) ?_
  simp only [Act.put, List.getElem_toArray, List.getElem_cons_succ, List.getElem_cons_zero, List.setIfInBounds_toArray, List.set_cons_zero, List.set_cons_succ]
  refine Turns.take hS 5 _ rfl (by kernel_rfl) (by kernel_rfl) (by kernel_rfl) (by kernel_rfl) (fun _ _ _ h => h) (by rfl) (fun w' hS' => by (try dsimp only at hS'); go_split_ands; go_simp; (try with_reducible rfl)) ?_
  simp only [Act.put, List.getElem_toArray, List.getElem_cons_succ, List.getElem_cons_zero, List.setIfInBounds_toArray, List.set_cons_zero, List.set_cons_succ]
  refine Turns.take hS 6 _ rfl (by kernel_rfl) (by kernel_rfl) (by kernel_rfl) (by kernel_rfl) (fun _ _ _ h => h) (by rfl) (fun w' hS' => by (try dsimp only at hS'); go_split_ands; go_simp; (try with_reducible rfl)) ?_
  simp only [Act.put, List.getElem_toArray, List.getElem_cons_succ, List.getElem_cons_zero, List.setIfInBounds_toArray, List.set_cons_zero, List.set_cons_succ]
  refine Turns.take hS 8 _ rfl (by kernel_rfl) (by kernel_rfl) (by kernel_rfl) (by kernel_rfl) (fun _ _ _ h => h) (by rfl) (fun w' hS' => by (try dsimp only at hS'); go_split_ands; go_simp; (try with_reducible rfl)) ?_
  simp only [Act.put, List.getElem_toArray, List.getElem_cons_succ, List.getElem_cons_zero, List.setIfInBounds_toArray, List.set_cons_zero, List.set_cons_succ]
  refine Turns.next 7 rfl (by kernel_rfl) (by rfl) (fun K hK => ?_)
  go_simp
  go_at_call 26
  refine (hb_ _).mono ?_
  rintro e wn7 ⟨rfl, hb⟩
  replace HT := Lib.hid (And.intro (hS.2.2.2.2.2.2.2.2.2.2.1.next hb) (hS.2.2.2.2.2.2.2.2.2.2.2.next hb))
  clear hb
  refine hK.out _ _ (show (fun (w' : World) => w'.cell? ⟨w.heap.size, 0, none⟩ = some (.int .i64 s0_0) ∧ w'.cell? ⟨w.heap.size, 1, none⟩ = some (.int .i64 s0_1) ∧ w'.cell? ⟨w.heap.size, 2, none⟩ = some (.int .i64 s0_2) ∧ w'.cell? ⟨w.heap.size, 3, none⟩ = some (.int .i64 s0_3) ∧ w'.cell? ⟨w.heap.size, 4, none⟩ = some (.int .i64 s0_4) ∧ w'.cell? ⟨wa.heap.size, 0, none⟩ = some (.int .i64 s0_0) ∧ w'.cell? ⟨wa.heap.size, 1, none⟩ = some (.int .i64 s0_1) ∧ w'.cell? ⟨wa.heap.size, 2, none⟩ = some (.int .i64 s0_2) ∧ w'.cell? ⟨wa.heap.size, 3, none⟩ = some (.int .i64 s0_3) ∧ w'.cell? ⟨wa.heap.size, 4, none⟩ = some (.int .i64 s0_4) ∧ Box w 40 #[.int .i64 s0_0, .int .i64 s0_1, .int .i64 s0_2, .int .i64 s0_3, .int .i64 s0_4] w' ∧ Box wa 41 #[.int .i64 s0_0, .int .i64 s0_1, .int .i64 s0_2, .int .i64 s0_3, .int .i64 s0_4] w') _ from two5 HT.out) ?_
  clear hK K hS
  have hS := (show (fun (w' : World) => w'.cell? ⟨w.heap.size, 0, none⟩ = some (.int .i64 s0_0) ∧ w'.cell? ⟨w.heap.size, 1, none⟩ = some (.int .i64 s0_1) ∧ w'.cell? ⟨w.heap.size, 2, none⟩ = some (.int .i64 s0_2) ∧ w'.cell? ⟨w.heap.size, 3, none⟩ = some (.int .i64 s0_3) ∧ w'.cell? ⟨w.heap.size, 4, none⟩ = some (.int .i64 s0_4) ∧ w'.cell? ⟨wa.heap.size, 0, none⟩ = some (.int .i64 s0_0) ∧ w'.cell? ⟨wa.heap.size, 1, none⟩ = some (.int .i64 s0_1) ∧ w'.cell? ⟨wa.heap.size, 2, none⟩ = some (.int .i64 s0_2) ∧ w'.cell? ⟨wa.heap.size, 3, none⟩ = some (.int .i64 s0_3) ∧ w'.cell? ⟨wa.heap.size, 4, none⟩ = some (.int .i64 s0_4) ∧ Box w 40 #[.int .i64 s0_0, .int .i64 s0_1, .int .i64 s0_2, .int .i64 s0_3, .int .i64 s0_4] w' ∧ Box wa 41 #[.int .i64 s0_0, .int .i64 s0_1, .int .i64 s0_2, .int .i64 s0_3, .int .i64 s0_4] w') _ from two5 HT.out)
  refine Turns.next 9 rfl (by kernel_rfl) (by rfl) (fun K hK => ?_)
  go_simp
  go_at_call 24
  refine (rhb _).mono ?_
  rintro e wn9 ⟨rfl, hb⟩
  replace HT := Lib.hid (And.intro (hS.2.2.2.2.2.2.2.2.2.2.1.next hb) (hS.2.2.2.2.2.2.2.2.2.2.2.next hb))
  clear hb
  refine hK.out _ _ (show (fun (w' : World) => w'.cell? ⟨w.heap.size, 0, none⟩ = some (.int .i64 s0_0) ∧ w'.cell? ⟨w.heap.size, 1, none⟩ = some (.int .i64 s0_1) ∧ w'.cell? ⟨w.heap.size, 2, none⟩ = some (.int .i64 s0_2) ∧ w'.cell? ⟨w.heap.size, 3, none⟩ = some (.int .i64 s0_3) ∧ w'.cell? ⟨w.heap.size, 4, none⟩ = some (.int .i64 s0_4) ∧ w'.cell? ⟨wa.heap.size, 0, none⟩ = some (.int .i64 s0_0) ∧ w'.cell? ⟨wa.heap.size, 1, none⟩ = some (.int .i64 s0_1) ∧ w'.cell? ⟨wa.heap.size, 2, none⟩ = some (.int .i64 s0_2) ∧ w'.cell? ⟨wa.heap.size, 3, none⟩ = some (.int .i64 s0_3) ∧ w'.cell? ⟨wa.heap.size, 4, none⟩ = some (.int .i64 s0_4) ∧ Box w 40 #[.int .i64 s0_0, .int .i64 s0_1, .int .i64 s0_2, .int .i64 s0_3, .int .i64 s0_4] w' ∧ Box wa 41 #[.int .i64 s0_0, .int .i64 s0_1, .int .i64 s0_2, .int .i64 s0_3, .int .i64 s0_4] w') _ from two5 HT.out) ?_
  clear hK K hS
  have hS := (show (fun (w' : World) => w'.cell? ⟨w.heap.size, 0, none⟩ = some (.int .i64 s0_0) ∧ w'.cell? ⟨w.heap.size, 1, none⟩ = some (.int .i64 s0_1) ∧ w'.cell? ⟨w.heap.size, 2, none⟩ = some (.int .i64 s0_2) ∧ w'.cell? ⟨w.heap.size, 3, none⟩ = some (.int .i64 s0_3) ∧ w'.cell? ⟨w.heap.size, 4, none⟩ = some (.int .i64 s0_4) ∧ w'.cell? ⟨wa.heap.size, 0, none⟩ = some (.int .i64 s0_0) ∧ w'.cell? ⟨wa.heap.size, 1, none⟩ = some (.int .i64 s0_1) ∧ w'.cell? ⟨wa.heap.size, 2, none⟩ = some (.int .i64 s0_2) ∧ w'.cell? ⟨wa.heap.size, 3, none⟩ = some (.int .i64 s0_3) ∧ w'.cell? ⟨wa.heap.size, 4, none⟩ = some (.int .i64 s0_4) ∧ Box w 40 #[.int .i64 s0_0, .int .i64 s0_1, .int .i64 s0_2, .int .i64 s0_3, .int .i64 s0_4] w' ∧ Box wa 41 #[.int .i64 s0_0, .int .i64 s0_1, .int .i64 s0_2, .int .i64 s0_3, .int .i64 s0_4] w') _ from two5 HT.out)
  refine Turns.take hS 10 _ rfl (by kernel_rfl) (by kernel_rfl) (by kernel_rfl) (by kernel_rfl) (fun _ _ _ h => h) (by rfl) (fun w' hS' => by (try dsimp only at hS'); go_split_ands; go_simp; (try with_reducible rfl)) ?_
  simp only [Act.put, List.getElem_toArray, List.getElem_cons_succ, List.getElem_cons_zero, List.setIfInBounds_toArray, List.set_cons_zero, List.set_cons_succ]
  refine Turns.take hS 11 _ rfl (by kernel_rfl) (by kernel_rfl) (by kernel_rfl) (by kernel_rfl) (fun _ _ _ h => h) (by rfl) (fun w' hS' => by (try dsimp only at hS'); go_split_ands; go_simp; (try with_reducible rfl)) ?_
  simp only [Act.put, List.getElem_toArray, List.getElem_cons_succ, List.getElem_cons_zero, List.setIfInBounds_toArray, List.set_cons_zero, List.set_cons_succ]
  refine Turns.take hS 12 _ rfl (by kernel_rfl) (by kernel_rfl) (by kernel_rfl) (by kernel_rfl) (fun _ _ _ h => h) (by rfl) (fun w' hS' => by (try dsimp only at hS'); go_split_ands; go_simp; (try with_reducible rfl)) ?_
  simp only [Act.put, List.getElem_toArray, List.getElem_cons_succ, List.getElem_cons_zero, List.setIfInBounds_toArray, List.set_cons_zero, List.set_cons_succ]
  refine Turns.take hS 13 _ rfl (by kernel_rfl) (by kernel_rfl) (by kernel_rfl) (by kernel_rfl) (fun _ _ _ h => h) (by rfl) (fun w' hS' => by (try dsimp only at hS'); go_split_ands; go_simp; (try with_reducible rfl)) ?_
  simp only [Act.put, List.getElem_toArray, List.getElem_cons_succ, List.getElem_cons_zero, List.setIfInBounds_toArray, List.set_cons_zero, List.set_cons_succ]
  refine Turns.take hS 15 _ rfl (by kernel_rfl) (by kernel_rfl) (by kernel_rfl) (by kernel_rfl) (fun _ _ _ h => h) (by rfl) (fun w' hS' => by (try dsimp only at hS'); go_split_ands; go_simp; (try with_reducible rfl)) ?_
  simp only [Act.put, List.getElem_toArray, List.getElem_cons_succ, List.getElem_cons_zero, List.setIfInBounds_toArray, List.set_cons_zero, List.set_cons_succ]
  refine Turns.next 14 rfl (by kernel_rfl) (by rfl) (fun K hK => ?_)
  go_simp
  go_at_call 27
  refine (hp _).mono ?_
  rintro e wn14 ⟨rfl, hb⟩
  replace HT := Lib.hid (And.intro (hS.2.2.2.2.2.2.2.2.2.2.1.next hb) (hS.2.2.2.2.2.2.2.2.2.2.2.next hb))
  clear hb
  refine hK.out _ _ (show (fun (w' : World) => w'.cell? ⟨w.heap.size, 0, none⟩ = some (.int .i64 s0_0) ∧ w'.cell? ⟨w.heap.size, 1, none⟩ = some (.int .i64 s0_1) ∧ w'.cell? ⟨w.heap.size, 2, none⟩ = some (.int .i64 s0_2) ∧ w'.cell? ⟨w.heap.size, 3, none⟩ = some (.int .i64 s0_3) ∧ w'.cell? ⟨w.heap.size, 4, none⟩ = some (.int .i64 s0_4) ∧ w'.cell? ⟨wa.heap.size, 0, none⟩ = some (.int .i64 s0_0) ∧ w'.cell? ⟨wa.heap.size, 1, none⟩ = some (.int .i64 s0_1) ∧ w'.cell? ⟨wa.heap.size, 2, none⟩ = some (.int .i64 s0_2) ∧ w'.cell? ⟨wa.heap.size, 3, none⟩ = some (.int .i64 s0_3) ∧ w'.cell? ⟨wa.heap.size, 4, none⟩ = some (.int .i64 s0_4) ∧ Box w 40 #[.int .i64 s0_0, .int .i64 s0_1, .int .i64 s0_2, .int .i64 s0_3, .int .i64 s0_4] w' ∧ Box wa 41 #[.int .i64 s0_0, .int .i64 s0_1, .int .i64 s0_2, .int .i64 s0_3, .int .i64 s0_4] w') _ from two5 HT.out) ?_
  clear hK K hS
  have hS := (show (fun (w' : World) => w'.cell? ⟨w.heap.size, 0, none⟩ = some (.int .i64 s0_0) ∧ w'.cell? ⟨w.heap.size, 1, none⟩ = some (.int .i64 s0_1) ∧ w'.cell? ⟨w.heap.size, 2, none⟩ = some (.int .i64 s0_2) ∧ w'.cell? ⟨w.heap.size, 3, none⟩ = some (.int .i64 s0_3) ∧ w'.cell? ⟨w.heap.size, 4, none⟩ = some (.int .i64 s0_4) ∧ w'.cell? ⟨wa.heap.size, 0, none⟩ = some (.int .i64 s0_0) ∧ w'.cell? ⟨wa.heap.size, 1, none⟩ = some (.int .i64 s0_1) ∧ w'.cell? ⟨wa.heap.size, 2, none⟩ = some (.int .i64 s0_2) ∧ w'.cell? ⟨wa.heap.size, 3, none⟩ = some (.int .i64 s0_3) ∧ w'.cell? ⟨wa.heap.size, 4, none⟩ = some (.int .i64 s0_4) ∧ Box w 40 #[.int .i64 s0_0, .int .i64 s0_1, .int .i64 s0_2, .int .i64 s0_3, .int .i64 s0_4] w' ∧ Box wa 41 #[.int .i64 s0_0, .int .i64 s0_1, .int .i64 s0_2, .int .i64 s0_3, .int .i64 s0_4] w') _ from two5 HT.out)
  refine Turns.take hS 16 _ rfl (by kernel_rfl) (by kernel_rfl) (by kernel_rfl) (by kernel_rfl) (fun _ _ _ h => h) (by rfl) (fun w' hS' => by (try dsimp only at hS'); go_split_ands; go_simp; (try with_reducible rfl)) ?_
  simp only [Act.put, List.getElem_toArray, List.getElem_cons_succ, List.getElem_cons_zero, List.setIfInBounds_toArray, List.set_cons_zero, List.set_cons_succ]
  refine Turns.take hS 17 _ rfl (by kernel_rfl) (by kernel_rfl) (by kernel_rfl) (by kernel_rfl) (fun _ _ _ h => h) (by rfl) (fun w' hS' => by (try dsimp only at hS'); go_split_ands; go_simp; (try with_reducible rfl)) ?_
  simp only [Act.put, List.getElem_toArray, List.getElem_cons_succ, List.getElem_cons_zero, List.setIfInBounds_toArray, List.set_cons_zero, List.set_cons_succ]
  refine Turns.take hS 18 _ rfl (by kernel_rfl) (by kernel_rfl) (by kernel_rfl) (by kernel_rfl) (fun _ _ _ h => h) (by rfl) (fun w' hS' => by (try dsimp only at hS'); go_split_ands; go_simp; (try with_reducible rfl)) ?_
  simp only [Act.put, List.getElem_toArray, List.getElem_cons_succ, List.getElem_cons_zero, List.setIfInBounds_toArray, List.set_cons_zero, List.set_cons_succ]
  refine Turns.take hS 19 _ rfl (by kernel_rfl) (by kernel_rfl) (by kernel_rfl) (by kernel_rfl) (fun _ _ _ h => h) (by rfl) (fun w' hS' => by (try dsimp only at hS'); go_split_ands; go_simp; (try with_reducible rfl)) ?_
  simp only [Act.put, List.getElem_toArray, List.getElem_cons_succ, List.getElem_cons_zero, List.setIfInBounds_toArray, List.set_cons_zero, List.set_cons_succ]
  refine Turns.take hS 20 _ rfl (by kernel_rfl) (by kernel_rfl) (by kernel_rfl) (by kernel_rfl) (fun _ _ _ h => h) (by rfl) (fun w' hS' => by (try dsimp only at hS'); go_split_ands; go_simp; (try with_reducible rfl)) ?_
  simp only [Act.put, List.getElem_toArray, List.getElem_cons_succ, List.getElem_cons_zero, List.setIfInBounds_toArray, List.set_cons_zero, List.set_cons_succ]
  refine Turns.take hS 22 _ rfl (by kernel_rfl) (by kernel_rfl) (by kernel_rfl) (by kernel_rfl) (fun _ _ _ h => h) (by rfl) (fun w' hS' => by (try dsimp only at hS'); go_split_ands; go_simp; (try with_reducible rfl)) ?_
  simp only [Act.put, List.getElem_toArray, List.getElem_cons_succ, List.getElem_cons_zero, List.setIfInBounds_toArray, List.set_cons_zero, List.set_cons_succ]
  refine Turns.take hS 23 _ rfl (by kernel_rfl) (by kernel_rfl) (by kernel_rfl) (by kernel_rfl) (fun _ _ _ h => h) (by rfl) (fun w' hS' => by (try dsimp only at hS'); go_split_ands; go_simp; (try with_reducible rfl)) ?_
  simp only [Act.put, List.getElem_toArray, List.getElem_cons_succ, List.getElem_cons_zero, List.setIfInBounds_toArray, List.set_cons_zero, List.set_cons_succ]
  refine Turns.next 21 rfl (by kernel_rfl) (by rfl) (fun K hK => ?_)
  go_simp
  go_at_call 28
  refine (hs _).mono ?_
  rintro e wn21 ⟨rfl, hb⟩
  replace HT := Lib.hid (And.intro (hS.2.2.2.2.2.2.2.2.2.2.1.next hb) (hS.2.2.2.2.2.2.2.2.2.2.2.next hb))
  clear hb
  refine hK.out _ _ (show (fun (w' : World) => w'.cell? ⟨w.heap.size, 0, none⟩ = some (.int .i64 s0_0) ∧ w'.cell? ⟨w.heap.size, 1, none⟩ = some (.int .i64 s0_1) ∧ w'.cell? ⟨w.heap.size, 2, none⟩ = some (.int .i64 s0_2) ∧ w'.cell? ⟨w.heap.size, 3, none⟩ = some (.int .i64 s0_3) ∧ w'.cell? ⟨w.heap.size, 4, none⟩ = some (.int .i64 s0_4) ∧ w'.cell? ⟨wa.heap.size, 0, none⟩ = some (.int .i64 s0_0) ∧ w'.cell? ⟨wa.heap.size, 1, none⟩ = some (.int .i64 s0_1) ∧ w'.cell? ⟨wa.heap.size, 2, none⟩ = some (.int .i64 s0_2) ∧ w'.cell? ⟨wa.heap.size, 3, none⟩ = some (.int .i64 s0_3) ∧ w'.cell? ⟨wa.heap.size, 4, none⟩ = some (.int .i64 s0_4) ∧ Box w 40 #[.int .i64 s0_0, .int .i64 s0_1, .int .i64 s0_2, .int .i64 s0_3, .int .i64 s0_4] w' ∧ Box wa 41 #[.int .i64 s0_0, .int .i64 s0_1, .int .i64 s0_2, .int .i64 s0_3, .int .i64 s0_4] w') _ from two5 HT.out) ?_
  clear hK K hS
  have hS := (show (fun (w' : World) => w'.cell? ⟨w.heap.size, 0, none⟩ = some (.int .i64 s0_0) ∧ w'.cell? ⟨w.heap.size, 1, none⟩ = some (.int .i64 s0_1) ∧ w'.cell? ⟨w.heap.size, 2, none⟩ = some (.int .i64 s0_2) ∧ w'.cell? ⟨w.heap.size, 3, none⟩ = some (.int .i64 s0_3) ∧ w'.cell? ⟨w.heap.size, 4, none⟩ = some (.int .i64 s0_4) ∧ w'.cell? ⟨wa.heap.size, 0, none⟩ = some (.int .i64 s0_0) ∧ w'.cell? ⟨wa.heap.size, 1, none⟩ = some (.int .i64 s0_1) ∧ w'.cell? ⟨wa.heap.size, 2, none⟩ = some (.int .i64 s0_2) ∧ w'.cell? ⟨wa.heap.size, 3, none⟩ = some (.int .i64 s0_3) ∧ w'.cell? ⟨wa.heap.size, 4, none⟩ = some (.int .i64 s0_4) ∧ Box w 40 #[.int .i64 s0_0, .int .i64 s0_1, .int .i64 s0_2, .int .i64 s0_3, .int .i64 s0_4] w' ∧ Box wa 41 #[.int .i64 s0_0, .int .i64 s0_1, .int .i64 s0_2, .int .i64 s0_3, .int .i64 s0_4] w') _ from two5 HT.out)
  refine Turns.next 24 rfl (by kernel_rfl) (by rfl) (fun K hK => ?_)
  go_simp
  go_at_call 29
  refine (rhs _).mono ?_
  rintro e wn24 ⟨rfl, hb⟩
  replace HT := Lib.hid (And.intro (hS.2.2.2.2.2.2.2.2.2.2.1.next hb) (hS.2.2.2.2.2.2.2.2.2.2.2.next hb))
  clear hb
  refine hK.out _ _ (show (fun (w' : World) => w'.cell? ⟨w.heap.size, 0, none⟩ = some (.int .i64 s0_0) ∧ w'.cell? ⟨w.heap.size, 1, none⟩ = some (.int .i64 s0_1) ∧ w'.cell? ⟨w.heap.size, 2, none⟩ = some (.int .i64 s0_2) ∧ w'.cell? ⟨w.heap.size, 3, none⟩ = some (.int .i64 s0_3) ∧ w'.cell? ⟨w.heap.size, 4, none⟩ = some (.int .i64 s0_4) ∧ w'.cell? ⟨wa.heap.size, 0, none⟩ = some (.int .i64 s0_0) ∧ w'.cell? ⟨wa.heap.size, 1, none⟩ = some (.int .i64 s0_1) ∧ w'.cell? ⟨wa.heap.size, 2, none⟩ = some (.int .i64 s0_2) ∧ w'.cell? ⟨wa.heap.size, 3, none⟩ = some (.int .i64 s0_3) ∧ w'.cell? ⟨wa.heap.size, 4, none⟩ = some (.int .i64 s0_4) ∧ Box w 40 #[.int .i64 s0_0, .int .i64 s0_1, .int .i64 s0_2, .int .i64 s0_3, .int .i64 s0_4] w' ∧ Box wa 41 #[.int .i64 s0_0, .int .i64 s0_1, .int .i64 s0_2, .int .i64 s0_3, .int .i64 s0_4] w') _ from two5 HT.out) ?_
  clear hK K hS
  have hS := (show (fun (w' : World) => w'.cell? ⟨w.heap.size, 0, none⟩ = some (.int .i64 s0_0) ∧ w'.cell? ⟨w.heap.size, 1, none⟩ = some (.int .i64 s0_1) ∧ w'.cell? ⟨w.heap.size, 2, none⟩ = some (.int .i64 s0_2) ∧ w'.cell? ⟨w.heap.size, 3, none⟩ = some (.int .i64 s0_3) ∧ w'.cell? ⟨w.heap.size, 4, none⟩ = some (.int .i64 s0_4) ∧ w'.cell? ⟨wa.heap.size, 0, none⟩ = some (.int .i64 s0_0) ∧ w'.cell? ⟨wa.heap.size, 1, none⟩ = some (.int .i64 s0_1) ∧ w'.cell? ⟨wa.heap.size, 2, none⟩ = some (.int .i64 s0_2) ∧ w'.cell? ⟨wa.heap.size, 3, none⟩ = some (.int .i64 s0_3) ∧ w'.cell? ⟨wa.heap.size, 4, none⟩ = some (.int .i64 s0_4) ∧ Box w 40 #[.int .i64 s0_0, .int .i64 s0_1, .int .i64 s0_2, .int .i64 s0_3, .int .i64 s0_4] w' ∧ Box wa 41 #[.int .i64 s0_0, .int .i64 s0_1, .int .i64 s0_2, .int .i64 s0_3, .int .i64 s0_4] w') _ from two5 HT.out)
  refine Turns.take hS 25 _ rfl (by kernel_rfl) (by kernel_rfl) (by kernel_rfl) (by kernel_rfl) (fun _ _ _ h => h) (by rfl) (fun w' hS' => by (try dsimp only at hS'); go_split_ands; go_simp; (try with_reducible rfl)) ?_
  simp only [Act.put, List.getElem_toArray, List.getElem_cons_succ, List.getElem_cons_zero, List.setIfInBounds_toArray, List.set_cons_zero, List.set_cons_succ]
  refine Turns.take hS 26 _ rfl (by kernel_rfl) (by kernel_rfl) (by kernel_rfl) (by kernel_rfl) (fun _ _ _ h => h) (by rfl) (fun w' hS' => by (try dsimp only at hS'); go_split_ands; go_simp; (try with_reducible rfl)) ?_
  simp only [Act.put, List.getElem_toArray, List.getElem_cons_succ, List.getElem_cons_zero, List.setIfInBounds_toArray, List.set_cons_zero, List.set_cons_succ]
  refine Turns.take hS 27 _ rfl (by kernel_rfl) (by kernel_rfl) (by kernel_rfl) (by kernel_rfl) (fun _ _ _ h => h) (by rfl) (fun w' hS' => by (try dsimp only at hS'); go_split_ands; go_simp; (try with_reducible rfl)) ?_
  simp only [Act.put, List.getElem_toArray, List.getElem_cons_succ, List.getElem_cons_zero, List.setIfInBounds_toArray, List.set_cons_zero, List.set_cons_succ]
  refine Turns.rest (late_done (by kernel_rfl)) ?_
  refine any_tail 28 (by rfl) (by kernel_rfl) ?_
  simp only [List.drop_succ_cons, List.drop_zero]
  clear hS
  go_wp2
  go_ret
  exact ⟨rfl, HT.out.1.below⟩

set_option maxRecDepth 100000 in
theorem lifted (os : Os) (started : os.Started) (H : Type) (enc : TypeId × Value → H) :
    ReturnsInHanded {} Try.checked os 4 .any (Rows.boundNetSpec.pre6 enc Try.prog Try.f4 Rows.boundNetRow.domain false) (Rows.boundNetSpec.post enc Try.prog Try.f4 false true false false) := by
  refine returnsInHanded_of_change (C := Try.checked) own started (by kernel_rfl) Try.func4
    (ChangeSpec.witness6 (enc := enc) (C := Try.checked) false ⟨#[], #[.agg #[.int .i64 0, .int .i64 0, .int .i64 0, .int .i64 0, .int .i64 0], .int .i64 0], []⟩ 8 (by kernel_rfl) (by kernel_rfl) (by kernel_rfl) (by kernel_rfl)) ?_
  intro W base args ds gs before hval0 hW hcnd _
  have hval : ∀ (j : Nat) t v, Try.f4.params[j]? = some t → args[j]? = some v → Value.okWide Try.prog W .any base t v := hval0
  have hW' := hW
  obtain ⟨p, q, hA0, hV, rfl, hfz, hnd⟩ := hW
  have hA : DataW.TrodAll enc Try.prog W 0 (fun _ => true) true Try.f4.params.toList args.toList ds p := hA0
  have hAk := hA
  rw [Try.params4] at hA hval
  obtain ⟨v0, vs0, d0, ds0, p0, q0, hargs, rfl, hp, h0, r0⟩ := trodAll_cons hA
  obtain ⟨v1, vs1, d1, ds1, p1, q1, rfl, rfl, rfl, h1, r1⟩ := trodAll_cons r0
  obtain ⟨rfl, rfl, rfl⟩ := trodAll_nil r1
  obtain rfl : args = #[v0, v1] := by cases args; simp_all
  obtain ⟨rfl, rfl⟩ := trodVars_none hV
  clear hA0 hval0 hargs
  simp only [List.append_nil] at hW'
  have hend : ∀ W' : World, Below W.heap.size W W' → Rows.boundNetSpec.post enc Try.prog Try.f4 false true false false W #[v0, v1] (.bool true) W' := fun W' hb =>
    law_post (tb := 4) hW' hAk rfl (by kernel_rfl) (by kernel_rfl) (by kernel_rfl) Try.underlying4 rfl rfl rfl hb
  clear hW' hAk hp
  obtain ⟨ns0, rfl, hl0, hw0⟩ := ints_struct (ks := [.i64, .i64, .i64, .i64, .i64]) Try.underlying40 (by kernel_rfl) (by kernel_rfl) (by kernel_rfl) (hval 0 40 v0 rfl rfl) h0
  obtain ⟨s0_0, s0_1, s0_2, s0_3, s0_4, rfl⟩ := split5 hl0
  clear hl0
  obtain ⟨a1, rfl, rfl, rfl, w1⟩ := open_int Try.underlying3 (hval 1 3 v1 rfl rfl) h1
  refine (walk s0_0 s0_1 s0_2 s0_3 s0_4 a1 W (hw0 0 _ _ rfl rfl) (hw0 1 _ _ rfl rfl) (hw0 2 _ _ rfl rfl) (hw0 3 _ _ rfl rfl) (hw0 4 _ _ rfl rfl) w1).mono fun e W' ⟨he, hg⟩ => ?_
  subst he
  exact ⟨_, rfl, hend W' hg⟩

theorem over : Rows.boundNetRow.holds Try.pinned (OpenSpec.ofChange Rows.boundNetSpec) :=
  OpenClaim.holds_of_wide 4 Try.f4 rfl rfl rfl rfl rfl rfl rfl ⟨rfl, rfl, rfl, rfl, rfl⟩ rfl rfl rfl rfl rfl (by kernel_rfl) Try.func4 (by kernel_rfl)
    (of_decide_eq_true (by kernel_rfl)) (by unfold Func.isWrapper; first | (rw [if_pos (by decide +kernel)]; kernel_rfl) | (rw [if_neg (by decide +kernel)]; exact ⟨rfl, rfl⟩))
    (fun os started H enc _ => lifted os started H enc)

/-- THE STATEMENT -/
theorem proved : Rows.BoundNetSaid :=
  over
#print axioms proved
end Go.Proofs.Ytgcmeoogmjganaa.boundNet
