/-
  The error grows by as much with each hop: for all terms and numbers of hops the law answers true; without conditions.
  The walk is the prover's own; the frame of the row's step follows the kit's template.
-/
import Derived.Test.YtgcmeoogmjganaaRows
import Derived.Test.YtgcmeoogmjganaaLawKit
import Derived.Test.YtgcmeoogmjganaaStructArg
import Derived.Test.YtgcmeoogmjganaaBdH
import Derived.IntWalk
import Derived.LoopTactic
import Derived.Deep.CutBlock
import Derived.Deep.CutRange
import Derived.BigQuiet
namespace Go.Proofs.Ytgcmeoogmjganaa.boundAdds
open Go.ChangeShapes Go.WideShapes Go.ChangeAt Go.RowKit Go.ChangeMaps Go.WideElems
set_option linter.unusedVariables false

theorem split4 {ns : List Int} (h : ns.length = 4) : ∃ s0_0 s0_1 s0_2 s0_3 : Int, ns = [s0_0, s0_1, s0_2, s0_3] := by
  match ns, h with
  | [y0, y1, y2, y3], _ => exact ⟨_, _, _, _, rfl⟩
theorem own : ownKnob Try.prog.godebug = none := by kernel_rfl
theorem err_val {d j t r h : Int} (h0 : 0 ≤ h) (h1 : h ≤ 63) : bdError d j t r h = h * (bdHop d j t r + bdRest d j t r) := by
  unfold bdError
  rw [if_pos (bdIn_iff.2 ⟨h0, h1⟩)]
theorem sum_good {d j t r : Int} (g : bdGood d j t r = true) : 0 < bdHop d j t r + bdRest d j t r := by
  have c := bdGood_iff.1 g
  have h1 := c.j0
  have l1 := bdLag_bd d j t r (t + 1)
  have l2 := bdLag_bd d j t r (8 * (t + 1))
  unfold bdHop bdRest
  rw [if_pos g, if_pos g]
  omega
theorem sum_bad {d j t r : Int} (g : bdGood d j t r = false) : bdHop d j t r + bdRest d j t r = 0 := by
  unfold bdHop bdRest
  rw [if_neg (by rw [g]; exact Bool.false_ne_true), if_neg (by rw [g]; exact Bool.false_ne_true)]
  rfl
set_option linter.unusedSimpArgs false in
set_option maxHeartbeats 8000000 in
set_option maxRecDepth 100000 in
theorem walk (s0_0 s0_1 s0_2 s0_3 : Int) (a1 : Int) (a2 : Int) (w : World) (w0_0 : (Lit.int .i64 s0_0).wf = true) (w0_1 : (Lit.int .i64 s0_1).wf = true) (w0_2 : (Lit.int .i64 s0_2).wf = true) (w0_3 : (Lit.int .i64 s0_3).wf = true) (w1 : (Lit.int .i64 a1).wf = true) (w2 : (Lit.int .i64 a2).wf = true) :
    Calls Try.prog 7 #[.agg #[.int .i64 s0_0, .int .i64 s0_1, .int .i64 s0_2, .int .i64 s0_3], .int .i64 a1, .int .i64 a2] w fun e w' => e = .returned (.bool true) ∧ Below w.heap.size w w' := by
  have HB := Lib.hid (Box.start w 23 #[.int .i64 s0_0, .int .i64 s0_1, .int .i64 s0_2, .int .i64 s0_3])
  obtain ⟨c0, c1, c2, c3, _⟩ := HB.out.bd4
  by_cases g0 : a1 < 0
  · have d0 : decide (a1 < 0) = true := decide_eq_true g0
    go_enter Try.func7, Try.ntmps7
    go_wp2_with (first
      | (go_at_call 9; refine (alive_yes _).mono ?_; rintro e wx ⟨rfl, hb⟩; replace HB := Lib.hid (HB.out.next hb); obtain ⟨c0, c1, c2, c3, _⟩ := HB.out.bd4; clear hb))
    go_ret
    exact ⟨rfl, HB.out.below⟩
  have d0 : decide (a1 < 0) = false := decide_eq_false g0
  by_cases g1 : 63 < a1
  · have d1 : decide (63 < a1) = true := decide_eq_true g1
    go_enter Try.func7, Try.ntmps7
    go_wp2_with (first
      | (go_at_call 9; refine (alive_yes _).mono ?_; rintro e wx ⟨rfl, hb⟩; replace HB := Lib.hid (HB.out.next hb); obtain ⟨c0, c1, c2, c3, _⟩ := HB.out.bd4; clear hb))
    go_ret
    exact ⟨rfl, HB.out.below⟩
  have d1 : decide (63 < a1) = false := decide_eq_false g1
  by_cases g2 : a2 < 0
  · have d2 : decide (a2 < 0) = true := decide_eq_true g2
    go_enter Try.func7, Try.ntmps7
    go_wp2_with (first
      | (go_at_call 9; refine (alive_yes _).mono ?_; rintro e wx ⟨rfl, hb⟩; replace HB := Lib.hid (HB.out.next hb); obtain ⟨c0, c1, c2, c3, _⟩ := HB.out.bd4; clear hb))
    go_ret
    exact ⟨rfl, HB.out.below⟩
  have d2 : decide (a2 < 0) = false := decide_eq_false g2
  by_cases g3 : 63 - a1 < a2
  · have d3 : decide (63 - a1 < a2) = true := decide_eq_true g3
    go_enter Try.func7, Try.ntmps7
    go_wp2_with (first
      | (go_at_call 9; refine (alive_yes _).mono ?_; rintro e wx ⟨rfl, hb⟩; replace HB := Lib.hid (HB.out.next hb); obtain ⟨c0, c1, c2, c3, _⟩ := HB.out.bd4; clear hb))
    go_ret
    exact ⟨rfl, HB.out.below⟩
  have d3 : decide (63 - a1 < a2) = false := decide_eq_false g3
  have ub := bdError_bd s0_0 s0_1 s0_2 s0_3 a1
  have vb := bdError_bd s0_0 s0_1 s0_2 s0_3 a2
  have e1 := err_val (d := s0_0) (j := s0_1) (t := s0_2) (r := s0_3) (h := a1) (by omega) (by omega)
  have e2 := err_val (d := s0_0) (j := s0_1) (t := s0_2) (r := s0_3) (h := a2) (by omega) (by omega)
  have e3 := err_val (d := s0_0) (j := s0_1) (t := s0_2) (r := s0_3) (h := a1 + a2) (by omega) (by omega)
  have e4 := err_val (d := s0_0) (j := s0_1) (t := s0_2) (r := s0_3) (h := 1) (by omega) (by omega)
  have e5 := err_val (d := s0_0) (j := s0_1) (t := s0_2) (r := s0_3) (h := 0) (by omega) (by omega)
  rw [Int.add_mul, ← e1, ← e2] at e3
  rw [Int.one_mul] at e4
  rw [Int.zero_mul] at e5
  obtain ⟨A, eA⟩ : ∃ A, bdError s0_0 s0_1 s0_2 s0_3 a1 = A := ⟨_, rfl⟩
  obtain ⟨B, eB⟩ : ∃ B, bdError s0_0 s0_1 s0_2 s0_3 a2 = B := ⟨_, rfl⟩
  rw [eA] at ub e3
  rw [eB] at vb e3
  obtain ⟨u1, u2⟩ := ub
  obtain ⟨v1, v2⟩ := vb
  have hab := fun W => berror_any s0_0 s0_1 s0_2 s0_3 (a1 + a2) W
  have ha := fun W => berror_any s0_0 s0_1 s0_2 s0_3 a1 W
  have hb_ := fun W => berror_any s0_0 s0_1 s0_2 s0_3 a2 W
  have h0 := fun W => berror_any s0_0 s0_1 s0_2 s0_3 0 W
  simp only [e3] at hab
  simp only [eA] at ha
  simp only [eB] at hb_
  simp only [e5] at h0
  have h1 := fun W => berror_any s0_0 s0_1 s0_2 s0_3 1 W
  have hg := fun W => bgood_any s0_0 s0_1 s0_2 s0_3 W
  simp only [e4] at h1
  have sg := @sum_good s0_0 s0_1 s0_2 s0_3
  have sb := @sum_bad s0_0 s0_1 s0_2 s0_3
  obtain ⟨U, eU⟩ : ∃ U, bdHop s0_0 s0_1 s0_2 s0_3 + bdRest s0_0 s0_1 s0_2 s0_3 = U := ⟨_, rfl⟩
  simp only [eU] at h1 sg sb
  clear e1 e2 e3 e4 e5 eA eB eU
  have qs : IntKind.i64.wrap (A + B) = A + B := IntWalk.i64_in _ (by omega)
  have qt : IntKind.i64.wrap (a1 + a2) = a1 + a2 := IntWalk.i64_in _ (by omega)
  have qe : (A + B == A + B) = true := by simp
  cases eg : bdGood s0_0 s0_1 s0_2 s0_3
  · have hu := sb eg
    subst hu
    simp only [eg] at hg
    clear sg sb eg
    go_enter Try.func7, Try.ntmps7
    go_upto_region 5 with (first
      | (go_at_call 9; refine (alive_yes _).mono ?_; rintro e wx ⟨rfl, hb⟩; replace HB := Lib.hid (HB.out.next hb); obtain ⟨c0, c1, c2, c3, _⟩ := HB.out.bd4; clear hb))
    refine region_turns (fun (w' : World) => w'.cell? ⟨w.heap.size, 0, none⟩ = some (.int .i64 s0_0) ∧ w'.cell? ⟨w.heap.size, 1, none⟩ = some (.int .i64 s0_1) ∧ w'.cell? ⟨w.heap.size, 2, none⟩ = some (.int .i64 s0_2) ∧ w'.cell? ⟨w.heap.size, 3, none⟩ = some (.int .i64 s0_3) ∧ Box w 23 #[.int .i64 s0_0, .int .i64 s0_1, .int .i64 s0_2, .int .i64 s0_3] w') (fun j => decide (27 ≤ j)) (by kernel_rfl) (HB.out.drew.bd4) (fun hS => ?_)
    refine Turns.take hS 0 _ rfl (by kernel_rfl) (by kernel_rfl) (by kernel_rfl) (by kernel_rfl) (fun _ _ _ h => h) (by rfl) (fun w' hS' => by (try dsimp only at hS'); go_split_ands; go_simp; (try with_reducible rfl)) ?_
    simp only [Act.put, List.getElem_toArray, List.getElem_cons_succ, List.getElem_cons_zero, List.setIfInBounds_toArray, List.set_cons_zero, List.set_cons_succ]
    refine Turns.take hS 1 _ rfl (by kernel_rfl) (by kernel_rfl) (by kernel_rfl) (by kernel_rfl) (fun _ _ _ h => h) (by rfl) (fun w' hS' => by (try dsimp only at hS'); go_split_ands; go_simp; (try with_reducible rfl)) ?_
    simp only [Act.put, List.getElem_toArray, List.getElem_cons_succ, List.getElem_cons_zero, List.setIfInBounds_toArray, List.set_cons_zero, List.set_cons_succ]
    refine Turns.take hS 2 _ rfl (by kernel_rfl) (by kernel_rfl) (by kernel_rfl) (by kernel_rfl) (fun _ _ _ h => h) (by rfl) (fun w' hS' => by (try dsimp only at hS'); go_split_ands; go_simp; (try with_reducible rfl)) ?_
    simp only [Act.put, List.getElem_toArray, List.getElem_cons_succ, List.getElem_cons_zero, List.setIfInBounds_toArray, List.set_cons_zero, List.set_cons_succ]
    refine Turns.take hS 3 _ rfl (by kernel_rfl) (by kernel_rfl) (by kernel_rfl) (by kernel_rfl) (fun _ _ _ h => h) (by rfl) (fun w' hS' => by (try dsimp only at hS'); go_split_ands; go_simp; (try with_reducible rfl)) ?_
    simp only [Act.put, List.getElem_toArray, List.getElem_cons_succ, List.getElem_cons_zero, List.setIfInBounds_toArray, List.set_cons_zero, List.set_cons_succ]
    refine Turns.take hS 5 _ rfl (by kernel_rfl) (by kernel_rfl) (by kernel_rfl) (by kernel_rfl) (fun _ _ _ h => h) (by rfl) (fun w' hS' => by (try dsimp only at hS'); go_split_ands; go_simp; (try with_reducible rfl)) ?_
    simp only [Act.put, List.getElem_toArray, List.getElem_cons_succ, List.getElem_cons_zero, List.setIfInBounds_toArray, List.set_cons_zero, List.set_cons_succ]
    refine Turns.take hS 6 _ rfl (by kernel_rfl) (by kernel_rfl) (by kernel_rfl) (by kernel_rfl) (fun _ _ _ h => h) (by rfl) (fun w' hS' => by (try dsimp only at hS'); go_split_ands; go_simp; (try with_reducible rfl)) ?_
    simp only [Act.put, List.getElem_toArray, List.getElem_cons_succ, List.getElem_cons_zero, List.setIfInBounds_toArray, List.set_cons_zero, List.set_cons_succ]
    refine Turns.take hS 8 _ rfl (by kernel_rfl) (by kernel_rfl) (by kernel_rfl) (by kernel_rfl) (fun _ _ _ h => h) (by rfl) (fun w' hS' => by (try dsimp only at hS'); go_split_ands; go_simp; (try with_reducible rfl)) ?_
    simp only [Act.put, List.getElem_toArray, List.getElem_cons_succ, List.getElem_cons_zero, List.setIfInBounds_toArray, List.set_cons_zero, List.set_cons_succ]
    refine Turns.take hS 9 _ rfl (by kernel_rfl) (by kernel_rfl) (by kernel_rfl) (by kernel_rfl) (fun _ _ _ h => h) (by rfl) (fun w' hS' => by (try dsimp only at hS'); go_split_ands; go_simp; (try with_reducible rfl)) ?_
    simp only [Act.put, List.getElem_toArray, List.getElem_cons_succ, List.getElem_cons_zero, List.setIfInBounds_toArray, List.set_cons_zero, List.set_cons_succ]
    refine Turns.next 4 rfl (by kernel_rfl) (by rfl) (fun K hK => ?_)
    go_simp
    go_at_call 21
    refine (hab _).mono ?_
    rintro e wn4 ⟨rfl, hb⟩
    replace HB := Lib.hid (hS.2.2.2.2.next hb)
    clear hb
    refine hK.out _ _ (show (fun (w' : World) => w'.cell? ⟨w.heap.size, 0, none⟩ = some (.int .i64 s0_0) ∧ w'.cell? ⟨w.heap.size, 1, none⟩ = some (.int .i64 s0_1) ∧ w'.cell? ⟨w.heap.size, 2, none⟩ = some (.int .i64 s0_2) ∧ w'.cell? ⟨w.heap.size, 3, none⟩ = some (.int .i64 s0_3) ∧ Box w 23 #[.int .i64 s0_0, .int .i64 s0_1, .int .i64 s0_2, .int .i64 s0_3] w') _ from HB.out.bd4) ?_
    clear hK K hS
    have hS := (show (fun (w' : World) => w'.cell? ⟨w.heap.size, 0, none⟩ = some (.int .i64 s0_0) ∧ w'.cell? ⟨w.heap.size, 1, none⟩ = some (.int .i64 s0_1) ∧ w'.cell? ⟨w.heap.size, 2, none⟩ = some (.int .i64 s0_2) ∧ w'.cell? ⟨w.heap.size, 3, none⟩ = some (.int .i64 s0_3) ∧ Box w 23 #[.int .i64 s0_0, .int .i64 s0_1, .int .i64 s0_2, .int .i64 s0_3] w') _ from HB.out.bd4)
    refine Turns.next 7 rfl (by kernel_rfl) (by rfl) (fun K hK => ?_)
    go_simp
    go_at_call 21
    refine (ha _).mono ?_
    rintro e wn7 ⟨rfl, hb⟩
    replace HB := Lib.hid (hS.2.2.2.2.next hb)
    clear hb
    refine hK.out _ _ (show (fun (w' : World) => w'.cell? ⟨w.heap.size, 0, none⟩ = some (.int .i64 s0_0) ∧ w'.cell? ⟨w.heap.size, 1, none⟩ = some (.int .i64 s0_1) ∧ w'.cell? ⟨w.heap.size, 2, none⟩ = some (.int .i64 s0_2) ∧ w'.cell? ⟨w.heap.size, 3, none⟩ = some (.int .i64 s0_3) ∧ Box w 23 #[.int .i64 s0_0, .int .i64 s0_1, .int .i64 s0_2, .int .i64 s0_3] w') _ from HB.out.bd4) ?_
    clear hK K hS
    have hS := (show (fun (w' : World) => w'.cell? ⟨w.heap.size, 0, none⟩ = some (.int .i64 s0_0) ∧ w'.cell? ⟨w.heap.size, 1, none⟩ = some (.int .i64 s0_1) ∧ w'.cell? ⟨w.heap.size, 2, none⟩ = some (.int .i64 s0_2) ∧ w'.cell? ⟨w.heap.size, 3, none⟩ = some (.int .i64 s0_3) ∧ Box w 23 #[.int .i64 s0_0, .int .i64 s0_1, .int .i64 s0_2, .int .i64 s0_3] w') _ from HB.out.bd4)
    refine Turns.next 10 rfl (by kernel_rfl) (by rfl) (fun K hK => ?_)
    go_simp
    go_at_call 21
    refine (hb_ _).mono ?_
    rintro e wn10 ⟨rfl, hb⟩
    replace HB := Lib.hid (hS.2.2.2.2.next hb)
    clear hb
    refine hK.out _ _ (show (fun (w' : World) => w'.cell? ⟨w.heap.size, 0, none⟩ = some (.int .i64 s0_0) ∧ w'.cell? ⟨w.heap.size, 1, none⟩ = some (.int .i64 s0_1) ∧ w'.cell? ⟨w.heap.size, 2, none⟩ = some (.int .i64 s0_2) ∧ w'.cell? ⟨w.heap.size, 3, none⟩ = some (.int .i64 s0_3) ∧ Box w 23 #[.int .i64 s0_0, .int .i64 s0_1, .int .i64 s0_2, .int .i64 s0_3] w') _ from HB.out.bd4) ?_
    clear hK K hS
    have hS := (show (fun (w' : World) => w'.cell? ⟨w.heap.size, 0, none⟩ = some (.int .i64 s0_0) ∧ w'.cell? ⟨w.heap.size, 1, none⟩ = some (.int .i64 s0_1) ∧ w'.cell? ⟨w.heap.size, 2, none⟩ = some (.int .i64 s0_2) ∧ w'.cell? ⟨w.heap.size, 3, none⟩ = some (.int .i64 s0_3) ∧ Box w 23 #[.int .i64 s0_0, .int .i64 s0_1, .int .i64 s0_2, .int .i64 s0_3] w') _ from HB.out.bd4)
    refine Turns.take hS 11 _ rfl (by kernel_rfl) (by kernel_rfl) (by kernel_rfl) (by kernel_rfl) (fun _ _ _ h => h) (by rfl) (fun w' hS' => by (try dsimp only at hS'); go_split_ands; go_simp; (try with_reducible rfl)) ?_
    simp only [Act.put, List.getElem_toArray, List.getElem_cons_succ, List.getElem_cons_zero, List.setIfInBounds_toArray, List.set_cons_zero, List.set_cons_succ]
    refine Turns.take hS 12 _ rfl (by kernel_rfl) (by kernel_rfl) (by kernel_rfl) (by kernel_rfl) (fun _ _ _ h => h) (by rfl) (fun w' hS' => by (try dsimp only at hS'); go_split_ands; go_simp; (try with_reducible rfl)) ?_
    simp only [Act.put, List.getElem_toArray, List.getElem_cons_succ, List.getElem_cons_zero, List.setIfInBounds_toArray, List.set_cons_zero, List.set_cons_succ]
    refine Turns.take hS 13 _ rfl (by kernel_rfl) (by kernel_rfl) (by kernel_rfl) (by kernel_rfl) (fun _ _ _ h => h) (by rfl) (fun w' hS' => by (try dsimp only at hS'); go_split_ands; go_simp; (try with_reducible rfl)) ?_
    simp only [Act.put, List.getElem_toArray, List.getElem_cons_succ, List.getElem_cons_zero, List.setIfInBounds_toArray, List.set_cons_zero, List.set_cons_succ]
    refine Turns.take hS 14 _ rfl (by kernel_rfl) (by kernel_rfl) (by kernel_rfl) (by kernel_rfl) (fun _ _ _ h => h) (by rfl) (fun w' hS' => by (try dsimp only at hS'); go_split_ands; go_simp; (try with_reducible rfl)) ?_
    simp only [Act.put, List.getElem_toArray, List.getElem_cons_succ, List.getElem_cons_zero, List.setIfInBounds_toArray, List.set_cons_zero, List.set_cons_succ]
    refine Turns.take hS 17 _ rfl (by kernel_rfl) (by kernel_rfl) (by kernel_rfl) (by kernel_rfl) (fun _ _ _ h => h) (by rfl) (fun w' hS' => by (try dsimp only at hS'); go_split_ands; go_simp; (try with_reducible rfl)) ?_
    simp only [Act.put, List.getElem_toArray, List.getElem_cons_succ, List.getElem_cons_zero, List.setIfInBounds_toArray, List.set_cons_zero, List.set_cons_succ]
    refine Turns.next 15 rfl (by kernel_rfl) (by rfl) (fun K hK => ?_)
    go_simp
    go_at_call 21
    refine (h1 _).mono ?_
    rintro e wn15 ⟨rfl, hb⟩
    replace HB := Lib.hid (hS.2.2.2.2.next hb)
    clear hb
    refine hK.out _ _ (show (fun (w' : World) => w'.cell? ⟨w.heap.size, 0, none⟩ = some (.int .i64 s0_0) ∧ w'.cell? ⟨w.heap.size, 1, none⟩ = some (.int .i64 s0_1) ∧ w'.cell? ⟨w.heap.size, 2, none⟩ = some (.int .i64 s0_2) ∧ w'.cell? ⟨w.heap.size, 3, none⟩ = some (.int .i64 s0_3) ∧ Box w 23 #[.int .i64 s0_0, .int .i64 s0_1, .int .i64 s0_2, .int .i64 s0_3] w') _ from HB.out.bd4) ?_
    clear hK K hS
    have hS := (show (fun (w' : World) => w'.cell? ⟨w.heap.size, 0, none⟩ = some (.int .i64 s0_0) ∧ w'.cell? ⟨w.heap.size, 1, none⟩ = some (.int .i64 s0_1) ∧ w'.cell? ⟨w.heap.size, 2, none⟩ = some (.int .i64 s0_2) ∧ w'.cell? ⟨w.heap.size, 3, none⟩ = some (.int .i64 s0_3) ∧ Box w 23 #[.int .i64 s0_0, .int .i64 s0_1, .int .i64 s0_2, .int .i64 s0_3] w') _ from HB.out.bd4)
    refine Turns.take hS 16 _ rfl (by kernel_rfl) (by kernel_rfl) (by kernel_rfl) (by kernel_rfl) (fun _ _ _ h => h) (by rfl) (fun w' hS' => by (try dsimp only at hS'); go_split_ands; go_simp; (try with_reducible rfl)) ?_
    simp only [Act.put, List.getElem_toArray, List.getElem_cons_succ, List.getElem_cons_zero, List.setIfInBounds_toArray, List.set_cons_zero, List.set_cons_succ]
    refine Turns.next 18 rfl (by kernel_rfl) (by rfl) (fun K hK => ?_)
    go_simp
    go_at_call 11
    refine (hg _).mono ?_
    rintro e wn18 ⟨rfl, hb⟩
    replace HB := Lib.hid (hS.2.2.2.2.next hb)
    clear hb
    refine hK.out _ _ (show (fun (w' : World) => w'.cell? ⟨w.heap.size, 0, none⟩ = some (.int .i64 s0_0) ∧ w'.cell? ⟨w.heap.size, 1, none⟩ = some (.int .i64 s0_1) ∧ w'.cell? ⟨w.heap.size, 2, none⟩ = some (.int .i64 s0_2) ∧ w'.cell? ⟨w.heap.size, 3, none⟩ = some (.int .i64 s0_3) ∧ Box w 23 #[.int .i64 s0_0, .int .i64 s0_1, .int .i64 s0_2, .int .i64 s0_3] w') _ from HB.out.bd4) ?_
    clear hK K hS
    have hS := (show (fun (w' : World) => w'.cell? ⟨w.heap.size, 0, none⟩ = some (.int .i64 s0_0) ∧ w'.cell? ⟨w.heap.size, 1, none⟩ = some (.int .i64 s0_1) ∧ w'.cell? ⟨w.heap.size, 2, none⟩ = some (.int .i64 s0_2) ∧ w'.cell? ⟨w.heap.size, 3, none⟩ = some (.int .i64 s0_3) ∧ Box w 23 #[.int .i64 s0_0, .int .i64 s0_1, .int .i64 s0_2, .int .i64 s0_3] w') _ from HB.out.bd4)
    refine Turns.take hS 19 _ rfl (by kernel_rfl) (by kernel_rfl) (by kernel_rfl) (by kernel_rfl) (fun _ _ _ h => h) (by rfl) (fun w' hS' => by (try dsimp only at hS'); go_split_ands; go_simp; (try with_reducible rfl)) ?_
    simp only [Act.put, List.getElem_toArray, List.getElem_cons_succ, List.getElem_cons_zero, List.setIfInBounds_toArray, List.set_cons_zero, List.set_cons_succ]
    refine Turns.take hS 20 _ rfl (by kernel_rfl) (by kernel_rfl) (by kernel_rfl) (by kernel_rfl) (fun _ _ _ h => h) (by rfl) (fun w' hS' => by (try dsimp only at hS'); go_split_ands; go_simp; (try with_reducible rfl)) ?_
    simp only [Act.put, List.getElem_toArray, List.getElem_cons_succ, List.getElem_cons_zero, List.setIfInBounds_toArray, List.set_cons_zero, List.set_cons_succ]
    refine Turns.take hS 21 _ rfl (by kernel_rfl) (by kernel_rfl) (by kernel_rfl) (by kernel_rfl) (fun _ _ _ h => h) (by rfl) (fun w' hS' => by (try dsimp only at hS'); go_split_ands; go_simp; (try with_reducible rfl)) ?_
    simp only [Act.put, List.getElem_toArray, List.getElem_cons_succ, List.getElem_cons_zero, List.setIfInBounds_toArray, List.set_cons_zero, List.set_cons_succ]
    refine Turns.take hS 22 _ rfl (by kernel_rfl) (by kernel_rfl) (by kernel_rfl) (by kernel_rfl) (fun _ _ _ h => h) (by rfl) (fun w' hS' => by (try dsimp only at hS'); go_split_ands; go_simp; (try with_reducible rfl)) ?_
    simp only [Act.put, List.getElem_toArray, List.getElem_cons_succ, List.getElem_cons_zero, List.setIfInBounds_toArray, List.set_cons_zero, List.set_cons_succ]
    refine Turns.next 23 rfl (by kernel_rfl) (by rfl) (fun K hK => ?_)
    go_simp
    go_at_call 21
    refine (h0 _).mono ?_
    rintro e wn23 ⟨rfl, hb⟩
    replace HB := Lib.hid (hS.2.2.2.2.next hb)
    clear hb
    refine hK.out _ _ (show (fun (w' : World) => w'.cell? ⟨w.heap.size, 0, none⟩ = some (.int .i64 s0_0) ∧ w'.cell? ⟨w.heap.size, 1, none⟩ = some (.int .i64 s0_1) ∧ w'.cell? ⟨w.heap.size, 2, none⟩ = some (.int .i64 s0_2) ∧ w'.cell? ⟨w.heap.size, 3, none⟩ = some (.int .i64 s0_3) ∧ Box w 23 #[.int .i64 s0_0, .int .i64 s0_1, .int .i64 s0_2, .int .i64 s0_3] w') _ from HB.out.bd4) ?_
    clear hK K hS
    have hS := (show (fun (w' : World) => w'.cell? ⟨w.heap.size, 0, none⟩ = some (.int .i64 s0_0) ∧ w'.cell? ⟨w.heap.size, 1, none⟩ = some (.int .i64 s0_1) ∧ w'.cell? ⟨w.heap.size, 2, none⟩ = some (.int .i64 s0_2) ∧ w'.cell? ⟨w.heap.size, 3, none⟩ = some (.int .i64 s0_3) ∧ Box w 23 #[.int .i64 s0_0, .int .i64 s0_1, .int .i64 s0_2, .int .i64 s0_3] w') _ from HB.out.bd4)
    refine Turns.take hS 24 _ rfl (by kernel_rfl) (by kernel_rfl) (by kernel_rfl) (by kernel_rfl) (fun _ _ _ h => h) (by rfl) (fun w' hS' => by (try dsimp only at hS'); go_split_ands; go_simp; (try with_reducible rfl)) ?_
    simp only [Act.put, List.getElem_toArray, List.getElem_cons_succ, List.getElem_cons_zero, List.setIfInBounds_toArray, List.set_cons_zero, List.set_cons_succ]
    refine Turns.take hS 25 _ rfl (by kernel_rfl) (by kernel_rfl) (by kernel_rfl) (by kernel_rfl) (fun _ _ _ h => h) (by rfl) (fun w' hS' => by (try dsimp only at hS'); go_split_ands; go_simp; (try with_reducible rfl)) ?_
    simp only [Act.put, List.getElem_toArray, List.getElem_cons_succ, List.getElem_cons_zero, List.setIfInBounds_toArray, List.set_cons_zero, List.set_cons_succ]
    refine Turns.take hS 26 _ rfl (by kernel_rfl) (by kernel_rfl) (by kernel_rfl) (by kernel_rfl) (fun _ _ _ h => h) (by rfl) (fun w' hS' => by (try dsimp only at hS'); go_split_ands; go_simp; (try with_reducible rfl)) ?_
    simp only [Act.put, List.getElem_toArray, List.getElem_cons_succ, List.getElem_cons_zero, List.setIfInBounds_toArray, List.set_cons_zero, List.set_cons_succ]
    refine Turns.rest (late_done (by kernel_rfl)) ?_
    refine any_tail 27 (by rfl) (by kernel_rfl) ?_
    simp only [List.drop_succ_cons, List.drop_zero]
    clear hS
    go_wp2
    go_ret
    exact ⟨rfl, HB.out.below⟩
  have hu := sg eg
  have du : decide (0 < U) = true := decide_eq_true hu
  simp only [eg] at hg
  clear sg sb eg
  go_enter Try.func7, Try.ntmps7
  go_upto_region 5 with (first
    | (go_at_call 9; refine (alive_yes _).mono ?_; rintro e wx ⟨rfl, hb⟩; replace HB := Lib.hid (HB.out.next hb); obtain ⟨c0, c1, c2, c3, _⟩ := HB.out.bd4; clear hb))
  refine region_turns (fun (w' : World) => w'.cell? ⟨w.heap.size, 0, none⟩ = some (.int .i64 s0_0) ∧ w'.cell? ⟨w.heap.size, 1, none⟩ = some (.int .i64 s0_1) ∧ w'.cell? ⟨w.heap.size, 2, none⟩ = some (.int .i64 s0_2) ∧ w'.cell? ⟨w.heap.size, 3, none⟩ = some (.int .i64 s0_3) ∧ Box w 23 #[.int .i64 s0_0, .int .i64 s0_1, .int .i64 s0_2, .int .i64 s0_3] w') (fun j => decide (27 ≤ j)) (by kernel_rfl) (HB.out.drew.bd4) (fun hS => ?_)
  refine Turns.take hS 0 _ rfl (by kernel_rfl) (by kernel_rfl) (by kernel_rfl) (by kernel_rfl) (fun _ _ _ h => h) (by rfl) (fun w' hS' => by (try dsimp only at hS'); go_split_ands; go_simp; (try with_reducible rfl)) ?_
  simp only [Act.put, List.getElem_toArray, List.getElem_cons_succ, List.getElem_cons_zero, List.setIfInBounds_toArray, List.set_cons_zero, List.set_cons_succ]
  refine Turns.take hS 1 _ rfl (by kernel_rfl) (by kernel_rfl) (by kernel_rfl) (by kernel_rfl) (fun _ _ _ h => h) (by rfl) (fun w' hS' => by (try dsimp only at hS'); go_split_ands; go_simp; (try with_reducible rfl)) ?_
  simp only [Act.put, List.getElem_toArray, List.getElem_cons_succ, List.getElem_cons_zero, List.setIfInBounds_toArray, List.set_cons_zero, List.set_cons_succ]
  refine Turns.take hS 2 _ rfl (by kernel_rfl) (by kernel_rfl) (by kernel_rfl) (by kernel_rfl) (fun _ _ _ h => h) (by rfl) (fun w' hS' => by (try dsimp only at hS'); go_split_ands; go_simp; (try with_reducible rfl)) ?_
  simp only [Act.put, List.getElem_toArray, List.getElem_cons_succ, List.getElem_cons_zero, List.setIfInBounds_toArray, List.set_cons_zero, List.set_cons_succ]
  refine Turns.take hS 3 _ rfl (by kernel_rfl) (by kernel_rfl) (by kernel_rfl) (by kernel_rfl) (fun _ _ _ h => h) (by rfl) (fun w' hS' => by (try dsimp only at hS'); go_split_ands; go_simp; (try with_reducible rfl)) ?_
  simp only [Act.put, List.getElem_toArray, List.getElem_cons_succ, List.getElem_cons_zero, List.setIfInBounds_toArray, List.set_cons_zero, List.set_cons_succ]
  refine Turns.take hS 5 _ rfl (by kernel_rfl) (by kernel_rfl) (by kernel_rfl) (by kernel_rfl) (fun _ _ _ h => h) (by rfl) (fun w' hS' => by (try dsimp only at hS'); go_split_ands; go_simp; (try with_reducible rfl)) ?_
  simp only [Act.put, List.getElem_toArray, List.getElem_cons_succ, List.getElem_cons_zero, List.setIfInBounds_toArray, List.set_cons_zero, List.set_cons_succ]
  refine Turns.take hS 6 _ rfl (by kernel_rfl) (by kernel_rfl) (by kernel_rfl) (by kernel_rfl) (fun _ _ _ h => h) (by rfl) (fun w' hS' => by (try dsimp only at hS'); go_split_ands; go_simp; (try with_reducible rfl)) ?_
  simp only [Act.put, List.getElem_toArray, List.getElem_cons_succ, List.getElem_cons_zero, List.setIfInBounds_toArray, List.set_cons_zero, List.set_cons_succ]
  refine Turns.take hS 8 _ rfl (by kernel_rfl) (by kernel_rfl) (by kernel_rfl) (by kernel_rfl) (fun _ _ _ h => h) (by rfl) (fun w' hS' => by (try dsimp only at hS'); go_split_ands; go_simp; (try with_reducible rfl)) ?_
  simp only [Act.put, List.getElem_toArray, List.getElem_cons_succ, List.getElem_cons_zero, List.setIfInBounds_toArray, List.set_cons_zero, List.set_cons_succ]
  refine Turns.take hS 9 _ rfl (by kernel_rfl) (by kernel_rfl) (by kernel_rfl) (by kernel_rfl) (fun _ _ _ h => h) (by rfl) (fun w' hS' => by (try dsimp only at hS'); go_split_ands; go_simp; (try with_reducible rfl)) ?_
  simp only [Act.put, List.getElem_toArray, List.getElem_cons_succ, List.getElem_cons_zero, List.setIfInBounds_toArray, List.set_cons_zero, List.set_cons_succ]
  refine Turns.next 4 rfl (by kernel_rfl) (by rfl) (fun K hK => ?_)
  go_simp
  go_at_call 21
  refine (hab _).mono ?_
  rintro e wn4 ⟨rfl, hb⟩
  replace HB := Lib.hid (hS.2.2.2.2.next hb)
  clear hb
  refine hK.out _ _ (show (fun (w' : World) => w'.cell? ⟨w.heap.size, 0, none⟩ = some (.int .i64 s0_0) ∧ w'.cell? ⟨w.heap.size, 1, none⟩ = some (.int .i64 s0_1) ∧ w'.cell? ⟨w.heap.size, 2, none⟩ = some (.int .i64 s0_2) ∧ w'.cell? ⟨w.heap.size, 3, none⟩ = some (.int .i64 s0_3) ∧ Box w 23 #[.int .i64 s0_0, .int .i64 s0_1, .int .i64 s0_2, .int .i64 s0_3] w') _ from HB.out.bd4) ?_
  clear hK K hS
  have hS := (show (fun (w' : World) => w'.cell? ⟨w.heap.size, 0, none⟩ = some (.int .i64 s0_0) ∧ w'.cell? ⟨w.heap.size, 1, none⟩ = some (.int .i64 s0_1) ∧ w'.cell? ⟨w.heap.size, 2, none⟩ = some (.int .i64 s0_2) ∧ w'.cell? ⟨w.heap.size, 3, none⟩ = some (.int .i64 s0_3) ∧ Box w 23 #[.int .i64 s0_0, .int .i64 s0_1, .int .i64 s0_2, .int .i64 s0_3] w') _ from HB.out.bd4)
  refine Turns.next 7 rfl (by kernel_rfl) (by rfl) (fun K hK => ?_)
  go_simp
  go_at_call 21
  refine (ha _).mono ?_
  rintro e wn7 ⟨rfl, hb⟩
  replace HB := Lib.hid (hS.2.2.2.2.next hb)
  clear hb
  refine hK.out _ _ (show (fun (w' : World) => w'.cell? ⟨w.heap.size, 0, none⟩ = some (.int .i64 s0_0) ∧ w'.cell? ⟨w.heap.size, 1, none⟩ = some (.int .i64 s0_1) ∧ w'.cell? ⟨w.heap.size, 2, none⟩ = some (.int .i64 s0_2) ∧ w'.cell? ⟨w.heap.size, 3, none⟩ = some (.int .i64 s0_3) ∧ Box w 23 #[.int .i64 s0_0, .int .i64 s0_1, .int .i64 s0_2, .int .i64 s0_3] w') _ from HB.out.bd4) ?_
  clear hK K hS
  have hS := (show (fun (w' : World) => w'.cell? ⟨w.heap.size, 0, none⟩ = some (.int .i64 s0_0) ∧ w'.cell? ⟨w.heap.size, 1, none⟩ = some (.int .i64 s0_1) ∧ w'.cell? ⟨w.heap.size, 2, none⟩ = some (.int .i64 s0_2) ∧ w'.cell? ⟨w.heap.size, 3, none⟩ = some (.int .i64 s0_3) ∧ Box w 23 #[.int .i64 s0_0, .int .i64 s0_1, .int .i64 s0_2, .int .i64 s0_3] w') _ from HB.out.bd4)
  refine Turns.next 10 rfl (by kernel_rfl) (by rfl) (fun K hK => ?_)
  go_simp
  go_at_call 21
  refine (hb_ _).mono ?_
  rintro e wn10 ⟨rfl, hb⟩
  replace HB := Lib.hid (hS.2.2.2.2.next hb)
  clear hb
  refine hK.out _ _ (show (fun (w' : World) => w'.cell? ⟨w.heap.size, 0, none⟩ = some (.int .i64 s0_0) ∧ w'.cell? ⟨w.heap.size, 1, none⟩ = some (.int .i64 s0_1) ∧ w'.cell? ⟨w.heap.size, 2, none⟩ = some (.int .i64 s0_2) ∧ w'.cell? ⟨w.heap.size, 3, none⟩ = some (.int .i64 s0_3) ∧ Box w 23 #[.int .i64 s0_0, .int .i64 s0_1, .int .i64 s0_2, .int .i64 s0_3] w') _ from HB.out.bd4) ?_
  clear hK K hS
  have hS := (show (fun (w' : World) => w'.cell? ⟨w.heap.size, 0, none⟩ = some (.int .i64 s0_0) ∧ w'.cell? ⟨w.heap.size, 1, none⟩ = some (.int .i64 s0_1) ∧ w'.cell? ⟨w.heap.size, 2, none⟩ = some (.int .i64 s0_2) ∧ w'.cell? ⟨w.heap.size, 3, none⟩ = some (.int .i64 s0_3) ∧ Box w 23 #[.int .i64 s0_0, .int .i64 s0_1, .int .i64 s0_2, .int .i64 s0_3] w') _ from HB.out.bd4)
  refine Turns.take hS 11 _ rfl (by kernel_rfl) (by kernel_rfl) (by kernel_rfl) (by kernel_rfl) (fun _ _ _ h => h) (by rfl) (fun w' hS' => by (try dsimp only at hS'); go_split_ands; go_simp; (try with_reducible rfl)) ?_
  simp only [Act.put, List.getElem_toArray, List.getElem_cons_succ, List.getElem_cons_zero, List.setIfInBounds_toArray, List.set_cons_zero, List.set_cons_succ]
  refine Turns.take hS 12 _ rfl (by kernel_rfl) (by kernel_rfl) (by kernel_rfl) (by kernel_rfl) (fun _ _ _ h => h) (by rfl) (fun w' hS' => by (try dsimp only at hS'); go_split_ands; go_simp; (try with_reducible rfl)) ?_
  simp only [Act.put, List.getElem_toArray, List.getElem_cons_succ, List.getElem_cons_zero, List.setIfInBounds_toArray, List.set_cons_zero, List.set_cons_succ]
  refine Turns.take hS 13 _ rfl (by kernel_rfl) (by kernel_rfl) (by kernel_rfl) (by kernel_rfl) (fun _ _ _ h => h) (by rfl) (fun w' hS' => by (try dsimp only at hS'); go_split_ands; go_simp; (try with_reducible rfl)) ?_
  simp only [Act.put, List.getElem_toArray, List.getElem_cons_succ, List.getElem_cons_zero, List.setIfInBounds_toArray, List.set_cons_zero, List.set_cons_succ]
  refine Turns.take hS 14 _ rfl (by kernel_rfl) (by kernel_rfl) (by kernel_rfl) (by kernel_rfl) (fun _ _ _ h => h) (by rfl) (fun w' hS' => by (try dsimp only at hS'); go_split_ands; go_simp; (try with_reducible rfl)) ?_
  simp only [Act.put, List.getElem_toArray, List.getElem_cons_succ, List.getElem_cons_zero, List.setIfInBounds_toArray, List.set_cons_zero, List.set_cons_succ]
  refine Turns.take hS 17 _ rfl (by kernel_rfl) (by kernel_rfl) (by kernel_rfl) (by kernel_rfl) (fun _ _ _ h => h) (by rfl) (fun w' hS' => by (try dsimp only at hS'); go_split_ands; go_simp; (try with_reducible rfl)) ?_
  simp only [Act.put, List.getElem_toArray, List.getElem_cons_succ, List.getElem_cons_zero, List.setIfInBounds_toArray, List.set_cons_zero, List.set_cons_succ]
  refine Turns.next 15 rfl (by kernel_rfl) (by rfl) (fun K hK => ?_)
  go_simp
  go_at_call 21
  refine (h1 _).mono ?_
  rintro e wn15 ⟨rfl, hb⟩
  replace HB := Lib.hid (hS.2.2.2.2.next hb)
  clear hb
  refine hK.out _ _ (show (fun (w' : World) => w'.cell? ⟨w.heap.size, 0, none⟩ = some (.int .i64 s0_0) ∧ w'.cell? ⟨w.heap.size, 1, none⟩ = some (.int .i64 s0_1) ∧ w'.cell? ⟨w.heap.size, 2, none⟩ = some (.int .i64 s0_2) ∧ w'.cell? ⟨w.heap.size, 3, none⟩ = some (.int .i64 s0_3) ∧ Box w 23 #[.int .i64 s0_0, .int .i64 s0_1, .int .i64 s0_2, .int .i64 s0_3] w') _ from HB.out.bd4) ?_
  clear hK K hS
  have hS := (show (fun (w' : World) => w'.cell? ⟨w.heap.size, 0, none⟩ = some (.int .i64 s0_0) ∧ w'.cell? ⟨w.heap.size, 1, none⟩ = some (.int .i64 s0_1) ∧ w'.cell? ⟨w.heap.size, 2, none⟩ = some (.int .i64 s0_2) ∧ w'.cell? ⟨w.heap.size, 3, none⟩ = some (.int .i64 s0_3) ∧ Box w 23 #[.int .i64 s0_0, .int .i64 s0_1, .int .i64 s0_2, .int .i64 s0_3] w') _ from HB.out.bd4)
  refine Turns.take hS 16 _ rfl (by kernel_rfl) (by kernel_rfl) (by kernel_rfl) (by kernel_rfl) (fun _ _ _ h => h) (by rfl) (fun w' hS' => by (try dsimp only at hS'); go_split_ands; go_simp; (try with_reducible rfl)) ?_
  simp only [Act.put, List.getElem_toArray, List.getElem_cons_succ, List.getElem_cons_zero, List.setIfInBounds_toArray, List.set_cons_zero, List.set_cons_succ]
  refine Turns.next 18 rfl (by kernel_rfl) (by rfl) (fun K hK => ?_)
  go_simp
  go_at_call 11
  refine (hg _).mono ?_
  rintro e wn18 ⟨rfl, hb⟩
  replace HB := Lib.hid (hS.2.2.2.2.next hb)
  clear hb
  refine hK.out _ _ (show (fun (w' : World) => w'.cell? ⟨w.heap.size, 0, none⟩ = some (.int .i64 s0_0) ∧ w'.cell? ⟨w.heap.size, 1, none⟩ = some (.int .i64 s0_1) ∧ w'.cell? ⟨w.heap.size, 2, none⟩ = some (.int .i64 s0_2) ∧ w'.cell? ⟨w.heap.size, 3, none⟩ = some (.int .i64 s0_3) ∧ Box w 23 #[.int .i64 s0_0, .int .i64 s0_1, .int .i64 s0_2, .int .i64 s0_3] w') _ from HB.out.bd4) ?_
  clear hK K hS
  have hS := (show (fun (w' : World) => w'.cell? ⟨w.heap.size, 0, none⟩ = some (.int .i64 s0_0) ∧ w'.cell? ⟨w.heap.size, 1, none⟩ = some (.int .i64 s0_1) ∧ w'.cell? ⟨w.heap.size, 2, none⟩ = some (.int .i64 s0_2) ∧ w'.cell? ⟨w.heap.size, 3, none⟩ = some (.int .i64 s0_3) ∧ Box w 23 #[.int .i64 s0_0, .int .i64 s0_1, .int .i64 s0_2, .int .i64 s0_3] w') _ from HB.out.bd4)
  refine Turns.take hS 19 _ rfl (by kernel_rfl) (by kernel_rfl) (by kernel_rfl) (by kernel_rfl) (fun _ _ _ h => h) (by rfl) (fun w' hS' => by (try dsimp only at hS'); go_split_ands; go_simp; (try with_reducible rfl)) ?_
  simp only [Act.put, List.getElem_toArray, List.getElem_cons_succ, List.getElem_cons_zero, List.setIfInBounds_toArray, List.set_cons_zero, List.set_cons_succ]
  refine Turns.take hS 20 _ rfl (by kernel_rfl) (by kernel_rfl) (by kernel_rfl) (by kernel_rfl) (fun _ _ _ h => h) (by rfl) (fun w' hS' => by (try dsimp only at hS'); go_split_ands; go_simp; (try with_reducible rfl)) ?_
  simp only [Act.put, List.getElem_toArray, List.getElem_cons_succ, List.getElem_cons_zero, List.setIfInBounds_toArray, List.set_cons_zero, List.set_cons_succ]
  refine Turns.take hS 21 _ rfl (by kernel_rfl) (by kernel_rfl) (by kernel_rfl) (by kernel_rfl) (fun _ _ _ h => h) (by rfl) (fun w' hS' => by (try dsimp only at hS'); go_split_ands; go_simp; (try with_reducible rfl)) ?_
  simp only [Act.put, List.getElem_toArray, List.getElem_cons_succ, List.getElem_cons_zero, List.setIfInBounds_toArray, List.set_cons_zero, List.set_cons_succ]
  refine Turns.take hS 22 _ rfl (by kernel_rfl) (by kernel_rfl) (by kernel_rfl) (by kernel_rfl) (fun _ _ _ h => h) (by rfl) (fun w' hS' => by (try dsimp only at hS'); go_split_ands; go_simp; (try with_reducible rfl)) ?_
  simp only [Act.put, List.getElem_toArray, List.getElem_cons_succ, List.getElem_cons_zero, List.setIfInBounds_toArray, List.set_cons_zero, List.set_cons_succ]
  refine Turns.next 23 rfl (by kernel_rfl) (by rfl) (fun K hK => ?_)
  go_simp
  go_at_call 21
  refine (h0 _).mono ?_
  rintro e wn23 ⟨rfl, hb⟩
  replace HB := Lib.hid (hS.2.2.2.2.next hb)
  clear hb
  refine hK.out _ _ (show (fun (w' : World) => w'.cell? ⟨w.heap.size, 0, none⟩ = some (.int .i64 s0_0) ∧ w'.cell? ⟨w.heap.size, 1, none⟩ = some (.int .i64 s0_1) ∧ w'.cell? ⟨w.heap.size, 2, none⟩ = some (.int .i64 s0_2) ∧ w'.cell? ⟨w.heap.size, 3, none⟩ = some (.int .i64 s0_3) ∧ Box w 23 #[.int .i64 s0_0, .int .i64 s0_1, .int .i64 s0_2, .int .i64 s0_3] w') _ from HB.out.bd4) ?_
  clear hK K hS
  have hS := (show (fun (w' : World) => w'.cell? ⟨w.heap.size, 0, none⟩ = some (.int .i64 s0_0) ∧ w'.cell? ⟨w.heap.size, 1, none⟩ = some (.int .i64 s0_1) ∧ w'.cell? ⟨w.heap.size, 2, none⟩ = some (.int .i64 s0_2) ∧ w'.cell? ⟨w.heap.size, 3, none⟩ = some (.int .i64 s0_3) ∧ Box w 23 #[.int .i64 s0_0, .int .i64 s0_1, .int .i64 s0_2, .int .i64 s0_3] w') _ from HB.out.bd4)
  refine Turns.take hS 24 _ rfl (by kernel_rfl) (by kernel_rfl) (by kernel_rfl) (by kernel_rfl) (fun _ _ _ h => h) (by rfl) (fun w' hS' => by (try dsimp only at hS'); go_split_ands; go_simp; (try with_reducible rfl)) ?_
  simp only [Act.put, List.getElem_toArray, List.getElem_cons_succ, List.getElem_cons_zero, List.setIfInBounds_toArray, List.set_cons_zero, List.set_cons_succ]
  refine Turns.take hS 25 _ rfl (by kernel_rfl) (by kernel_rfl) (by kernel_rfl) (by kernel_rfl) (fun _ _ _ h => h) (by rfl) (fun w' hS' => by (try dsimp only at hS'); go_split_ands; go_simp; (try with_reducible rfl)) ?_
  simp only [Act.put, List.getElem_toArray, List.getElem_cons_succ, List.getElem_cons_zero, List.setIfInBounds_toArray, List.set_cons_zero, List.set_cons_succ]
  refine Turns.take hS 26 _ rfl (by kernel_rfl) (by kernel_rfl) (by kernel_rfl) (by kernel_rfl) (fun _ _ _ h => h) (by rfl) (fun w' hS' => by (try dsimp only at hS'); go_split_ands; go_simp; (try with_reducible rfl)) ?_
  simp only [Act.put, List.getElem_toArray, List.getElem_cons_succ, List.getElem_cons_zero, List.setIfInBounds_toArray, List.set_cons_zero, List.set_cons_succ]
  refine Turns.rest (late_done (by kernel_rfl)) ?_
  refine any_tail 27 (by rfl) (by kernel_rfl) ?_
  simp only [List.drop_succ_cons, List.drop_zero]
  clear hS
  go_wp2
  go_ret
  exact ⟨rfl, HB.out.below⟩

set_option maxRecDepth 100000 in
theorem lifted (os : Os) (started : os.Started) (H : Type) (enc : TypeId × Value → H) :
    ReturnsInHanded {} Try.checked os 7 .any (Rows.boundAddsSpec.pre6 enc Try.prog Try.f7 Rows.boundAddsRow.domain false) (Rows.boundAddsSpec.post enc Try.prog Try.f7 false true false false) := by
  refine returnsInHanded_of_change (C := Try.checked) own started (by kernel_rfl) Try.func7
    (ChangeSpec.witness6 (enc := enc) (C := Try.checked) false ⟨#[], #[.agg #[.int .i64 0, .int .i64 0, .int .i64 0, .int .i64 0], .int .i64 0, .int .i64 0], []⟩ 8 (by kernel_rfl) (by kernel_rfl) (by kernel_rfl) (by kernel_rfl)) ?_
  intro W base args ds gs before hval0 hW hcnd _
  have hval : ∀ (j : Nat) t v, Try.f7.params[j]? = some t → args[j]? = some v → Value.okWide Try.prog W .any base t v := hval0
  have hW' := hW
  obtain ⟨p, q, hA0, hV, rfl, hfz, hnd⟩ := hW
  have hA : DataW.TrodAll enc Try.prog W 0 (fun _ => true) true Try.f7.params.toList args.toList ds p := hA0
  have hAk := hA
  rw [Try.params7] at hA hval
  obtain ⟨v0, vs0, d0, ds0, p0, q0, hargs, rfl, hp, h0, r0⟩ := trodAll_cons hA
  obtain ⟨v1, vs1, d1, ds1, p1, q1, rfl, rfl, rfl, h1, r1⟩ := trodAll_cons r0
  obtain ⟨v2, vs2, d2, ds2, p2, q2, rfl, rfl, rfl, h2, r2⟩ := trodAll_cons r1
  obtain ⟨rfl, rfl, rfl⟩ := trodAll_nil r2
  obtain rfl : args = #[v0, v1, v2] := by cases args; simp_all
  obtain ⟨rfl, rfl⟩ := trodVars_none hV
  clear hA0 hval0 hargs
  simp only [List.append_nil] at hW'
  have hend : ∀ W' : World, Below W.heap.size W W' → Rows.boundAddsSpec.post enc Try.prog Try.f7 false true false false W #[v0, v1, v2] (.bool true) W' := fun W' hb =>
    law_post (tb := 4) hW' hAk rfl (by kernel_rfl) (by kernel_rfl) (by kernel_rfl) Try.underlying4 rfl rfl rfl hb
  clear hW' hAk hp
  obtain ⟨ns0, rfl, hl0, hw0⟩ := ints_struct (ks := [.i64, .i64, .i64, .i64]) Try.underlying23 (by kernel_rfl) (by kernel_rfl) (by kernel_rfl) (hval 0 23 v0 rfl rfl) h0
  obtain ⟨s0_0, s0_1, s0_2, s0_3, rfl⟩ := split4 hl0
  clear hl0
  obtain ⟨a1, rfl, rfl, rfl, w1⟩ := open_int Try.underlying3 (hval 1 3 v1 rfl rfl) h1
  obtain ⟨a2, rfl, rfl, rfl, w2⟩ := open_int Try.underlying3 (hval 2 3 v2 rfl rfl) h2
  refine (walk s0_0 s0_1 s0_2 s0_3 a1 a2 W (hw0 0 _ _ rfl rfl) (hw0 1 _ _ rfl rfl) (hw0 2 _ _ rfl rfl) (hw0 3 _ _ rfl rfl) w1 w2).mono fun e W' ⟨he, hg⟩ => ?_
  subst he
  exact ⟨_, rfl, hend W' hg⟩

theorem over : Rows.boundAddsRow.holds Try.pinned (OpenSpec.ofChange Rows.boundAddsSpec) :=
  OpenClaim.holds_of_wide 7 Try.f7 rfl rfl rfl rfl rfl rfl rfl ⟨rfl, rfl, rfl, rfl, rfl⟩ rfl rfl rfl rfl rfl (by kernel_rfl) Try.func7 (by kernel_rfl)
    (of_decide_eq_true (by kernel_rfl)) (by unfold Func.isWrapper; first | (rw [if_pos (by decide +kernel)]; kernel_rfl) | (rw [if_neg (by decide +kernel)]; exact ⟨rfl, rfl⟩))
    (fun os started H enc _ => lifted os started H enc)

/-- THE STATEMENT -/
theorem proved : Rows.BoundAddsSaid :=
  over
#print axioms proved
end Go.Proofs.Ytgcmeoogmjganaa.boundAdds
