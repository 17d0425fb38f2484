/- Package bound: what the document's own reckoning answers. -/
import Derived.Test.YtgcmeoogmjganaaBdB
namespace Go.Proofs.Ytgcmeoogmjganaa
open Go.RowKit
set_option linter.unusedSimpArgs false
set_option linter.unusedVariables false

theorem rbgood_any (d j t r : Int) (w : World) :
    Calls Try.prog 12 #[.agg #[.int .i64 d, .int .i64 j, .int .i64 t, .int .i64 r]] w fun e w' => e = .returned (.bool (bdGood d j t r)) ∧ Below w.heap.size w w' := by
  have HB := Lib.hid (Box.start w 25 #[.int .i64 d, .int .i64 j, .int .i64 t, .int .i64 r])
  obtain ⟨c0, c1, c2, c3, _⟩ := HB.out.bd4
  by_cases g0 : 0 ≤ d
  rotate_left
  · have hG : bdGood d j t r = false := bdGood_no fun g => g0 (by have := g.d0; omega)
    have x0 : decide (0 ≤ d) = false := decide_eq_false g0
    go_enter Try.func12, Try.ntmps12
    go_wp2
    go_ret
    first | exact ⟨rfl, HB.out.below⟩ | exact ⟨by rw [hG]; rfl, HB.out.below⟩
  have x0 : decide (0 ≤ d) = true := decide_eq_true g0
  by_cases g1 : d ≤ 10
  rotate_left
  · have hG : bdGood d j t r = false := bdGood_no fun g => g1 (by have := g.d1; omega)
    have x1 : decide (d ≤ 10) = false := decide_eq_false g1
    go_enter Try.func12, Try.ntmps12
    go_wp2
    go_ret
    first | exact ⟨rfl, HB.out.below⟩ | exact ⟨by rw [hG]; rfl, HB.out.below⟩
  have x1 : decide (d ≤ 10) = true := decide_eq_true g1
  by_cases g2 : 0 ≤ j
  rotate_left
  · have hG : bdGood d j t r = false := bdGood_no fun g => g2 (by have := g.j0; omega)
    have x2 : decide (0 ≤ j) = false := decide_eq_false g2
    go_enter Try.func12, Try.ntmps12
    go_wp2
    go_ret
    first | exact ⟨rfl, HB.out.below⟩ | exact ⟨by rw [hG]; rfl, HB.out.below⟩
  have x2 : decide (0 ≤ j) = true := decide_eq_true g2
  by_cases g3 : j ≤ 20
  rotate_left
  · have hG : bdGood d j t r = false := bdGood_no fun g => g3 (by have := g.j1; omega)
    have x3 : decide (j ≤ 20) = false := decide_eq_false g3
    go_enter Try.func12, Try.ntmps12
    go_wp2
    go_ret
    first | exact ⟨rfl, HB.out.below⟩ | exact ⟨by rw [hG]; rfl, HB.out.below⟩
  have x3 : decide (j ≤ 20) = true := decide_eq_true g3
  by_cases g4 : 1 ≤ t
  rotate_left
  · have hG : bdGood d j t r = false := bdGood_no fun g => g4 (by have := g.t0; omega)
    have x4 : decide (1 ≤ t) = false := decide_eq_false g4
    go_enter Try.func12, Try.ntmps12
    go_wp2
    go_ret
    first | exact ⟨rfl, HB.out.below⟩ | exact ⟨by rw [hG]; rfl, HB.out.below⟩
  have x4 : decide (1 ≤ t) = true := decide_eq_true g4
  by_cases g5 : t ≤ 1000
  rotate_left
  · have hG : bdGood d j t r = false := bdGood_no fun g => g5 (by have := g.t1; omega)
    have x5 : decide (t ≤ 1000) = false := decide_eq_false g5
    go_enter Try.func12, Try.ntmps12
    go_wp2
    go_ret
    first | exact ⟨rfl, HB.out.below⟩ | exact ⟨by rw [hG]; rfl, HB.out.below⟩
  have x5 : decide (t ≤ 1000) = true := decide_eq_true g5
  by_cases g6 : 1 ≤ r
  rotate_left
  · have hG : bdGood d j t r = false := bdGood_no fun g => g6 (by have := g.r0; omega)
    have x6 : decide (1 ≤ r) = false := decide_eq_false g6
    go_enter Try.func12, Try.ntmps12
    go_wp2
    go_ret
    first | exact ⟨rfl, HB.out.below⟩ | exact ⟨by rw [hG]; rfl, HB.out.below⟩
  have x6 : decide (1 ≤ r) = true := decide_eq_true g6
  by_cases g7 : r ≤ 64
  rotate_left
  · have hG : bdGood d j t r = false := bdGood_no fun g => g7 (by have := g.r1; omega)
    have x7 : decide (r ≤ 64) = false := decide_eq_false g7
    go_enter Try.func12, Try.ntmps12
    go_wp2
    go_ret
    first | exact ⟨rfl, HB.out.below⟩ | exact ⟨by rw [hG]; rfl, HB.out.below⟩
  have x7 : decide (r ≤ 64) = true := decide_eq_true g7
  have hG : bdGood d j t r = true := bdGood_iff.2 ⟨by omega, by omega, by omega, by omega, by omega, by omega, by omega, by omega⟩
  go_enter Try.func12, Try.ntmps12
  go_wp2
  go_ret
  first | exact ⟨rfl, HB.out.below⟩ | exact ⟨by rw [hG]; rfl, HB.out.below⟩
theorem rticks_any (d j t r n : Int) (w : World) :
    Calls Try.prog 14 #[.agg #[.int .i64 d, .int .i64 j, .int .i64 t, .int .i64 r], .int .i64 n] w fun e w' => e = .returned (.int .i64 (bdTicks d j t r n)) ∧ Below w.heap.size w w' := by
  have HB := Lib.hid (Box.start w 25 #[.int .i64 d, .int .i64 j, .int .i64 t, .int .i64 r])
  obtain ⟨c0, c1, c2, c3, _⟩ := HB.out.bd4
  cases g1 : bdGood d j t r
  · have hT : bdTicks d j t r n = 0 := by unfold bdTicks; rw [if_neg]; rw [g1]; rintro ⟨h, _⟩; cases h
    go_enter Try.func14, Try.ntmps14
    go_wp2_with (first
      | (go_at_call 12; refine (rbgood_any _ _ _ _ _).mono ?_; rintro e wx ⟨rfl, hb⟩; replace HB := Lib.hid (HB.out.next hb); obtain ⟨c0, c1, c2, c3, _⟩ := HB.out.bd4; clear hb))
    go_ret
    first | exact ⟨ret_int hT.symm, HB.out.below⟩ | exact ⟨ret_int rfl, HB.out.below⟩
  by_cases h0 : n < 0
  · have g2 : bdIn n 0 1073741824 = false := bdIn_no (by omega)
    have hT : bdTicks d j t r n = 0 := by unfold bdTicks; rw [if_neg]; rw [g2]; rintro ⟨_, h⟩; cases h
    have x1 : decide (n < 0) = true := decide_eq_true (by omega)
    go_enter Try.func14, Try.ntmps14
    go_wp2_with (first
      | (go_at_call 12; refine (rbgood_any _ _ _ _ _).mono ?_; rintro e wx ⟨rfl, hb⟩; replace HB := Lib.hid (HB.out.next hb); obtain ⟨c0, c1, c2, c3, _⟩ := HB.out.bd4; clear hb))
    go_ret
    first | exact ⟨ret_int hT.symm, HB.out.below⟩ | exact ⟨ret_int rfl, HB.out.below⟩
  have x0 : decide (n < 0) = false := decide_eq_false (by omega)
  by_cases h1 : 1073741824 < n
  · have g2 : bdIn n 0 1073741824 = false := bdIn_no (by omega)
    have hT : bdTicks d j t r n = 0 := by unfold bdTicks; rw [if_neg]; rw [g2]; rintro ⟨_, h⟩; cases h
    have x1 : decide (1073741824 < n) = true := decide_eq_true (by omega)
    go_enter Try.func14, Try.ntmps14
    go_wp2_with (first
      | (go_at_call 12; refine (rbgood_any _ _ _ _ _).mono ?_; rintro e wx ⟨rfl, hb⟩; replace HB := Lib.hid (HB.out.next hb); obtain ⟨c0, c1, c2, c3, _⟩ := HB.out.bd4; clear hb))
    go_ret
    first | exact ⟨ret_int hT.symm, HB.out.below⟩ | exact ⟨ret_int rfl, HB.out.below⟩
  have x1 : decide (1073741824 < n) = false := decide_eq_false (by omega)
  have g2 : bdIn n 0 1073741824 = true := bdIn_iff.2 (by omega)
  have hT : bdTicks d j t r n = n * r * (1000 + d) := by unfold bdTicks; rw [if_pos ⟨g1, g2⟩]
  have k := bdGood_iff.1 g1
  have i := bdIn_iff.1 g2
  have p := bd_prod i.1 i.2 k.r0 k.r1 k.d0 k.d1
  obtain ⟨⟨p1, p2⟩, p3, p4⟩ := p
  have k1 := k.d0
  have k2 := k.d1
  clear k i
  go_enter Try.func14, Try.ntmps14
  go_wp2_with (first
    | (go_at_call 12; refine (rbgood_any _ _ _ _ _).mono ?_; rintro e wx ⟨rfl, hb⟩; replace HB := Lib.hid (HB.out.next hb); obtain ⟨c0, c1, c2, c3, _⟩ := HB.out.bd4; clear hb))
  go_ret
  first | exact ⟨ret_int hT.symm, HB.out.below⟩ | exact ⟨ret_int rfl, HB.out.below⟩
theorem rlag_any (d j t r n : Int) (w : World) :
    Calls Try.prog 16 #[.agg #[.int .i64 d, .int .i64 j, .int .i64 t, .int .i64 r], .int .i64 n] w fun e w' => e = .returned (.int .i64 (bdLag d j t r n)) ∧ Below w.heap.size w w' := by
  have HB := Lib.hid (Box.start w 25 #[.int .i64 d, .int .i64 j, .int .i64 t, .int .i64 r])
  obtain ⟨c0, c1, c2, c3, _⟩ := HB.out.bd4
  cases g1 : bdGood d j t r
  · have hT : bdLag d j t r n = 0 := by unfold bdLag; rw [if_neg]; rw [g1]; exact Bool.false_ne_true
    go_enter Try.func16, Try.ntmps16
    go_wp2_with (first
      | (go_at_call 12; refine (rbgood_any _ _ _ _ _).mono ?_; rintro e wx ⟨rfl, hb⟩; replace HB := Lib.hid (HB.out.next hb); obtain ⟨c0, c1, c2, c3, _⟩ := HB.out.bd4; clear hb))
    go_ret
    first | exact ⟨ret_int hT.symm, HB.out.below⟩ | exact ⟨ret_int rfl, HB.out.below⟩
  have k := bdGood_iff.1 g1
  have k1 := k.d0
  have k2 := k.d1
  clear k
  have hT : bdLag d j t r n = (2 * d * bdTicks d j t r n + (1000 - d) - 1) / (1000 - d) := by unfold bdLag; rw [if_pos g1]
  have tb := bdTicks_bd d j t r n
  obtain ⟨T, hTT⟩ : ∃ T, bdTicks d j t r n = T := ⟨_, rfl⟩
  rw [hTT] at hT tb
  have m := bd_num k1 k2 tb.1 tb.2
  obtain ⟨m1, m2⟩ := m
  have hU := bd_up m1 (by omega : 0 < 1000 - d)
  have s0 : (1000 - d == 0) = false := by simp; omega
  have s1 : ¬ 1000 - d = 0 := by omega
  have e0 : (2 * d * T).tdiv (1000 - d) = 2 * d * T / (1000 - d) := Int.tdiv_eq_ediv_of_nonneg (by omega)
  have q := bd_div (n := 2 * d * T) (s := 1000 - d) (N := 1388133430067200) (by omega) (by omega) (by omega)
  obtain ⟨Q, hQ⟩ : ∃ Q, 2 * d * T / (1000 - d) = Q := ⟨_, rfl⟩
  rw [hQ] at q e0 hU
  obtain ⟨q1, q2⟩ := q
  obtain ⟨tb1, tb2⟩ := tb
  have p := bd_mul q1 q2 (by omega : 0 ≤ 1000 - d) (by omega : 1000 - d ≤ 1000)
  obtain ⟨p1, p2⟩ := p
  have z0 : IntKind.i64.wrap (2 * d) = 2 * d := IntWalk.i64_in _ (by omega)
  have z1 : IntKind.i64.wrap (2 * d * T) = 2 * d * T := IntWalk.i64_in _ (by omega)
  by_cases h : Q * (1000 - d) < 2 * d * T
  · rw [if_pos h] at hU
    rw [hU] at hT
    clear hU
    go_enter Try.func16, Try.ntmps16
    go_wp2_with (first
      | (go_at_call 12; refine (rbgood_any _ _ _ _ _).mono ?_; rintro e wx ⟨rfl, hb⟩; replace HB := Lib.hid (HB.out.next hb); obtain ⟨c0, c1, c2, c3, _⟩ := HB.out.bd4; clear hb))
    refine region_turns (fun (w' : World) => w'.cell? ⟨w.heap.size, 0, none⟩ = some (.int .i64 d) ∧ w'.cell? ⟨w.heap.size, 1, none⟩ = some (.int .i64 j) ∧ w'.cell? ⟨w.heap.size, 2, none⟩ = some (.int .i64 t) ∧ w'.cell? ⟨w.heap.size, 3, none⟩ = some (.int .i64 r) ∧ Box w 25 #[.int .i64 d, .int .i64 j, .int .i64 t, .int .i64 r] w') (fun j => decide (8 ≤ j)) (by kernel_rfl) (HB.out.drew.bd4) (fun hS => ?_)
    refine Turns.take hS 0 _ rfl (by kernel_rfl) (by kernel_rfl) (by kernel_rfl) (by kernel_rfl) (fun _ _ _ h => h) (by rfl) (fun w' hS' => by (try dsimp only at hS'); go_split_ands; go_simp; (try with_reducible rfl)) ?_
    simp only [Act.put, List.getElem_toArray, List.getElem_cons_succ, List.getElem_cons_zero, List.setIfInBounds_toArray, List.set_cons_zero, List.set_cons_succ]
    refine Turns.take hS 1 _ rfl (by kernel_rfl) (by kernel_rfl) (by kernel_rfl) (by kernel_rfl) (fun _ _ _ h => h) (by rfl) (fun w' hS' => by (try dsimp only at hS'); go_split_ands; go_simp; (try with_reducible rfl)) ?_
    simp only [Act.put, List.getElem_toArray, List.getElem_cons_succ, List.getElem_cons_zero, List.setIfInBounds_toArray, List.set_cons_zero, List.set_cons_succ]
    refine Turns.take hS 2 _ rfl (by kernel_rfl) (by kernel_rfl) (by kernel_rfl) (by kernel_rfl) (fun _ _ _ h => h) (by rfl) (fun w' hS' => by (try dsimp only at hS'); go_split_ands; go_simp; (try with_reducible rfl)) ?_
    simp only [Act.put, List.getElem_toArray, List.getElem_cons_succ, List.getElem_cons_zero, List.setIfInBounds_toArray, List.set_cons_zero, List.set_cons_succ]
    refine Turns.take hS 3 _ rfl (by kernel_rfl) (by kernel_rfl) (by kernel_rfl) (by kernel_rfl) (fun _ _ _ h => h) (by rfl) (fun w' hS' => by (try dsimp only at hS'); go_split_ands; go_simp; (try with_reducible rfl)) ?_
    simp only [Act.put, List.getElem_toArray, List.getElem_cons_succ, List.getElem_cons_zero, List.setIfInBounds_toArray, List.set_cons_zero, List.set_cons_succ]
    refine Turns.take hS 4 _ rfl (by kernel_rfl) (by kernel_rfl) (by kernel_rfl) (by kernel_rfl) (fun _ _ _ h => h) (by rfl) (fun w' hS' => by (try dsimp only at hS'); go_split_ands; go_simp; (try with_reducible rfl)) ?_
    simp only [Act.put, List.getElem_toArray, List.getElem_cons_succ, List.getElem_cons_zero, List.setIfInBounds_toArray, List.set_cons_zero, List.set_cons_succ]
    refine Turns.next 5 rfl (by kernel_rfl) (by rfl) (fun K hK => ?_)
    go_simp
    go_at_call 14
    refine (rticks_any d j t r n _).mono ?_
    rintro e wx5 ⟨rfl, hb⟩
    have HE5 := Lib.hid (hS.2.2.2.2.next hb)
    refine hK.out _ _ (show (fun (w' : World) => w'.cell? ⟨w.heap.size, 0, none⟩ = some (.int .i64 d) ∧ w'.cell? ⟨w.heap.size, 1, none⟩ = some (.int .i64 j) ∧ w'.cell? ⟨w.heap.size, 2, none⟩ = some (.int .i64 t) ∧ w'.cell? ⟨w.heap.size, 3, none⟩ = some (.int .i64 r) ∧ Box w 25 #[.int .i64 d, .int .i64 j, .int .i64 t, .int .i64 r] w') _ from HE5.out.bd4) ?_
    clear hK K hS
    have hS := (show (fun (w' : World) => w'.cell? ⟨w.heap.size, 0, none⟩ = some (.int .i64 d) ∧ w'.cell? ⟨w.heap.size, 1, none⟩ = some (.int .i64 j) ∧ w'.cell? ⟨w.heap.size, 2, none⟩ = some (.int .i64 t) ∧ w'.cell? ⟨w.heap.size, 3, none⟩ = some (.int .i64 r) ∧ Box w 25 #[.int .i64 d, .int .i64 j, .int .i64 t, .int .i64 r] w') _ from HE5.out.bd4)
    refine Turns.take hS 6 _ rfl (by kernel_rfl) (by kernel_rfl) (by kernel_rfl) (by kernel_rfl) (fun _ _ _ h => h) (by rfl) (fun w' hS' => by (try dsimp only at hS'); go_split_ands; go_simp; (try with_reducible rfl)) ?_
    simp only [Act.put, List.getElem_toArray, List.getElem_cons_succ, List.getElem_cons_zero, List.setIfInBounds_toArray, List.set_cons_zero, List.set_cons_succ]
    refine Turns.take hS 7 _ rfl (by kernel_rfl) (by kernel_rfl) (by kernel_rfl) (by kernel_rfl) (fun _ _ _ h => h) (by rfl) (fun w' hS' => by (try dsimp only at hS'); go_split_ands; go_simp; (try with_reducible rfl)) ?_
    simp only [Act.put, List.getElem_toArray, List.getElem_cons_succ, List.getElem_cons_zero, List.setIfInBounds_toArray, List.set_cons_zero, List.set_cons_succ]
    refine Turns.rest (late_done (by kernel_rfl)) ?_
    refine any_tail 8 (by rfl) (by kernel_rfl) ?_
    simp only [List.drop_succ_cons, List.drop_zero]
    clear hS
    obtain ⟨c0, c1, c2, c3, _⟩ := HE5.out.bd4
    go_wp2
    go_ret
    exact ⟨ret_int hT.symm, HE5.out.below⟩
  have h' : decide (Q * (1000 - d) < 2 * d * T) = false := decide_eq_false h
  rw [if_neg h] at hU
  rw [hU] at hT
  clear hU
  go_enter Try.func16, Try.ntmps16
  go_wp2_with (first
    | (go_at_call 12; refine (rbgood_any _ _ _ _ _).mono ?_; rintro e wx ⟨rfl, hb⟩; replace HB := Lib.hid (HB.out.next hb); obtain ⟨c0, c1, c2, c3, _⟩ := HB.out.bd4; clear hb))
  refine region_turns (fun (w' : World) => w'.cell? ⟨w.heap.size, 0, none⟩ = some (.int .i64 d) ∧ w'.cell? ⟨w.heap.size, 1, none⟩ = some (.int .i64 j) ∧ w'.cell? ⟨w.heap.size, 2, none⟩ = some (.int .i64 t) ∧ w'.cell? ⟨w.heap.size, 3, none⟩ = some (.int .i64 r) ∧ Box w 25 #[.int .i64 d, .int .i64 j, .int .i64 t, .int .i64 r] w') (fun j => decide (8 ≤ j)) (by kernel_rfl) (HB.out.drew.bd4) (fun hS => ?_)
  refine Turns.take hS 0 _ rfl (by kernel_rfl) (by kernel_rfl) (by kernel_rfl) (by kernel_rfl) (fun _ _ _ h => h) (by rfl) (fun w' hS' => by (try dsimp only at hS'); go_split_ands; go_simp; (try with_reducible rfl)) ?_
  simp only [Act.put, List.getElem_toArray, List.getElem_cons_succ, List.getElem_cons_zero, List.setIfInBounds_toArray, List.set_cons_zero, List.set_cons_succ]
  refine Turns.take hS 1 _ rfl (by kernel_rfl) (by kernel_rfl) (by kernel_rfl) (by kernel_rfl) (fun _ _ _ h => h) (by rfl) (fun w' hS' => by (try dsimp only at hS'); go_split_ands; go_simp; (try with_reducible rfl)) ?_
  simp only [Act.put, List.getElem_toArray, List.getElem_cons_succ, List.getElem_cons_zero, List.setIfInBounds_toArray, List.set_cons_zero, List.set_cons_succ]
  refine Turns.take hS 2 _ rfl (by kernel_rfl) (by kernel_rfl) (by kernel_rfl) (by kernel_rfl) (fun _ _ _ h => h) (by rfl) (fun w' hS' => by (try dsimp only at hS'); go_split_ands; go_simp; (try with_reducible rfl)) ?_
  simp only [Act.put, List.getElem_toArray, List.getElem_cons_succ, List.getElem_cons_zero, List.setIfInBounds_toArray, List.set_cons_zero, List.set_cons_succ]
  refine Turns.take hS 3 _ rfl (by kernel_rfl) (by kernel_rfl) (by kernel_rfl) (by kernel_rfl) (fun _ _ _ h => h) (by rfl) (fun w' hS' => by (try dsimp only at hS'); go_split_ands; go_simp; (try with_reducible rfl)) ?_
  simp only [Act.put, List.getElem_toArray, List.getElem_cons_succ, List.getElem_cons_zero, List.setIfInBounds_toArray, List.set_cons_zero, List.set_cons_succ]
  refine Turns.take hS 4 _ rfl (by kernel_rfl) (by kernel_rfl) (by kernel_rfl) (by kernel_rfl) (fun _ _ _ h => h) (by rfl) (fun w' hS' => by (try dsimp only at hS'); go_split_ands; go_simp; (try with_reducible rfl)) ?_
  simp only [Act.put, List.getElem_toArray, List.getElem_cons_succ, List.getElem_cons_zero, List.setIfInBounds_toArray, List.set_cons_zero, List.set_cons_succ]
  refine Turns.next 5 rfl (by kernel_rfl) (by rfl) (fun K hK => ?_)
  go_simp
  go_at_call 14
  refine (rticks_any d j t r n _).mono ?_
  rintro e wx5 ⟨rfl, hb⟩
  have HE5 := Lib.hid (hS.2.2.2.2.next hb)
  refine hK.out _ _ (show (fun (w' : World) => w'.cell? ⟨w.heap.size, 0, none⟩ = some (.int .i64 d) ∧ w'.cell? ⟨w.heap.size, 1, none⟩ = some (.int .i64 j) ∧ w'.cell? ⟨w.heap.size, 2, none⟩ = some (.int .i64 t) ∧ w'.cell? ⟨w.heap.size, 3, none⟩ = some (.int .i64 r) ∧ Box w 25 #[.int .i64 d, .int .i64 j, .int .i64 t, .int .i64 r] w') _ from HE5.out.bd4) ?_
  clear hK K hS
  have hS := (show (fun (w' : World) => w'.cell? ⟨w.heap.size, 0, none⟩ = some (.int .i64 d) ∧ w'.cell? ⟨w.heap.size, 1, none⟩ = some (.int .i64 j) ∧ w'.cell? ⟨w.heap.size, 2, none⟩ = some (.int .i64 t) ∧ w'.cell? ⟨w.heap.size, 3, none⟩ = some (.int .i64 r) ∧ Box w 25 #[.int .i64 d, .int .i64 j, .int .i64 t, .int .i64 r] w') _ from HE5.out.bd4)
  refine Turns.take hS 6 _ rfl (by kernel_rfl) (by kernel_rfl) (by kernel_rfl) (by kernel_rfl) (fun _ _ _ h => h) (by rfl) (fun w' hS' => by (try dsimp only at hS'); go_split_ands; go_simp; (try with_reducible rfl)) ?_
  simp only [Act.put, List.getElem_toArray, List.getElem_cons_succ, List.getElem_cons_zero, List.setIfInBounds_toArray, List.set_cons_zero, List.set_cons_succ]
  refine Turns.take hS 7 _ rfl (by kernel_rfl) (by kernel_rfl) (by kernel_rfl) (by kernel_rfl) (fun _ _ _ h => h) (by rfl) (fun w' hS' => by (try dsimp only at hS'); go_split_ands; go_simp; (try with_reducible rfl)) ?_
  simp only [Act.put, List.getElem_toArray, List.getElem_cons_succ, List.getElem_cons_zero, List.setIfInBounds_toArray, List.set_cons_zero, List.set_cons_succ]
  refine Turns.rest (late_done (by kernel_rfl)) ?_
  refine any_tail 8 (by rfl) (by kernel_rfl) ?_
  simp only [List.drop_succ_cons, List.drop_zero]
  clear hS
  obtain ⟨c0, c1, c2, c3, _⟩ := HE5.out.bd4
  go_wp2
  go_ret
  exact ⟨ret_int hT.symm, HE5.out.below⟩
theorem rhop_any (d j t r : Int) (w : World) :
    Calls Try.prog 18 #[.agg #[.int .i64 d, .int .i64 j, .int .i64 t, .int .i64 r]] w fun e w' => e = .returned (.int .i64 (bdHop d j t r)) ∧ Below w.heap.size w w' := by
  have HB := Lib.hid (Box.start w 25 #[.int .i64 d, .int .i64 j, .int .i64 t, .int .i64 r])
  obtain ⟨c0, c1, c2, c3, _⟩ := HB.out.bd4
  cases g1 : bdGood d j t r
  · have hT : bdHop d j t r = 0 := by unfold bdHop; rw [if_neg]; rw [g1]; exact Bool.false_ne_true
    go_enter Try.func18, Try.ntmps18
    go_wp2_with (first
      | (go_at_call 12; refine (rbgood_any _ _ _ _ _).mono ?_; rintro e wx ⟨rfl, hb⟩; replace HB := Lib.hid (HB.out.next hb); obtain ⟨c0, c1, c2, c3, _⟩ := HB.out.bd4; clear hb))
    go_ret
    first | exact ⟨ret_int hT.symm, HB.out.below⟩ | exact ⟨ret_int rfl, HB.out.below⟩
  have k := bdGood_iff.1 g1
  have k1 := k.j0
  have k2 := k.j1
  have k3 := k.t0
  have k4 := k.t1
  clear k
  have hT : bdHop d j t r = 2 * j + bdLag d j t r (t + 1) + 2 := by unfold bdHop; rw [if_pos g1]
  have tb := bdLag_bd d j t r (t + 1)
  obtain ⟨T, hTT⟩ : ∃ T, bdLag d j t r (t + 1) = T := ⟨_, rfl⟩
  rw [hTT] at hT tb
  obtain ⟨tb1, tb2⟩ := tb
  have z0 : IntKind.i64.wrap (2 * j) = 2 * j := IntWalk.i64_in _ (by omega)
  have z1 : IntKind.i64.wrap (t + 1) = t + 1 := IntWalk.i64_in _ (by omega)
  have z2 : IntKind.i64.wrap (2 * j + T) = 2 * j + T := IntWalk.i64_in _ (by omega)
  have z3 : IntKind.i64.wrap (2 * j + T + 2) = 2 * j + T + 2 := IntWalk.i64_in _ (by omega)
  go_enter Try.func18, Try.ntmps18
  go_wp2_with (first
    | (go_at_call 12; refine (rbgood_any _ _ _ _ _).mono ?_; rintro e wx ⟨rfl, hb⟩; replace HB := Lib.hid (HB.out.next hb); obtain ⟨c0, c1, c2, c3, _⟩ := HB.out.bd4; clear hb))
  refine region_turns (fun (w' : World) => w'.cell? ⟨w.heap.size, 0, none⟩ = some (.int .i64 d) ∧ w'.cell? ⟨w.heap.size, 1, none⟩ = some (.int .i64 j) ∧ w'.cell? ⟨w.heap.size, 2, none⟩ = some (.int .i64 t) ∧ w'.cell? ⟨w.heap.size, 3, none⟩ = some (.int .i64 r) ∧ Box w 25 #[.int .i64 d, .int .i64 j, .int .i64 t, .int .i64 r] w') (fun j => decide (11 ≤ j)) (by kernel_rfl) (HB.out.drew.bd4) (fun hS => ?_)
  refine Turns.take hS 0 _ rfl (by kernel_rfl) (by kernel_rfl) (by kernel_rfl) (by kernel_rfl) (fun _ _ _ h => h) (by rfl) (fun w' hS' => by (try dsimp only at hS'); go_split_ands; go_simp; (try with_reducible rfl)) ?_
  simp only [Act.put, List.getElem_toArray, List.getElem_cons_succ, List.getElem_cons_zero, List.setIfInBounds_toArray, List.set_cons_zero, List.set_cons_succ]
  refine Turns.take hS 1 _ rfl (by kernel_rfl) (by kernel_rfl) (by kernel_rfl) (by kernel_rfl) (fun _ _ _ h => h) (by rfl) (fun w' hS' => by (try dsimp only at hS'); go_split_ands; go_simp; (try with_reducible rfl)) ?_
  simp only [Act.put, List.getElem_toArray, List.getElem_cons_succ, List.getElem_cons_zero, List.setIfInBounds_toArray, List.set_cons_zero, List.set_cons_succ]
  refine Turns.take hS 2 _ rfl (by kernel_rfl) (by kernel_rfl) (by kernel_rfl) (by kernel_rfl) (fun _ _ _ h => h) (by rfl) (fun w' hS' => by (try dsimp only at hS'); go_split_ands; go_simp; (try with_reducible rfl)) ?_
  simp only [Act.put, List.getElem_toArray, List.getElem_cons_succ, List.getElem_cons_zero, List.setIfInBounds_toArray, List.set_cons_zero, List.set_cons_succ]
  refine Turns.take hS 3 _ rfl (by kernel_rfl) (by kernel_rfl) (by kernel_rfl) (by kernel_rfl) (fun _ _ _ h => h) (by rfl) (fun w' hS' => by (try dsimp only at hS'); go_split_ands; go_simp; (try with_reducible rfl)) ?_
  simp only [Act.put, List.getElem_toArray, List.getElem_cons_succ, List.getElem_cons_zero, List.setIfInBounds_toArray, List.set_cons_zero, List.set_cons_succ]
  refine Turns.take hS 4 _ rfl (by kernel_rfl) (by kernel_rfl) (by kernel_rfl) (by kernel_rfl) (fun _ _ _ h => h) (by rfl) (fun w' hS' => by (try dsimp only at hS'); go_split_ands; go_simp; (try with_reducible rfl)) ?_
  simp only [Act.put, List.getElem_toArray, List.getElem_cons_succ, List.getElem_cons_zero, List.setIfInBounds_toArray, List.set_cons_zero, List.set_cons_succ]
  refine Turns.take hS 5 _ rfl (by kernel_rfl) (by kernel_rfl) (by kernel_rfl) (by kernel_rfl) (fun _ _ _ h => h) (by rfl) (fun w' hS' => by (try dsimp only at hS'); go_split_ands; go_simp; (try with_reducible rfl)) ?_
  simp only [Act.put, List.getElem_toArray, List.getElem_cons_succ, List.getElem_cons_zero, List.setIfInBounds_toArray, List.set_cons_zero, List.set_cons_succ]
  refine Turns.take hS 6 _ rfl (by kernel_rfl) (by kernel_rfl) (by kernel_rfl) (by kernel_rfl) (fun _ _ _ h => h) (by rfl) (fun w' hS' => by (try dsimp only at hS'); go_split_ands; go_simp; (try with_reducible rfl)) ?_
  simp only [Act.put, List.getElem_toArray, List.getElem_cons_succ, List.getElem_cons_zero, List.setIfInBounds_toArray, List.set_cons_zero, List.set_cons_succ]
  refine Turns.next 7 rfl (by kernel_rfl) (by rfl) (fun K hK => ?_)
  go_simp
  go_at_call 16
  refine (rlag_any d j t r (t + 1) _).mono ?_
  rintro e wx7 ⟨rfl, hb⟩
  have HE7 := Lib.hid (hS.2.2.2.2.next hb)
  refine hK.out _ _ (show (fun (w' : World) => w'.cell? ⟨w.heap.size, 0, none⟩ = some (.int .i64 d) ∧ w'.cell? ⟨w.heap.size, 1, none⟩ = some (.int .i64 j) ∧ w'.cell? ⟨w.heap.size, 2, none⟩ = some (.int .i64 t) ∧ w'.cell? ⟨w.heap.size, 3, none⟩ = some (.int .i64 r) ∧ Box w 25 #[.int .i64 d, .int .i64 j, .int .i64 t, .int .i64 r] w') _ from HE7.out.bd4) ?_
  clear hK K hS
  have hS := (show (fun (w' : World) => w'.cell? ⟨w.heap.size, 0, none⟩ = some (.int .i64 d) ∧ w'.cell? ⟨w.heap.size, 1, none⟩ = some (.int .i64 j) ∧ w'.cell? ⟨w.heap.size, 2, none⟩ = some (.int .i64 t) ∧ w'.cell? ⟨w.heap.size, 3, none⟩ = some (.int .i64 r) ∧ Box w 25 #[.int .i64 d, .int .i64 j, .int .i64 t, .int .i64 r] w') _ from HE7.out.bd4)
  refine Turns.take hS 8 _ rfl (by kernel_rfl) (by kernel_rfl) (by kernel_rfl) (by kernel_rfl) (fun _ _ _ h => h) (by rfl) (fun w' hS' => by (try dsimp only at hS'); go_split_ands; go_simp; (try with_reducible rfl)) ?_
  simp only [Act.put, List.getElem_toArray, List.getElem_cons_succ, List.getElem_cons_zero, List.setIfInBounds_toArray, List.set_cons_zero, List.set_cons_succ]
  refine Turns.take hS 9 _ rfl (by kernel_rfl) (by kernel_rfl) (by kernel_rfl) (by kernel_rfl) (fun _ _ _ h => h) (by rfl) (fun w' hS' => by (try dsimp only at hS'); go_split_ands; go_simp; (try with_reducible rfl)) ?_
  simp only [Act.put, List.getElem_toArray, List.getElem_cons_succ, List.getElem_cons_zero, List.setIfInBounds_toArray, List.set_cons_zero, List.set_cons_succ]
  refine Turns.take hS 10 _ rfl (by kernel_rfl) (by kernel_rfl) (by kernel_rfl) (by kernel_rfl) (fun _ _ _ h => h) (by rfl) (fun w' hS' => by (try dsimp only at hS'); go_split_ands; go_simp; (try with_reducible rfl)) ?_
  simp only [Act.put, List.getElem_toArray, List.getElem_cons_succ, List.getElem_cons_zero, List.setIfInBounds_toArray, List.set_cons_zero, List.set_cons_succ]
  refine Turns.rest (late_done (by kernel_rfl)) ?_
  refine any_tail 11 (by rfl) (by kernel_rfl) ?_
  simp only [List.drop_succ_cons, List.drop_zero]
  clear hS
  go_wp2
  go_ret
  exact ⟨ret_int hT.symm, HE7.out.below⟩
theorem rbrest_any (d j t r : Int) (w : World) :
    Calls Try.prog 20 #[.agg #[.int .i64 d, .int .i64 j, .int .i64 t, .int .i64 r]] w fun e w' => e = .returned (.int .i64 (bdRest d j t r)) ∧ Below w.heap.size w w' := by
  have HB := Lib.hid (Box.start w 25 #[.int .i64 d, .int .i64 j, .int .i64 t, .int .i64 r])
  obtain ⟨c0, c1, c2, c3, _⟩ := HB.out.bd4
  cases g1 : bdGood d j t r
  · have hT : bdRest d j t r = 0 := by unfold bdRest; rw [if_neg]; rw [g1]; exact Bool.false_ne_true
    go_enter Try.func20, Try.ntmps20
    go_wp2_with (first
      | (go_at_call 12; refine (rbgood_any _ _ _ _ _).mono ?_; rintro e wx ⟨rfl, hb⟩; replace HB := Lib.hid (HB.out.next hb); obtain ⟨c0, c1, c2, c3, _⟩ := HB.out.bd4; clear hb))
    go_ret
    first | exact ⟨ret_int hT.symm, HB.out.below⟩ | exact ⟨ret_int rfl, HB.out.below⟩
  have k := bdGood_iff.1 g1
  have k1 := k.j0
  have k2 := k.j1
  have k3 := k.t0
  have k4 := k.t1
  clear k
  have hT : bdRest d j t r = 2 * j + 2 * bdLag d j t r (8 * (t + 1)) + 6 := by unfold bdRest; rw [if_pos g1]
  have tb := bdLag_bd d j t r (8 * (t + 1))
  obtain ⟨T, hTT⟩ : ∃ T, bdLag d j t r (8 * (t + 1)) = T := ⟨_, rfl⟩
  rw [hTT] at hT tb
  obtain ⟨tb1, tb2⟩ := tb
  have z0 : IntKind.i64.wrap (2 * j) = 2 * j := IntWalk.i64_in _ (by omega)
  have z1 : IntKind.i64.wrap (t + 1) = t + 1 := IntWalk.i64_in _ (by omega)
  have z2 : IntKind.i64.wrap (8 * (t + 1)) = 8 * (t + 1) := IntWalk.i64_in _ (by omega)
  have z3 : IntKind.i64.wrap (2 * T) = 2 * T := IntWalk.i64_in _ (by omega)
  have z4 : IntKind.i64.wrap (2 * j + 2 * T) = 2 * j + 2 * T := IntWalk.i64_in _ (by omega)
  have z5 : IntKind.i64.wrap (2 * j + 2 * T + 6) = 2 * j + 2 * T + 6 := IntWalk.i64_in _ (by omega)
  go_enter Try.func20, Try.ntmps20
  go_wp2_with (first
    | (go_at_call 12; refine (rbgood_any _ _ _ _ _).mono ?_; rintro e wx ⟨rfl, hb⟩; replace HB := Lib.hid (HB.out.next hb); obtain ⟨c0, c1, c2, c3, _⟩ := HB.out.bd4; clear hb))
  refine region_turns (fun (w' : World) => w'.cell? ⟨w.heap.size, 0, none⟩ = some (.int .i64 d) ∧ w'.cell? ⟨w.heap.size, 1, none⟩ = some (.int .i64 j) ∧ w'.cell? ⟨w.heap.size, 2, none⟩ = some (.int .i64 t) ∧ w'.cell? ⟨w.heap.size, 3, none⟩ = some (.int .i64 r) ∧ Box w 25 #[.int .i64 d, .int .i64 j, .int .i64 t, .int .i64 r] w') (fun j => decide (13 ≤ j)) (by kernel_rfl) (HB.out.drew.bd4) (fun hS => ?_)
  refine Turns.take hS 0 _ rfl (by kernel_rfl) (by kernel_rfl) (by kernel_rfl) (by kernel_rfl) (fun _ _ _ h => h) (by rfl) (fun w' hS' => by (try dsimp only at hS'); go_split_ands; go_simp; (try with_reducible rfl)) ?_
  simp only [Act.put, List.getElem_toArray, List.getElem_cons_succ, List.getElem_cons_zero, List.setIfInBounds_toArray, List.set_cons_zero, List.set_cons_succ]
  refine Turns.take hS 1 _ rfl (by kernel_rfl) (by kernel_rfl) (by kernel_rfl) (by kernel_rfl) (fun _ _ _ h => h) (by rfl) (fun w' hS' => by (try dsimp only at hS'); go_split_ands; go_simp; (try with_reducible rfl)) ?_
  simp only [Act.put, List.getElem_toArray, List.getElem_cons_succ, List.getElem_cons_zero, List.setIfInBounds_toArray, List.set_cons_zero, List.set_cons_succ]
  refine Turns.take hS 2 _ rfl (by kernel_rfl) (by kernel_rfl) (by kernel_rfl) (by kernel_rfl) (fun _ _ _ h => h) (by rfl) (fun w' hS' => by (try dsimp only at hS'); go_split_ands; go_simp; (try with_reducible rfl)) ?_
  simp only [Act.put, List.getElem_toArray, List.getElem_cons_succ, List.getElem_cons_zero, List.setIfInBounds_toArray, List.set_cons_zero, List.set_cons_succ]
  refine Turns.take hS 3 _ rfl (by kernel_rfl) (by kernel_rfl) (by kernel_rfl) (by kernel_rfl) (fun _ _ _ h => h) (by rfl) (fun w' hS' => by (try dsimp only at hS'); go_split_ands; go_simp; (try with_reducible rfl)) ?_
  simp only [Act.put, List.getElem_toArray, List.getElem_cons_succ, List.getElem_cons_zero, List.setIfInBounds_toArray, List.set_cons_zero, List.set_cons_succ]
  refine Turns.take hS 4 _ rfl (by kernel_rfl) (by kernel_rfl) (by kernel_rfl) (by kernel_rfl) (fun _ _ _ h => h) (by rfl) (fun w' hS' => by (try dsimp only at hS'); go_split_ands; go_simp; (try with_reducible rfl)) ?_
  simp only [Act.put, List.getElem_toArray, List.getElem_cons_succ, List.getElem_cons_zero, List.setIfInBounds_toArray, List.set_cons_zero, List.set_cons_succ]
  refine Turns.take hS 5 _ rfl (by kernel_rfl) (by kernel_rfl) (by kernel_rfl) (by kernel_rfl) (fun _ _ _ h => h) (by rfl) (fun w' hS' => by (try dsimp only at hS'); go_split_ands; go_simp; (try with_reducible rfl)) ?_
  simp only [Act.put, List.getElem_toArray, List.getElem_cons_succ, List.getElem_cons_zero, List.setIfInBounds_toArray, List.set_cons_zero, List.set_cons_succ]
  refine Turns.take hS 6 _ rfl (by kernel_rfl) (by kernel_rfl) (by kernel_rfl) (by kernel_rfl) (fun _ _ _ h => h) (by rfl) (fun w' hS' => by (try dsimp only at hS'); go_split_ands; go_simp; (try with_reducible rfl)) ?_
  simp only [Act.put, List.getElem_toArray, List.getElem_cons_succ, List.getElem_cons_zero, List.setIfInBounds_toArray, List.set_cons_zero, List.set_cons_succ]
  refine Turns.take hS 7 _ rfl (by kernel_rfl) (by kernel_rfl) (by kernel_rfl) (by kernel_rfl) (fun _ _ _ h => h) (by rfl) (fun w' hS' => by (try dsimp only at hS'); go_split_ands; go_simp; (try with_reducible rfl)) ?_
  simp only [Act.put, List.getElem_toArray, List.getElem_cons_succ, List.getElem_cons_zero, List.setIfInBounds_toArray, List.set_cons_zero, List.set_cons_succ]
  refine Turns.next 8 rfl (by kernel_rfl) (by rfl) (fun K hK => ?_)
  go_simp
  go_at_call 16
  refine (rlag_any d j t r (8 * (t + 1)) _).mono ?_
  rintro e wx8 ⟨rfl, hb⟩
  have HE8 := Lib.hid (hS.2.2.2.2.next hb)
  refine hK.out _ _ (show (fun (w' : World) => w'.cell? ⟨w.heap.size, 0, none⟩ = some (.int .i64 d) ∧ w'.cell? ⟨w.heap.size, 1, none⟩ = some (.int .i64 j) ∧ w'.cell? ⟨w.heap.size, 2, none⟩ = some (.int .i64 t) ∧ w'.cell? ⟨w.heap.size, 3, none⟩ = some (.int .i64 r) ∧ Box w 25 #[.int .i64 d, .int .i64 j, .int .i64 t, .int .i64 r] w') _ from HE8.out.bd4) ?_
  clear hK K hS
  have hS := (show (fun (w' : World) => w'.cell? ⟨w.heap.size, 0, none⟩ = some (.int .i64 d) ∧ w'.cell? ⟨w.heap.size, 1, none⟩ = some (.int .i64 j) ∧ w'.cell? ⟨w.heap.size, 2, none⟩ = some (.int .i64 t) ∧ w'.cell? ⟨w.heap.size, 3, none⟩ = some (.int .i64 r) ∧ Box w 25 #[.int .i64 d, .int .i64 j, .int .i64 t, .int .i64 r] w') _ from HE8.out.bd4)
  refine Turns.take hS 9 _ rfl (by kernel_rfl) (by kernel_rfl) (by kernel_rfl) (by kernel_rfl) (fun _ _ _ h => h) (by rfl) (fun w' hS' => by (try dsimp only at hS'); go_split_ands; go_simp; (try with_reducible rfl)) ?_
  simp only [Act.put, List.getElem_toArray, List.getElem_cons_succ, List.getElem_cons_zero, List.setIfInBounds_toArray, List.set_cons_zero, List.set_cons_succ]
  refine Turns.take hS 10 _ rfl (by kernel_rfl) (by kernel_rfl) (by kernel_rfl) (by kernel_rfl) (fun _ _ _ h => h) (by rfl) (fun w' hS' => by (try dsimp only at hS'); go_split_ands; go_simp; (try with_reducible rfl)) ?_
  simp only [Act.put, List.getElem_toArray, List.getElem_cons_succ, List.getElem_cons_zero, List.setIfInBounds_toArray, List.set_cons_zero, List.set_cons_succ]
  refine Turns.take hS 11 _ rfl (by kernel_rfl) (by kernel_rfl) (by kernel_rfl) (by kernel_rfl) (fun _ _ _ h => h) (by rfl) (fun w' hS' => by (try dsimp only at hS'); go_split_ands; go_simp; (try with_reducible rfl)) ?_
  simp only [Act.put, List.getElem_toArray, List.getElem_cons_succ, List.getElem_cons_zero, List.setIfInBounds_toArray, List.set_cons_zero, List.set_cons_succ]
  refine Turns.take hS 12 _ rfl (by kernel_rfl) (by kernel_rfl) (by kernel_rfl) (by kernel_rfl) (fun _ _ _ h => h) (by rfl) (fun w' hS' => by (try dsimp only at hS'); go_split_ands; go_simp; (try with_reducible rfl)) ?_
  simp only [Act.put, List.getElem_toArray, List.getElem_cons_succ, List.getElem_cons_zero, List.setIfInBounds_toArray, List.set_cons_zero, List.set_cons_succ]
  refine Turns.rest (late_done (by kernel_rfl)) ?_
  refine any_tail 13 (by rfl) (by kernel_rfl) ?_
  simp only [List.drop_succ_cons, List.drop_zero]
  clear hS
  go_wp2
  go_ret
  exact ⟨ret_int hT.symm, HE8.out.below⟩
theorem rberror_any (d j t r h : Int) (w : World) :
    Calls Try.prog 22 #[.agg #[.int .i64 d, .int .i64 j, .int .i64 t, .int .i64 r], .int .i64 h] w fun e w' => e = .returned (.int .i64 (bdError d j t r h)) ∧ Below w.heap.size w w' := by
  have HB := Lib.hid (Box.start w 25 #[.int .i64 d, .int .i64 j, .int .i64 t, .int .i64 r])
  obtain ⟨c0, c1, c2, c3, _⟩ := HB.out.bd4
  by_cases q0 : h < 0
  · have g1 : bdIn h 0 63 = false := bdIn_no (by omega)
    have hT : bdError d j t r h = 0 := by unfold bdError; rw [if_neg]; rw [g1]; exact Bool.false_ne_true
    go_enter Try.func22, Try.ntmps22
    go_wp2
    go_ret
    first | exact ⟨ret_int hT.symm, HB.out.below⟩ | exact ⟨ret_int rfl, HB.out.below⟩
  have q0' : decide (h < 0) = false := decide_eq_false q0
  by_cases q1 : 63 < h
  · have g1 : bdIn h 0 63 = false := bdIn_no (by omega)
    have hT : bdError d j t r h = 0 := by unfold bdError; rw [if_neg]; rw [g1]; exact Bool.false_ne_true
    go_enter Try.func22, Try.ntmps22
    go_wp2
    go_ret
    first | exact ⟨ret_int hT.symm, HB.out.below⟩ | exact ⟨ret_int rfl, HB.out.below⟩
  have q1' : decide (63 < h) = false := decide_eq_false q1
  have g1 : bdIn h 0 63 = true := bdIn_iff.2 (by omega)
  have k1 : 0 ≤ h := by omega
  have k2 : h ≤ 63 := by omega
  have hT : bdError d j t r h = h * (bdHop d j t r + bdRest d j t r) := by unfold bdError; rw [if_pos g1]
  have tb := bdHop_bd d j t r
  have ub := bdRest_bd d j t r
  obtain ⟨T, hTT⟩ : ∃ T, bdHop d j t r = T := ⟨_, rfl⟩
  obtain ⟨U, hUU⟩ : ∃ U, bdRest d j t r = U := ⟨_, rfl⟩
  rw [hTT, hUU] at hT
  rw [hTT] at tb
  rw [hUU] at ub
  obtain ⟨tb1, tb2⟩ := tb
  obtain ⟨ub1, ub2⟩ := ub
  have p := bd_mul k1 k2 (by omega : 0 ≤ T + U) (by omega : T + U ≤ 4164400290204688)
  obtain ⟨p1, p2⟩ := p
  have z1 : IntKind.i64.wrap (T + U) = T + U := IntWalk.i64_in _ (by omega)
  have z2 : IntKind.i64.wrap (h * (T + U)) = h * (T + U) := IntWalk.i64_in _ (by omega)
  go_enter Try.func22, Try.ntmps22
  go_wp2
  refine region_turns (fun (w' : World) => w'.cell? ⟨w.heap.size, 0, none⟩ = some (.int .i64 d) ∧ w'.cell? ⟨w.heap.size, 1, none⟩ = some (.int .i64 j) ∧ w'.cell? ⟨w.heap.size, 2, none⟩ = some (.int .i64 t) ∧ w'.cell? ⟨w.heap.size, 3, none⟩ = some (.int .i64 r) ∧ Box w 25 #[.int .i64 d, .int .i64 j, .int .i64 t, .int .i64 r] w') (fun j => decide (8 ≤ j)) (by kernel_rfl) (HB.out.drew.bd4) (fun hS => ?_)
  refine Turns.take hS 0 _ rfl (by kernel_rfl) (by kernel_rfl) (by kernel_rfl) (by kernel_rfl) (fun _ _ _ h => h) (by rfl) (fun w' hS' => by (try dsimp only at hS'); go_split_ands; go_simp; (try with_reducible rfl)) ?_
  simp only [Act.put, List.getElem_toArray, List.getElem_cons_succ, List.getElem_cons_zero, List.setIfInBounds_toArray, List.set_cons_zero, List.set_cons_succ]
  refine Turns.take hS 1 _ rfl (by kernel_rfl) (by kernel_rfl) (by kernel_rfl) (by kernel_rfl) (fun _ _ _ h => h) (by rfl) (fun w' hS' => by (try dsimp only at hS'); go_split_ands; go_simp; (try with_reducible rfl)) ?_
  simp only [Act.put, List.getElem_toArray, List.getElem_cons_succ, List.getElem_cons_zero, List.setIfInBounds_toArray, List.set_cons_zero, List.set_cons_succ]
  refine Turns.take hS 3 _ rfl (by kernel_rfl) (by kernel_rfl) (by kernel_rfl) (by kernel_rfl) (fun _ _ _ h => h) (by rfl) (fun w' hS' => by (try dsimp only at hS'); go_split_ands; go_simp; (try with_reducible rfl)) ?_
  simp only [Act.put, List.getElem_toArray, List.getElem_cons_succ, List.getElem_cons_zero, List.setIfInBounds_toArray, List.set_cons_zero, List.set_cons_succ]
  refine Turns.next 2 rfl (by kernel_rfl) (by rfl) (fun K hK => ?_)
  go_simp
  go_at_call 18
  refine (rhop_any d j t r _).mono ?_
  rintro e wx2 ⟨rfl, hb⟩
  have HE2 := Lib.hid (hS.2.2.2.2.next hb)
  refine hK.out _ _ (show (fun (w' : World) => w'.cell? ⟨w.heap.size, 0, none⟩ = some (.int .i64 d) ∧ w'.cell? ⟨w.heap.size, 1, none⟩ = some (.int .i64 j) ∧ w'.cell? ⟨w.heap.size, 2, none⟩ = some (.int .i64 t) ∧ w'.cell? ⟨w.heap.size, 3, none⟩ = some (.int .i64 r) ∧ Box w 25 #[.int .i64 d, .int .i64 j, .int .i64 t, .int .i64 r] w') _ from HE2.out.bd4) ?_
  clear hK K hS
  have hS := (show (fun (w' : World) => w'.cell? ⟨w.heap.size, 0, none⟩ = some (.int .i64 d) ∧ w'.cell? ⟨w.heap.size, 1, none⟩ = some (.int .i64 j) ∧ w'.cell? ⟨w.heap.size, 2, none⟩ = some (.int .i64 t) ∧ w'.cell? ⟨w.heap.size, 3, none⟩ = some (.int .i64 r) ∧ Box w 25 #[.int .i64 d, .int .i64 j, .int .i64 t, .int .i64 r] w') _ from HE2.out.bd4)
  refine Turns.next 4 rfl (by kernel_rfl) (by rfl) (fun K hK => ?_)
  go_simp
  go_at_call 20
  refine (rbrest_any d j t r _).mono ?_
  rintro e wx4 ⟨rfl, hb⟩
  have HE4 := Lib.hid (hS.2.2.2.2.next hb)
  refine hK.out _ _ (show (fun (w' : World) => w'.cell? ⟨w.heap.size, 0, none⟩ = some (.int .i64 d) ∧ w'.cell? ⟨w.heap.size, 1, none⟩ = some (.int .i64 j) ∧ w'.cell? ⟨w.heap.size, 2, none⟩ = some (.int .i64 t) ∧ w'.cell? ⟨w.heap.size, 3, none⟩ = some (.int .i64 r) ∧ Box w 25 #[.int .i64 d, .int .i64 j, .int .i64 t, .int .i64 r] w') _ from HE4.out.bd4) ?_
  clear hK K hS
  have hS := (show (fun (w' : World) => w'.cell? ⟨w.heap.size, 0, none⟩ = some (.int .i64 d) ∧ w'.cell? ⟨w.heap.size, 1, none⟩ = some (.int .i64 j) ∧ w'.cell? ⟨w.heap.size, 2, none⟩ = some (.int .i64 t) ∧ w'.cell? ⟨w.heap.size, 3, none⟩ = some (.int .i64 r) ∧ Box w 25 #[.int .i64 d, .int .i64 j, .int .i64 t, .int .i64 r] w') _ from HE4.out.bd4)
  refine Turns.take hS 5 _ rfl (by kernel_rfl) (by kernel_rfl) (by kernel_rfl) (by kernel_rfl) (fun _ _ _ h => h) (by rfl) (fun w' hS' => by (try dsimp only at hS'); go_split_ands; go_simp; (try with_reducible rfl)) ?_
  simp only [Act.put, List.getElem_toArray, List.getElem_cons_succ, List.getElem_cons_zero, List.setIfInBounds_toArray, List.set_cons_zero, List.set_cons_succ]
  refine Turns.take hS 6 _ rfl (by kernel_rfl) (by kernel_rfl) (by kernel_rfl) (by kernel_rfl) (fun _ _ _ h => h) (by rfl) (fun w' hS' => by (try dsimp only at hS'); go_split_ands; go_simp; (try with_reducible rfl)) ?_
  simp only [Act.put, List.getElem_toArray, List.getElem_cons_succ, List.getElem_cons_zero, List.setIfInBounds_toArray, List.set_cons_zero, List.set_cons_succ]
  refine Turns.take hS 7 _ rfl (by kernel_rfl) (by kernel_rfl) (by kernel_rfl) (by kernel_rfl) (fun _ _ _ h => h) (by rfl) (fun w' hS' => by (try dsimp only at hS'); go_split_ands; go_simp; (try with_reducible rfl)) ?_
  simp only [Act.put, List.getElem_toArray, List.getElem_cons_succ, List.getElem_cons_zero, List.setIfInBounds_toArray, List.set_cons_zero, List.set_cons_succ]
  refine Turns.rest (late_done (by kernel_rfl)) ?_
  refine any_tail 8 (by rfl) (by kernel_rfl) ?_
  simp only [List.drop_succ_cons, List.drop_zero]
  clear hS
  go_wp2
  go_ret
  exact ⟨ret_int hT.symm, HE4.out.below⟩
theorem rcan_any (n u m i k : Int) (w : World) :
    Calls Try.prog 23 #[.agg #[.int .i64 n, .int .i64 u, .int .i64 m, .int .i64 i, .int .i64 k]] w fun e w' => e = .returned (.bool (ntGood n u m i k)) ∧ Below w.heap.size w w' := by
  have HB := Lib.hid (Box.start w 41 #[.int .i64 n, .int .i64 u, .int .i64 m, .int .i64 i, .int .i64 k])
  obtain ⟨c0, c1, c2, c3, c4, _⟩ := HB.out.bd5
  by_cases g0 : 1 ≤ n
  rotate_left
  · have hG : ntGood n u m i k = false := ntGood_no fun g => g0 (by have := g.n0; omega)
    have x0 : decide (1 ≤ n) = false := decide_eq_false g0
    go_enter Try.func23, Try.ntmps23
    go_wp2
    go_ret
    first | exact ⟨rfl, HB.out.below⟩ | exact ⟨by rw [hG]; rfl, HB.out.below⟩
  have x0 : decide (1 ≤ n) = true := decide_eq_true g0
  by_cases g1 : n ≤ 64
  rotate_left
  · have hG : ntGood n u m i k = false := ntGood_no fun g => g1 (by have := g.n1; omega)
    have x1 : decide (n ≤ 64) = false := decide_eq_false g1
    go_enter Try.func23, Try.ntmps23
    go_wp2
    go_ret
    first | exact ⟨rfl, HB.out.below⟩ | exact ⟨by rw [hG]; rfl, HB.out.below⟩
  have x1 : decide (n ≤ 64) = true := decide_eq_true g1
  by_cases g2 : 0 ≤ u
  rotate_left
  · have hG : ntGood n u m i k = false := ntGood_no fun g => g2 (by have := g.w0; omega)
    have x2 : decide (0 ≤ u) = false := decide_eq_false g2
    go_enter Try.func23, Try.ntmps23
    go_wp2
    go_ret
    first | exact ⟨rfl, HB.out.below⟩ | exact ⟨by rw [hG]; rfl, HB.out.below⟩
  have x2 : decide (0 ≤ u) = true := decide_eq_true g2
  by_cases g3 : u < n
  rotate_left
  · have hG : ntGood n u m i k = false := ntGood_no fun g => g3 (by have := g.w1; omega)
    have x3 : decide (u < n) = false := decide_eq_false g3
    go_enter Try.func23, Try.ntmps23
    go_wp2
    go_ret
    first | exact ⟨rfl, HB.out.below⟩ | exact ⟨by rw [hG]; rfl, HB.out.below⟩
  have x3 : decide (u < n) = true := decide_eq_true g3
  by_cases g4 : 0 ≤ m
  rotate_left
  · have hG : ntGood n u m i k = false := ntGood_no fun g => g4 (by have := g.m0; omega)
    have x4 : decide (0 ≤ m) = false := decide_eq_false g4
    go_enter Try.func23, Try.ntmps23
    go_wp2
    go_ret
    first | exact ⟨rfl, HB.out.below⟩ | exact ⟨by rw [hG]; rfl, HB.out.below⟩
  have x4 : decide (0 ≤ m) = true := decide_eq_true g4
  by_cases g5 : m ≤ 1000
  rotate_left
  · have hG : ntGood n u m i k = false := ntGood_no fun g => g5 (by have := g.m1; omega)
    have x5 : decide (m ≤ 1000) = false := decide_eq_false g5
    go_enter Try.func23, Try.ntmps23
    go_wp2
    go_ret
    first | exact ⟨rfl, HB.out.below⟩ | exact ⟨by rw [hG]; rfl, HB.out.below⟩
  have x5 : decide (m ≤ 1000) = true := decide_eq_true g5
  by_cases g6 : 0 ≤ i
  rotate_left
  · have hG : ntGood n u m i k = false := ntGood_no fun g => g6 (by have := g.i0; omega)
    have x6 : decide (0 ≤ i) = false := decide_eq_false g6
    go_enter Try.func23, Try.ntmps23
    go_wp2
    go_ret
    first | exact ⟨rfl, HB.out.below⟩ | exact ⟨by rw [hG]; rfl, HB.out.below⟩
  have x6 : decide (0 ≤ i) = true := decide_eq_true g6
  by_cases g7 : i ≤ 1000
  rotate_left
  · have hG : ntGood n u m i k = false := ntGood_no fun g => g7 (by have := g.i1; omega)
    have x7 : decide (i ≤ 1000) = false := decide_eq_false g7
    go_enter Try.func23, Try.ntmps23
    go_wp2
    go_ret
    first | exact ⟨rfl, HB.out.below⟩ | exact ⟨by rw [hG]; rfl, HB.out.below⟩
  have x7 : decide (i ≤ 1000) = true := decide_eq_true g7
  by_cases g8 : 1 ≤ k
  rotate_left
  · have hG : ntGood n u m i k = false := ntGood_no fun g => g8 (by have := g.k0; omega)
    have x8 : decide (1 ≤ k) = false := decide_eq_false g8
    go_enter Try.func23, Try.ntmps23
    go_wp2
    go_ret
    first | exact ⟨rfl, HB.out.below⟩ | exact ⟨by rw [hG]; rfl, HB.out.below⟩
  have x8 : decide (1 ≤ k) = true := decide_eq_true g8
  by_cases g9 : k ≤ 8
  rotate_left
  · have hG : ntGood n u m i k = false := ntGood_no fun g => g9 (by have := g.k1; omega)
    have x9 : decide (k ≤ 8) = false := decide_eq_false g9
    go_enter Try.func23, Try.ntmps23
    go_wp2
    go_ret
    first | exact ⟨rfl, HB.out.below⟩ | exact ⟨by rw [hG]; rfl, HB.out.below⟩
  have x9 : decide (k ≤ 8) = true := decide_eq_true g9
  have hG : ntGood n u m i k = true := ntGood_iff.2 ⟨by omega, by omega, by omega, by omega, by omega, by omega, by omega, by omega, by omega, by omega⟩
  go_enter Try.func23, Try.ntmps23
  go_wp2
  go_ret
  first | exact ⟨rfl, HB.out.below⟩ | exact ⟨by rw [hG]; rfl, HB.out.below⟩
theorem rbehind_any (n u m i k : Int) (w : World) :
    Calls Try.prog 24 #[.agg #[.int .i64 n, .int .i64 u, .int .i64 m, .int .i64 i, .int .i64 k]] w fun e w' => e = .returned (.int .i64 (ntBehind n u m i k)) ∧ Below w.heap.size w w' := by
  have HB := Lib.hid (Box.start w 41 #[.int .i64 n, .int .i64 u, .int .i64 m, .int .i64 i, .int .i64 k])
  obtain ⟨c0, c1, c2, c3, c4, _⟩ := HB.out.bd5
  cases g1 : ntGood n u m i k
  · have hT : ntBehind n u m i k = 0 := by unfold ntBehind; rw [if_neg]; rw [g1]; exact Bool.false_ne_true
    go_enter Try.func24, Try.ntmps24
    go_wp2_with (first
      | (go_at_call 23; refine (rcan_any _ _ _ _ _ _).mono ?_; rintro e wx ⟨rfl, hb⟩; replace HB := Lib.hid (HB.out.next hb); obtain ⟨c0, c1, c2, c3, c4, _⟩ := HB.out.bd5; clear hb))
    go_ret
    first | exact ⟨ret_int hT.symm, HB.out.below⟩ | exact ⟨ret_int rfl, HB.out.below⟩
  have c := ntGood_iff.1 g1
  have n0 := c.n0
  have n1 := c.n1
  have w0 := c.w0
  have w1 := c.w1
  have m0 := c.m0
  have m1 := c.m1
  have i0 := c.i0
  have i1 := c.i1
  have k0 := c.k0
  have k1 := c.k1
  clear c
  have hT : ntBehind n u m i k = u * (m + 2) := by unfold ntBehind; rw [if_pos g1]
  have p := bd_mul w0 (by omega : u ≤ 63) (by omega : (0 : Int) ≤ m + 2) (by omega : m + 2 ≤ 1002)
  obtain ⟨p1, p2⟩ := p
  go_enter Try.func24, Try.ntmps24
  go_wp2_with (first
    | (go_at_call 23; refine (rcan_any _ _ _ _ _ _).mono ?_; rintro e wx ⟨rfl, hb⟩; replace HB := Lib.hid (HB.out.next hb); obtain ⟨c0, c1, c2, c3, c4, _⟩ := HB.out.bd5; clear hb))
  go_ret
  first | exact ⟨ret_int hT.symm, HB.out.below⟩ | exact ⟨ret_int rfl, HB.out.below⟩
theorem rsettle_any (n u m i k t : Int) (w : World) :
    Calls Try.prog 29 #[.agg #[.int .i64 n, .int .i64 u, .int .i64 m, .int .i64 i, .int .i64 k], .int .i64 t] w fun e w' => e = .returned (.int .i64 (ntSettle n u m i k t)) ∧ Below w.heap.size w w' := by
  have HB := Lib.hid (Box.start w 41 #[.int .i64 n, .int .i64 u, .int .i64 m, .int .i64 i, .int .i64 k])
  obtain ⟨c0, c1, c2, c3, c4, _⟩ := HB.out.bd5
  have b := ntBehind_bd n u m i k
  cases g1 : ntGood n u m i k
  · have hT : ntSettle n u m i k t = 0 := by unfold ntSettle; rw [if_neg]; rw [g1]; rintro ⟨h, _⟩; cases h
    go_enter Try.func29, Try.ntmps29
    go_wp2_with (first
      | (go_at_call 23; refine (rcan_any _ _ _ _ _ _).mono ?_; rintro e wx ⟨rfl, hb⟩; replace HB := Lib.hid (HB.out.next hb); obtain ⟨c0, c1, c2, c3, c4, _⟩ := HB.out.bd5; clear hb)
      | (go_at_call 24; refine (rbehind_any _ _ _ _ _ _).mono ?_; rintro e wx ⟨rfl, hb⟩; replace HB := Lib.hid (HB.out.next hb); obtain ⟨c0, c1, c2, c3, c4, _⟩ := HB.out.bd5; clear hb))
    go_ret
    first | exact ⟨ret_int hT.symm, HB.out.below⟩ | exact ⟨ret_int rfl, HB.out.below⟩
  have e : ntPatience n u m i k = ntBehind n u m i k + 4 := by unfold ntPatience; rw [if_pos g1]
  obtain ⟨T, hTT⟩ : ∃ T, ntBehind n u m i k = T := ⟨_, rfl⟩
  rw [hTT] at b e
  obtain ⟨b0, b1⟩ := b
  by_cases q0 : t < T + 4
  · have g2 : bdIn t (ntPatience n u m i k) 1000 = false := bdIn_no (by omega)
    have hT : ntSettle n u m i k t = 0 := by unfold ntSettle; rw [if_neg]; rw [g2]; rintro ⟨_, h⟩; cases h
    clear e
    have q' : decide (t < T + 4) = true := decide_eq_true q0
    go_enter Try.func29, Try.ntmps29
    go_wp2_with (first
      | (go_at_call 23; refine (rcan_any _ _ _ _ _ _).mono ?_; rintro e wx ⟨rfl, hb⟩; replace HB := Lib.hid (HB.out.next hb); obtain ⟨c0, c1, c2, c3, c4, _⟩ := HB.out.bd5; clear hb)
      | (go_at_call 24; refine (rbehind_any _ _ _ _ _ _).mono ?_; rintro e wx ⟨rfl, hb⟩; replace HB := Lib.hid (HB.out.next hb); obtain ⟨c0, c1, c2, c3, c4, _⟩ := HB.out.bd5; clear hb))
    go_ret
    first | exact ⟨ret_int hT.symm, HB.out.below⟩ | exact ⟨ret_int rfl, HB.out.below⟩
  have q0' : decide (t < T + 4) = false := decide_eq_false q0
  by_cases q1 : 1000 < t
  · have g2 : bdIn t (ntPatience n u m i k) 1000 = false := bdIn_no (by omega)
    have hT : ntSettle n u m i k t = 0 := by unfold ntSettle; rw [if_neg]; rw [g2]; rintro ⟨_, h⟩; cases h
    clear e
    have q' : decide (1000 < t) = true := decide_eq_true q1
    go_enter Try.func29, Try.ntmps29
    go_wp2_with (first
      | (go_at_call 23; refine (rcan_any _ _ _ _ _ _).mono ?_; rintro e wx ⟨rfl, hb⟩; replace HB := Lib.hid (HB.out.next hb); obtain ⟨c0, c1, c2, c3, c4, _⟩ := HB.out.bd5; clear hb)
      | (go_at_call 24; refine (rbehind_any _ _ _ _ _ _).mono ?_; rintro e wx ⟨rfl, hb⟩; replace HB := Lib.hid (HB.out.next hb); obtain ⟨c0, c1, c2, c3, c4, _⟩ := HB.out.bd5; clear hb))
    go_ret
    first | exact ⟨ret_int hT.symm, HB.out.below⟩ | exact ⟨ret_int rfl, HB.out.below⟩
  have q1' : decide (1000 < t) = false := decide_eq_false q1
  have g2 : bdIn t (ntPatience n u m i k) 1000 = true := bdIn_iff.2 (by omega)
  clear e
  have c := ntGood_iff.1 g1
  have n0 := c.n0
  have n1 := c.n1
  have w0 := c.w0
  have w1 := c.w1
  have m0 := c.m0
  have m1 := c.m1
  have i0 := c.i0
  have i1 := c.i1
  have k0 := c.k0
  have k1 := c.k1
  clear c
  have hT : ntSettle n u m i k t = (n + 1) * (t + 2) + u * (3 * (ntBehind n u m i k + 2) + i + k * (ntBehind n u m i k + 2)) + 4 := by unfold ntSettle; rw [if_pos ⟨g1, g2⟩]
  rw [hTT] at hT
  have t00 : 0 ≤ t := by omega
  have q := nt_prods n0 n1 w0 w1 i0 i1 k0 k1 t00 (by omega : t ≤ 1000) b0 b1
  obtain ⟨⟨q1, q2⟩, ⟨q3, q4⟩, q5, q6⟩ := q
  go_enter Try.func29, Try.ntmps29
  go_wp2_with (first
    | (go_at_call 23; refine (rcan_any _ _ _ _ _ _).mono ?_; rintro e wx ⟨rfl, hb⟩; replace HB := Lib.hid (HB.out.next hb); obtain ⟨c0, c1, c2, c3, c4, _⟩ := HB.out.bd5; clear hb)
    | (go_at_call 24; refine (rbehind_any _ _ _ _ _ _).mono ?_; rintro e wx ⟨rfl, hb⟩; replace HB := Lib.hid (HB.out.next hb); obtain ⟨c0, c1, c2, c3, c4, _⟩ := HB.out.bd5; clear hb))
  go_ret
  first | exact ⟨ret_int hT.symm, HB.out.below⟩ | exact ⟨ret_int rfl, HB.out.below⟩
end Go.Proofs.Ytgcmeoogmjganaa
