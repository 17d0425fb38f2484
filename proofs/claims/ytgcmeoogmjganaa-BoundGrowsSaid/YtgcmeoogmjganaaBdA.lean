/- Package bound: what the calls of terms answer. -/
import Derived.Test.YtgcmeoogmjganaaBdM
import Derived.Test.YtgcmeoogmjganaaPtr
import Derived.Test.YtgcmeoogmjganaaTurn
import Derived.Test.YtgcmeoogmjganaaBox
import Derived.Test.YtgcmeoogmjganaaProg
import Derived.Outline
import Derived.PlainAid
import Derived.OwnWalk
import Derived.IntWalk
namespace Go.Proofs.Ytgcmeoogmjganaa
open Go.RowKit
set_option linter.unusedSimpArgs false
set_option linter.unusedVariables false

theorem Box.bd4 {w0 w : World} {ty : TypeId} {a b c d : Value} (h : Box w0 ty #[a, b, c, d] w) : w.cell? ⟨w0.heap.size, 0, none⟩ = some a ∧ w.cell? ⟨w0.heap.size, 1, none⟩ = some b ∧ w.cell? ⟨w0.heap.size, 2, none⟩ = some c ∧ w.cell? ⟨w0.heap.size, 3, none⟩ = some d ∧ Box w0 ty #[a, b, c, d] w :=
  ⟨h.holds.cell 0, h.holds.cell 1, h.holds.cell 2, h.holds.cell 3, h⟩
theorem within_any (x l h : Int) (w : World) :
    Calls Try.prog 30 #[.int .i64 x, .int .i64 l, .int .i64 h] w fun e w' => e = .returned (.bool (bdIn x l h)) ∧ w = w' := by
  by_cases h1 : l ≤ x
  · by_cases h2 : x ≤ h
    · rw [bdIn_iff.2 ⟨h1, h2⟩]
      have d1 : decide (l ≤ x) = true := decide_eq_true h1
      have d2 : decide (x ≤ h) = true := decide_eq_true h2
      go_enter Try.func30, Try.ntmps30
      go_wp2
      go_ret
      exact ⟨rfl, rfl⟩
    · rw [bdIn_no (fun g => h2 g.2)]
      have d1 : decide (l ≤ x) = true := decide_eq_true h1
      have d2 : decide (x ≤ h) = false := decide_eq_false h2
      go_enter Try.func30, Try.ntmps30
      go_wp2
      go_ret
      exact ⟨rfl, rfl⟩
  · rw [bdIn_no (fun g => h1 g.1)]
    have d1 : decide (l ≤ x) = false := decide_eq_false h1
    go_enter Try.func30, Try.ntmps30
    go_wp2
    go_ret
    exact ⟨rfl, rfl⟩
theorem bgood_any (d j t r : Int) (w : World) :
    Calls Try.prog 11 #[.agg #[.int .i64 d, .int .i64 j, .int .i64 t, .int .i64 r]] w fun e w' => e = .returned (.bool (bdGood d j t r)) ∧ Below w.heap.size w w' := by
  have HB := Lib.hid (Box.start w 23 #[.int .i64 d, .int .i64 j, .int .i64 t, .int .i64 r])
  obtain ⟨c0, c1, c2, c3, _⟩ := HB.out.bd4
  cases g1 : bdIn d 0 10
  · have hG : bdGood d j t r = false := by unfold bdGood; rw [g1]; rfl
    go_enter Try.func11, Try.ntmps11
    go_wp2_with (first
      | (go_at_call 30; refine (within_any _ _ _ _).mono ?_; rintro e wx ⟨rfl, rfl⟩))
    go_ret
    exact ⟨by rw [hG]; rfl, HB.out.below⟩
  cases g2 : bdIn j 0 20
  · have hG : bdGood d j t r = false := by unfold bdGood; rw [g1, g2]; rfl
    go_enter Try.func11, Try.ntmps11
    go_wp2_with (first
      | (go_at_call 30; refine (within_any _ _ _ _).mono ?_; rintro e wx ⟨rfl, rfl⟩))
    go_ret
    exact ⟨by rw [hG]; rfl, HB.out.below⟩
  cases g3 : bdIn t 1 1000
  · have hG : bdGood d j t r = false := by unfold bdGood; rw [g1, g2, g3]; rfl
    go_enter Try.func11, Try.ntmps11
    go_wp2_with (first
      | (go_at_call 30; refine (within_any _ _ _ _).mono ?_; rintro e wx ⟨rfl, rfl⟩))
    go_ret
    exact ⟨by rw [hG]; rfl, HB.out.below⟩
  have hG : bdGood d j t r = bdIn r 1 64 := by unfold bdGood; rw [g1, g2, g3]; rfl
  go_enter Try.func11, Try.ntmps11
  go_wp2_with (first
    | (go_at_call 30; refine (within_any _ _ _ _).mono ?_; rintro e wx ⟨rfl, rfl⟩))
  go_ret
  exact ⟨by rw [hG]; rfl, HB.out.below⟩
theorem ticks_any (d j t r n : Int) (w : World) :
    Calls Try.prog 13 #[.agg #[.int .i64 d, .int .i64 j, .int .i64 t, .int .i64 r], .int .i64 n] w fun e w' => e = .returned (.int .i64 (bdTicks d j t r n)) ∧ Below w.heap.size w w' := by
  have HB := Lib.hid (Box.start w 23 #[.int .i64 d, .int .i64 j, .int .i64 t, .int .i64 r])
  obtain ⟨c0, c1, c2, c3, _⟩ := HB.out.bd4
  cases g1 : bdGood d j t r
  · have hT : bdTicks d j t r n = 0 := by unfold bdTicks; rw [if_neg]; rw [g1]; rintro ⟨h, _⟩; cases h
    go_enter Try.func13, Try.ntmps13
    go_wp2_with (first
      | (go_at_call 11; refine (bgood_any _ _ _ _ _).mono ?_; rintro e wx ⟨rfl, hb⟩; replace HB := Lib.hid (HB.out.next hb); obtain ⟨c0, c1, c2, c3, _⟩ := HB.out.bd4; clear hb))
    go_ret
    exact ⟨ret_int hT.symm, HB.out.below⟩
  cases g2 : bdIn n 0 1073741824
  · have hT : bdTicks d j t r n = 0 := by unfold bdTicks; rw [if_neg]; rw [g2]; rintro ⟨_, h⟩; cases h
    go_enter Try.func13, Try.ntmps13
    go_wp2_with (first
      | (go_at_call 11; refine (bgood_any _ _ _ _ _).mono ?_; rintro e wx ⟨rfl, hb⟩; replace HB := Lib.hid (HB.out.next hb); obtain ⟨c0, c1, c2, c3, _⟩ := HB.out.bd4; clear hb)
      | (go_at_call 30; refine (within_any _ _ _ _).mono ?_; rintro e wx ⟨rfl, rfl⟩))
    go_ret
    exact ⟨ret_int hT.symm, HB.out.below⟩
  have hT : bdTicks d j t r n = n * r * (1000 + d) := by unfold bdTicks; rw [if_pos ⟨g1, g2⟩]
  have k := bdGood_iff.1 g1
  have i := bdIn_iff.1 g2
  have p := bd_prod i.1 i.2 k.r0 k.r1 k.d0 k.d1
  obtain ⟨⟨p1, p2⟩, p3, p4⟩ := p
  have k1 := k.d0
  have k2 := k.d1
  clear k i
  go_enter Try.func13, Try.ntmps13
  go_wp2_with (first
    | (go_at_call 11; refine (bgood_any _ _ _ _ _).mono ?_; rintro e wx ⟨rfl, hb⟩; replace HB := Lib.hid (HB.out.next hb); obtain ⟨c0, c1, c2, c3, _⟩ := HB.out.bd4; clear hb)
    | (go_at_call 30; refine (within_any _ _ _ _).mono ?_; rintro e wx ⟨rfl, rfl⟩))
  go_ret
  exact ⟨ret_int hT.symm, HB.out.below⟩
theorem lag_any (d j t r n : Int) (w : World) :
    Calls Try.prog 15 #[.agg #[.int .i64 d, .int .i64 j, .int .i64 t, .int .i64 r], .int .i64 n] w fun e w' => e = .returned (.int .i64 (bdLag d j t r n)) ∧ Below w.heap.size w w' := by
  have HB := Lib.hid (Box.start w 23 #[.int .i64 d, .int .i64 j, .int .i64 t, .int .i64 r])
  obtain ⟨c0, c1, c2, c3, _⟩ := HB.out.bd4
  cases g1 : bdGood d j t r
  · have hT : bdLag d j t r n = 0 := by unfold bdLag; rw [if_neg]; rw [g1]; exact Bool.false_ne_true
    go_enter Try.func15, Try.ntmps15
    go_wp2_with (first
      | (go_at_call 11; refine (bgood_any _ _ _ _ _).mono ?_; rintro e wx ⟨rfl, hb⟩; replace HB := Lib.hid (HB.out.next hb); obtain ⟨c0, c1, c2, c3, _⟩ := HB.out.bd4; clear hb))
    go_ret
    exact ⟨ret_int hT.symm, HB.out.below⟩
  have k := bdGood_iff.1 g1
  have k1 := k.d0
  have k2 := k.d1
  clear k
  have hT : bdLag d j t r n = (2 * d * bdTicks d j t r n + (1000 - d) - 1) / (1000 - d) := by unfold bdLag; rw [if_pos g1]
  have tb := bdTicks_bd d j t r n
  obtain ⟨T, hTT⟩ : ∃ T, bdTicks d j t r n = T := ⟨_, rfl⟩
  rw [hTT] at hT tb
  have m := bd_num k1 k2 tb.1 tb.2
  obtain ⟨m1, m2⟩ := m
  have s0 : (1000 - d == 0) = false := by simp; omega
  have s1 : ¬ 1000 - d = 0 := by omega
  have e0 : (2 * d * T + (1000 - d) - 1).tdiv (1000 - d) = (2 * d * T + (1000 - d) - 1) / (1000 - d) := Int.tdiv_eq_ediv_of_nonneg (by omega)
  have q := bd_div (n := 2 * d * T + (1000 - d) - 1) (s := 1000 - d) (N := 1388133430068200) (by omega) (by omega) (by omega)
  obtain ⟨q1, q2⟩ := q
  obtain ⟨tb1, tb2⟩ := tb
  have z1 : IntKind.i64.wrap (2 * d) = 2 * d := IntWalk.i64_in _ (by omega)
  have z2 : IntKind.i64.wrap (2 * d * T) = 2 * d * T := IntWalk.i64_in _ (by omega)
  have z3 : IntKind.i64.wrap (2 * d * T + (1000 - d)) = 2 * d * T + (1000 - d) := IntWalk.i64_in _ (by omega)
  have z4 : IntKind.i64.wrap (2 * d * T + (1000 - d) - 1) = 2 * d * T + (1000 - d) - 1 := IntWalk.i64_in _ (by omega)
  have z5 : IntKind.i64.wrap ((2 * d * T + (1000 - d) - 1) / (1000 - d)) = (2 * d * T + (1000 - d) - 1) / (1000 - d) := IntWalk.i64_in _ (by omega)
  go_enter Try.func15, Try.ntmps15
  go_wp2_with (first
    | (go_at_call 11; refine (bgood_any _ _ _ _ _).mono ?_; rintro e wx ⟨rfl, hb⟩; replace HB := Lib.hid (HB.out.next hb); obtain ⟨c0, c1, c2, c3, _⟩ := HB.out.bd4; clear hb))
  refine region_turns (fun (w' : World) => w'.cell? ⟨w.heap.size, 0, none⟩ = some (.int .i64 d) ∧ w'.cell? ⟨w.heap.size, 1, none⟩ = some (.int .i64 j) ∧ w'.cell? ⟨w.heap.size, 2, none⟩ = some (.int .i64 t) ∧ w'.cell? ⟨w.heap.size, 3, none⟩ = some (.int .i64 r) ∧ Box w 23 #[.int .i64 d, .int .i64 j, .int .i64 t, .int .i64 r] w') (fun j => decide (13 ≤ j)) (by kernel_rfl) (HB.out.drew.bd4) (fun hS => ?_)
  refine Turns.take hS 0 _ rfl (by kernel_rfl) (by kernel_rfl) (by kernel_rfl) (by kernel_rfl) (fun _ _ _ h => h) (by rfl) (fun w' hS' => by (try dsimp only at hS'); go_split_ands; go_simp; (try with_reducible rfl)) ?_
  simp only [Act.put, List.getElem_toArray, List.getElem_cons_succ, List.getElem_cons_zero, List.setIfInBounds_toArray, List.set_cons_zero, List.set_cons_succ]
  refine Turns.take hS 1 _ rfl (by kernel_rfl) (by kernel_rfl) (by kernel_rfl) (by kernel_rfl) (fun _ _ _ h => h) (by rfl) (fun w' hS' => by (try dsimp only at hS'); go_split_ands; go_simp; (try with_reducible rfl)) ?_
  simp only [Act.put, List.getElem_toArray, List.getElem_cons_succ, List.getElem_cons_zero, List.setIfInBounds_toArray, List.set_cons_zero, List.set_cons_succ]
  refine Turns.take hS 2 _ rfl (by kernel_rfl) (by kernel_rfl) (by kernel_rfl) (by kernel_rfl) (fun _ _ _ h => h) (by rfl) (fun w' hS' => by (try dsimp only at hS'); go_split_ands; go_simp; (try with_reducible rfl)) ?_
  simp only [Act.put, List.getElem_toArray, List.getElem_cons_succ, List.getElem_cons_zero, List.setIfInBounds_toArray, List.set_cons_zero, List.set_cons_succ]
  refine Turns.take hS 3 _ rfl (by kernel_rfl) (by kernel_rfl) (by kernel_rfl) (by kernel_rfl) (fun _ _ _ h => h) (by rfl) (fun w' hS' => by (try dsimp only at hS'); go_split_ands; go_simp; (try with_reducible rfl)) ?_
  simp only [Act.put, List.getElem_toArray, List.getElem_cons_succ, List.getElem_cons_zero, List.setIfInBounds_toArray, List.set_cons_zero, List.set_cons_succ]
  refine Turns.take hS 4 _ rfl (by kernel_rfl) (by kernel_rfl) (by kernel_rfl) (by kernel_rfl) (fun _ _ _ h => h) (by rfl) (fun w' hS' => by (try dsimp only at hS'); go_split_ands; go_simp; (try with_reducible rfl)) ?_
  simp only [Act.put, List.getElem_toArray, List.getElem_cons_succ, List.getElem_cons_zero, List.setIfInBounds_toArray, List.set_cons_zero, List.set_cons_succ]
  refine Turns.take hS 7 _ rfl (by kernel_rfl) (by kernel_rfl) (by kernel_rfl) (by kernel_rfl) (fun _ _ _ h => h) (by rfl) (fun w' hS' => by (try dsimp only at hS'); go_split_ands; go_simp; (try with_reducible rfl)) ?_
  simp only [Act.put, List.getElem_toArray, List.getElem_cons_succ, List.getElem_cons_zero, List.setIfInBounds_toArray, List.set_cons_zero, List.set_cons_succ]
  refine Turns.take hS 10 _ rfl (by kernel_rfl) (by kernel_rfl) (by kernel_rfl) (by kernel_rfl) (fun _ _ _ h => h) (by rfl) (fun w' hS' => by (try dsimp only at hS'); go_split_ands; go_simp; (try with_reducible rfl)) ?_
  simp only [Act.put, List.getElem_toArray, List.getElem_cons_succ, List.getElem_cons_zero, List.setIfInBounds_toArray, List.set_cons_zero, List.set_cons_succ]
  refine Turns.next 5 rfl (by kernel_rfl) (by rfl) (fun K hK => ?_)
  go_simp
  go_at_call 13
  refine (ticks_any d j t r n _).mono ?_
  rintro e wx5 ⟨rfl, hb⟩
  have HE5 := Lib.hid (hS.2.2.2.2.next hb)
  refine hK.out _ _ (show (fun (w' : World) => w'.cell? ⟨w.heap.size, 0, none⟩ = some (.int .i64 d) ∧ w'.cell? ⟨w.heap.size, 1, none⟩ = some (.int .i64 j) ∧ w'.cell? ⟨w.heap.size, 2, none⟩ = some (.int .i64 t) ∧ w'.cell? ⟨w.heap.size, 3, none⟩ = some (.int .i64 r) ∧ Box w 23 #[.int .i64 d, .int .i64 j, .int .i64 t, .int .i64 r] w') _ from HE5.out.bd4) ?_
  clear hK K hS
  have hS := (show (fun (w' : World) => w'.cell? ⟨w.heap.size, 0, none⟩ = some (.int .i64 d) ∧ w'.cell? ⟨w.heap.size, 1, none⟩ = some (.int .i64 j) ∧ w'.cell? ⟨w.heap.size, 2, none⟩ = some (.int .i64 t) ∧ w'.cell? ⟨w.heap.size, 3, none⟩ = some (.int .i64 r) ∧ Box w 23 #[.int .i64 d, .int .i64 j, .int .i64 t, .int .i64 r] w') _ from HE5.out.bd4)
  refine Turns.take hS 6 _ rfl (by kernel_rfl) (by kernel_rfl) (by kernel_rfl) (by kernel_rfl) (fun _ _ _ h => h) (by rfl) (fun w' hS' => by (try dsimp only at hS'); go_split_ands; go_simp; (try with_reducible rfl)) ?_
  simp only [Act.put, List.getElem_toArray, List.getElem_cons_succ, List.getElem_cons_zero, List.setIfInBounds_toArray, List.set_cons_zero, List.set_cons_succ]
  refine Turns.take hS 8 _ rfl (by kernel_rfl) (by kernel_rfl) (by kernel_rfl) (by kernel_rfl) (fun _ _ _ h => h) (by rfl) (fun w' hS' => by (try dsimp only at hS'); go_split_ands; go_simp; (try with_reducible rfl)) ?_
  simp only [Act.put, List.getElem_toArray, List.getElem_cons_succ, List.getElem_cons_zero, List.setIfInBounds_toArray, List.set_cons_zero, List.set_cons_succ]
  refine Turns.take hS 9 _ rfl (by kernel_rfl) (by kernel_rfl) (by kernel_rfl) (by kernel_rfl) (fun _ _ _ h => h) (by rfl) (fun w' hS' => by (try dsimp only at hS'); go_split_ands; go_simp; (try with_reducible rfl)) ?_
  simp only [Act.put, List.getElem_toArray, List.getElem_cons_succ, List.getElem_cons_zero, List.setIfInBounds_toArray, List.set_cons_zero, List.set_cons_succ]
  refine Turns.take hS 11 _ rfl (by kernel_rfl) (by kernel_rfl) (by kernel_rfl) (by kernel_rfl) (fun _ _ _ h => h) (by rfl) (fun w' hS' => by (try dsimp only at hS'); go_split_ands; go_simp; (try with_reducible rfl)) ?_
  simp only [Act.put, List.getElem_toArray, List.getElem_cons_succ, List.getElem_cons_zero, List.setIfInBounds_toArray, List.set_cons_zero, List.set_cons_succ]
  refine Turns.take hS 12 _ rfl (by kernel_rfl) (by kernel_rfl) (by kernel_rfl) (by kernel_rfl) (fun _ _ _ h => h) (by rfl) (fun w' hS' => by (try dsimp only at hS'); go_split_ands; go_simp; (try with_reducible rfl)) ?_
  simp only [Act.put, List.getElem_toArray, List.getElem_cons_succ, List.getElem_cons_zero, List.setIfInBounds_toArray, List.set_cons_zero, List.set_cons_succ]
  refine Turns.rest (late_done (by kernel_rfl)) ?_
  refine any_tail 13 (by rfl) (by kernel_rfl) ?_
  simp only [List.drop_succ_cons, List.drop_zero]
  clear hS
  go_wp2
  go_ret
  exact ⟨ret_int hT.symm, HE5.out.below⟩
theorem hop_any (d j t r : Int) (w : World) :
    Calls Try.prog 17 #[.agg #[.int .i64 d, .int .i64 j, .int .i64 t, .int .i64 r]] w fun e w' => e = .returned (.int .i64 (bdHop d j t r)) ∧ Below w.heap.size w w' := by
  have HB := Lib.hid (Box.start w 23 #[.int .i64 d, .int .i64 j, .int .i64 t, .int .i64 r])
  obtain ⟨c0, c1, c2, c3, _⟩ := HB.out.bd4
  cases g1 : bdGood d j t r
  · have hT : bdHop d j t r = 0 := by unfold bdHop; rw [if_neg]; rw [g1]; exact Bool.false_ne_true
    go_enter Try.func17, Try.ntmps17
    go_wp2_with (first
      | (go_at_call 11; refine (bgood_any _ _ _ _ _).mono ?_; rintro e wx ⟨rfl, hb⟩; replace HB := Lib.hid (HB.out.next hb); obtain ⟨c0, c1, c2, c3, _⟩ := HB.out.bd4; clear hb))
    go_ret
    exact ⟨ret_int hT.symm, HB.out.below⟩
  have k := bdGood_iff.1 g1
  have k1 := k.j0
  have k2 := k.j1
  have k3 := k.t0
  have k4 := k.t1
  clear k
  have hT : bdHop d j t r = 2 * j + bdLag d j t r (t + 1) + 2 := by unfold bdHop; rw [if_pos g1]
  have tb := bdLag_bd d j t r (t + 1)
  obtain ⟨T, hTT⟩ : ∃ T, bdLag d j t r (t + 1) = T := ⟨_, rfl⟩
  rw [hTT] at hT tb
  obtain ⟨tb1, tb2⟩ := tb
  have z1 : IntKind.i64.wrap (2 * j) = 2 * j := IntWalk.i64_in _ (by omega)
  have z2 : IntKind.i64.wrap (t + 1) = t + 1 := IntWalk.i64_in _ (by omega)
  have z3 : IntKind.i64.wrap (2 * j + T) = 2 * j + T := IntWalk.i64_in _ (by omega)
  have z4 : IntKind.i64.wrap (2 * j + T + 2) = 2 * j + T + 2 := IntWalk.i64_in _ (by omega)
  go_enter Try.func17, Try.ntmps17
  go_wp2_with (first
    | (go_at_call 11; refine (bgood_any _ _ _ _ _).mono ?_; rintro e wx ⟨rfl, hb⟩; replace HB := Lib.hid (HB.out.next hb); obtain ⟨c0, c1, c2, c3, _⟩ := HB.out.bd4; clear hb))
  refine region_turns (fun (w' : World) => w'.cell? ⟨w.heap.size, 0, none⟩ = some (.int .i64 d) ∧ w'.cell? ⟨w.heap.size, 1, none⟩ = some (.int .i64 j) ∧ w'.cell? ⟨w.heap.size, 2, none⟩ = some (.int .i64 t) ∧ w'.cell? ⟨w.heap.size, 3, none⟩ = some (.int .i64 r) ∧ Box w 23 #[.int .i64 d, .int .i64 j, .int .i64 t, .int .i64 r] w') (fun j => decide (11 ≤ j)) (by kernel_rfl) (HB.out.drew.bd4) (fun hS => ?_)
  refine Turns.take hS 0 _ rfl (by kernel_rfl) (by kernel_rfl) (by kernel_rfl) (by kernel_rfl) (fun _ _ _ h => h) (by rfl) (fun w' hS' => by (try dsimp only at hS'); go_split_ands; go_simp; (try with_reducible rfl)) ?_
  simp only [Act.put, List.getElem_toArray, List.getElem_cons_succ, List.getElem_cons_zero, List.setIfInBounds_toArray, List.set_cons_zero, List.set_cons_succ]
  refine Turns.take hS 1 _ rfl (by kernel_rfl) (by kernel_rfl) (by kernel_rfl) (by kernel_rfl) (fun _ _ _ h => h) (by rfl) (fun w' hS' => by (try dsimp only at hS'); go_split_ands; go_simp; (try with_reducible rfl)) ?_
  simp only [Act.put, List.getElem_toArray, List.getElem_cons_succ, List.getElem_cons_zero, List.setIfInBounds_toArray, List.set_cons_zero, List.set_cons_succ]
  refine Turns.take hS 2 _ rfl (by kernel_rfl) (by kernel_rfl) (by kernel_rfl) (by kernel_rfl) (fun _ _ _ h => h) (by rfl) (fun w' hS' => by (try dsimp only at hS'); go_split_ands; go_simp; (try with_reducible rfl)) ?_
  simp only [Act.put, List.getElem_toArray, List.getElem_cons_succ, List.getElem_cons_zero, List.setIfInBounds_toArray, List.set_cons_zero, List.set_cons_succ]
  refine Turns.take hS 3 _ rfl (by kernel_rfl) (by kernel_rfl) (by kernel_rfl) (by kernel_rfl) (fun _ _ _ h => h) (by rfl) (fun w' hS' => by (try dsimp only at hS'); go_split_ands; go_simp; (try with_reducible rfl)) ?_
  simp only [Act.put, List.getElem_toArray, List.getElem_cons_succ, List.getElem_cons_zero, List.setIfInBounds_toArray, List.set_cons_zero, List.set_cons_succ]
  refine Turns.take hS 4 _ rfl (by kernel_rfl) (by kernel_rfl) (by kernel_rfl) (by kernel_rfl) (fun _ _ _ h => h) (by rfl) (fun w' hS' => by (try dsimp only at hS'); go_split_ands; go_simp; (try with_reducible rfl)) ?_
  simp only [Act.put, List.getElem_toArray, List.getElem_cons_succ, List.getElem_cons_zero, List.setIfInBounds_toArray, List.set_cons_zero, List.set_cons_succ]
  refine Turns.take hS 5 _ rfl (by kernel_rfl) (by kernel_rfl) (by kernel_rfl) (by kernel_rfl) (fun _ _ _ h => h) (by rfl) (fun w' hS' => by (try dsimp only at hS'); go_split_ands; go_simp; (try with_reducible rfl)) ?_
  simp only [Act.put, List.getElem_toArray, List.getElem_cons_succ, List.getElem_cons_zero, List.setIfInBounds_toArray, List.set_cons_zero, List.set_cons_succ]
  refine Turns.take hS 6 _ rfl (by kernel_rfl) (by kernel_rfl) (by kernel_rfl) (by kernel_rfl) (fun _ _ _ h => h) (by rfl) (fun w' hS' => by (try dsimp only at hS'); go_split_ands; go_simp; (try with_reducible rfl)) ?_
  simp only [Act.put, List.getElem_toArray, List.getElem_cons_succ, List.getElem_cons_zero, List.setIfInBounds_toArray, List.set_cons_zero, List.set_cons_succ]
  refine Turns.next 7 rfl (by kernel_rfl) (by rfl) (fun K hK => ?_)
  go_simp
  go_at_call 15
  refine (lag_any d j t r (t + 1) _).mono ?_
  rintro e wx7 ⟨rfl, hb⟩
  have HE7 := Lib.hid (hS.2.2.2.2.next hb)
  refine hK.out _ _ (show (fun (w' : World) => w'.cell? ⟨w.heap.size, 0, none⟩ = some (.int .i64 d) ∧ w'.cell? ⟨w.heap.size, 1, none⟩ = some (.int .i64 j) ∧ w'.cell? ⟨w.heap.size, 2, none⟩ = some (.int .i64 t) ∧ w'.cell? ⟨w.heap.size, 3, none⟩ = some (.int .i64 r) ∧ Box w 23 #[.int .i64 d, .int .i64 j, .int .i64 t, .int .i64 r] w') _ from HE7.out.bd4) ?_
  clear hK K hS
  have hS := (show (fun (w' : World) => w'.cell? ⟨w.heap.size, 0, none⟩ = some (.int .i64 d) ∧ w'.cell? ⟨w.heap.size, 1, none⟩ = some (.int .i64 j) ∧ w'.cell? ⟨w.heap.size, 2, none⟩ = some (.int .i64 t) ∧ w'.cell? ⟨w.heap.size, 3, none⟩ = some (.int .i64 r) ∧ Box w 23 #[.int .i64 d, .int .i64 j, .int .i64 t, .int .i64 r] w') _ from HE7.out.bd4)
  refine Turns.take hS 8 _ rfl (by kernel_rfl) (by kernel_rfl) (by kernel_rfl) (by kernel_rfl) (fun _ _ _ h => h) (by rfl) (fun w' hS' => by (try dsimp only at hS'); go_split_ands; go_simp; (try with_reducible rfl)) ?_
  simp only [Act.put, List.getElem_toArray, List.getElem_cons_succ, List.getElem_cons_zero, List.setIfInBounds_toArray, List.set_cons_zero, List.set_cons_succ]
  refine Turns.take hS 9 _ rfl (by kernel_rfl) (by kernel_rfl) (by kernel_rfl) (by kernel_rfl) (fun _ _ _ h => h) (by rfl) (fun w' hS' => by (try dsimp only at hS'); go_split_ands; go_simp; (try with_reducible rfl)) ?_
  simp only [Act.put, List.getElem_toArray, List.getElem_cons_succ, List.getElem_cons_zero, List.setIfInBounds_toArray, List.set_cons_zero, List.set_cons_succ]
  refine Turns.take hS 10 _ rfl (by kernel_rfl) (by kernel_rfl) (by kernel_rfl) (by kernel_rfl) (fun _ _ _ h => h) (by rfl) (fun w' hS' => by (try dsimp only at hS'); go_split_ands; go_simp; (try with_reducible rfl)) ?_
  simp only [Act.put, List.getElem_toArray, List.getElem_cons_succ, List.getElem_cons_zero, List.setIfInBounds_toArray, List.set_cons_zero, List.set_cons_succ]
  refine Turns.rest (late_done (by kernel_rfl)) ?_
  refine any_tail 11 (by rfl) (by kernel_rfl) ?_
  simp only [List.drop_succ_cons, List.drop_zero]
  clear hS
  go_wp2
  go_ret
  exact ⟨ret_int hT.symm, HE7.out.below⟩
theorem brest_any (d j t r : Int) (w : World) :
    Calls Try.prog 19 #[.agg #[.int .i64 d, .int .i64 j, .int .i64 t, .int .i64 r]] w fun e w' => e = .returned (.int .i64 (bdRest d j t r)) ∧ Below w.heap.size w w' := by
  have HB := Lib.hid (Box.start w 23 #[.int .i64 d, .int .i64 j, .int .i64 t, .int .i64 r])
  obtain ⟨c0, c1, c2, c3, _⟩ := HB.out.bd4
  cases g1 : bdGood d j t r
  · have hT : bdRest d j t r = 0 := by unfold bdRest; rw [if_neg]; rw [g1]; exact Bool.false_ne_true
    go_enter Try.func19, Try.ntmps19
    go_wp2_with (first
      | (go_at_call 11; refine (bgood_any _ _ _ _ _).mono ?_; rintro e wx ⟨rfl, hb⟩; replace HB := Lib.hid (HB.out.next hb); obtain ⟨c0, c1, c2, c3, _⟩ := HB.out.bd4; clear hb))
    go_ret
    exact ⟨ret_int hT.symm, HB.out.below⟩
  have k := bdGood_iff.1 g1
  have k1 := k.j0
  have k2 := k.j1
  have k3 := k.t0
  have k4 := k.t1
  clear k
  have hT : bdRest d j t r = 2 * j + 2 * bdLag d j t r (8 * (t + 1)) + 6 := by unfold bdRest; rw [if_pos g1]
  have tb := bdLag_bd d j t r (8 * (t + 1))
  obtain ⟨T, hTT⟩ : ∃ T, bdLag d j t r (8 * (t + 1)) = T := ⟨_, rfl⟩
  rw [hTT] at hT tb
  obtain ⟨tb1, tb2⟩ := tb
  have z1 : IntKind.i64.wrap (2 * j) = 2 * j := IntWalk.i64_in _ (by omega)
  have z2 : IntKind.i64.wrap (t + 1) = t + 1 := IntWalk.i64_in _ (by omega)
  have z3 : IntKind.i64.wrap (8 * (t + 1)) = 8 * (t + 1) := IntWalk.i64_in _ (by omega)
  have z4 : IntKind.i64.wrap (2 * T) = 2 * T := IntWalk.i64_in _ (by omega)
  have z5 : IntKind.i64.wrap (2 * j + 2 * T) = 2 * j + 2 * T := IntWalk.i64_in _ (by omega)
  have z6 : IntKind.i64.wrap (2 * j + 2 * T + 6) = 2 * j + 2 * T + 6 := IntWalk.i64_in _ (by omega)
  go_enter Try.func19, Try.ntmps19
  go_wp2_with (first
    | (go_at_call 11; refine (bgood_any _ _ _ _ _).mono ?_; rintro e wx ⟨rfl, hb⟩; replace HB := Lib.hid (HB.out.next hb); obtain ⟨c0, c1, c2, c3, _⟩ := HB.out.bd4; clear hb))
  refine region_turns (fun (w' : World) => w'.cell? ⟨w.heap.size, 0, none⟩ = some (.int .i64 d) ∧ w'.cell? ⟨w.heap.size, 1, none⟩ = some (.int .i64 j) ∧ w'.cell? ⟨w.heap.size, 2, none⟩ = some (.int .i64 t) ∧ w'.cell? ⟨w.heap.size, 3, none⟩ = some (.int .i64 r) ∧ Box w 23 #[.int .i64 d, .int .i64 j, .int .i64 t, .int .i64 r] w') (fun j => decide (13 ≤ j)) (by kernel_rfl) (HB.out.drew.bd4) (fun hS => ?_)
  refine Turns.take hS 0 _ rfl (by kernel_rfl) (by kernel_rfl) (by kernel_rfl) (by kernel_rfl) (fun _ _ _ h => h) (by rfl) (fun w' hS' => by (try dsimp only at hS'); go_split_ands; go_simp; (try with_reducible rfl)) ?_
  simp only [Act.put, List.getElem_toArray, List.getElem_cons_succ, List.getElem_cons_zero, List.setIfInBounds_toArray, List.set_cons_zero, List.set_cons_succ]
  refine Turns.take hS 1 _ rfl (by kernel_rfl) (by kernel_rfl) (by kernel_rfl) (by kernel_rfl) (fun _ _ _ h => h) (by rfl) (fun w' hS' => by (try dsimp only at hS'); go_split_ands; go_simp; (try with_reducible rfl)) ?_
  simp only [Act.put, List.getElem_toArray, List.getElem_cons_succ, List.getElem_cons_zero, List.setIfInBounds_toArray, List.set_cons_zero, List.set_cons_succ]
  refine Turns.take hS 2 _ rfl (by kernel_rfl) (by kernel_rfl) (by kernel_rfl) (by kernel_rfl) (fun _ _ _ h => h) (by rfl) (fun w' hS' => by (try dsimp only at hS'); go_split_ands; go_simp; (try with_reducible rfl)) ?_
  simp only [Act.put, List.getElem_toArray, List.getElem_cons_succ, List.getElem_cons_zero, List.setIfInBounds_toArray, List.set_cons_zero, List.set_cons_succ]
  refine Turns.take hS 3 _ rfl (by kernel_rfl) (by kernel_rfl) (by kernel_rfl) (by kernel_rfl) (fun _ _ _ h => h) (by rfl) (fun w' hS' => by (try dsimp only at hS'); go_split_ands; go_simp; (try with_reducible rfl)) ?_
  simp only [Act.put, List.getElem_toArray, List.getElem_cons_succ, List.getElem_cons_zero, List.setIfInBounds_toArray, List.set_cons_zero, List.set_cons_succ]
  refine Turns.take hS 4 _ rfl (by kernel_rfl) (by kernel_rfl) (by kernel_rfl) (by kernel_rfl) (fun _ _ _ h => h) (by rfl) (fun w' hS' => by (try dsimp only at hS'); go_split_ands; go_simp; (try with_reducible rfl)) ?_
  simp only [Act.put, List.getElem_toArray, List.getElem_cons_succ, List.getElem_cons_zero, List.setIfInBounds_toArray, List.set_cons_zero, List.set_cons_succ]
  refine Turns.take hS 5 _ rfl (by kernel_rfl) (by kernel_rfl) (by kernel_rfl) (by kernel_rfl) (fun _ _ _ h => h) (by rfl) (fun w' hS' => by (try dsimp only at hS'); go_split_ands; go_simp; (try with_reducible rfl)) ?_
  simp only [Act.put, List.getElem_toArray, List.getElem_cons_succ, List.getElem_cons_zero, List.setIfInBounds_toArray, List.set_cons_zero, List.set_cons_succ]
  refine Turns.take hS 6 _ rfl (by kernel_rfl) (by kernel_rfl) (by kernel_rfl) (by kernel_rfl) (fun _ _ _ h => h) (by rfl) (fun w' hS' => by (try dsimp only at hS'); go_split_ands; go_simp; (try with_reducible rfl)) ?_
  simp only [Act.put, List.getElem_toArray, List.getElem_cons_succ, List.getElem_cons_zero, List.setIfInBounds_toArray, List.set_cons_zero, List.set_cons_succ]
  refine Turns.take hS 7 _ rfl (by kernel_rfl) (by kernel_rfl) (by kernel_rfl) (by kernel_rfl) (fun _ _ _ h => h) (by rfl) (fun w' hS' => by (try dsimp only at hS'); go_split_ands; go_simp; (try with_reducible rfl)) ?_
  simp only [Act.put, List.getElem_toArray, List.getElem_cons_succ, List.getElem_cons_zero, List.setIfInBounds_toArray, List.set_cons_zero, List.set_cons_succ]
  refine Turns.next 8 rfl (by kernel_rfl) (by rfl) (fun K hK => ?_)
  go_simp
  go_at_call 15
  refine (lag_any d j t r (8 * (t + 1)) _).mono ?_
  rintro e wx8 ⟨rfl, hb⟩
  have HE8 := Lib.hid (hS.2.2.2.2.next hb)
  refine hK.out _ _ (show (fun (w' : World) => w'.cell? ⟨w.heap.size, 0, none⟩ = some (.int .i64 d) ∧ w'.cell? ⟨w.heap.size, 1, none⟩ = some (.int .i64 j) ∧ w'.cell? ⟨w.heap.size, 2, none⟩ = some (.int .i64 t) ∧ w'.cell? ⟨w.heap.size, 3, none⟩ = some (.int .i64 r) ∧ Box w 23 #[.int .i64 d, .int .i64 j, .int .i64 t, .int .i64 r] w') _ from HE8.out.bd4) ?_
  clear hK K hS
  have hS := (show (fun (w' : World) => w'.cell? ⟨w.heap.size, 0, none⟩ = some (.int .i64 d) ∧ w'.cell? ⟨w.heap.size, 1, none⟩ = some (.int .i64 j) ∧ w'.cell? ⟨w.heap.size, 2, none⟩ = some (.int .i64 t) ∧ w'.cell? ⟨w.heap.size, 3, none⟩ = some (.int .i64 r) ∧ Box w 23 #[.int .i64 d, .int .i64 j, .int .i64 t, .int .i64 r] w') _ from HE8.out.bd4)
  refine Turns.take hS 9 _ rfl (by kernel_rfl) (by kernel_rfl) (by kernel_rfl) (by kernel_rfl) (fun _ _ _ h => h) (by rfl) (fun w' hS' => by (try dsimp only at hS'); go_split_ands; go_simp; (try with_reducible rfl)) ?_
  simp only [Act.put, List.getElem_toArray, List.getElem_cons_succ, List.getElem_cons_zero, List.setIfInBounds_toArray, List.set_cons_zero, List.set_cons_succ]
  refine Turns.take hS 10 _ rfl (by kernel_rfl) (by kernel_rfl) (by kernel_rfl) (by kernel_rfl) (fun _ _ _ h => h) (by rfl) (fun w' hS' => by (try dsimp only at hS'); go_split_ands; go_simp; (try with_reducible rfl)) ?_
  simp only [Act.put, List.getElem_toArray, List.getElem_cons_succ, List.getElem_cons_zero, List.setIfInBounds_toArray, List.set_cons_zero, List.set_cons_succ]
  refine Turns.take hS 11 _ rfl (by kernel_rfl) (by kernel_rfl) (by kernel_rfl) (by kernel_rfl) (fun _ _ _ h => h) (by rfl) (fun w' hS' => by (try dsimp only at hS'); go_split_ands; go_simp; (try with_reducible rfl)) ?_
  simp only [Act.put, List.getElem_toArray, List.getElem_cons_succ, List.getElem_cons_zero, List.setIfInBounds_toArray, List.set_cons_zero, List.set_cons_succ]
  refine Turns.take hS 12 _ rfl (by kernel_rfl) (by kernel_rfl) (by kernel_rfl) (by kernel_rfl) (fun _ _ _ h => h) (by rfl) (fun w' hS' => by (try dsimp only at hS'); go_split_ands; go_simp; (try with_reducible rfl)) ?_
  simp only [Act.put, List.getElem_toArray, List.getElem_cons_succ, List.getElem_cons_zero, List.setIfInBounds_toArray, List.set_cons_zero, List.set_cons_succ]
  refine Turns.rest (late_done (by kernel_rfl)) ?_
  refine any_tail 13 (by rfl) (by kernel_rfl) ?_
  simp only [List.drop_succ_cons, List.drop_zero]
  clear hS
  go_wp2
  go_ret
  exact ⟨ret_int hT.symm, HE8.out.below⟩
theorem berror_any (d j t r h : Int) (w : World) :
    Calls Try.prog 21 #[.agg #[.int .i64 d, .int .i64 j, .int .i64 t, .int .i64 r], .int .i64 h] w fun e w' => e = .returned (.int .i64 (bdError d j t r h)) ∧ Below w.heap.size w w' := by
  have HB := Lib.hid (Box.start w 23 #[.int .i64 d, .int .i64 j, .int .i64 t, .int .i64 r])
  obtain ⟨c0, c1, c2, c3, _⟩ := HB.out.bd4
  cases g1 : bdIn h 0 63
  · have hT : bdError d j t r h = 0 := by unfold bdError; rw [if_neg]; rw [g1]; exact Bool.false_ne_true
    go_enter Try.func21, Try.ntmps21
    go_wp2_with (first
      | (go_at_call 30; refine (within_any _ _ _ _).mono ?_; rintro e wx ⟨rfl, rfl⟩))
    go_ret
    exact ⟨ret_int hT.symm, HB.out.below⟩
  have k := bdIn_iff.1 g1
  obtain ⟨k1, k2⟩ := k
  have hT : bdError d j t r h = h * (bdHop d j t r + bdRest d j t r) := by unfold bdError; rw [if_pos g1]
  have tb := bdHop_bd d j t r
  have ub := bdRest_bd d j t r
  obtain ⟨T, hTT⟩ : ∃ T, bdHop d j t r = T := ⟨_, rfl⟩
  obtain ⟨U, hUU⟩ : ∃ U, bdRest d j t r = U := ⟨_, rfl⟩
  rw [hTT, hUU] at hT
  rw [hTT] at tb
  rw [hUU] at ub
  obtain ⟨tb1, tb2⟩ := tb
  obtain ⟨ub1, ub2⟩ := ub
  have p := bd_mul k1 k2 (by omega : 0 ≤ T + U) (by omega : T + U ≤ 4164400290204688)
  obtain ⟨p1, p2⟩ := p
  have z1 : IntKind.i64.wrap (T + U) = T + U := IntWalk.i64_in _ (by omega)
  have z2 : IntKind.i64.wrap (h * (T + U)) = h * (T + U) := IntWalk.i64_in _ (by omega)
  go_enter Try.func21, Try.ntmps21
  go_wp2_with (first
    | (go_at_call 30; refine (within_any _ _ _ _).mono ?_; rintro e wx ⟨rfl, rfl⟩))
  refine region_turns (fun (w' : World) => w'.cell? ⟨w.heap.size, 0, none⟩ = some (.int .i64 d) ∧ w'.cell? ⟨w.heap.size, 1, none⟩ = some (.int .i64 j) ∧ w'.cell? ⟨w.heap.size, 2, none⟩ = some (.int .i64 t) ∧ w'.cell? ⟨w.heap.size, 3, none⟩ = some (.int .i64 r) ∧ Box w 23 #[.int .i64 d, .int .i64 j, .int .i64 t, .int .i64 r] w') (fun j => decide (8 ≤ j)) (by kernel_rfl) (HB.out.drew.bd4) (fun hS => ?_)
  refine Turns.take hS 0 _ rfl (by kernel_rfl) (by kernel_rfl) (by kernel_rfl) (by kernel_rfl) (fun _ _ _ h => h) (by rfl) (fun w' hS' => by (try dsimp only at hS'); go_split_ands; go_simp; (try with_reducible rfl)) ?_
  simp only [Act.put, List.getElem_toArray, List.getElem_cons_succ, List.getElem_cons_zero, List.setIfInBounds_toArray, List.set_cons_zero, List.set_cons_succ]
  refine Turns.take hS 1 _ rfl (by kernel_rfl) (by kernel_rfl) (by kernel_rfl) (by kernel_rfl) (fun _ _ _ h => h) (by rfl) (fun w' hS' => by (try dsimp only at hS'); go_split_ands; go_simp; (try with_reducible rfl)) ?_
  simp only [Act.put, List.getElem_toArray, List.getElem_cons_succ, List.getElem_cons_zero, List.setIfInBounds_toArray, List.set_cons_zero, List.set_cons_succ]
  refine Turns.take hS 3 _ rfl (by kernel_rfl) (by kernel_rfl) (by kernel_rfl) (by kernel_rfl) (fun _ _ _ h => h) (by rfl) (fun w' hS' => by (try dsimp only at hS'); go_split_ands; go_simp; (try with_reducible rfl)) ?_
  simp only [Act.put, List.getElem_toArray, List.getElem_cons_succ, List.getElem_cons_zero, List.setIfInBounds_toArray, List.set_cons_zero, List.set_cons_succ]
  refine Turns.next 2 rfl (by kernel_rfl) (by rfl) (fun K hK => ?_)
  go_simp
  go_at_call 17
  refine (hop_any d j t r _).mono ?_
  rintro e wx2 ⟨rfl, hb⟩
  have HE2 := Lib.hid (hS.2.2.2.2.next hb)
  refine hK.out _ _ (show (fun (w' : World) => w'.cell? ⟨w.heap.size, 0, none⟩ = some (.int .i64 d) ∧ w'.cell? ⟨w.heap.size, 1, none⟩ = some (.int .i64 j) ∧ w'.cell? ⟨w.heap.size, 2, none⟩ = some (.int .i64 t) ∧ w'.cell? ⟨w.heap.size, 3, none⟩ = some (.int .i64 r) ∧ Box w 23 #[.int .i64 d, .int .i64 j, .int .i64 t, .int .i64 r] w') _ from HE2.out.bd4) ?_
  clear hK K hS
  have hS := (show (fun (w' : World) => w'.cell? ⟨w.heap.size, 0, none⟩ = some (.int .i64 d) ∧ w'.cell? ⟨w.heap.size, 1, none⟩ = some (.int .i64 j) ∧ w'.cell? ⟨w.heap.size, 2, none⟩ = some (.int .i64 t) ∧ w'.cell? ⟨w.heap.size, 3, none⟩ = some (.int .i64 r) ∧ Box w 23 #[.int .i64 d, .int .i64 j, .int .i64 t, .int .i64 r] w') _ from HE2.out.bd4)
  refine Turns.next 4 rfl (by kernel_rfl) (by rfl) (fun K hK => ?_)
  go_simp
  go_at_call 19
  refine (brest_any d j t r _).mono ?_
  rintro e wx4 ⟨rfl, hb⟩
  have HE4 := Lib.hid (hS.2.2.2.2.next hb)
  refine hK.out _ _ (show (fun (w' : World) => w'.cell? ⟨w.heap.size, 0, none⟩ = some (.int .i64 d) ∧ w'.cell? ⟨w.heap.size, 1, none⟩ = some (.int .i64 j) ∧ w'.cell? ⟨w.heap.size, 2, none⟩ = some (.int .i64 t) ∧ w'.cell? ⟨w.heap.size, 3, none⟩ = some (.int .i64 r) ∧ Box w 23 #[.int .i64 d, .int .i64 j, .int .i64 t, .int .i64 r] w') _ from HE4.out.bd4) ?_
  clear hK K hS
  have hS := (show (fun (w' : World) => w'.cell? ⟨w.heap.size, 0, none⟩ = some (.int .i64 d) ∧ w'.cell? ⟨w.heap.size, 1, none⟩ = some (.int .i64 j) ∧ w'.cell? ⟨w.heap.size, 2, none⟩ = some (.int .i64 t) ∧ w'.cell? ⟨w.heap.size, 3, none⟩ = some (.int .i64 r) ∧ Box w 23 #[.int .i64 d, .int .i64 j, .int .i64 t, .int .i64 r] w') _ from HE4.out.bd4)
  refine Turns.take hS 5 _ rfl (by kernel_rfl) (by kernel_rfl) (by kernel_rfl) (by kernel_rfl) (fun _ _ _ h => h) (by rfl) (fun w' hS' => by (try dsimp only at hS'); go_split_ands; go_simp; (try with_reducible rfl)) ?_
  simp only [Act.put, List.getElem_toArray, List.getElem_cons_succ, List.getElem_cons_zero, List.setIfInBounds_toArray, List.set_cons_zero, List.set_cons_succ]
  refine Turns.take hS 6 _ rfl (by kernel_rfl) (by kernel_rfl) (by kernel_rfl) (by kernel_rfl) (fun _ _ _ h => h) (by rfl) (fun w' hS' => by (try dsimp only at hS'); go_split_ands; go_simp; (try with_reducible rfl)) ?_
  simp only [Act.put, List.getElem_toArray, List.getElem_cons_succ, List.getElem_cons_zero, List.setIfInBounds_toArray, List.set_cons_zero, List.set_cons_succ]
  refine Turns.take hS 7 _ rfl (by kernel_rfl) (by kernel_rfl) (by kernel_rfl) (by kernel_rfl) (fun _ _ _ h => h) (by rfl) (fun w' hS' => by (try dsimp only at hS'); go_split_ands; go_simp; (try with_reducible rfl)) ?_
  simp only [Act.put, List.getElem_toArray, List.getElem_cons_succ, List.getElem_cons_zero, List.setIfInBounds_toArray, List.set_cons_zero, List.set_cons_succ]
  refine Turns.rest (late_done (by kernel_rfl)) ?_
  refine any_tail 8 (by rfl) (by kernel_rfl) ?_
  simp only [List.drop_succ_cons, List.drop_zero]
  clear hS
  go_wp2
  go_ret
  exact ⟨ret_int hT.symm, HE4.out.below⟩
end Go.Proofs.Ytgcmeoogmjganaa
