/- What picked answers of a frame. (Written by wip/tools/mkframe.py.) -/
import Derived.Test.YtdnmgpendacjoaaGreatFrmP
import Derived.Test.YtdnmgpendacjoaaGreatBunA
namespace Go.Proofs.YtdnmgpendacjoaaGreat
open Go.RowKit
set_option linter.unusedSimpArgs false
attribute [local go_sem ↓] Go.wp_at_zero Go.wp_at_succ
theorem is_sync (W : World) (v : Value) : (Instr.typeAssert (.iface 38 v) 134 38 true).run Tryz.prog W = .ok (.tuple #[v, .bool true]) W := by kernel_rfl
set_option maxHeartbeats 4000000 in
set_option maxRecDepth 100000 in
theorem picked_sync {S : Type} (p : Picks S) (hp : p.Right) (s0 s1 s2 s3 s4 s5 s6 s7 : S) (a0 a1 a2 a3 a4 a5 b0 b1 b2 b3 b4 b5 bk : Int) (w : World) (h : p.inv s0 w) (q : Pick p s0 0 1 bk s1) (q0 : Pick p s1 1 a0 b0 s2) (q1 : Pick p s2 1 a1 b1 s3) (q2 : Pick p s3 3 a2 b2 s4) (u2 : F16 a2) (v2 : F16 b2) (q3 : Pick p s4 3 a3 b3 s5) (u3 : F16 a3) (v3 : F16 b3) (q4 : Pick p s5 2 a4 b4 s6) (q5 : Pick p s6 4 a5 b5 s7) :
    Calls Tryz.prog 70 #[.iface 38 (.agg #[.int .i64 a0, .int .i64 a1, .int .u16 a2, .int .u16 a3, .int .i64 a4, .int .i64 a5]), .func (.func p.fn) #[] p.caps] w (Picked (.iface 38 (.agg #[.int .i64 b0, .int .i64 b1, .int .u16 b2, .int .u16 b3, .int .i64 b4, .int .i64 b5])) p s7 w) := by
  have en : ∀ (args : Array Value) (w : World), (callFunc p.fn args).run Tryz.prog w = .ok (.enter p.fn args) w := hp.enters
  have t0 := is_sync
  have hm := Mid.start (T := 38) (cs := #[.int .i64 a0, .int .i64 a1, .int .u16 a2, .int .u16 a3, .int .i64 a4, .int .i64 a5]) hp (by unfold frameType; decide) (noByte_of rfl) h
  have HP := Lib.hid hp
  clear hp h
  go_enter Tryz.func70, Tryz.ntmps70
  go_wp2_with (go_at_fn p.fn; (with_reducible refine (hm.pick HP.out q).mono ?_); rintro e w1 ⟨rfl, m1⟩)
  have d0 := m1.drew HP.out
  refine region_turns (fun w' => w'.cell? ⟨w.heap.size, 0, none⟩ = some (.int .i64 a0) ∧ w'.cell? ⟨w.heap.size, 1, none⟩ = some (.int .i64 a1)) (fun j => decide (9 ≤ j)) (by kernel_rfl) ⟨d0.holds.cell 0, d0.holds.cell 1⟩ (fun hS => ?_)
  refine Turns.take hS 0 (.func (.func p.fn) #[] p.caps) rfl (by kernel_rfl) (by kernel_rfl) (by kernel_rfl) (by kernel_rfl) (fun _ _ _ h => h) (by rfl) (fun w' hS' => by go_simp) ?_
  simp only [Act.put, List.getElem_toArray, List.getElem_cons_succ, List.getElem_cons_zero, List.setIfInBounds_toArray, List.set_cons_zero, List.set_cons_succ]
  refine Turns.take hS 1 (.pointer (some ⟨w.heap.size, 0, none⟩)) rfl (by kernel_rfl) (by kernel_rfl) (by kernel_rfl) (by kernel_rfl) (fun _ _ _ h => h) (by rfl) (fun w' hS' => by go_simp) ?_
  simp only [Act.put, List.getElem_toArray, List.getElem_cons_succ, List.getElem_cons_zero, List.setIfInBounds_toArray, List.set_cons_zero, List.set_cons_succ]
  refine Turns.take hS 2 (.int .i64 a0) rfl (by kernel_rfl) (by kernel_rfl) (by kernel_rfl) (by kernel_rfl) (fun _ _ _ h => h) (by rfl) (fun w' hS' => by (try dsimp only at hS'); go_split_ands; go_simp) ?_
  simp only [Act.put, List.getElem_toArray, List.getElem_cons_succ, List.getElem_cons_zero, List.setIfInBounds_toArray, List.set_cons_zero, List.set_cons_succ]
  refine Turns.take hS 4 (.func (.func p.fn) #[] p.caps) rfl (by kernel_rfl) (by kernel_rfl) (by kernel_rfl) (by kernel_rfl) (fun _ _ _ h => h) (by rfl) (fun w' hS' => by go_simp) ?_
  simp only [Act.put, List.getElem_toArray, List.getElem_cons_succ, List.getElem_cons_zero, List.setIfInBounds_toArray, List.set_cons_zero, List.set_cons_succ]
  refine Turns.take hS 5 (.pointer (some ⟨w.heap.size, 1, none⟩)) rfl (by kernel_rfl) (by kernel_rfl) (by kernel_rfl) (by kernel_rfl) (fun _ _ _ h => h) (by rfl) (fun w' hS' => by go_simp) ?_
  simp only [Act.put, List.getElem_toArray, List.getElem_cons_succ, List.getElem_cons_zero, List.setIfInBounds_toArray, List.set_cons_zero, List.set_cons_succ]
  refine Turns.take hS 6 (.int .i64 a1) rfl (by kernel_rfl) (by kernel_rfl) (by kernel_rfl) (by kernel_rfl) (fun _ _ _ h => h) (by rfl) (fun w' hS' => by (try dsimp only at hS'); go_split_ands; go_simp) ?_
  simp only [Act.put, List.getElem_toArray, List.getElem_cons_succ, List.getElem_cons_zero, List.setIfInBounds_toArray, List.set_cons_zero, List.set_cons_succ]
  refine Turns.next 3 rfl (by kernel_rfl) (by rfl) (fun K hK => ?_)
  go_simp
  refine (d0.pick HP.out q0).mono ?_
  rintro e w2 ⟨rfl, m2⟩
  have hS2 : w2.cell? ⟨w.heap.size, 0, none⟩ = some (.int .i64 a0) ∧ w2.cell? ⟨w.heap.size, 1, none⟩ = some (.int .i64 a1) := ⟨m2.holds.cell 0, m2.holds.cell 1⟩
  refine hK.out _ _ hS2 ?_
  clear hK K
  refine Turns.take hS2 8 (.pointer (some ⟨w.heap.size, 0, none⟩)) rfl (by kernel_rfl) (by kernel_rfl) (by kernel_rfl) (by kernel_rfl) (fun _ _ _ h => h) (by rfl) (fun w' hS' => by go_simp) ?_
  simp only [Act.put, List.getElem_toArray, List.getElem_cons_succ, List.getElem_cons_zero, List.setIfInBounds_toArray, List.set_cons_zero, List.set_cons_succ]
  refine Turns.next 7 rfl (by kernel_rfl) (by rfl) (fun K hK => ?_)
  go_simp
  refine (m2.pick HP.out q1).mono ?_
  rintro e w3 ⟨rfl, m3⟩
  have hS3 : w3.cell? ⟨w.heap.size, 0, none⟩ = some (.int .i64 a0) ∧ w3.cell? ⟨w.heap.size, 1, none⟩ = some (.int .i64 a1) := ⟨m3.holds.cell 0, m3.holds.cell 1⟩
  refine hK.out _ _ hS3 ?_
  clear hK K
  refine Turns.rest (late_done (by kernel_rfl)) ?_
  refine any_tail 9 (by rfl) (by kernel_rfl) ?_
  simp only [List.drop_succ_cons, List.drop_zero]
  have e0 := m3.holds.cell 0
  have e1 := m3.holds.cell 1
  have f0 := m3.holds.soft 0
  have f1 := m3.holds.soft 1
  go_wp2
  have m4 := ((m3.put HP.out 0 (.int .i64 b0)).put HP.out 1 (.int .i64 b1))
  revert m4
  generalize ((w3.setCell ⟨w.heap.size, 0, none⟩ (.int .i64 b0)).setCell ⟨w.heap.size, 1, none⟩ (.int .i64 b1)) = w4
  intro m4
  clear e0 e1 f0 f1 d0
  have d1 := m4.drew HP.out
  refine region_turns (fun w' => w'.cell? ⟨w.heap.size, 2, none⟩ = some (.int .u16 a2) ∧ w'.cell? ⟨w.heap.size, 3, none⟩ = some (.int .u16 a3)) (fun j => decide (9 ≤ j)) (by kernel_rfl) ⟨d1.holds.cell 2, d1.holds.cell 3⟩ (fun hS => ?_)
  refine Turns.take hS 0 (.func (.func p.fn) #[] p.caps) rfl (by kernel_rfl) (by kernel_rfl) (by kernel_rfl) (by kernel_rfl) (fun _ _ _ h => h) (by rfl) (fun w' hS' => by go_simp) ?_
  simp only [Act.put, List.getElem_toArray, List.getElem_cons_succ, List.getElem_cons_zero, List.setIfInBounds_toArray, List.set_cons_zero, List.set_cons_succ]
  refine Turns.take hS 1 (.pointer (some ⟨w.heap.size, 2, none⟩)) rfl (by kernel_rfl) (by kernel_rfl) (by kernel_rfl) (by kernel_rfl) (fun _ _ _ h => h) (by rfl) (fun w' hS' => by go_simp) ?_
  simp only [Act.put, List.getElem_toArray, List.getElem_cons_succ, List.getElem_cons_zero, List.setIfInBounds_toArray, List.set_cons_zero, List.set_cons_succ]
  refine Turns.take hS 2 (.int .u16 a2) rfl (by kernel_rfl) (by kernel_rfl) (by kernel_rfl) (by kernel_rfl) (fun _ _ _ h => h) (by rfl) (fun w' hS' => by (try dsimp only at hS'); go_split_ands; go_simp) ?_
  simp only [Act.put, List.getElem_toArray, List.getElem_cons_succ, List.getElem_cons_zero, List.setIfInBounds_toArray, List.set_cons_zero, List.set_cons_succ]
  refine Turns.take hS 4 (.func (.func p.fn) #[] p.caps) rfl (by kernel_rfl) (by kernel_rfl) (by kernel_rfl) (by kernel_rfl) (fun _ _ _ h => h) (by rfl) (fun w' hS' => by go_simp) ?_
  simp only [Act.put, List.getElem_toArray, List.getElem_cons_succ, List.getElem_cons_zero, List.setIfInBounds_toArray, List.set_cons_zero, List.set_cons_succ]
  refine Turns.take hS 5 (.pointer (some ⟨w.heap.size, 3, none⟩)) rfl (by kernel_rfl) (by kernel_rfl) (by kernel_rfl) (by kernel_rfl) (fun _ _ _ h => h) (by rfl) (fun w' hS' => by go_simp) ?_
  simp only [Act.put, List.getElem_toArray, List.getElem_cons_succ, List.getElem_cons_zero, List.setIfInBounds_toArray, List.set_cons_zero, List.set_cons_succ]
  refine Turns.take hS 6 (.int .u16 a3) rfl (by kernel_rfl) (by kernel_rfl) (by kernel_rfl) (by kernel_rfl) (fun _ _ _ h => h) (by rfl) (fun w' hS' => by (try dsimp only at hS'); go_split_ands; go_simp) ?_
  simp only [Act.put, List.getElem_toArray, List.getElem_cons_succ, List.getElem_cons_zero, List.setIfInBounds_toArray, List.set_cons_zero, List.set_cons_succ]
  refine Turns.next 3 rfl (by kernel_rfl) (by rfl) (fun K hK => ?_)
  go_simp
  refine (Mid.mark HP.out d1 q2 u2 v2).mono ?_
  rintro e w5 ⟨rfl, m5⟩
  have hS5 : w5.cell? ⟨w.heap.size, 2, none⟩ = some (.int .u16 a2) ∧ w5.cell? ⟨w.heap.size, 3, none⟩ = some (.int .u16 a3) := ⟨m5.holds.cell 2, m5.holds.cell 3⟩
  refine hK.out _ _ hS5 ?_
  clear hK K
  refine Turns.take hS5 8 (.pointer (some ⟨w.heap.size, 2, none⟩)) rfl (by kernel_rfl) (by kernel_rfl) (by kernel_rfl) (by kernel_rfl) (fun _ _ _ h => h) (by rfl) (fun w' hS' => by go_simp) ?_
  simp only [Act.put, List.getElem_toArray, List.getElem_cons_succ, List.getElem_cons_zero, List.setIfInBounds_toArray, List.set_cons_zero, List.set_cons_succ]
  refine Turns.next 7 rfl (by kernel_rfl) (by rfl) (fun K hK => ?_)
  go_simp
  refine (Mid.mark HP.out m5 q3 u3 v3).mono ?_
  rintro e w6 ⟨rfl, m6⟩
  have hS6 : w6.cell? ⟨w.heap.size, 2, none⟩ = some (.int .u16 a2) ∧ w6.cell? ⟨w.heap.size, 3, none⟩ = some (.int .u16 a3) := ⟨m6.holds.cell 2, m6.holds.cell 3⟩
  refine hK.out _ _ hS6 ?_
  clear hK K
  refine Turns.rest (late_done (by kernel_rfl)) ?_
  refine any_tail 9 (by rfl) (by kernel_rfl) ?_
  simp only [List.drop_succ_cons, List.drop_zero]
  have e2 := m6.holds.cell 2
  have e3 := m6.holds.cell 3
  have f2 := m6.holds.soft 2
  have f3 := m6.holds.soft 3
  go_wp2
  have m7 := ((m6.put HP.out 2 (.int .u16 b2)).put HP.out 3 (.int .u16 b3))
  revert m7
  generalize ((w6.setCell ⟨w.heap.size, 2, none⟩ (.int .u16 b2)).setCell ⟨w.heap.size, 3, none⟩ (.int .u16 b3)) = w7
  intro m7
  clear e2 e3 f2 f3 d1
  have d2 := m7.drew HP.out
  refine region_turns (fun w' => w'.cell? ⟨w.heap.size, 4, none⟩ = some (.int .i64 a4) ∧ w'.cell? ⟨w.heap.size, 5, none⟩ = some (.int .i64 a5)) (fun j => decide (9 ≤ j)) (by kernel_rfl) ⟨d2.holds.cell 4, d2.holds.cell 5⟩ (fun hS => ?_)
  refine Turns.take hS 0 (.func (.func p.fn) #[] p.caps) rfl (by kernel_rfl) (by kernel_rfl) (by kernel_rfl) (by kernel_rfl) (fun _ _ _ h => h) (by rfl) (fun w' hS' => by go_simp) ?_
  simp only [Act.put, List.getElem_toArray, List.getElem_cons_succ, List.getElem_cons_zero, List.setIfInBounds_toArray, List.set_cons_zero, List.set_cons_succ]
  refine Turns.take hS 1 (.pointer (some ⟨w.heap.size, 4, none⟩)) rfl (by kernel_rfl) (by kernel_rfl) (by kernel_rfl) (by kernel_rfl) (fun _ _ _ h => h) (by rfl) (fun w' hS' => by go_simp) ?_
  simp only [Act.put, List.getElem_toArray, List.getElem_cons_succ, List.getElem_cons_zero, List.setIfInBounds_toArray, List.set_cons_zero, List.set_cons_succ]
  refine Turns.take hS 2 (.int .i64 a4) rfl (by kernel_rfl) (by kernel_rfl) (by kernel_rfl) (by kernel_rfl) (fun _ _ _ h => h) (by rfl) (fun w' hS' => by (try dsimp only at hS'); go_split_ands; go_simp) ?_
  simp only [Act.put, List.getElem_toArray, List.getElem_cons_succ, List.getElem_cons_zero, List.setIfInBounds_toArray, List.set_cons_zero, List.set_cons_succ]
  refine Turns.take hS 4 (.func (.func p.fn) #[] p.caps) rfl (by kernel_rfl) (by kernel_rfl) (by kernel_rfl) (by kernel_rfl) (fun _ _ _ h => h) (by rfl) (fun w' hS' => by go_simp) ?_
  simp only [Act.put, List.getElem_toArray, List.getElem_cons_succ, List.getElem_cons_zero, List.setIfInBounds_toArray, List.set_cons_zero, List.set_cons_succ]
  refine Turns.take hS 5 (.pointer (some ⟨w.heap.size, 5, none⟩)) rfl (by kernel_rfl) (by kernel_rfl) (by kernel_rfl) (by kernel_rfl) (fun _ _ _ h => h) (by rfl) (fun w' hS' => by go_simp) ?_
  simp only [Act.put, List.getElem_toArray, List.getElem_cons_succ, List.getElem_cons_zero, List.setIfInBounds_toArray, List.set_cons_zero, List.set_cons_succ]
  refine Turns.take hS 6 (.int .i64 a5) rfl (by kernel_rfl) (by kernel_rfl) (by kernel_rfl) (by kernel_rfl) (fun _ _ _ h => h) (by rfl) (fun w' hS' => by (try dsimp only at hS'); go_split_ands; go_simp) ?_
  simp only [Act.put, List.getElem_toArray, List.getElem_cons_succ, List.getElem_cons_zero, List.setIfInBounds_toArray, List.set_cons_zero, List.set_cons_succ]
  refine Turns.next 3 rfl (by kernel_rfl) (by rfl) (fun K hK => ?_)
  go_simp
  refine (d2.pick HP.out q4).mono ?_
  rintro e w8 ⟨rfl, m8⟩
  have hS8 : w8.cell? ⟨w.heap.size, 4, none⟩ = some (.int .i64 a4) ∧ w8.cell? ⟨w.heap.size, 5, none⟩ = some (.int .i64 a5) := ⟨m8.holds.cell 4, m8.holds.cell 5⟩
  refine hK.out _ _ hS8 ?_
  clear hK K
  refine Turns.take hS8 8 (.pointer (some ⟨w.heap.size, 4, none⟩)) rfl (by kernel_rfl) (by kernel_rfl) (by kernel_rfl) (by kernel_rfl) (fun _ _ _ h => h) (by rfl) (fun w' hS' => by go_simp) ?_
  simp only [Act.put, List.getElem_toArray, List.getElem_cons_succ, List.getElem_cons_zero, List.setIfInBounds_toArray, List.set_cons_zero, List.set_cons_succ]
  refine Turns.next 7 rfl (by kernel_rfl) (by rfl) (fun K hK => ?_)
  go_simp
  refine (m8.pick HP.out q5).mono ?_
  rintro e w9 ⟨rfl, m9⟩
  have hS9 : w9.cell? ⟨w.heap.size, 4, none⟩ = some (.int .i64 a4) ∧ w9.cell? ⟨w.heap.size, 5, none⟩ = some (.int .i64 a5) := ⟨m9.holds.cell 4, m9.holds.cell 5⟩
  refine hK.out _ _ hS9 ?_
  clear hK K
  refine Turns.rest (late_done (by kernel_rfl)) ?_
  refine any_tail 9 (by rfl) (by kernel_rfl) ?_
  simp only [List.drop_succ_cons, List.drop_zero]
  have e0 := m9.holds.cell 0
  have e1 := m9.holds.cell 1
  have e2 := m9.holds.cell 2
  have e3 := m9.holds.cell 3
  have e4 := m9.holds.cell 4
  have e5 := m9.holds.cell 5
  have f4 := m9.holds.soft 4
  have f5 := m9.holds.soft 5
  go_wp2
  go_ret
  exact ((m9.put HP.out 4 (.int .i64 b4)).put HP.out 5 (.int .i64 b5)).done _
end Go.Proofs.YtdnmgpendacjoaaGreat
