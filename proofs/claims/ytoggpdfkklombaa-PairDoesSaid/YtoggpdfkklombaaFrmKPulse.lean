/- What picked answers of a frame. (Written by wip/tools/mkframe.py.) -/
import Derived.Test.YtoggpdfkklombaaFrmP
import Derived.Test.YtoggpdfkklombaaTurn
namespace Go.Proofs.Ytoggpdfkklombaa
open Go.RowKit
set_option linter.unusedSimpArgs false
attribute [local go_sem ↓] Go.wp_at_zero Go.wp_at_succ
theorem not_pulse_sync (W : World) (v : Value) : (Instr.typeAssert (.iface 36 v) 76 86 true).run Try.prog W = .ok (.tuple #[.agg #[.int .i64 0, .int .i64 0, .int .u16 0, .int .u16 0, .int .i64 0, .int .i64 0], .bool false]) W := by kernel_rfl
theorem not_pulse_find (W : World) (v : Value) : (Instr.typeAssert (.iface 36 v) 76 89 true).run Try.prog W = .ok (.tuple #[.agg #[.int .i64 0, .int .i64 0], .bool false]) W := by kernel_rfl
theorem not_pulse_want (W : World) (v : Value) : (Instr.typeAssert (.iface 36 v) 76 91 true).run Try.prog W = .ok (.tuple #[.agg #[.int .i64 0], .bool false]) W := by kernel_rfl
theorem is_pulse (W : World) (v : Value) : (Instr.typeAssert (.iface 36 v) 76 36 true).run Try.prog W = .ok (.tuple #[v, .bool true]) W := by kernel_rfl
set_option maxHeartbeats 4000000 in
set_option maxRecDepth 100000 in
theorem picked_pulse {S : Type} (p : Picks S) (hp : p.Right) (s0 s1 s2 s3 s4 : S) (a0 a1 a2 b0 b1 b2 bk : Int) (w : World) (h : p.inv s0 w) (q : Pick p s0 0 4 bk s1) (q0 : Pick p s1 1 a0 b0 s2) (q1 : Pick p s2 1 a1 b1 s3) (q2 : Pick p s3 4 a2 b2 s4) :
    Calls Try.prog 36 #[.iface 36 (.agg #[.int .i64 a0, .int .i64 a1, .int .i64 a2]), .func (.func p.fn) #[] p.caps] w (Picked (.iface 36 (.agg #[.int .i64 b0, .int .i64 b1, .int .i64 b2])) p s4 w) := by
  have en : ∀ (args : Array Value) (w : World), (callFunc p.fn args).run Try.prog w = .ok (.enter p.fn args) w := hp.enters
  have t0 := not_pulse_sync
  have t1 := not_pulse_find
  have t2 := not_pulse_want
  have t3 := is_pulse
  have hm := Mid.start (T := 36) (cs := #[.int .i64 a0, .int .i64 a1, .int .i64 a2]) hp (by unfold frameType; decide) (noByte_of rfl) h
  have HP := Lib.hid hp
  clear hp h
  go_enter Try.func36, Try.ntmps36
  go_wp2_with (go_at_fn p.fn; (with_reducible refine (hm.pick HP.out q).mono ?_); rintro e w1 ⟨rfl, m1⟩)
  have d0 := m1.drew HP.out
  refine region_turns (fun w' => w'.cell? ⟨w.heap.size, 0, none⟩ = some (.int .i64 a0) ∧ w'.cell? ⟨w.heap.size, 1, none⟩ = some (.int .i64 a1) ∧ w'.cell? ⟨w.heap.size, 2, none⟩ = some (.int .i64 a2)) (fun j => decide (13 ≤ j)) (by kernel_rfl) ⟨d0.holds.cell 0, d0.holds.cell 1, d0.holds.cell 2⟩ (fun hS => ?_)
  refine Turns.take hS 0 (.func (.func p.fn) #[] p.caps) rfl (by kernel_rfl) (by kernel_rfl) (by kernel_rfl) (by kernel_rfl) (fun _ _ _ h => h) (by rfl) (fun w' hS' => by go_simp) ?_
  simp only [Act.put, List.getElem_toArray, List.getElem_cons_succ, List.getElem_cons_zero, List.setIfInBounds_toArray, List.set_cons_zero, List.set_cons_succ]
  refine Turns.take hS 1 (.pointer (some ⟨w.heap.size, 0, none⟩)) rfl (by kernel_rfl) (by kernel_rfl) (by kernel_rfl) (by kernel_rfl) (fun _ _ _ h => h) (by rfl) (fun w' hS' => by go_simp) ?_
  simp only [Act.put, List.getElem_toArray, List.getElem_cons_succ, List.getElem_cons_zero, List.setIfInBounds_toArray, List.set_cons_zero, List.set_cons_succ]
  refine Turns.take hS 2 (.int .i64 a0) rfl (by kernel_rfl) (by kernel_rfl) (by kernel_rfl) (by kernel_rfl) (fun _ _ _ h => h) (by rfl) (fun w' hS' => by (try dsimp only at hS'); go_split_ands; go_simp) ?_
  simp only [Act.put, List.getElem_toArray, List.getElem_cons_succ, List.getElem_cons_zero, List.setIfInBounds_toArray, List.set_cons_zero, List.set_cons_succ]
  refine Turns.take hS 4 (.func (.func p.fn) #[] p.caps) rfl (by kernel_rfl) (by kernel_rfl) (by kernel_rfl) (by kernel_rfl) (fun _ _ _ h => h) (by rfl) (fun w' hS' => by go_simp) ?_
  simp only [Act.put, List.getElem_toArray, List.getElem_cons_succ, List.getElem_cons_zero, List.setIfInBounds_toArray, List.set_cons_zero, List.set_cons_succ]
  refine Turns.take hS 5 (.pointer (some ⟨w.heap.size, 1, none⟩)) rfl (by kernel_rfl) (by kernel_rfl) (by kernel_rfl) (by kernel_rfl) (fun _ _ _ h => h) (by rfl) (fun w' hS' => by go_simp) ?_
  simp only [Act.put, List.getElem_toArray, List.getElem_cons_succ, List.getElem_cons_zero, List.setIfInBounds_toArray, List.set_cons_zero, List.set_cons_succ]
  refine Turns.take hS 6 (.int .i64 a1) rfl (by kernel_rfl) (by kernel_rfl) (by kernel_rfl) (by kernel_rfl) (fun _ _ _ h => h) (by rfl) (fun w' hS' => by (try dsimp only at hS'); go_split_ands; go_simp) ?_
  simp only [Act.put, List.getElem_toArray, List.getElem_cons_succ, List.getElem_cons_zero, List.setIfInBounds_toArray, List.set_cons_zero, List.set_cons_succ]
  refine Turns.take hS 8 (.func (.func p.fn) #[] p.caps) rfl (by kernel_rfl) (by kernel_rfl) (by kernel_rfl) (by kernel_rfl) (fun _ _ _ h => h) (by rfl) (fun w' hS' => by go_simp) ?_
  simp only [Act.put, List.getElem_toArray, List.getElem_cons_succ, List.getElem_cons_zero, List.setIfInBounds_toArray, List.set_cons_zero, List.set_cons_succ]
  refine Turns.take hS 9 (.pointer (some ⟨w.heap.size, 2, none⟩)) rfl (by kernel_rfl) (by kernel_rfl) (by kernel_rfl) (by kernel_rfl) (fun _ _ _ h => h) (by rfl) (fun w' hS' => by go_simp) ?_
  simp only [Act.put, List.getElem_toArray, List.getElem_cons_succ, List.getElem_cons_zero, List.setIfInBounds_toArray, List.set_cons_zero, List.set_cons_succ]
  refine Turns.take hS 10 (.int .i64 a2) rfl (by kernel_rfl) (by kernel_rfl) (by kernel_rfl) (by kernel_rfl) (fun _ _ _ h => h) (by rfl) (fun w' hS' => by (try dsimp only at hS'); go_split_ands; go_simp) ?_
  simp only [Act.put, List.getElem_toArray, List.getElem_cons_succ, List.getElem_cons_zero, List.setIfInBounds_toArray, List.set_cons_zero, List.set_cons_succ]
  refine Turns.next 3 rfl (by kernel_rfl) (by rfl) (fun K hK => ?_)
  go_simp
  refine (d0.pick HP.out q0).mono ?_
  rintro e w2 ⟨rfl, m2⟩
  have hS2 : w2.cell? ⟨w.heap.size, 0, none⟩ = some (.int .i64 a0) ∧ w2.cell? ⟨w.heap.size, 1, none⟩ = some (.int .i64 a1) ∧ w2.cell? ⟨w.heap.size, 2, none⟩ = some (.int .i64 a2) := ⟨m2.holds.cell 0, m2.holds.cell 1, m2.holds.cell 2⟩
  refine hK.out _ _ hS2 ?_
  clear hK K
  refine Turns.take hS2 12 (.pointer (some ⟨w.heap.size, 0, none⟩)) rfl (by kernel_rfl) (by kernel_rfl) (by kernel_rfl) (by kernel_rfl) (fun _ _ _ h => h) (by rfl) (fun w' hS' => by go_simp) ?_
  simp only [Act.put, List.getElem_toArray, List.getElem_cons_succ, List.getElem_cons_zero, List.setIfInBounds_toArray, List.set_cons_zero, List.set_cons_succ]
  refine Turns.next 7 rfl (by kernel_rfl) (by rfl) (fun K hK => ?_)
  go_simp
  refine (m2.pick HP.out q1).mono ?_
  rintro e w3 ⟨rfl, m3⟩
  have hS3 : w3.cell? ⟨w.heap.size, 0, none⟩ = some (.int .i64 a0) ∧ w3.cell? ⟨w.heap.size, 1, none⟩ = some (.int .i64 a1) ∧ w3.cell? ⟨w.heap.size, 2, none⟩ = some (.int .i64 a2) := ⟨m3.holds.cell 0, m3.holds.cell 1, m3.holds.cell 2⟩
  refine hK.out _ _ hS3 ?_
  clear hK K
  refine Turns.next 11 rfl (by kernel_rfl) (by rfl) (fun K hK => ?_)
  go_simp
  refine (m3.pick HP.out q2).mono ?_
  rintro e w4 ⟨rfl, m4⟩
  have hS4 : w4.cell? ⟨w.heap.size, 0, none⟩ = some (.int .i64 a0) ∧ w4.cell? ⟨w.heap.size, 1, none⟩ = some (.int .i64 a1) ∧ w4.cell? ⟨w.heap.size, 2, none⟩ = some (.int .i64 a2) := ⟨m4.holds.cell 0, m4.holds.cell 1, m4.holds.cell 2⟩
  refine hK.out _ _ hS4 ?_
  clear hK K
  refine Turns.rest (late_done (by kernel_rfl)) ?_
  refine any_tail 13 (by rfl) (by kernel_rfl) ?_
  simp only [List.drop_succ_cons, List.drop_zero]
  have e0 := m4.holds.cell 0
  have e1 := m4.holds.cell 1
  have e2 := m4.holds.cell 2
  have f0 := m4.holds.soft 0
  have f1 := m4.holds.soft 1
  have f2 := m4.holds.soft 2
  go_wp2
  go_ret
  exact (((m4.put HP.out 0 (.int .i64 b0)).put HP.out 1 (.int .i64 b1)).put HP.out 2 (.int .i64 b2)).done _
end Go.Proofs.Ytoggpdfkklombaa
