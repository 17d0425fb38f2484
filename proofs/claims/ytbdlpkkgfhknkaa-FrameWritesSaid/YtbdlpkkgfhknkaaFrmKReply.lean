/- What picked answers of a frame. (Written by wip/tools/mkframe.py.) -/
import Derived.Test.YtbdlpkkgfhknkaaFrmP
import Derived.Test.YtbdlpkkgfhknkaaTurn
namespace Go.Proofs.Ytbdlpkkgfhknkaa
open Go.RowKit
set_option linter.unusedSimpArgs false
attribute [local go_sem ↓] Go.wp_at_zero Go.wp_at_succ
theorem not_reply_sync (W : World) (v : Value) : (Instr.typeAssert (.iface 60 v) 27 54 true).run Try.prog W = .ok (.tuple #[.agg #[.int .i64 0, .int .i64 0, .int .u16 0, .int .u16 0, .int .i64 0, .int .i64 0], .bool false]) W := by kernel_rfl
theorem not_reply_find (W : World) (v : Value) : (Instr.typeAssert (.iface 60 v) 27 56 true).run Try.prog W = .ok (.tuple #[.agg #[.int .i64 0, .int .i64 0], .bool false]) W := by kernel_rfl
theorem not_reply_want (W : World) (v : Value) : (Instr.typeAssert (.iface 60 v) 27 51 true).run Try.prog W = .ok (.tuple #[.agg #[.int .i64 0], .bool false]) W := by kernel_rfl
theorem not_reply_pulse (W : World) (v : Value) : (Instr.typeAssert (.iface 60 v) 27 58 true).run Try.prog W = .ok (.tuple #[.agg #[.int .i64 0, .int .i64 0, .int .i64 0], .bool false]) W := by kernel_rfl
theorem is_reply (W : World) (v : Value) : (Instr.typeAssert (.iface 60 v) 27 60 true).run Try.prog W = .ok (.tuple #[v, .bool true]) W := by kernel_rfl
set_option maxHeartbeats 4000000 in
set_option maxRecDepth 100000 in
theorem picked_reply {S : Type} (p : Picks S) (hp : p.Right) (s0 s1 s2 s3 s4 s5 s6 s7 s8 s9 : S) (a0 a1 a2 a3 a4 a5 a6 a7 b0 b1 b2 b3 b4 b5 b6 b7 bk : Int) (w : World) (h : p.inv s0 w) (q : Pick p s0 0 5 bk s1) (q0 : Pick p s1 1 a0 b0 s2) (q1 : Pick p s2 1 a1 b1 s3) (q2 : Pick p s3 4 a2 b2 s4) (q3 : Pick p s4 4 a3 b3 s5) (q4 : Pick p s5 4 a4 b4 s6) (q5 : Pick p s6 1 a5 b5 s7) (q6 : Pick p s7 3 a6 b6 s8) (u6 : F16 a6) (v6 : F16 b6) (q7 : Pick p s8 2 a7 b7 s9) :
    Calls Try.prog 20 #[.iface 60 (.agg #[.int .i64 a0, .int .i64 a1, .int .i64 a2, .int .i64 a3, .int .i64 a4, .int .i64 a5, .int .u16 a6, .int .i64 a7]), .func (.func p.fn) #[] p.caps] w (Picked (.iface 60 (.agg #[.int .i64 b0, .int .i64 b1, .int .i64 b2, .int .i64 b3, .int .i64 b4, .int .i64 b5, .int .u16 b6, .int .i64 b7])) p s9 w) := by
  have en : ∀ (args : Array Value) (w : World), (callFunc p.fn args).run Try.prog w = .ok (.enter p.fn args) w := hp.enters
  have t0 := not_reply_sync
  have t1 := not_reply_find
  have t2 := not_reply_want
  have t3 := not_reply_pulse
  have t4 := is_reply
  have hm := Mid.start (T := 60) (cs := #[.int .i64 a0, .int .i64 a1, .int .i64 a2, .int .i64 a3, .int .i64 a4, .int .i64 a5, .int .u16 a6, .int .i64 a7]) hp (by unfold frameType; decide) (noByte_of rfl) h
  have HP := Lib.hid hp
  clear hp h
  go_enter Try.func20, Try.ntmps20
  go_wp2_with (go_at_fn p.fn; (with_reducible refine (hm.pick HP.out q).mono ?_); rintro e w1 ⟨rfl, m1⟩)
  have d0 := m1.drew HP.out
  refine region_turns (fun w' => w'.cell? ⟨w.heap.size, 0, none⟩ = some (.int .i64 a0) ∧ w'.cell? ⟨w.heap.size, 1, none⟩ = some (.int .i64 a1)) (fun j => decide (9 ≤ j)) (by kernel_rfl) ⟨d0.holds.cell 0, d0.holds.cell 1⟩ (fun hS => ?_)
  refine Turns.take hS 0 (.func (.func p.fn) #[] p.caps) rfl (by kernel_rfl) (by kernel_rfl) (by kernel_rfl) (by kernel_rfl) (fun _ _ _ h => h) (by rfl) (fun w' hS' => by go_simp) ?_
  simp only [Act.put, List.getElem_toArray, List.getElem_cons_succ, List.getElem_cons_zero, List.setIfInBounds_toArray, List.set_cons_zero, List.set_cons_succ]
  refine Turns.take hS 1 (.pointer (some ⟨w.heap.size, 0, none⟩)) rfl (by kernel_rfl) (by kernel_rfl) (by kernel_rfl) (by kernel_rfl) (fun _ _ _ h => h) (by rfl) (fun w' hS' => by go_simp) ?_
  simp only [Act.put, List.getElem_toArray, List.getElem_cons_succ, List.getElem_cons_zero, List.setIfInBounds_toArray, List.set_cons_zero, List.set_cons_succ]
  refine Turns.take hS 2 (.int .i64 a0) rfl (by kernel_rfl) (by kernel_rfl) (by kernel_rfl) (by kernel_rfl) (fun _ _ _ h => h) (by rfl) (fun w' hS' => by (try dsimp only at hS'); go_split_ands; go_simp) ?_
  simp only [Act.put, List.getElem_toArray, List.getElem_cons_succ, List.getElem_cons_zero, List.setIfInBounds_toArray, List.set_cons_zero, List.set_cons_succ]
  refine Turns.take hS 4 (.func (.func p.fn) #[] p.caps) rfl (by kernel_rfl) (by kernel_rfl) (by kernel_rfl) (by kernel_rfl) (fun _ _ _ h => h) (by rfl) (fun w' hS' => by go_simp) ?_
  simp only [Act.put, List.getElem_toArray, List.getElem_cons_succ, List.getElem_cons_zero, List.setIfInBounds_toArray, List.set_cons_zero, List.set_cons_succ]
  refine Turns.take hS 5 (.pointer (some ⟨w.heap.size, 1, none⟩)) rfl (by kernel_rfl) (by kernel_rfl) (by kernel_rfl) (by kernel_rfl) (fun _ _ _ h => h) (by rfl) (fun w' hS' => by go_simp) ?_
  simp only [Act.put, List.getElem_toArray, List.getElem_cons_succ, List.getElem_cons_zero, List.setIfInBounds_toArray, List.set_cons_zero, List.set_cons_succ]
  refine Turns.take hS 6 (.int .i64 a1) rfl (by kernel_rfl) (by kernel_rfl) (by kernel_rfl) (by kernel_rfl) (fun _ _ _ h => h) (by rfl) (fun w' hS' => by (try dsimp only at hS'); go_split_ands; go_simp) ?_
  simp only [Act.put, List.getElem_toArray, List.getElem_cons_succ, List.getElem_cons_zero, List.setIfInBounds_toArray, List.set_cons_zero, List.set_cons_succ]
  refine Turns.next 3 rfl (by kernel_rfl) (by rfl) (fun K hK => ?_)
  go_simp
  refine (d0.pick HP.out q0).mono ?_
  rintro e w2 ⟨rfl, m2⟩
  have hS2 : w2.cell? ⟨w.heap.size, 0, none⟩ = some (.int .i64 a0) ∧ w2.cell? ⟨w.heap.size, 1, none⟩ = some (.int .i64 a1) := ⟨m2.holds.cell 0, m2.holds.cell 1⟩
  refine hK.out _ _ hS2 ?_
  clear hK K
  refine Turns.take hS2 8 (.pointer (some ⟨w.heap.size, 0, none⟩)) rfl (by kernel_rfl) (by kernel_rfl) (by kernel_rfl) (by kernel_rfl) (fun _ _ _ h => h) (by rfl) (fun w' hS' => by go_simp) ?_
  simp only [Act.put, List.getElem_toArray, List.getElem_cons_succ, List.getElem_cons_zero, List.setIfInBounds_toArray, List.set_cons_zero, List.set_cons_succ]
  refine Turns.next 7 rfl (by kernel_rfl) (by rfl) (fun K hK => ?_)
  go_simp
  refine (m2.pick HP.out q1).mono ?_
  rintro e w3 ⟨rfl, m3⟩
  have hS3 : w3.cell? ⟨w.heap.size, 0, none⟩ = some (.int .i64 a0) ∧ w3.cell? ⟨w.heap.size, 1, none⟩ = some (.int .i64 a1) := ⟨m3.holds.cell 0, m3.holds.cell 1⟩
  refine hK.out _ _ hS3 ?_
  clear hK K
  refine Turns.rest (late_done (by kernel_rfl)) ?_
  refine any_tail 9 (by rfl) (by kernel_rfl) ?_
  simp only [List.drop_succ_cons, List.drop_zero]
  have e0 := m3.holds.cell 0
  have e1 := m3.holds.cell 1
  have f0 := m3.holds.soft 0
  have f1 := m3.holds.soft 1
  go_wp2
  have m4 := ((m3.put HP.out 0 (.int .i64 b0)).put HP.out 1 (.int .i64 b1))
  revert m4
  generalize ((w3.setCell ⟨w.heap.size, 0, none⟩ (.int .i64 b0)).setCell ⟨w.heap.size, 1, none⟩ (.int .i64 b1)) = w4
  intro m4
  clear e0 e1 f0 f1 d0
  have d1 := m4.drew HP.out
  refine region_turns (fun w' => w'.cell? ⟨w.heap.size, 2, none⟩ = some (.int .i64 a2) ∧ w'.cell? ⟨w.heap.size, 3, none⟩ = some (.int .i64 a3) ∧ w'.cell? ⟨w.heap.size, 4, none⟩ = some (.int .i64 a4)) (fun j => decide (13 ≤ j)) (by kernel_rfl) ⟨d1.holds.cell 2, d1.holds.cell 3, d1.holds.cell 4⟩ (fun hS => ?_)
  refine Turns.take hS 0 (.func (.func p.fn) #[] p.caps) rfl (by kernel_rfl) (by kernel_rfl) (by kernel_rfl) (by kernel_rfl) (fun _ _ _ h => h) (by rfl) (fun w' hS' => by go_simp) ?_
  simp only [Act.put, List.getElem_toArray, List.getElem_cons_succ, List.getElem_cons_zero, List.setIfInBounds_toArray, List.set_cons_zero, List.set_cons_succ]
  refine Turns.take hS 1 (.pointer (some ⟨w.heap.size, 2, none⟩)) rfl (by kernel_rfl) (by kernel_rfl) (by kernel_rfl) (by kernel_rfl) (fun _ _ _ h => h) (by rfl) (fun w' hS' => by go_simp) ?_
  simp only [Act.put, List.getElem_toArray, List.getElem_cons_succ, List.getElem_cons_zero, List.setIfInBounds_toArray, List.set_cons_zero, List.set_cons_succ]
  refine Turns.take hS 2 (.int .i64 a2) rfl (by kernel_rfl) (by kernel_rfl) (by kernel_rfl) (by kernel_rfl) (fun _ _ _ h => h) (by rfl) (fun w' hS' => by (try dsimp only at hS'); go_split_ands; go_simp) ?_
  simp only [Act.put, List.getElem_toArray, List.getElem_cons_succ, List.getElem_cons_zero, List.setIfInBounds_toArray, List.set_cons_zero, List.set_cons_succ]
  refine Turns.take hS 4 (.func (.func p.fn) #[] p.caps) rfl (by kernel_rfl) (by kernel_rfl) (by kernel_rfl) (by kernel_rfl) (fun _ _ _ h => h) (by rfl) (fun w' hS' => by go_simp) ?_
  simp only [Act.put, List.getElem_toArray, List.getElem_cons_succ, List.getElem_cons_zero, List.setIfInBounds_toArray, List.set_cons_zero, List.set_cons_succ]
  refine Turns.take hS 5 (.pointer (some ⟨w.heap.size, 3, none⟩)) rfl (by kernel_rfl) (by kernel_rfl) (by kernel_rfl) (by kernel_rfl) (fun _ _ _ h => h) (by rfl) (fun w' hS' => by go_simp) ?_
  simp only [Act.put, List.getElem_toArray, List.getElem_cons_succ, List.getElem_cons_zero, List.setIfInBounds_toArray, List.set_cons_zero, List.set_cons_succ]
  refine Turns.take hS 6 (.int .i64 a3) rfl (by kernel_rfl) (by kernel_rfl) (by kernel_rfl) (by kernel_rfl) (fun _ _ _ h => h) (by rfl) (fun w' hS' => by (try dsimp only at hS'); go_split_ands; go_simp) ?_
  simp only [Act.put, List.getElem_toArray, List.getElem_cons_succ, List.getElem_cons_zero, List.setIfInBounds_toArray, List.set_cons_zero, List.set_cons_succ]
  refine Turns.take hS 8 (.func (.func p.fn) #[] p.caps) rfl (by kernel_rfl) (by kernel_rfl) (by kernel_rfl) (by kernel_rfl) (fun _ _ _ h => h) (by rfl) (fun w' hS' => by go_simp) ?_
  simp only [Act.put, List.getElem_toArray, List.getElem_cons_succ, List.getElem_cons_zero, List.setIfInBounds_toArray, List.set_cons_zero, List.set_cons_succ]
  refine Turns.take hS 9 (.pointer (some ⟨w.heap.size, 4, none⟩)) rfl (by kernel_rfl) (by kernel_rfl) (by kernel_rfl) (by kernel_rfl) (fun _ _ _ h => h) (by rfl) (fun w' hS' => by go_simp) ?_
  simp only [Act.put, List.getElem_toArray, List.getElem_cons_succ, List.getElem_cons_zero, List.setIfInBounds_toArray, List.set_cons_zero, List.set_cons_succ]
  refine Turns.take hS 10 (.int .i64 a4) rfl (by kernel_rfl) (by kernel_rfl) (by kernel_rfl) (by kernel_rfl) (fun _ _ _ h => h) (by rfl) (fun w' hS' => by (try dsimp only at hS'); go_split_ands; go_simp) ?_
  simp only [Act.put, List.getElem_toArray, List.getElem_cons_succ, List.getElem_cons_zero, List.setIfInBounds_toArray, List.set_cons_zero, List.set_cons_succ]
  refine Turns.next 3 rfl (by kernel_rfl) (by rfl) (fun K hK => ?_)
  go_simp
  refine (d1.pick HP.out q2).mono ?_
  rintro e w5 ⟨rfl, m5⟩
  have hS5 : w5.cell? ⟨w.heap.size, 2, none⟩ = some (.int .i64 a2) ∧ w5.cell? ⟨w.heap.size, 3, none⟩ = some (.int .i64 a3) ∧ w5.cell? ⟨w.heap.size, 4, none⟩ = some (.int .i64 a4) := ⟨m5.holds.cell 2, m5.holds.cell 3, m5.holds.cell 4⟩
  refine hK.out _ _ hS5 ?_
  clear hK K
  refine Turns.take hS5 12 (.pointer (some ⟨w.heap.size, 2, none⟩)) rfl (by kernel_rfl) (by kernel_rfl) (by kernel_rfl) (by kernel_rfl) (fun _ _ _ h => h) (by rfl) (fun w' hS' => by go_simp) ?_
  simp only [Act.put, List.getElem_toArray, List.getElem_cons_succ, List.getElem_cons_zero, List.setIfInBounds_toArray, List.set_cons_zero, List.set_cons_succ]
  refine Turns.next 7 rfl (by kernel_rfl) (by rfl) (fun K hK => ?_)
  go_simp
  refine (m5.pick HP.out q3).mono ?_
  rintro e w6 ⟨rfl, m6⟩
  have hS6 : w6.cell? ⟨w.heap.size, 2, none⟩ = some (.int .i64 a2) ∧ w6.cell? ⟨w.heap.size, 3, none⟩ = some (.int .i64 a3) ∧ w6.cell? ⟨w.heap.size, 4, none⟩ = some (.int .i64 a4) := ⟨m6.holds.cell 2, m6.holds.cell 3, m6.holds.cell 4⟩
  refine hK.out _ _ hS6 ?_
  clear hK K
  refine Turns.next 11 rfl (by kernel_rfl) (by rfl) (fun K hK => ?_)
  go_simp
  refine (m6.pick HP.out q4).mono ?_
  rintro e w7 ⟨rfl, m7⟩
  have hS7 : w7.cell? ⟨w.heap.size, 2, none⟩ = some (.int .i64 a2) ∧ w7.cell? ⟨w.heap.size, 3, none⟩ = some (.int .i64 a3) ∧ w7.cell? ⟨w.heap.size, 4, none⟩ = some (.int .i64 a4) := ⟨m7.holds.cell 2, m7.holds.cell 3, m7.holds.cell 4⟩
  refine hK.out _ _ hS7 ?_
  clear hK K
  refine Turns.rest (late_done (by kernel_rfl)) ?_
  refine any_tail 13 (by rfl) (by kernel_rfl) ?_
  simp only [List.drop_succ_cons, List.drop_zero]
  have e2 := m7.holds.cell 2
  have e3 := m7.holds.cell 3
  have e4 := m7.holds.cell 4
  have f2 := m7.holds.soft 2
  have f3 := m7.holds.soft 3
  have f4 := m7.holds.soft 4
  go_wp2
  have m8 := (((m7.put HP.out 2 (.int .i64 b2)).put HP.out 3 (.int .i64 b3)).put HP.out 4 (.int .i64 b4))
  revert m8
  generalize (((w7.setCell ⟨w.heap.size, 2, none⟩ (.int .i64 b2)).setCell ⟨w.heap.size, 3, none⟩ (.int .i64 b3)).setCell ⟨w.heap.size, 4, none⟩ (.int .i64 b4)) = w8
  intro m8
  clear e2 e3 e4 f2 f3 f4 d1
  have d2 := m8.drew HP.out
  refine region_turns (fun w' => w'.cell? ⟨w.heap.size, 5, none⟩ = some (.int .i64 a5) ∧ w'.cell? ⟨w.heap.size, 6, none⟩ = some (.int .u16 a6) ∧ w'.cell? ⟨w.heap.size, 7, none⟩ = some (.int .i64 a7)) (fun j => decide (13 ≤ j)) (by kernel_rfl) ⟨d2.holds.cell 5, d2.holds.cell 6, d2.holds.cell 7⟩ (fun hS => ?_)
  refine Turns.take hS 0 (.func (.func p.fn) #[] p.caps) rfl (by kernel_rfl) (by kernel_rfl) (by kernel_rfl) (by kernel_rfl) (fun _ _ _ h => h) (by rfl) (fun w' hS' => by go_simp) ?_
  simp only [Act.put, List.getElem_toArray, List.getElem_cons_succ, List.getElem_cons_zero, List.setIfInBounds_toArray, List.set_cons_zero, List.set_cons_succ]
  refine Turns.take hS 1 (.pointer (some ⟨w.heap.size, 5, none⟩)) rfl (by kernel_rfl) (by kernel_rfl) (by kernel_rfl) (by kernel_rfl) (fun _ _ _ h => h) (by rfl) (fun w' hS' => by go_simp) ?_
  simp only [Act.put, List.getElem_toArray, List.getElem_cons_succ, List.getElem_cons_zero, List.setIfInBounds_toArray, List.set_cons_zero, List.set_cons_succ]
  refine Turns.take hS 2 (.int .i64 a5) rfl (by kernel_rfl) (by kernel_rfl) (by kernel_rfl) (by kernel_rfl) (fun _ _ _ h => h) (by rfl) (fun w' hS' => by (try dsimp only at hS'); go_split_ands; go_simp) ?_
  simp only [Act.put, List.getElem_toArray, List.getElem_cons_succ, List.getElem_cons_zero, List.setIfInBounds_toArray, List.set_cons_zero, List.set_cons_succ]
  refine Turns.take hS 4 (.func (.func p.fn) #[] p.caps) rfl (by kernel_rfl) (by kernel_rfl) (by kernel_rfl) (by kernel_rfl) (fun _ _ _ h => h) (by rfl) (fun w' hS' => by go_simp) ?_
  simp only [Act.put, List.getElem_toArray, List.getElem_cons_succ, List.getElem_cons_zero, List.setIfInBounds_toArray, List.set_cons_zero, List.set_cons_succ]
  refine Turns.take hS 5 (.pointer (some ⟨w.heap.size, 6, none⟩)) rfl (by kernel_rfl) (by kernel_rfl) (by kernel_rfl) (by kernel_rfl) (fun _ _ _ h => h) (by rfl) (fun w' hS' => by go_simp) ?_
  simp only [Act.put, List.getElem_toArray, List.getElem_cons_succ, List.getElem_cons_zero, List.setIfInBounds_toArray, List.set_cons_zero, List.set_cons_succ]
  refine Turns.take hS 6 (.int .u16 a6) rfl (by kernel_rfl) (by kernel_rfl) (by kernel_rfl) (by kernel_rfl) (fun _ _ _ h => h) (by rfl) (fun w' hS' => by (try dsimp only at hS'); go_split_ands; go_simp) ?_
  simp only [Act.put, List.getElem_toArray, List.getElem_cons_succ, List.getElem_cons_zero, List.setIfInBounds_toArray, List.set_cons_zero, List.set_cons_succ]
  refine Turns.take hS 8 (.func (.func p.fn) #[] p.caps) rfl (by kernel_rfl) (by kernel_rfl) (by kernel_rfl) (by kernel_rfl) (fun _ _ _ h => h) (by rfl) (fun w' hS' => by go_simp) ?_
  simp only [Act.put, List.getElem_toArray, List.getElem_cons_succ, List.getElem_cons_zero, List.setIfInBounds_toArray, List.set_cons_zero, List.set_cons_succ]
  refine Turns.take hS 9 (.pointer (some ⟨w.heap.size, 7, none⟩)) rfl (by kernel_rfl) (by kernel_rfl) (by kernel_rfl) (by kernel_rfl) (fun _ _ _ h => h) (by rfl) (fun w' hS' => by go_simp) ?_
  simp only [Act.put, List.getElem_toArray, List.getElem_cons_succ, List.getElem_cons_zero, List.setIfInBounds_toArray, List.set_cons_zero, List.set_cons_succ]
  refine Turns.take hS 10 (.int .i64 a7) rfl (by kernel_rfl) (by kernel_rfl) (by kernel_rfl) (by kernel_rfl) (fun _ _ _ h => h) (by rfl) (fun w' hS' => by (try dsimp only at hS'); go_split_ands; go_simp) ?_
  simp only [Act.put, List.getElem_toArray, List.getElem_cons_succ, List.getElem_cons_zero, List.setIfInBounds_toArray, List.set_cons_zero, List.set_cons_succ]
  refine Turns.next 3 rfl (by kernel_rfl) (by rfl) (fun K hK => ?_)
  go_simp
  refine (d2.pick HP.out q5).mono ?_
  rintro e w9 ⟨rfl, m9⟩
  have hS9 : w9.cell? ⟨w.heap.size, 5, none⟩ = some (.int .i64 a5) ∧ w9.cell? ⟨w.heap.size, 6, none⟩ = some (.int .u16 a6) ∧ w9.cell? ⟨w.heap.size, 7, none⟩ = some (.int .i64 a7) := ⟨m9.holds.cell 5, m9.holds.cell 6, m9.holds.cell 7⟩
  refine hK.out _ _ hS9 ?_
  clear hK K
  refine Turns.take hS9 12 (.pointer (some ⟨w.heap.size, 5, none⟩)) rfl (by kernel_rfl) (by kernel_rfl) (by kernel_rfl) (by kernel_rfl) (fun _ _ _ h => h) (by rfl) (fun w' hS' => by go_simp) ?_
  simp only [Act.put, List.getElem_toArray, List.getElem_cons_succ, List.getElem_cons_zero, List.setIfInBounds_toArray, List.set_cons_zero, List.set_cons_succ]
  refine Turns.next 7 rfl (by kernel_rfl) (by rfl) (fun K hK => ?_)
  go_simp
  refine (Mid.mark HP.out m9 q6 u6 v6).mono ?_
  rintro e w10 ⟨rfl, m10⟩
  have hS10 : w10.cell? ⟨w.heap.size, 5, none⟩ = some (.int .i64 a5) ∧ w10.cell? ⟨w.heap.size, 6, none⟩ = some (.int .u16 a6) ∧ w10.cell? ⟨w.heap.size, 7, none⟩ = some (.int .i64 a7) := ⟨m10.holds.cell 5, m10.holds.cell 6, m10.holds.cell 7⟩
  refine hK.out _ _ hS10 ?_
  clear hK K
  refine Turns.next 11 rfl (by kernel_rfl) (by rfl) (fun K hK => ?_)
  go_simp
  refine (m10.pick HP.out q7).mono ?_
  rintro e w11 ⟨rfl, m11⟩
  have hS11 : w11.cell? ⟨w.heap.size, 5, none⟩ = some (.int .i64 a5) ∧ w11.cell? ⟨w.heap.size, 6, none⟩ = some (.int .u16 a6) ∧ w11.cell? ⟨w.heap.size, 7, none⟩ = some (.int .i64 a7) := ⟨m11.holds.cell 5, m11.holds.cell 6, m11.holds.cell 7⟩
  refine hK.out _ _ hS11 ?_
  clear hK K
  refine Turns.rest (late_done (by kernel_rfl)) ?_
  refine any_tail 13 (by rfl) (by kernel_rfl) ?_
  simp only [List.drop_succ_cons, List.drop_zero]
  have e0 := m11.holds.cell 0
  have e1 := m11.holds.cell 1
  have e2 := m11.holds.cell 2
  have e3 := m11.holds.cell 3
  have e4 := m11.holds.cell 4
  have e5 := m11.holds.cell 5
  have e6 := m11.holds.cell 6
  have e7 := m11.holds.cell 7
  have f5 := m11.holds.soft 5
  have f6 := m11.holds.soft 6
  have f7 := m11.holds.soft 7
  go_wp2
  go_ret
  exact (((m11.put HP.out 5 (.int .i64 b5)).put HP.out 6 (.int .u16 b6)).put HP.out 7 (.int .i64 b7)).done _
end Go.Proofs.Ytbdlpkkgfhknkaa
