/- Package level: a word is heeded, heard; what is told. -/
import Derived.Test.YtnhjjgopkfoncaaLvA
import Derived.Test.YtnhjjgopkfoncaaTurn
import Derived.Deep.CutBlock
namespace Go.Proofs.Ytnhjjgopkfoncaa
open Go.RowKit
set_option linter.unusedVariables false
set_option linter.unusedSimpArgs false

theorem lheed_any (w : World) (g : Nat) (s : LS) (h : Lev w g s) (a now : Int) : Calls Try.prog 16 #[.pointer (some ⟨g, 0, none⟩), .int .i64 a, .int .i64 now] w fun e w' => e = .returned (.tuple #[]) ∧ LGoes g (heedL s a now) w w' := by
  have c1 := h.c1
  have c2 := h.c2
  have f1 := Holds.soft h 1
  have f2 := Holds.soft h 2
  by_cases hn : 63 < now
  · have d0 : decide (63 < now) = true := decide_eq_true hn
    by_cases ha : a = s.parent
    · have d1 : (a == s.parent) = true := by simp [ha]
      have hV : heedL s a now = newL s.me := by unfold heedL; rw [if_pos hn, if_pos ha]
      have hc := llose_any w g s h
      rw [hV]
      clear hV h hn ha f1 f2
      go_enter Try.func16, Try.ntmps16
      go_wp2_with (go_at_call 8; refine hc.mono ?_; rintro e w1 ⟨rfl, hg⟩)
      refine bodyPost_ret (results_none rfl _ _ _) rfl ?_
      exact ⟨rfl, hg⟩
    · have d1 : (a == s.parent) = false := by simp [ha]
      have hV : heedL s a now = s := by unfold heedL; rw [if_pos hn, if_neg ha]
      have HE := Lib.hid (LGoes.refl h)
      rw [hV]
      clear hV h hn ha f1 f2
      go_enter Try.func16, Try.ntmps16
      go_wp2
      refine bodyPost_ret (results_none rfl _ _ _) rfl ?_
      exact ⟨rfl, HE.out⟩
  · have d0 : decide (63 < now) = false := decide_eq_false hn
    by_cases hy : a = s.parent ∨ s.level = -1 ∨ now < s.level
    · have hV : heedL s a now = ⟨s.me, now, a⟩ := by unfold heedL; rw [if_neg hn, if_pos hy]
      have HE := Lib.hid (LGoes.set h now a)
      have hcase : (a == s.parent) = true ∨ (a == s.parent) = false ∧ (s.level == -1) = true ∨ (a == s.parent) = false ∧ (s.level == -1) = false ∧ decide (now < s.level) = true := by
        by_cases e1 : a = s.parent <;> by_cases e2 : s.level = -1 <;> by_cases e3 : now < s.level <;> simp [e1, e2, e3] at hy ⊢
      rw [hV]
      clear hV h hn hy
      rcases hcase with d1 | ⟨d1, d2⟩ | ⟨d1, d2, d3⟩ <;>
      · go_enter Try.func16, Try.ntmps16
        go_wp2
        go_end0
        exact ⟨rfl, HE.out⟩
    · have hV : heedL s a now = s := by unfold heedL; rw [if_neg hn, if_neg hy]
      have HE := Lib.hid (LGoes.refl h)
      have d1 : (a == s.parent) = false := by simp; omega
      have d2 : (s.level == -1) = false := by simp; omega
      have d3 : decide (now < s.level) = false := decide_eq_false (by omega)
      rw [hV]
      clear hV h hn hy
      go_enter Try.func16, Try.ntmps16
      go_wp2
      go_end0
      exact ⟨rfl, HE.out⟩
theorem lhear_nil (w : World) (a l : Int) : Calls Try.prog 12 #[.pointer none, .agg #[.int .i64 a, .int .i64 l]] w fun e w' => e = .returned (.bool false) ∧ Below w.heap.size w w' := by
  have hb := below_alloc w (.cells #[.int .i64 a, .int .i64 l] 29)
  go_enter Try.func12, Try.ntmps12
  go_wp2
  go_quiet (fail)
  go_wp2
  go_ret
  exact ⟨rfl, below_drewN hb _⟩
/-- While a word is heard: the word's block, and the node. -/
structure Lh (w0 : World) (g : Nat) (a l : Int) (s : LS) (w : World) : Prop where
  node : Lev w g s
  box : Holds w w0.heap.size 29 #[.int .i64 a, .int .i64 l]
  chg : Chg (fun k => k = g) w0 w
  old : g < w0.heap.size
section
variable {w0 w w' : World} {g : Nat} {a l : Int} {s s' : LS}
theorem Lh.start (h : Lev w0 g s) (a l : Int) : Lh w0 g a l s (w0.alloc (.cells #[.int .i64 a, .int .i64 l] 29)) :=
  ⟨h.alloc _, Holds.new _ _ _, Chg.of_below _ (below_alloc _ _), Holds.lt h⟩
theorem Lh.below (h : Lh w0 g a l s w) (hb : Below w.heap.size w w') : Lh w0 g a l s w' :=
  ⟨h.node.below hb (Holds.lt h.node), h.box.below hb h.box.lt, h.chg.trans (Chg.of_below (fun _ => False) hb) (fun _ _ e => e.elim), h.old⟩
theorem Lh.drewN (h : Lh w0 g a l s w) (n : Nat) : Lh w0 g a l s (w.drewN n) := h.below (below_drewN (Below.refl _ _) n)
theorem Lh.goes (h : Lh w0 g a l s w) (hg : LGoes g s' w w') : Lh w0 g a l s' w' :=
  ⟨hg.1, h.box.chg hg.2 (fun e => by have := h.old; omega), h.chg.trans hg.2 (fun _ _ e => e), h.old⟩
theorem Lh.cells (h : Lh w0 g a l s w) : w.cell? ⟨w0.heap.size, 0, none⟩ = some (.int .i64 a) ∧ w.cell? ⟨w0.heap.size, 1, none⟩ = some (.int .i64 l) ∧ w.cell? ⟨g, 0, none⟩ = some (.int .i64 s.me) := ⟨h.box.cell 0, h.box.cell 1, h.node.c0⟩
theorem Lh.done (h : Lh w0 g a l s w) : LGoes g s w0 w := ⟨h.node, h.chg⟩
end
set_option maxHeartbeats 2000000 in
set_option maxRecDepth 100000 in
theorem lhear_any (w : World) (g : Nat) (s : LS) (h : Lev w g s) (a l : Int) (fa : Fits a) (fl : Fits l) :
    Calls Try.prog 12 #[.pointer (some ⟨g, 0, none⟩), .agg #[.int .i64 a, .int .i64 l]] w fun e w' => e = .returned (.bool (otherL s (hearL s a l))) ∧ LGoes g (hearL s a l) w w' := by
  have hst := Lh.start h a l
  obtain ⟨V, hV⟩ : ∃ V, V = w.alloc (.cells #[.int .i64 a, .int .i64 l] 29) := ⟨_, rfl⟩
  rw [← hV] at hst
  have hgd := fun W => fgood_any a l W fa fl
  have hsame : otherL s s = false := by unfold otherL; simp
  have HK := Lib.hid (hst.drewN 1)
  clear h hst
  cases hf : findB a l with
  | false =>
    have hh : hearL s a l = s := by unfold hearL heardB; rw [hf]; rfl
    rw [hh, hsame]
    rw [hf] at hgd
    clear hf hh hsame fa fl
    go_enter Try.func12, Try.ntmps12
    go_upto_region 1 with fail
    rw [← hV]
    clear hV
    refine region_turns (fun (w' : World) => w'.cell? ⟨w.heap.size, 0, none⟩ = some (.int .i64 a) ∧ w'.cell? ⟨w.heap.size, 1, none⟩ = some (.int .i64 l) ∧ w'.cell? ⟨g, 0, none⟩ = some (.int .i64 s.me)) (fun j => decide (17 ≤ j)) (by kernel_rfl) (HK.out.cells) (fun hS => ?_)
    refine Turns.take hS 0 _ rfl (by kernel_rfl) (by kernel_rfl) (by kernel_rfl) (by kernel_rfl) (fun _ _ _ h => h) (by rfl) (fun w' hS' => by (try dsimp only at hS'); go_split_ands; go_simp; (try with_reducible rfl)) ?_
    simp only [Act.put, List.getElem_toArray, List.getElem_cons_succ, List.getElem_cons_zero, List.setIfInBounds_toArray, List.set_cons_zero, List.set_cons_succ]
    refine Turns.take hS 1 _ rfl (by kernel_rfl) (by kernel_rfl) (by kernel_rfl) (by kernel_rfl) (fun _ _ _ h => h) (by rfl) (fun w' hS' => by (try dsimp only at hS'); go_split_ands; go_simp; (try with_reducible rfl)) ?_
    simp only [Act.put, List.getElem_toArray, List.getElem_cons_succ, List.getElem_cons_zero, List.setIfInBounds_toArray, List.set_cons_zero, List.set_cons_succ]
    refine Turns.take hS 2 _ rfl (by kernel_rfl) (by kernel_rfl) (by kernel_rfl) (by kernel_rfl) (fun _ _ _ h => h) (by rfl) (fun w' hS' => by (try dsimp only at hS'); go_split_ands; go_simp; (try with_reducible rfl)) ?_
    simp only [Act.put, List.getElem_toArray, List.getElem_cons_succ, List.getElem_cons_zero, List.setIfInBounds_toArray, List.set_cons_zero, List.set_cons_succ]
    refine Turns.take hS 3 _ rfl (by kernel_rfl) (by kernel_rfl) (by kernel_rfl) (by kernel_rfl) (fun _ _ _ h => h) (by rfl) (fun w' hS' => by (try dsimp only at hS'); go_split_ands; go_simp; (try with_reducible rfl)) ?_
    simp only [Act.put, List.getElem_toArray, List.getElem_cons_succ, List.getElem_cons_zero, List.setIfInBounds_toArray, List.set_cons_zero, List.set_cons_succ]
    refine Turns.take hS 4 _ rfl (by kernel_rfl) (by kernel_rfl) (by kernel_rfl) (by kernel_rfl) (fun _ _ _ h => h) (by rfl) (fun w' hS' => by (try dsimp only at hS'); go_split_ands; go_simp; (try with_reducible rfl)) ?_
    simp only [Act.put, List.getElem_toArray, List.getElem_cons_succ, List.getElem_cons_zero, List.setIfInBounds_toArray, List.set_cons_zero, List.set_cons_succ]
    refine Turns.next 5 rfl (by kernel_rfl) (by rfl) (fun K hK => ?_)
    go_simp
    go_at_call 15
    refine (hgd _).mono ?_
    rintro e w1 ⟨rfl, hb1⟩
    have HK1 := Lib.hid (HK.out.below hb1)
    clear hb1
    refine hK.out _ _ (show (fun (w' : World) => w'.cell? ⟨w.heap.size, 0, none⟩ = some (.int .i64 a) ∧ w'.cell? ⟨w.heap.size, 1, none⟩ = some (.int .i64 l) ∧ w'.cell? ⟨g, 0, none⟩ = some (.int .i64 s.me)) _ from HK1.out.cells) ?_
    clear hK K hS
    have hS := (show (fun (w' : World) => w'.cell? ⟨w.heap.size, 0, none⟩ = some (.int .i64 a) ∧ w'.cell? ⟨w.heap.size, 1, none⟩ = some (.int .i64 l) ∧ w'.cell? ⟨g, 0, none⟩ = some (.int .i64 s.me)) _ from HK1.out.cells)
    refine Turns.take hS 6 _ rfl (by kernel_rfl) (by kernel_rfl) (by kernel_rfl) (by kernel_rfl) (fun _ _ _ h => h) (by rfl) (fun w' hS' => by (try dsimp only at hS'); go_split_ands; go_simp; (try with_reducible rfl)) ?_
    simp only [Act.put, List.getElem_toArray, List.getElem_cons_succ, List.getElem_cons_zero, List.setIfInBounds_toArray, List.set_cons_zero, List.set_cons_succ]
    refine Turns.take hS 7 _ rfl (by kernel_rfl) (by kernel_rfl) (by kernel_rfl) (by kernel_rfl) (fun _ _ _ h => h) (by rfl) (fun w' hS' => by (try dsimp only at hS'); go_split_ands; go_simp; (try with_reducible rfl)) ?_
    simp only [Act.put, List.getElem_toArray, List.getElem_cons_succ, List.getElem_cons_zero, List.setIfInBounds_toArray, List.set_cons_zero, List.set_cons_succ]
    refine Turns.take hS 8 _ rfl (by kernel_rfl) (by kernel_rfl) (by kernel_rfl) (by kernel_rfl) (fun _ _ _ h => h) (by rfl) (fun w' hS' => by (try dsimp only at hS'); go_split_ands; go_simp; (try with_reducible rfl)) ?_
    simp only [Act.put, List.getElem_toArray, List.getElem_cons_succ, List.getElem_cons_zero, List.setIfInBounds_toArray, List.set_cons_zero, List.set_cons_succ]
    refine Turns.skip hS 9 rfl (by kernel_rfl) (by kernel_rfl) (by kernel_rfl) (by kernel_rfl) (fun _ _ _ h => h) (by rfl) ?_
    simp only [Act.put, List.getElem_toArray, List.getElem_cons_succ, List.getElem_cons_zero, List.setIfInBounds_toArray, List.set_cons_zero, List.set_cons_succ]
    refine Turns.skip hS 10 rfl (by kernel_rfl) (by kernel_rfl) (by kernel_rfl) (by kernel_rfl) (fun _ _ _ h => h) (by rfl) ?_
    simp only [Act.put, List.getElem_toArray, List.getElem_cons_succ, List.getElem_cons_zero, List.setIfInBounds_toArray, List.set_cons_zero, List.set_cons_succ]
    refine Turns.skip hS 11 rfl (by kernel_rfl) (by kernel_rfl) (by kernel_rfl) (by kernel_rfl) (fun _ _ _ h => h) (by rfl) ?_
    simp only [Act.put, List.getElem_toArray, List.getElem_cons_succ, List.getElem_cons_zero, List.setIfInBounds_toArray, List.set_cons_zero, List.set_cons_succ]
    refine Turns.skip hS 12 rfl (by kernel_rfl) (by kernel_rfl) (by kernel_rfl) (by kernel_rfl) (fun _ _ _ h => h) (by rfl) ?_
    simp only [Act.put, List.getElem_toArray, List.getElem_cons_succ, List.getElem_cons_zero, List.setIfInBounds_toArray, List.set_cons_zero, List.set_cons_succ]
    refine Turns.skip hS 13 rfl (by kernel_rfl) (by kernel_rfl) (by kernel_rfl) (by kernel_rfl) (fun _ _ _ h => h) (by rfl) ?_
    simp only [Act.put, List.getElem_toArray, List.getElem_cons_succ, List.getElem_cons_zero, List.setIfInBounds_toArray, List.set_cons_zero, List.set_cons_succ]
    refine Turns.skip hS 14 rfl (by kernel_rfl) (by kernel_rfl) (by kernel_rfl) (by kernel_rfl) (fun _ _ _ h => h) (by rfl) ?_
    simp only [Act.put, List.getElem_toArray, List.getElem_cons_succ, List.getElem_cons_zero, List.setIfInBounds_toArray, List.set_cons_zero, List.set_cons_succ]
    refine Turns.skip hS 15 rfl (by kernel_rfl) (by kernel_rfl) (by kernel_rfl) (by kernel_rfl) (fun _ _ _ h => h) (by rfl) ?_
    simp only [Act.put, List.getElem_toArray, List.getElem_cons_succ, List.getElem_cons_zero, List.setIfInBounds_toArray, List.set_cons_zero, List.set_cons_succ]
    refine Turns.take hS 16 _ rfl (by kernel_rfl) (by kernel_rfl) (by kernel_rfl) (by kernel_rfl) (fun _ _ _ h => h) (by rfl) (fun w' hS' => by (try dsimp only at hS'); go_split_ands; go_simp; (try with_reducible rfl)) ?_
    simp only [Act.put, List.getElem_toArray, List.getElem_cons_succ, List.getElem_cons_zero, List.setIfInBounds_toArray, List.set_cons_zero, List.set_cons_succ]
    refine Turns.rest (late_done (by kernel_rfl)) ?_
    refine any_tail 17 (by rfl) (by kernel_rfl) ?_
    simp only [List.drop_succ_cons, List.drop_zero]
    clear hS
    go_wp2
    go_ret
    exact ⟨rfl, HK1.out.done⟩
  | true =>
    rw [hf] at hgd
    obtain ⟨⟨a0, a1⟩, l0, l1⟩ := (findB_iff a l).1 hf
    by_cases hm : a = s.me
    · have hh : hearL s a l = s := by unfold hearL heardB; rw [hf]; simp [hm]
      have d0 : (a == s.me) = true := by simp [hm]
      rw [hh, hsame]
      clear hf hh hsame hm a0 a1 l0 l1 fa fl
      go_enter Try.func12, Try.ntmps12
      go_upto_region 1 with fail
      rw [← hV]
      clear hV
      refine region_turns (fun (w' : World) => w'.cell? ⟨w.heap.size, 0, none⟩ = some (.int .i64 a) ∧ w'.cell? ⟨w.heap.size, 1, none⟩ = some (.int .i64 l) ∧ w'.cell? ⟨g, 0, none⟩ = some (.int .i64 s.me)) (fun j => decide (17 ≤ j)) (by kernel_rfl) (HK.out.cells) (fun hS => ?_)
      refine Turns.take hS 0 _ rfl (by kernel_rfl) (by kernel_rfl) (by kernel_rfl) (by kernel_rfl) (fun _ _ _ h => h) (by rfl) (fun w' hS' => by (try dsimp only at hS'); go_split_ands; go_simp; (try with_reducible rfl)) ?_
      simp only [Act.put, List.getElem_toArray, List.getElem_cons_succ, List.getElem_cons_zero, List.setIfInBounds_toArray, List.set_cons_zero, List.set_cons_succ]
      refine Turns.take hS 1 _ rfl (by kernel_rfl) (by kernel_rfl) (by kernel_rfl) (by kernel_rfl) (fun _ _ _ h => h) (by rfl) (fun w' hS' => by (try dsimp only at hS'); go_split_ands; go_simp; (try with_reducible rfl)) ?_
      simp only [Act.put, List.getElem_toArray, List.getElem_cons_succ, List.getElem_cons_zero, List.setIfInBounds_toArray, List.set_cons_zero, List.set_cons_succ]
      refine Turns.take hS 2 _ rfl (by kernel_rfl) (by kernel_rfl) (by kernel_rfl) (by kernel_rfl) (fun _ _ _ h => h) (by rfl) (fun w' hS' => by (try dsimp only at hS'); go_split_ands; go_simp; (try with_reducible rfl)) ?_
      simp only [Act.put, List.getElem_toArray, List.getElem_cons_succ, List.getElem_cons_zero, List.setIfInBounds_toArray, List.set_cons_zero, List.set_cons_succ]
      refine Turns.take hS 3 _ rfl (by kernel_rfl) (by kernel_rfl) (by kernel_rfl) (by kernel_rfl) (fun _ _ _ h => h) (by rfl) (fun w' hS' => by (try dsimp only at hS'); go_split_ands; go_simp; (try with_reducible rfl)) ?_
      simp only [Act.put, List.getElem_toArray, List.getElem_cons_succ, List.getElem_cons_zero, List.setIfInBounds_toArray, List.set_cons_zero, List.set_cons_succ]
      refine Turns.take hS 4 _ rfl (by kernel_rfl) (by kernel_rfl) (by kernel_rfl) (by kernel_rfl) (fun _ _ _ h => h) (by rfl) (fun w' hS' => by (try dsimp only at hS'); go_split_ands; go_simp; (try with_reducible rfl)) ?_
      simp only [Act.put, List.getElem_toArray, List.getElem_cons_succ, List.getElem_cons_zero, List.setIfInBounds_toArray, List.set_cons_zero, List.set_cons_succ]
      refine Turns.next 5 rfl (by kernel_rfl) (by rfl) (fun K hK => ?_)
      go_simp
      go_at_call 15
      refine (hgd _).mono ?_
      rintro e w1 ⟨rfl, hb1⟩
      have HK1 := Lib.hid (HK.out.below hb1)
      clear hb1
      refine hK.out _ _ (show (fun (w' : World) => w'.cell? ⟨w.heap.size, 0, none⟩ = some (.int .i64 a) ∧ w'.cell? ⟨w.heap.size, 1, none⟩ = some (.int .i64 l) ∧ w'.cell? ⟨g, 0, none⟩ = some (.int .i64 s.me)) _ from HK1.out.cells) ?_
      clear hK K hS
      have hS := (show (fun (w' : World) => w'.cell? ⟨w.heap.size, 0, none⟩ = some (.int .i64 a) ∧ w'.cell? ⟨w.heap.size, 1, none⟩ = some (.int .i64 l) ∧ w'.cell? ⟨g, 0, none⟩ = some (.int .i64 s.me)) _ from HK1.out.cells)
      refine Turns.take hS 6 _ rfl (by kernel_rfl) (by kernel_rfl) (by kernel_rfl) (by kernel_rfl) (fun _ _ _ h => h) (by rfl) (fun w' hS' => by (try dsimp only at hS'); go_split_ands; go_simp; (try with_reducible rfl)) ?_
      simp only [Act.put, List.getElem_toArray, List.getElem_cons_succ, List.getElem_cons_zero, List.setIfInBounds_toArray, List.set_cons_zero, List.set_cons_succ]
      refine Turns.take hS 7 _ rfl (by kernel_rfl) (by kernel_rfl) (by kernel_rfl) (by kernel_rfl) (fun _ _ _ h => h) (by rfl) (fun w' hS' => by (try dsimp only at hS'); go_split_ands; go_simp; (try with_reducible rfl)) ?_
      simp only [Act.put, List.getElem_toArray, List.getElem_cons_succ, List.getElem_cons_zero, List.setIfInBounds_toArray, List.set_cons_zero, List.set_cons_succ]
      refine Turns.take hS 8 _ rfl (by kernel_rfl) (by kernel_rfl) (by kernel_rfl) (by kernel_rfl) (fun _ _ _ h => h) (by rfl) (fun w' hS' => by (try dsimp only at hS'); go_split_ands; go_simp; (try with_reducible rfl)) ?_
      simp only [Act.put, List.getElem_toArray, List.getElem_cons_succ, List.getElem_cons_zero, List.setIfInBounds_toArray, List.set_cons_zero, List.set_cons_succ]
      refine Turns.take hS 9 _ rfl (by kernel_rfl) (by kernel_rfl) (by kernel_rfl) (by kernel_rfl) (fun _ _ _ h => h) (by rfl) (fun w' hS' => by (try dsimp only at hS'); go_split_ands; go_simp; (try with_reducible rfl)) ?_
      simp only [Act.put, List.getElem_toArray, List.getElem_cons_succ, List.getElem_cons_zero, List.setIfInBounds_toArray, List.set_cons_zero, List.set_cons_succ]
      refine Turns.take hS 10 _ rfl (by kernel_rfl) (by kernel_rfl) (by kernel_rfl) (by kernel_rfl) (fun _ _ _ h => h) (by rfl) (fun w' hS' => by (try dsimp only at hS'); go_split_ands; go_simp; (try with_reducible rfl)) ?_
      simp only [Act.put, List.getElem_toArray, List.getElem_cons_succ, List.getElem_cons_zero, List.setIfInBounds_toArray, List.set_cons_zero, List.set_cons_succ]
      refine Turns.take hS 11 _ rfl (by kernel_rfl) (by kernel_rfl) (by kernel_rfl) (by kernel_rfl) (fun _ _ _ h => h) (by rfl) (fun w' hS' => by (try dsimp only at hS'); go_split_ands; go_simp; (try with_reducible rfl)) ?_
      simp only [Act.put, List.getElem_toArray, List.getElem_cons_succ, List.getElem_cons_zero, List.setIfInBounds_toArray, List.set_cons_zero, List.set_cons_succ]
      refine Turns.take hS 12 _ rfl (by kernel_rfl) (by kernel_rfl) (by kernel_rfl) (by kernel_rfl) (fun _ _ _ h => h) (by rfl) (fun w' hS' => by (try dsimp only at hS'); go_split_ands; go_simp; (try with_reducible rfl)) ?_
      simp only [Act.put, List.getElem_toArray, List.getElem_cons_succ, List.getElem_cons_zero, List.setIfInBounds_toArray, List.set_cons_zero, List.set_cons_succ]
      refine Turns.take hS 13 _ rfl (by kernel_rfl) (by kernel_rfl) (by kernel_rfl) (by kernel_rfl) (fun _ _ _ h => h) (by rfl) (fun w' hS' => by (try dsimp only at hS'); go_split_ands; go_simp; (try with_reducible rfl)) ?_
      simp only [Act.put, List.getElem_toArray, List.getElem_cons_succ, List.getElem_cons_zero, List.setIfInBounds_toArray, List.set_cons_zero, List.set_cons_succ]
      refine Turns.take hS 14 _ rfl (by kernel_rfl) (by kernel_rfl) (by kernel_rfl) (by kernel_rfl) (fun _ _ _ h => h) (by rfl) (fun w' hS' => by (try dsimp only at hS'); go_split_ands; go_simp; (try with_reducible rfl)) ?_
      simp only [Act.put, List.getElem_toArray, List.getElem_cons_succ, List.getElem_cons_zero, List.setIfInBounds_toArray, List.set_cons_zero, List.set_cons_succ]
      refine Turns.take hS 15 _ rfl (by kernel_rfl) (by kernel_rfl) (by kernel_rfl) (by kernel_rfl) (fun _ _ _ h => h) (by rfl) (fun w' hS' => by (try dsimp only at hS'); go_split_ands; go_simp; (try with_reducible rfl)) ?_
      simp only [Act.put, List.getElem_toArray, List.getElem_cons_succ, List.getElem_cons_zero, List.setIfInBounds_toArray, List.set_cons_zero, List.set_cons_succ]
      refine Turns.take hS 16 _ rfl (by kernel_rfl) (by kernel_rfl) (by kernel_rfl) (by kernel_rfl) (fun _ _ _ h => h) (by rfl) (fun w' hS' => by (try dsimp only at hS'); go_split_ands; go_simp; (try with_reducible rfl)) ?_
      simp only [Act.put, List.getElem_toArray, List.getElem_cons_succ, List.getElem_cons_zero, List.setIfInBounds_toArray, List.set_cons_zero, List.set_cons_succ]
      refine Turns.rest (late_done (by kernel_rfl)) ?_
      refine any_tail 17 (by rfl) (by kernel_rfl) ?_
      simp only [List.drop_succ_cons, List.drop_zero]
      clear hS
      go_wp2
      go_ret
      exact ⟨rfl, HK1.out.done⟩
    · have hh : hearL s a l = heedL s a (l + 1) := by unfold hearL heardB; rw [hf]; simp [hm]
      have d0 : (a == s.me) = false := by simp [hm]
      have ew := IntWalk.i64_in (l + 1) (by omega)
      have hheed := fun (W : World) (hW : Lev W g s) => lheed_any W g s hW a (l + 1)
      obtain ⟨S', hS⟩ : ∃ S', heedL s a (l + 1) = S' := ⟨_, rfl⟩
      obtain ⟨O, hO⟩ : ∃ O, otherL s S' = O := ⟨_, rfl⟩
      rw [hh, hS, hO]
      simp only [hS] at hheed
      clear hf hh hsame hm a0 a1 l0 l1 fa fl hS
      go_enter Try.func12, Try.ntmps12
      go_upto_region 1 with fail
      rw [← hV]
      clear hV
      refine region_turns (fun (w' : World) => w'.cell? ⟨w.heap.size, 0, none⟩ = some (.int .i64 a) ∧ w'.cell? ⟨w.heap.size, 1, none⟩ = some (.int .i64 l) ∧ w'.cell? ⟨g, 0, none⟩ = some (.int .i64 s.me)) (fun j => decide (17 ≤ j)) (by kernel_rfl) (HK.out.cells) (fun hS => ?_)
      refine Turns.take hS 0 _ rfl (by kernel_rfl) (by kernel_rfl) (by kernel_rfl) (by kernel_rfl) (fun _ _ _ h => h) (by rfl) (fun w' hS' => by (try dsimp only at hS'); go_split_ands; go_simp; (try with_reducible rfl)) ?_
      simp only [Act.put, List.getElem_toArray, List.getElem_cons_succ, List.getElem_cons_zero, List.setIfInBounds_toArray, List.set_cons_zero, List.set_cons_succ]
      refine Turns.take hS 1 _ rfl (by kernel_rfl) (by kernel_rfl) (by kernel_rfl) (by kernel_rfl) (fun _ _ _ h => h) (by rfl) (fun w' hS' => by (try dsimp only at hS'); go_split_ands; go_simp; (try with_reducible rfl)) ?_
      simp only [Act.put, List.getElem_toArray, List.getElem_cons_succ, List.getElem_cons_zero, List.setIfInBounds_toArray, List.set_cons_zero, List.set_cons_succ]
      refine Turns.take hS 2 _ rfl (by kernel_rfl) (by kernel_rfl) (by kernel_rfl) (by kernel_rfl) (fun _ _ _ h => h) (by rfl) (fun w' hS' => by (try dsimp only at hS'); go_split_ands; go_simp; (try with_reducible rfl)) ?_
      simp only [Act.put, List.getElem_toArray, List.getElem_cons_succ, List.getElem_cons_zero, List.setIfInBounds_toArray, List.set_cons_zero, List.set_cons_succ]
      refine Turns.take hS 3 _ rfl (by kernel_rfl) (by kernel_rfl) (by kernel_rfl) (by kernel_rfl) (fun _ _ _ h => h) (by rfl) (fun w' hS' => by (try dsimp only at hS'); go_split_ands; go_simp; (try with_reducible rfl)) ?_
      simp only [Act.put, List.getElem_toArray, List.getElem_cons_succ, List.getElem_cons_zero, List.setIfInBounds_toArray, List.set_cons_zero, List.set_cons_succ]
      refine Turns.take hS 4 _ rfl (by kernel_rfl) (by kernel_rfl) (by kernel_rfl) (by kernel_rfl) (fun _ _ _ h => h) (by rfl) (fun w' hS' => by (try dsimp only at hS'); go_split_ands; go_simp; (try with_reducible rfl)) ?_
      simp only [Act.put, List.getElem_toArray, List.getElem_cons_succ, List.getElem_cons_zero, List.setIfInBounds_toArray, List.set_cons_zero, List.set_cons_succ]
      refine Turns.next 5 rfl (by kernel_rfl) (by rfl) (fun K hK => ?_)
      go_simp
      go_at_call 15
      refine (hgd _).mono ?_
      rintro e w1 ⟨rfl, hb1⟩
      have HK1 := Lib.hid (HK.out.below hb1)
      clear hb1
      refine hK.out _ _ (show (fun (w' : World) => w'.cell? ⟨w.heap.size, 0, none⟩ = some (.int .i64 a) ∧ w'.cell? ⟨w.heap.size, 1, none⟩ = some (.int .i64 l) ∧ w'.cell? ⟨g, 0, none⟩ = some (.int .i64 s.me)) _ from HK1.out.cells) ?_
      clear hK K hS
      have hS := (show (fun (w' : World) => w'.cell? ⟨w.heap.size, 0, none⟩ = some (.int .i64 a) ∧ w'.cell? ⟨w.heap.size, 1, none⟩ = some (.int .i64 l) ∧ w'.cell? ⟨g, 0, none⟩ = some (.int .i64 s.me)) _ from HK1.out.cells)
      refine Turns.take hS 6 _ rfl (by kernel_rfl) (by kernel_rfl) (by kernel_rfl) (by kernel_rfl) (fun _ _ _ h => h) (by rfl) (fun w' hS' => by (try dsimp only at hS'); go_split_ands; go_simp; (try with_reducible rfl)) ?_
      simp only [Act.put, List.getElem_toArray, List.getElem_cons_succ, List.getElem_cons_zero, List.setIfInBounds_toArray, List.set_cons_zero, List.set_cons_succ]
      refine Turns.take hS 7 _ rfl (by kernel_rfl) (by kernel_rfl) (by kernel_rfl) (by kernel_rfl) (fun _ _ _ h => h) (by rfl) (fun w' hS' => by (try dsimp only at hS'); go_split_ands; go_simp; (try with_reducible rfl)) ?_
      simp only [Act.put, List.getElem_toArray, List.getElem_cons_succ, List.getElem_cons_zero, List.setIfInBounds_toArray, List.set_cons_zero, List.set_cons_succ]
      refine Turns.take hS 8 _ rfl (by kernel_rfl) (by kernel_rfl) (by kernel_rfl) (by kernel_rfl) (fun _ _ _ h => h) (by rfl) (fun w' hS' => by (try dsimp only at hS'); go_split_ands; go_simp; (try with_reducible rfl)) ?_
      simp only [Act.put, List.getElem_toArray, List.getElem_cons_succ, List.getElem_cons_zero, List.setIfInBounds_toArray, List.set_cons_zero, List.set_cons_succ]
      refine Turns.take hS 9 _ rfl (by kernel_rfl) (by kernel_rfl) (by kernel_rfl) (by kernel_rfl) (fun _ _ _ h => h) (by rfl) (fun w' hS' => by (try dsimp only at hS'); go_split_ands; go_simp; (try with_reducible rfl)) ?_
      simp only [Act.put, List.getElem_toArray, List.getElem_cons_succ, List.getElem_cons_zero, List.setIfInBounds_toArray, List.set_cons_zero, List.set_cons_succ]
      refine Turns.take hS 10 _ rfl (by kernel_rfl) (by kernel_rfl) (by kernel_rfl) (by kernel_rfl) (fun _ _ _ h => h) (by rfl) (fun w' hS' => by (try dsimp only at hS'); go_split_ands; go_simp; (try with_reducible rfl)) ?_
      simp only [Act.put, List.getElem_toArray, List.getElem_cons_succ, List.getElem_cons_zero, List.setIfInBounds_toArray, List.set_cons_zero, List.set_cons_succ]
      refine Turns.take hS 11 _ rfl (by kernel_rfl) (by kernel_rfl) (by kernel_rfl) (by kernel_rfl) (fun _ _ _ h => h) (by rfl) (fun w' hS' => by (try dsimp only at hS'); go_split_ands; go_simp; (try with_reducible rfl)) ?_
      simp only [Act.put, List.getElem_toArray, List.getElem_cons_succ, List.getElem_cons_zero, List.setIfInBounds_toArray, List.set_cons_zero, List.set_cons_succ]
      refine Turns.take hS 12 _ rfl (by kernel_rfl) (by kernel_rfl) (by kernel_rfl) (by kernel_rfl) (fun _ _ _ h => h) (by rfl) (fun w' hS' => by (try dsimp only at hS'); go_split_ands; go_simp; (try with_reducible rfl)) ?_
      simp only [Act.put, List.getElem_toArray, List.getElem_cons_succ, List.getElem_cons_zero, List.setIfInBounds_toArray, List.set_cons_zero, List.set_cons_succ]
      refine Turns.take hS 13 _ rfl (by kernel_rfl) (by kernel_rfl) (by kernel_rfl) (by kernel_rfl) (fun _ _ _ h => h) (by rfl) (fun w' hS' => by (try dsimp only at hS'); go_split_ands; go_simp; (try with_reducible rfl)) ?_
      simp only [Act.put, List.getElem_toArray, List.getElem_cons_succ, List.getElem_cons_zero, List.setIfInBounds_toArray, List.set_cons_zero, List.set_cons_succ]
      refine Turns.take hS 14 _ rfl (by kernel_rfl) (by kernel_rfl) (by kernel_rfl) (by kernel_rfl) (fun _ _ _ h => h) (by rfl) (fun w' hS' => by (try dsimp only at hS'); go_split_ands; go_simp; (try with_reducible rfl)) ?_
      simp only [Act.put, List.getElem_toArray, List.getElem_cons_succ, List.getElem_cons_zero, List.setIfInBounds_toArray, List.set_cons_zero, List.set_cons_succ]
      refine Turns.take hS 15 _ rfl (by kernel_rfl) (by kernel_rfl) (by kernel_rfl) (by kernel_rfl) (fun _ _ _ h => h) (by rfl) (fun w' hS' => by (try dsimp only at hS'); go_split_ands; go_simp; (try with_reducible rfl)) ?_
      simp only [Act.put, List.getElem_toArray, List.getElem_cons_succ, List.getElem_cons_zero, List.setIfInBounds_toArray, List.set_cons_zero, List.set_cons_succ]
      refine Turns.take hS 16 _ rfl (by kernel_rfl) (by kernel_rfl) (by kernel_rfl) (by kernel_rfl) (fun _ _ _ h => h) (by rfl) (fun w' hS' => by (try dsimp only at hS'); go_split_ands; go_simp; (try with_reducible rfl)) ?_
      simp only [Act.put, List.getElem_toArray, List.getElem_cons_succ, List.getElem_cons_zero, List.setIfInBounds_toArray, List.set_cons_zero, List.set_cons_succ]
      refine Turns.rest (late_done (by kernel_rfl)) ?_
      refine any_tail 17 (by rfl) (by kernel_rfl) ?_
      simp only [List.drop_succ_cons, List.drop_zero]
      clear hS
      have c1 := HK1.out.node.c1
      have c2 := HK1.out.node.c2
      clear hgd
      go_wp2
      go_quiet (fail)
      clear c1 c2
      have HK2 := Lib.hid (HK1.out.drewN nq)
      have b0 : (w1.drewN nq).cell? ⟨w.heap.size, 0, none⟩ = some (.int .i64 a) := HK2.out.cells.1
      have b1 : (w1.drewN nq).cell? ⟨w.heap.size, 1, none⟩ = some (.int .i64 l) := HK2.out.cells.2.1
      have hc := hheed _ HK2.out.node
      clear hheed HK HK1
      have HV : Hid (∀ W, Lh w g a l S' W → Lev W g S') := Lib.hid (fun W h => h.node)
      unfold otherL at hO
      cases d1 : (S'.level != s.level) <;> cases d2 : (S'.parent != s.parent)
      all_goals
        rw [d1, d2] at hO
        simp only [Bool.or_false, Bool.or_true, Bool.false_or, Bool.true_or] at hO
        subst hO
        go_wp2_with (go_at_call 16; refine hc.mono ?_; rintro e w2 ⟨rfl, hg2⟩; have hk2 := HK2.out.goes hg2; have k1 := hk2.node.c1; have k2 := hk2.node.c2; have HK3 := Lib.hid hk2; clear hg2 hk2 hc)
        go_ret
        exact ⟨rfl, HK3.out.done⟩
/-- What is told. -/
def tellV (s : LS) (itself : Bool) : Int × Int × Bool := if itself = true then (s.me, 0, true) else if s.level = -1 then (0, 0, false) else (s.me, s.level, true)
def toldV (x : Int × Int × Bool) : Value := .tuple #[.agg #[.int .i64 x.1, .int .i64 x.2.1], .bool x.2.2]
theorem find_one (a l : Int) : ∀ v ∈ ([.int .i64 a, .int .i64 l] : List Value), v.oneCell' = true := by
  intro v hv
  simp only [List.mem_cons, List.not_mem_nil, or_false] at hv
  rcases hv with rfl | rfl <;> rfl
theorem ltell_nil (w : World) (b : Bool) : Calls Try.prog 9 #[.pointer none, .bool b] w fun e w' => e = .returned (toldV (0, 0, false)) ∧ Below w.heap.size w w' := by
  have hb := below_alloc w (.cells #[.int .i64 0, .int .i64 0] 29)
  have HH := Lib.hid (Holds.new w 29 #[.int .i64 0, .int .i64 0])
  unfold toldV
  go_enter Try.func9, Try.ntmps9
  go_wp2
  refine bodyPost_ret (results_row_tmp rfl _ _ w.heap.size 29 [.int .i64 0, .int .i64 0] _ _ rfl (HH.out) Try.underlying29 rfl (by kernel_rfl) rfl) rfl ?_
  exact ⟨rfl, hb⟩
theorem ltell_any (w : World) (g : Nat) (s : LS) (h : Lev w g s) (b : Bool) : Calls Try.prog 9 #[.pointer (some ⟨g, 0, none⟩), .bool b] w fun e w' => e = .returned (toldV (tellV s b)) ∧ Below w.heap.size w w' := by
  have hst : Lev (w.alloc (.cells #[.int .i64 0, .int .i64 0] 29)) g s := h.alloc _
  have c0 := hst.c0
  have c1 := hst.c1
  have hgl := Holds.lt h
  unfold toldV tellV
  cases b with
  | true =>
    rw [if_pos rfl]
    go_enter Try.func9, Try.ntmps9
    go_wp2
    refine bodyPost_ret (results_row_tmp rfl _ _ w.heap.size 29 [.int .i64 s.me, .int .i64 0] _ _ rfl (Holds.new w _ _) Try.underlying29 rfl (by kernel_rfl) rfl) rfl ?_
    exact ⟨rfl, below_alloc _ _⟩
  | false =>
    rw [if_neg (by decide)]
    by_cases hl : s.level = -1
    · have d1 : (s.level == -1) = true := by simp [hl]
      rw [if_pos hl]
      go_enter Try.func9, Try.ntmps9
      go_wp2
      refine bodyPost_ret (results_row_tmp rfl _ _ w.heap.size 29 [.int .i64 0, .int .i64 0] _ _ rfl (Holds.new w _ _) Try.underlying29 rfl (by kernel_rfl) rfl) rfl ?_
      exact ⟨rfl, below_alloc _ _⟩
    · have d1 : (s.level == -1) = false := by simp [hl]
      rw [if_neg hl]
      go_enter Try.func9, Try.ntmps9
      go_upto_region 7 with fail
      go_region
      go_wp2
      refine bodyPost_ret (results_row_tmp rfl _ _ w.heap.size 29 [.int .i64 s.me, .int .i64 s.level] _ _ rfl ((Holds.new w _ _).drewN 1) Try.underlying29 rfl (by kernel_rfl) rfl) rfl ?_
      exact ⟨rfl, (below_alloc w _).drew⟩
end Go.Proofs.Ytnhjjgopkfoncaa
