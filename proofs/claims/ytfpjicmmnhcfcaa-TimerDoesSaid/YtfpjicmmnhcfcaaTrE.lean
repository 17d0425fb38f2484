/- Does a row go over just what the document's has, in order? -/
import Derived.Test.YtfpjicmmnhcfcaaTmG
import Derived.Test.YtfpjicmmnhcfcaaTrD
namespace Go.Proofs.Ytfpjicmmnhcfcaa
open Go.RowKit Go.Shelf
attribute [local go_sem] Oper.semAt_some
set_option linter.unusedVariables false

set_option maxRecDepth 100000 in
set_option maxHeartbeats 2000000 in
theorem all1_nil_stops (n : Nat) (p n₀ : Nat) (w : World) (hp : w.cell? ⟨p, 0, none⟩ = some (.pointer none)) :
    SeqStopsK Fence.wide n Try.prog 29 #[.pointer (some ⟨p, 0, none⟩)] (fun x : Int × Int => #[Value.int .i64 x.1, Value.int .i64 x.2]) (KeepNew n₀) (fun ys => ys = []) (fun _ => False) 0 w := fun l J Jx W hW hJ hJx hY h0 => by
  have hpw : p < w.heap.size := block_lt hp
  have hp1 : W.cell? ⟨p, 0, none⟩ = some (.pointer none) := (hW.cell (p := ⟨p, 0, none⟩) hpw).trans hp
  have H0 := Lib.hid h0
  clear hW hp h0 hY hJ hJx
  refine callsIn_of_wp Try.func29 rfl trivial ?_ rfl
  simp only [Try.ntmps29, List.size_toArray, List.length_cons, List.length_nil, Nat.reduceAdd, Nat.reduceSub, Array.replicate_succ, Array.replicate_zero, List.push_toArray, List.append_toArray, List.nil_append, List.cons_append]
  gi_wp2
  refine bodyPost_ret (results_none rfl _ _ _) rfl ?_
  exact ⟨⟨_, rfl⟩, .inl ⟨_, rfl, H0.out⟩⟩

set_option maxRecDepth 100000 in
set_option maxHeartbeats 2000000 in
theorem first_nil (w : World) : Calls Try.prog 16 #[.pointer none] w fun e w' => e = .returned (.tuple #[.int .i64 0, .bool false]) ∧ Below w.heap.size w w' := by
  refine (callsIn_wide (n := 4)).1 ?_
  refine callsIn_of_wp_marks Try.func16 rfl trivial ?_ rfl
  simp only [Try.ntmps16, List.size_toArray, List.length_cons, List.length_nil, Nat.reduceAdd, Nat.reduceSub, Array.replicate_succ, Array.replicate_zero, List.push_toArray, List.append_toArray, List.nil_append, List.cons_append]
  gi_wp2_with (refine ⟨trivial, ?_⟩; gi_at_call 24; refine (callsIn_wide.2 (all_any _ none)).mono ?_; rintro e w' ⟨rfl, rfl⟩)
  have hb0 : Below w.heap.size w ((w.alloc (.cells #[.int .i64 0] 3)).alloc (.cells #[.bool false] 4)) := (below_alloc w _).alloc (by simp) _
  have hb1 := hb0.alloc (by simp; omega) (.cells #[.pointer none] 27)
  have k1 := ((Holds.new w 3 #[.int .i64 0]).alloc (.cells #[.bool false] 4)).alloc (.cells #[.pointer none] 27)
  have k2 := (Holds.new (w.alloc (.cells #[.int .i64 0] 3)) 4 #[.bool false]).alloc (.cells #[.pointer none] 27)
  have k3 := (Holds.new ((w.alloc (.cells #[.int .i64 0] 3)).alloc (.cells #[.bool false] 4)) 27 #[.pointer none]).cell 0
  simp only [size_alloc] at k2 k3
  refine wpIn_rangeFunc_ownF rfl (by omega) (gf := 29) (lb := #[.pointer (some ⟨w.heap.size + 1 + 1, 0, none⟩)]) rfl trivial (enters_of Try.func29 (by kernel_rfl) rfl)
    (all1_nil_stops _ (w.heap.size + 1 + 1) (w.heap.size + 1 + 1 + 1) _ k3) keepNew_t (keepNew_b (by simp)) (Below.refl _ _) (fun _ => rfl)
    (fun pre W => (Holds W w.heap.size 3 #[.int .i64 0] ∧ Holds W (w.heap.size + 1) 4 #[.bool false]) ∧ Below w.heap.size w W)
    (fun _ _ _ => False)
    (OwnFrom.and (Own.from (fun s A B row hs hg hr => ⟨hs.1.grown hg (fun e => by obtain ⟨o, ho, hc⟩ := hr _ e.symm; rw [show A.heap[w.heap.size]? = _ from hs.1] at ho; cases ho; cases hc), hs.2.grown hg (fun e => by obtain ⟨o, ho, hc⟩ := hr _ e.symm; rw [show A.heap[w.heap.size + 1]? = _ from hs.2] at ho; cases ho; cases hc)⟩) _) (ownFrom_below (Nat.le_refl _) (by simp; omega)))
    (fun _ _ _ _ _ hs _ _ => hs)
    ⟨⟨k1, k2⟩, hb1⟩ ?a₁ ?assign ?body ?done ?stop
  case assign =>
    intro l x W K hK
    gi_wp2
    exact hK
  case body =>
    rintro l pre x W _ h
    exact absurd h (Nat.not_lt_zero _)
  case done =>
    rintro D ys W hD rfl ⟨⟨h1, h2⟩, hB⟩ hK
    have c1 := h1.cell 0
    have f1 := h1.soft 0
    have c2 := h2.cell 0
    have f2 := h2.soft 0
    have p1 : Holds ((W.setCell ⟨w.heap.size, 0, none⟩ (.int .i64 0)).setCell ⟨w.heap.size + 1, 0, none⟩ (.bool false)) w.heap.size 3 #[.int .i64 0] := (h1.put 0 (.int .i64 0)).far (by omega) _
    have p2 : Holds ((W.setCell ⟨w.heap.size, 0, none⟩ (.int .i64 0)).setCell ⟨w.heap.size + 1, 0, none⟩ (.bool false)) (w.heap.size + 1) 4 #[.bool false] := (h2.far (by omega) _).put 0 (.bool false)
    have hK' := ((KeepsOthers.setCell W ⟨w.heap.size, 0, none⟩ (.int .i64 0)).trans (KeepsOthers.setCell _ ⟨w.heap.size + 1, 0, none⟩ (.bool false))).same D _ hK rfl
    have hg := grownBy_putObj' ((W.setCell ⟨w.heap.size, 0, none⟩ (.int .i64 0)).setCell ⟨w.heap.size + 1, 0, none⟩ (.bool false)) D (.deferred none)
    have hD1 : w.heap.size + 1 + 1 + 1 ≤ D := by simpa using hD
    have r1 := (p1.grown hg (by simp; omega)).cell 0
    have r2 := (p2.grown hg (by simp; omega)).cell 0
    have hb2 : Below w.heap.size w ((W.setCell ⟨w.heap.size, 0, none⟩ (.int .i64 0)).setCell ⟨w.heap.size + 1, 0, none⟩ (.bool false)) := (hB.setCell (p := ⟨w.heap.size, 0, none⟩) (Nat.le_refl _) _).setCell (p := ⟨w.heap.size + 1, 0, none⟩) (by simp) _
    have hb3 := hb2.grown hg hb2.size (fun k e => by cases e; omega)
    have R1 := Lib.hid r1
    have R2 := Lib.hid r2
    have HB3 := Lib.hid hb3
    clear p1 p2 r1 r2 hb2 hb3 hg
    gi_wp2
    refine ⟨by simp, .inl ⟨_, _, rfl, run_takeDeferred hK', ?_⟩⟩
    refine ⟨.tuple #[.int .i64 0, .bool false], ?_, rfl, HB3.out⟩
    have r1 := R1.out
    have r2 := R2.out
    simp [results, Try.f16, go_sem, r1, r2]
  case stop =>
    rintro D c pre W _ _ h _
    exact h.elim
end Go.Proofs.Ytfpjicmmnhcfcaa
