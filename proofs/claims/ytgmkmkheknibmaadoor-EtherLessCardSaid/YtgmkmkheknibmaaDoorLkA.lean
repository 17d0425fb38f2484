/- Package links: what links are; the plain calls. -/
import Derived.Test.YtgmkmkheknibmaaDoorProg
import Derived.Test.YtgmkmkheknibmaaDoorPtr
import Derived.Test.YtgmkmkheknibmaaDoorChg
import Derived.Laws.BitsAllLaws
import Derived.Laws.ShiftsVar
namespace Go.Proofs.YtgmkmkheknibmaaDoor
open Go.RowKit
set_option linter.unusedVariables false

/-- The sets as cells. -/
def setsOf (M : List Nat) : Array Value := (M.map fun (x : Nat) => Value.int .u64 (x : Int)).toArray
/-- Links behind block g: their sets lie in block r. -/
structure Lk (w : World) (B g r : Nat) (M : List Nat) : Prop where
  ptr : Holds w g 63 #[.slice (some ⟨r, 0, none⟩) M.length M.length]
  row : Holds w r 23 (setsOf M)
  oldg : B ≤ g
  oldr : B ≤ r
  pos : 1 ≤ M.length
  le : M.length ≤ 64
  fit : ∀ x ∈ M, x < 18446744073709551616
/-- Is there a node of that number? -/
def inB (n : Nat) (i : Int) : Bool := decide (0 ≤ i ∧ i < n)
def mayB (n : Nat) (i k : Int) : Bool := inB n i && inB n k && decide (i ≠ k)
theorem inB_yes {n : Nat} {i : Int} (h : 0 ≤ i) (h' : i < n) : inB n i = true := by simp [inB, h, h']
theorem inB_nat {n i : Nat} : inB n (i : Int) = decide (i < n) := by simp [inB]
theorem inB_neg {n : Nat} {i : Int} (h : i < 0) : inB n i = false := by simp only [inB, decide_eq_false_iff_not]; omega
theorem inB_far {n : Nat} {i : Int} (h : ¬ i < n) : inB n i = false := by simp only [inB, decide_eq_false_iff_not]; omega
theorem of_inB {n : Nat} {i : Int} (h : inB n i = true) : ∃ j : Nat, i = j ∧ j < n := by
  simp only [inB, decide_eq_true_eq] at h
  exact ⟨i.toNat, by omega, by omega⟩

section
variable {w w' : World} {B g r : Nat} {M : List Nat}
theorem Lk.lt (h : Lk w B g r M) : g < w.heap.size := h.ptr.lt
theorem Lk.rlt (h : Lk w B g r M) : r < w.heap.size := h.row.lt
theorem Lk.ne (h : Lk w B g r M) : g ≠ r := h.ptr.apart h.row (by decide)
theorem Lk.below (h : Lk w B g r M) (hb : Below w.heap.size w w') : Lk w' B g r M := ⟨h.ptr.below hb h.lt, h.row.below hb h.rlt, h.oldg, h.oldr, h.pos, h.le, h.fit⟩
theorem Lk.chg {S : Nat → Prop} (h : Lk w B g r M) (hc : Chg S w w') (hg : ¬ S g) (hr : ¬ S r) : Lk w' B g r M := ⟨h.ptr.chg hc hg, h.row.chg hc hr, h.oldg, h.oldr, h.pos, h.le, h.fit⟩
theorem Lk.cell (h : Lk w B g r M) {i : Nat} (hi : i < M.length) : w.cell? ⟨r, i, none⟩ = some (.int .u64 (M.getD i 0 : Nat)) := by
  rw [h.row.cell i]
  simp [setsOf, List.getD, hi]
theorem Lk.get_lt (h : Lk w B g r M) (i : Nat) : M.getD i 0 < 18446744073709551616 := by
  by_cases hi : i < M.length
  · rw [List.getD_eq_getElem?_getD, List.getElem?_eq_getElem hi]
    exact h.fit _ (List.getElem_mem hi)
  · rw [List.getD_eq_getElem?_getD, List.getElem?_eq_none (by omega)]
    decide
end

theorem len_nil (w : World) : Calls Tryd.prog 16 #[.pointer none] w fun e w' => e = .returned (.int .i64 0) ∧ w' = w := by
  go_enter Tryd.func16, Tryd.ntmps16
  go_wp2
  go_ret
  exact ⟨rfl, rfl⟩
theorem len_lk (w : World) (B g r : Nat) (M : List Nat) (h : Lk w B g r M) : Calls Tryd.prog 16 #[.pointer (some ⟨g, 0, none⟩)] w fun e w' => e = .returned (.int .i64 M.length) ∧ w' = w := by
  have c0 := h.ptr.cell 0
  clear h
  go_enter Tryd.func16, Tryd.ntmps16
  go_wp2
  go_ret
  exact ⟨rfl, rfl⟩
theorem node_nil (w : World) (i : Int) : Calls Tryd.prog 21 #[.pointer none, .int .i64 i] w fun e w' => e = .returned (.bool false) ∧ w' = w := by
  by_cases h0 : i < 0
  all_goals
    go_enter Tryd.func21, Tryd.ntmps21
    go_wp2_with (go_at_call 16; refine (len_nil _).mono ?_; rintro e w' ⟨rfl, rfl⟩)
    go_ret
    exact ⟨ret_bool (by simp <;> omega), rfl⟩
theorem node_lk (w : World) (B g r : Nat) (M : List Nat) (h : Lk w B g r M) (i : Int) : Calls Tryd.prog 21 #[.pointer (some ⟨g, 0, none⟩), .int .i64 i] w fun e w' => e = .returned (.bool (inB M.length i)) ∧ w' = w := by
  have hl := len_lk w B g r M h
  clear h
  by_cases h0 : i < 0
  · have d1 : decide (0 ≤ i) = false := by simp; omega
    rw [inB_neg h0]
    go_enter Tryd.func21, Tryd.ntmps21
    go_wp2
    go_ret
    exact ⟨rfl, rfl⟩
  · have d1 : decide (0 ≤ i) = true := by simp; omega
    have e1 : inB M.length i = decide (i < M.length) := by
      unfold inB
      simp only [decide_eq_decide]
      omega
    rw [e1]
    go_enter Tryd.func21, Tryd.ntmps21
    go_wp2_with (go_at_call 16; refine hl.mono ?_; rintro e w' ⟨rfl, rfl⟩)
    go_ret
    exact ⟨rfl, rfl⟩
theorem may_nil (w : World) (i k : Int) : Calls Tryd.prog 22 #[.pointer none, .int .i64 i, .int .i64 k] w fun e w' => e = .returned (.bool false) ∧ w' = w := by
  go_enter Tryd.func22, Tryd.ntmps22
  go_wp2_with (go_at_call 21; refine (node_nil _ _).mono ?_; rintro e w' ⟨rfl, rfl⟩)
  go_ret
  exact ⟨rfl, rfl⟩
theorem may_lk (w : World) (B g r : Nat) (M : List Nat) (h : Lk w B g r M) (i k : Int) : Calls Tryd.prog 22 #[.pointer (some ⟨g, 0, none⟩), .int .i64 i, .int .i64 k] w fun e w' => e = .returned (.bool (mayB M.length i k)) ∧ w' = w := by
  have hn1 := node_lk w B g r M h i
  have hn2 := node_lk w B g r M h k
  clear h
  unfold mayB
  rcases hb1 : inB M.length i with _ | _
  · rw [hb1] at hn1
    go_enter Tryd.func22, Tryd.ntmps22
    go_wp2_with (go_at_call 21; refine hn1.mono ?_; rintro e w' ⟨rfl, rfl⟩)
    go_ret
    exact ⟨rfl, rfl⟩
  · rw [hb1] at hn1
    rcases hb2 : inB M.length k with _ | _
    · rw [hb2] at hn2
      go_enter Tryd.func22, Tryd.ntmps22
      go_wp2_with (first
        | (go_at_call 21; (with_reducible refine hn1.mono ?_); rintro e w' ⟨rfl, rfl⟩)
        | (go_at_call 21; (with_reducible refine hn2.mono ?_); rintro e w' ⟨rfl, rfl⟩))
      go_ret
      exact ⟨rfl, rfl⟩
    · rw [hb2] at hn2
      have hne : (i != k) = decide (i ≠ k) := by
        by_cases e : i = k <;> simp [e]
      go_enter Tryd.func22, Tryd.ntmps22
      go_wp2_with (first
        | (go_at_call 21; (with_reducible refine hn1.mono ?_); rintro e w' ⟨rfl, rfl⟩)
        | (go_at_call 21; (with_reducible refine hn2.mono ?_); rintro e w' ⟨rfl, rfl⟩))
      go_ret
      exact ⟨ret_bool (by simp), rfl⟩
theorem near_nil (w : World) (i : Int) : Calls Tryd.prog 17 #[.pointer none, .int .i64 i] w fun e w' => e = .returned (.int .u64 0) ∧ w' = w := by
  go_enter Tryd.func17, Tryd.ntmps17
  go_wp2_with (go_at_call 21; refine (node_nil _ _).mono ?_; rintro e w' ⟨rfl, rfl⟩)
  go_ret
  exact ⟨rfl, rfl⟩
def nearV (M : List Nat) (i : Int) : Nat := if inB M.length i then M.getD i.toNat 0 else 0
theorem near_lk (w : World) (B g r : Nat) (M : List Nat) (h : Lk w B g r M) (i : Int) : Calls Tryd.prog 17 #[.pointer (some ⟨g, 0, none⟩), .int .i64 i] w fun e w' => e = .returned (.int .u64 (nearV M i)) ∧ w' = w := by
  have hn1 := node_lk w B g r M h i
  unfold nearV
  rcases hb1 : inB M.length i with _ | _
  · rw [hb1] at hn1
    clear h
    go_enter Tryd.func17, Tryd.ntmps17
    go_wp2_with (go_at_call 21; refine hn1.mono ?_; rintro e w' ⟨rfl, rfl⟩)
    go_ret
    exact ⟨rfl, rfl⟩
  · rw [hb1] at hn1
    obtain ⟨j, rfl, hj⟩ := of_inB hb1
    have c0 := h.ptr.cell 0
    have q := h.cell hj
    obtain ⟨X, hX⟩ : ∃ X, M.getD j 0 = X := ⟨_, rfl⟩
    rw [hX] at q
    have hX' : M.getD (j : Int).toNat 0 = X := by rw [Int.toNat_natCast, hX]
    rw [if_pos rfl, hX']
    have hjn : (j : Int) < M.length := by omega
    clear h hX hX'
    go_enter Tryd.func17, Tryd.ntmps17
    go_wp2_with (go_at_call 21; refine hn1.mono ?_; rintro e w' ⟨rfl, rfl⟩)
    go_ret
    exact ⟨rfl, rfl⟩
end Go.Proofs.YtgmkmkheknibmaaDoor
