/- The document's links: Set. -/
import Derived.Test.YtgmkmkheknibmaaDoorLdA
namespace Go.Proofs.YtgmkmkheknibmaaDoor
open Go.RowKit
set_option linter.unusedVariables false
set_option linter.unusedSimpArgs false

/-- The document's links at block gm: n nodes, and the links that M tells. -/
def Dk (w : World) (gm n : Nat) (M : List Nat) : Prop :=
  ∃ cs : Array Value, Holds w gm 41 cs ∧ cs.size = 4097 ∧ cs[0]? = some (.int .i64 (n : Int)) ∧ ∀ i k, i < 64 → k < 64 → cs[1 + i * 64 + k]? = some (.bool (adj M i k))
section
variable {w w' : World} {gm n : Nat} {M : List Nat}
theorem Dk.lt (h : Dk w gm n M) : gm < w.heap.size := by
  obtain ⟨cs, h1, _⟩ := h
  exact h1.lt
theorem Dk.below (h : Dk w gm n M) (hb : Below w.heap.size w w') : Dk w' gm n M := by
  obtain ⟨cs, h1, h2⟩ := h
  exact ⟨cs, h1.below hb h1.lt, h2⟩
theorem Dk.chg {S : Nat → Prop} (h : Dk w gm n M) (hc : Chg S w w') (hg : ¬ S gm) : Dk w' gm n M := by
  obtain ⟨cs, h1, h2⟩ := h
  exact ⟨cs, h1.chg hc hg, h2⟩
theorem Dk.count (h : Dk w gm n M) : w.cell? ⟨gm, 0, none⟩ = some (.int .i64 (n : Int)) := by
  obtain ⟨cs, h1, _, h3, _⟩ := h
  rw [h1.cell, h3]
theorem Dk.at (h : Dk w gm n M) {i k : Nat} (hi : i < 64) (hk : k < 64) : w.cell? ⟨gm, 1 + i * 64 + k, none⟩ = some (.bool (adj M i k)) := by
  obtain ⟨cs, h1, _, _, h4⟩ := h
  rw [h1.cell, h4 i k hi hk]
theorem Dk.soft (h : Dk w gm n M) (j : Nat) : w.frozen? ⟨gm, j, none⟩ = false := by
  obtain ⟨cs, h1, _⟩ := h
  exact h1.soft j
/-- One place is written. -/
theorem Dk.put (h : Dk w gm n M) {i k : Nat} (hi : i < 64) (hk : k < 64) (b : Bool) {M' : List Nat} (hM : ∀ x y, x < 64 → y < 64 → adj M' x y = if x = i ∧ y = k then b else adj M x y) : Dk (w.setCell ⟨gm, 1 + i * 64 + k, none⟩ (.bool b)) gm n M' := by
  obtain ⟨cs, h1, h2, h3, h4⟩ := h
  refine ⟨_, h1.put _ _, by simp [h2], ?_, fun x y hx hy => ?_⟩
  · rw [Array.getElem?_setIfInBounds_ne (by omega)]
    exact h3
  · rw [hM x y hx hy]
    by_cases e : x = i ∧ y = k
    · obtain ⟨rfl, rfl⟩ := e
      rw [if_pos ⟨rfl, rfl⟩, Array.getElem?_setIfInBounds_self_of_lt (by omega)]
    · rw [if_neg e, Array.getElem?_setIfInBounds_ne (by omega)]
      exact h4 x y hx hy
end
theorem Dk.new (w : World) (n : Nat) (C : Array Value) (h : C.size = 4097 ∧ C[0]? = some (.int .i64 (n : Int)) ∧ ∀ j, j < 4096 → C[j + 1]? = some (.bool false)) : Dk (w.alloc (.cells C 41)) w.heap.size n (List.replicate n 0) :=
  ⟨C, Holds.new w _ _, h.1, h.2.1, fun i k hi hk => by
    rw [adj_zero, show 1 + i * 64 + k = (i * 64 + k) + 1 by omega]
    exact h.2.2 _ (by omega)⟩
theorem put_adj' {M : List Nat} (h : FitM M) {i k : Nat} (hi : i < M.length) (hk : k < M.length) (on : Bool) : ∀ x y, x < 64 → y < 64 → adj (setM M i k on) x y = if x = k ∧ y = i then on else adj (putM M i k on) x y := fun x y _ _ => by
  have h64 := h.1
  have h1 := put_fit h hi (k := k) (by omega) on
  unfold setM
  rw [put_adj h1 (by rw [put_len]; exact hk) (by omega)]
set_option maxRecDepth 100000 in
set_option maxHeartbeats 2000000 in
theorem dset_yes (w : World) (gm n : Nat) (M : List Nat) (h : Dk w gm n M) (hf : FitM M) (hl : M.length = n) (a b : Nat) (ha : a < n) (hb : b < n) (hab : a ≠ b) (on : Bool) : Calls Tryd.prog 15 #[.pointer (some ⟨gm, 0, none⟩), .int .i64 a, .int .i64 b, .bool on] w fun e w' =>
    e = .returned (.int .i64 0) ∧ Dk w' gm n (setM M a b on) ∧ Chg (fun k => k = gm) w w' := by
  have h64 : n ≤ 64 := by rw [← hl]; exact hf.1
  have c0 := h.count
  have c1 := h.at (i := a) (k := b) (by omega) (by omega)
  have f1 := h.soft (1 + a * 64 + b)
  have h2 : Dk (w.setCell ⟨gm, 1 + a * 64 + b, none⟩ (.bool on)) gm n (putM M a b on) := h.put (by omega) (by omega) on (fun x y _ _ => put_adj hf (by omega) (by omega) on x y)
  have h3 : Dk ((w.setCell ⟨gm, 1 + a * 64 + b, none⟩ (.bool on)).setCell ⟨gm, 1 + b * 64 + a, none⟩ (.bool on)) gm n (setM M a b on) := h2.put (by omega) (by omega) on (put_adj' hf (by omega) (by omega) on)
  have c2 := h2.at (i := b) (k := a) (by omega) (by omega)
  have f2 := h2.soft (1 + b * 64 + a)
  have hc : Chg (fun k => k = gm) w ((w.setCell ⟨gm, 1 + a * 64 + b, none⟩ (.bool on)).setCell ⟨gm, 1 + b * 64 + a, none⟩ (.bool on)) := (Chg.set (S := fun k => k = gm) w gm _ _ rfl).trans (Chg.set (S := fun k => k = gm) _ gm _ _ rfl) (fun _ _ h => h)
  have H3 := Lib.hid h3
  have HC := Lib.hid hc
  have d1 : decide ((a : Int) < 0) = false := decide_eq_false (by omega)
  have d2 : decide ((b : Int) < 0) = false := decide_eq_false (by omega)
  have d3 : decide ((n : Int) ≤ (a : Int)) = false := decide_eq_false (by omega)
  have d4 : decide ((n : Int) ≤ (b : Int)) = false := decide_eq_false (by omega)
  have d5 : ((a : Int) == (b : Int)) = false := by simp; omega
  have d6 : (a : Int) < 64 := by omega
  have d7 : (b : Int) < 64 := by omega
  clear h h2 h3 hc
  go_enter Tryd.func15, Tryd.ntmps15
  go_wp2
  go_ret
  exact ⟨rfl, H3.out, HC.out⟩
theorem dset_no (w : World) (gm n : Nat) (M : List Nat) (h : Dk w gm n M) (i k : Int) (on : Bool) (hm : mayB n i k = false) : Calls Tryd.prog 15 #[.pointer (some ⟨gm, 0, none⟩), .int .i64 i, .int .i64 k, .bool on] w fun e w' => e = .returned (.int .i64 1) ∧ w' = w := by
  have c0 := h.count
  clear h
  have hcase : i < 0 ∨ (0 ≤ i ∧ k < 0) ∨ (0 ≤ i ∧ 0 ≤ k ∧ (n : Int) ≤ i) ∨ (0 ≤ i ∧ 0 ≤ k ∧ i < n ∧ (n : Int) ≤ k) ∨ (0 ≤ i ∧ 0 ≤ k ∧ i < n ∧ k < n ∧ i = k) := by
    unfold mayB inB at hm
    by_cases h1 : 0 ≤ i <;> by_cases h2 : 0 ≤ k <;> by_cases h3 : i < n <;> by_cases h4 : k < n <;> by_cases h5 : i = k <;> simp [h1, h2, h3, h4, h5] at hm ⊢ <;> omega
  rcases hcase with h1 | ⟨h1, h2⟩ | ⟨h1, h2, h3⟩ | ⟨h1, h2, h3, h4⟩ | ⟨h1, h2, h3, h4, rfl⟩
  · have d1 : decide (i < 0) = true := decide_eq_true h1
    go_enter Tryd.func15, Tryd.ntmps15
    go_wp2
    go_ret
    exact ⟨rfl, rfl⟩
  · have d1 : decide (i < 0) = false := decide_eq_false (by omega)
    have d2 : decide (k < 0) = true := decide_eq_true h2
    go_enter Tryd.func15, Tryd.ntmps15
    go_wp2
    go_ret
    exact ⟨rfl, rfl⟩
  · have d1 : decide (i < 0) = false := decide_eq_false (by omega)
    have d2 : decide (k < 0) = false := decide_eq_false (by omega)
    have d3 : decide ((n : Int) ≤ i) = true := decide_eq_true h3
    go_enter Tryd.func15, Tryd.ntmps15
    go_wp2
    go_ret
    exact ⟨rfl, rfl⟩
  · have d1 : decide (i < 0) = false := decide_eq_false (by omega)
    have d2 : decide (k < 0) = false := decide_eq_false (by omega)
    have d3 : decide ((n : Int) ≤ i) = false := decide_eq_false (by omega)
    have d4 : decide ((n : Int) ≤ k) = true := decide_eq_true h4
    go_enter Tryd.func15, Tryd.ntmps15
    go_wp2
    go_ret
    exact ⟨rfl, rfl⟩
  · have d1 : decide (i < 0) = false := decide_eq_false (by omega)
    have d3 : decide ((n : Int) ≤ i) = false := decide_eq_false (by omega)
    have d5 : (i == i) = true := by simp
    go_enter Tryd.func15, Tryd.ntmps15
    go_wp2
    go_ret
    exact ⟨rfl, rfl⟩
theorem dset_any (w : World) (gm n : Nat) (M : List Nat) (h : Dk w gm n M) (hf : FitM M) (hl : M.length = n) (i k : Int) (on : Bool) : Calls Tryd.prog 15 #[.pointer (some ⟨gm, 0, none⟩), .int .i64 i, .int .i64 k, .bool on] w fun e w' =>
    e = .returned (.int .i64 (if mayB n i k then 0 else 1)) ∧ Dk w' gm n (afterM M i k on) ∧ Chg (fun k => k = gm) w w' := by
  rcases hm : mayB n i k with _ | _
  · refine (dset_no w gm n M h i k on hm).mono fun e w' ⟨he, hw⟩ => ?_
    subst hw
    refine ⟨he, ?_, Chg.refl _ _⟩
    unfold afterM
    rw [hl, hm]
    exact h
  · obtain ⟨a, b, rfl, rfl, ha, hb, hab⟩ := may_spec hm
    refine (dset_yes w gm n M h hf hl a b ha hb hab on).mono fun e w' ⟨he, hd, hc⟩ => ⟨he, ?_, hc⟩
    unfold afterM
    rw [hl, hm]
    exact hd
end Go.Proofs.YtgmkmkheknibmaaDoor
