/- Package duty: Awake, Rest, and the document's own. -/
import Derived.Test.YthkpalfpohhmoaaDtB
namespace Go.Proofs.Ythkpalfpohhmoaa
open Go.RowKit
set_option linter.unusedSimpArgs false
set_option linter.unusedVariables false

theorem awakeB_neg {r o t g : Int} (h : g < 0) : awakeB r o t g = true := by simp [awakeB, h]
theorem awakeB_low {r o t g : Int} (h : phaseV r t < o * 1000 + g) : awakeB r o t g = true := by simp [awakeB, h]
theorem awakeB_high {r o t g : Int} (h : r * 1000 - g ≤ phaseV r t) : awakeB r o t g = true := by simp [awakeB, h]
theorem awakeB_no {r o t g : Int} (h : ¬ g < 0) (h1 : ¬ phaseV r t < o * 1000 + g) (h2 : ¬ r * 1000 - g ≤ phaseV r t) : awakeB r o t g = false := by
  unfold awakeB
  exact decide_eq_false (by rintro (q | q | q) <;> contradiction)
theorem awake_bad (r o n t g : Int) (w : World) (h : ¬ Can r o n) :
    Calls Try.prog 10 #[.agg #[.int .i64 r, .int .i64 o, .int .i64 n], .int .i64 t, .int .i64 g] w fun e w' => e = .returned (.bool true) ∧ Below w.heap.size w w' := by
  have c := (Holds.new w 23 #[.int .i64 r, .int .i64 o, .int .i64 n])
  have c0 := c.cell 0
  have c1 := c.cell 1
  have c2 := c.cell 2
  clear c
  have HB := Lib.hid (Box.start w 23 #[.int .i64 r, .int .i64 o, .int .i64 n])
  by_cases g0 : g < 0
  · go_enter Try.func10, Try.ntmps10
    go_wp2_with (first
      | (go_at_call 9; refine (good_no r o n _ h).mono ?_; rintro e w2 ⟨rfl, hb⟩; replace HB := Lib.hid (HB.out.next hb); obtain ⟨c0, c1, c2, _⟩ := HB.out.cells3; clear hb))
    go_ret
    exact ⟨rfl, HB.out.below⟩
  · have d0 : decide (g < 0) = false := decide_eq_false g0
    go_enter Try.func10, Try.ntmps10
    go_wp2_with (first
      | (go_at_call 9; refine (good_no r o n _ h).mono ?_; rintro e w2 ⟨rfl, hb⟩; replace HB := Lib.hid (HB.out.next hb); obtain ⟨c0, c1, c2, _⟩ := HB.out.cells3; clear hb))
    go_ret
    exact ⟨rfl, HB.out.below⟩
theorem awake_any (r o n t g : Int) (w : World) (h : Can r o n) (ht : Fits t) (hg : Fits g) :
    Calls Try.prog 10 #[.agg #[.int .i64 r, .int .i64 o, .int .i64 n], .int .i64 t, .int .i64 g] w fun e w' => e = .returned (.bool (awakeB r o t g)) ∧ Below w.heap.size w w' := by
  have c := (Holds.new w 23 #[.int .i64 r, .int .i64 o, .int .i64 n])
  have c0 := c.cell 0
  have c1 := c.cell 1
  have c2 := c.cell 2
  clear c
  have HB := Lib.hid (Box.start w 23 #[.int .i64 r, .int .i64 o, .int .i64 n])
  have h' := h
  obtain ⟨h1, h2, h3, h4, h5, h6⟩ := h'
  have ho : Fits (o * 1000) := ⟨by omega, by omega⟩
  have hg' := hg
  obtain ⟨g1, g2⟩ := hg'
  have hb := phase_bd h1 t
  by_cases g0 : g < 0
  · rw [awakeB_neg g0]
    go_enter Try.func10, Try.ntmps10
    go_wp2_with (first
      | (go_at_call 9; refine (good_yes r o n _ h).mono ?_; rintro e w2 ⟨rfl, hb⟩; replace HB := Lib.hid (HB.out.next hb); obtain ⟨c0, c1, c2, _⟩ := HB.out.cells3; clear hb))
    go_ret
    exact ⟨rfl, HB.out.below⟩
  have d0 : decide (g < 0) = false := decide_eq_false g0
  have hs : phaseV r t < satV (o * 1000) g ↔ phaseV r t < o * 1000 + g := by unfold satV; (repeat' split) <;> omega
  by_cases q1 : phaseV r t < o * 1000 + g
  · rw [awakeB_low q1]
    have q2 := hs.2 q1
    obtain ⟨M, hM⟩ : ∃ M, phaseV r t = M := ⟨_, rfl⟩
    obtain ⟨P, hP⟩ : ∃ P, satV (o * 1000) g = P := ⟨_, rfl⟩
    rw [hM] at hb q2
    rw [hP] at q2
    clear hs q1
    go_enter Try.func10, Try.ntmps10
    go_wp2_with (first
      | (go_at_call 9; refine (good_yes r o n _ h).mono ?_; rintro e w2 ⟨rfl, hb⟩; replace HB := Lib.hid (HB.out.next hb); obtain ⟨c0, c1, c2, _⟩ := HB.out.cells3; clear hb)
      | (go_at_call 16; refine (phase_any r o n t _ h1 h2 ht).mono ?_; rintro e w2 ⟨rfl, hb⟩; replace HB := Lib.hid (HB.out.next hb); obtain ⟨c0, c1, c2, _⟩ := HB.out.cells3; clear hb)
      | (go_at_call 18; refine (open_any r o n _ h3 (by omega)).mono ?_; rintro e w2 ⟨rfl, hb⟩; replace HB := Lib.hid (HB.out.next hb); obtain ⟨c0, c1, c2, _⟩ := HB.out.cells3; clear hb)
      | (go_at_call 15; refine (ticks_any r o n _ h1 h2).mono ?_; rintro e w2 ⟨rfl, hb⟩; replace HB := Lib.hid (HB.out.next hb); obtain ⟨c0, c1, c2, _⟩ := HB.out.cells3; clear hb)
      | (go_at_call 17; refine (sat_any _ _ _ ho hg).mono ?_; rintro e w2 ⟨rfl, rfl⟩))
    go_ret
    exact ⟨rfl, HB.out.below⟩
  have q2 : ¬ phaseV r t < satV (o * 1000) g := fun q => q1 (hs.1 q)
  by_cases q3 : r * 1000 - g ≤ phaseV r t
  · rw [awakeB_high q3]
    obtain ⟨M, hM⟩ : ∃ M, phaseV r t = M := ⟨_, rfl⟩
    obtain ⟨P, hP⟩ : ∃ P, satV (o * 1000) g = P := ⟨_, rfl⟩
    rw [hM] at hb q2 q3
    rw [hP] at q2
    have d1 : decide (M < P) = false := decide_eq_false q2
    clear hs q1
    go_enter Try.func10, Try.ntmps10
    go_wp2_with (first
      | (go_at_call 9; refine (good_yes r o n _ h).mono ?_; rintro e w2 ⟨rfl, hb⟩; replace HB := Lib.hid (HB.out.next hb); obtain ⟨c0, c1, c2, _⟩ := HB.out.cells3; clear hb)
      | (go_at_call 16; refine (phase_any r o n t _ h1 h2 ht).mono ?_; rintro e w2 ⟨rfl, hb⟩; replace HB := Lib.hid (HB.out.next hb); obtain ⟨c0, c1, c2, _⟩ := HB.out.cells3; clear hb)
      | (go_at_call 18; refine (open_any r o n _ h3 (by omega)).mono ?_; rintro e w2 ⟨rfl, hb⟩; replace HB := Lib.hid (HB.out.next hb); obtain ⟨c0, c1, c2, _⟩ := HB.out.cells3; clear hb)
      | (go_at_call 15; refine (ticks_any r o n _ h1 h2).mono ?_; rintro e w2 ⟨rfl, hb⟩; replace HB := Lib.hid (HB.out.next hb); obtain ⟨c0, c1, c2, _⟩ := HB.out.cells3; clear hb)
      | (go_at_call 17; refine (sat_any _ _ _ ho hg).mono ?_; rintro e w2 ⟨rfl, rfl⟩))
    go_ret
    exact ⟨rfl, HB.out.below⟩
  · rw [awakeB_no g0 q1 q3]
    obtain ⟨M, hM⟩ : ∃ M, phaseV r t = M := ⟨_, rfl⟩
    obtain ⟨P, hP⟩ : ∃ P, satV (o * 1000) g = P := ⟨_, rfl⟩
    rw [hM] at hb q2 q3
    rw [hP] at q2
    have d1 : decide (M < P) = false := decide_eq_false q2
    have d2 : decide (r * 1000 - g ≤ M) = false := decide_eq_false q3
    clear hs q1
    go_enter Try.func10, Try.ntmps10
    go_wp2_with (first
      | (go_at_call 9; refine (good_yes r o n _ h).mono ?_; rintro e w2 ⟨rfl, hb⟩; replace HB := Lib.hid (HB.out.next hb); obtain ⟨c0, c1, c2, _⟩ := HB.out.cells3; clear hb)
      | (go_at_call 16; refine (phase_any r o n t _ h1 h2 ht).mono ?_; rintro e w2 ⟨rfl, hb⟩; replace HB := Lib.hid (HB.out.next hb); obtain ⟨c0, c1, c2, _⟩ := HB.out.cells3; clear hb)
      | (go_at_call 18; refine (open_any r o n _ h3 (by omega)).mono ?_; rintro e w2 ⟨rfl, hb⟩; replace HB := Lib.hid (HB.out.next hb); obtain ⟨c0, c1, c2, _⟩ := HB.out.cells3; clear hb)
      | (go_at_call 15; refine (ticks_any r o n _ h1 h2).mono ?_; rintro e w2 ⟨rfl, hb⟩; replace HB := Lib.hid (HB.out.next hb); obtain ⟨c0, c1, c2, _⟩ := HB.out.cells3; clear hb)
      | (go_at_call 17; refine (sat_any _ _ _ ho hg).mono ?_; rintro e w2 ⟨rfl, rfl⟩))
    go_ret
    exact ⟨rfl, HB.out.below⟩
theorem rest_bad (r o n t : Int) (w : World) (h : ¬ Can r o n) :
    Calls Try.prog 13 #[.agg #[.int .i64 r, .int .i64 o, .int .i64 n], .int .i64 t] w fun e w' => e = .returned (.int .i64 0) ∧ Below w.heap.size w w' := by
  have c := (Holds.new w 23 #[.int .i64 r, .int .i64 o, .int .i64 n])
  have c0 := c.cell 0
  have c1 := c.cell 1
  have c2 := c.cell 2
  clear c
  have HB := Lib.hid (Box.start w 23 #[.int .i64 r, .int .i64 o, .int .i64 n])
  go_enter Try.func13, Try.ntmps13
  go_wp2_with (first
    | (go_at_call 9; refine (good_no r o n _ h).mono ?_; rintro e w2 ⟨rfl, hb⟩; replace HB := Lib.hid (HB.out.next hb); obtain ⟨c0, c1, c2, _⟩ := HB.out.cells3; clear hb))
  go_ret
  exact ⟨rfl, HB.out.below⟩
theorem rest_any (r o n t : Int) (w : World) (h : Can r o n) (ht : Fits t) :
    Calls Try.prog 13 #[.agg #[.int .i64 r, .int .i64 o, .int .i64 n], .int .i64 t] w fun e w' => e = .returned (.int .i64 (restV r o t)) ∧ Below w.heap.size w w' := by
  have c := (Holds.new w 23 #[.int .i64 r, .int .i64 o, .int .i64 n])
  have c0 := c.cell 0
  have c1 := c.cell 1
  have c2 := c.cell 2
  clear c
  have HB := Lib.hid (Box.start w 23 #[.int .i64 r, .int .i64 o, .int .i64 n])
  have h' := h
  obtain ⟨h1, h2, h3, h4, h5, h6⟩ := h'
  have hb := phase_bd h1 t
  have hR : restV r o t = if phaseV r t < o * 1000 then 0 else r * 1000 - phaseV r t := rfl
  obtain ⟨M, hM⟩ : ∃ M, phaseV r t = M := ⟨_, rfl⟩
  rw [hM] at hb hR
  by_cases q : M < o * 1000
  · rw [if_pos q] at hR
    rw [hR]
    clear hR
    go_enter Try.func13, Try.ntmps13
    go_wp2_with (first
      | (go_at_call 9; refine (good_yes r o n _ h).mono ?_; rintro e w2 ⟨rfl, hb⟩; replace HB := Lib.hid (HB.out.next hb); obtain ⟨c0, c1, c2, _⟩ := HB.out.cells3; clear hb)
      | (go_at_call 16; refine (phase_any r o n t _ h1 h2 ht).mono ?_; rintro e w2 ⟨rfl, hb⟩; replace HB := Lib.hid (HB.out.next hb); obtain ⟨c0, c1, c2, _⟩ := HB.out.cells3; clear hb)
      | (go_at_call 18; refine (open_any r o n _ h3 (by omega)).mono ?_; rintro e w2 ⟨rfl, hb⟩; replace HB := Lib.hid (HB.out.next hb); obtain ⟨c0, c1, c2, _⟩ := HB.out.cells3; clear hb)
      | (go_at_call 15; refine (ticks_any r o n _ h1 h2).mono ?_; rintro e w2 ⟨rfl, hb⟩; replace HB := Lib.hid (HB.out.next hb); obtain ⟨c0, c1, c2, _⟩ := HB.out.cells3; clear hb))
    go_ret
    exact ⟨rfl, HB.out.below⟩
  · rw [if_neg q] at hR
    rw [hR]
    clear hR
    go_enter Try.func13, Try.ntmps13
    go_wp2_with (first
      | (go_at_call 9; refine (good_yes r o n _ h).mono ?_; rintro e w2 ⟨rfl, hb⟩; replace HB := Lib.hid (HB.out.next hb); obtain ⟨c0, c1, c2, _⟩ := HB.out.cells3; clear hb)
      | (go_at_call 16; refine (phase_any r o n t _ h1 h2 ht).mono ?_; rintro e w2 ⟨rfl, hb⟩; replace HB := Lib.hid (HB.out.next hb); obtain ⟨c0, c1, c2, _⟩ := HB.out.cells3; clear hb)
      | (go_at_call 18; refine (open_any r o n _ h3 (by omega)).mono ?_; rintro e w2 ⟨rfl, hb⟩; replace HB := Lib.hid (HB.out.next hb); obtain ⟨c0, c1, c2, _⟩ := HB.out.cells3; clear hb)
      | (go_at_call 15; refine (ticks_any r o n _ h1 h2).mono ?_; rintro e w2 ⟨rfl, hb⟩; replace HB := Lib.hid (HB.out.next hb); obtain ⟨c0, c1, c2, _⟩ := HB.out.cells3; clear hb))
    go_ret
    exact ⟨rfl, HB.out.below⟩
theorem rphase_eq {r t : Int} (h1 : 1 ≤ r) : (t.tmod (r * 1000) + r * 1000) % (r * 1000) = phaseV r t := by
  have e : t.tmod (r * 1000) = t - r * 1000 * t.tdiv (r * 1000) := by
    have := Int.mul_tdiv_add_tmod t (r * 1000)
    omega
  unfold phaseV
  rw [Int.add_emod_right, e, Int.sub_emod, Int.mul_emod_right]
  simp
theorem tmod_bd {t m : Int} (hm : 0 < m) : -m < t.tmod m ∧ t.tmod m < m := by
  have h1 := Int.tmod_lt_of_pos t hm
  have h2 := Int.tmod_lt_of_pos (-t) hm
  rw [Int.neg_tmod] at h2
  omega
theorem rphase_any (r o n t : Int) (w : World) (h1 : 1 ≤ r) (h2 : r ≤ 64) (ht : Fits t) :
    Calls Try.prog 14 #[.agg #[.int .i64 r, .int .i64 o, .int .i64 n], .int .i64 t] w fun e w' => e = .returned (.int .i64 (phaseV r t)) ∧ Below w.heap.size w w' := by
  have c := (Holds.new w 25 #[.int .i64 r, .int .i64 o, .int .i64 n])
  have c0 := c.cell 0
  have c1 := c.cell 1
  have c2 := c.cell 2
  clear c
  have HB := Lib.hid (Box.start w 25 #[.int .i64 r, .int .i64 o, .int .i64 n])
  obtain ⟨t1, t2⟩ := ht
  have hb := phase_bd h1 t
  have ht := tmod_bd (t := t) (m := r * 1000) (by omega)
  have hv := rphase_eq (t := t) h1
  have hz : ¬ r * 1000 = 0 := by omega
  have hz2 : (r * 1000 == 0) = false := by simpa using hz
  rw [← hv]
  obtain ⟨M, hM⟩ : ∃ M, t.tmod (r * 1000) = M := ⟨_, rfl⟩
  rw [hM] at ht ⊢
  obtain ⟨m1, m2⟩ := ht
  have e1 : (M + r * 1000).tmod (r * 1000) = (M + r * 1000) % (r * 1000) := Int.tmod_eq_emod_of_nonneg (by omega)
  clear hv hb
  go_enter Try.func14, Try.ntmps14
  go_wp2
  go_ret
  exact ⟨ret_int (by rw [Int.add_emod_right]), HB.out.below⟩
theorem rawake_bad (r o n t g : Int) (w : World) (h : ¬ Can r o n) :
    Calls Try.prog 11 #[.agg #[.int .i64 r, .int .i64 o, .int .i64 n], .int .i64 t, .int .i64 g] w fun e w' => e = .returned (.bool true) ∧ Below w.heap.size w w' := by
  have c := (Holds.new w 25 #[.int .i64 r, .int .i64 o, .int .i64 n])
  have c0 := c.cell 0
  have c1 := c.cell 1
  have c2 := c.cell 2
  clear c
  have HB := Lib.hid (Box.start w 25 #[.int .i64 r, .int .i64 o, .int .i64 n])
  go_enter Try.func11, Try.ntmps11
  go_wp2_with (first
    | (go_at_call 8; refine (rgood_no r o n _ h).mono ?_; rintro e w2 ⟨rfl, hb⟩; replace HB := Lib.hid (HB.out.next hb); obtain ⟨c0, c1, c2, _⟩ := HB.out.cells3; clear hb))
  go_ret
  exact ⟨rfl, HB.out.below⟩
theorem rawake_any (r o n t g : Int) (w : World) (h : Can r o n) (ht : Fits t) (hg : Fits g) :
    Calls Try.prog 11 #[.agg #[.int .i64 r, .int .i64 o, .int .i64 n], .int .i64 t, .int .i64 g] w fun e w' => e = .returned (.bool (awakeB r o t g)) ∧ Below w.heap.size w w' := by
  have c := (Holds.new w 25 #[.int .i64 r, .int .i64 o, .int .i64 n])
  have c0 := c.cell 0
  have c1 := c.cell 1
  have c2 := c.cell 2
  clear c
  have HB := Lib.hid (Box.start w 25 #[.int .i64 r, .int .i64 o, .int .i64 n])
  have h' := h
  obtain ⟨h1, h2, h3, h4, h5, h6⟩ := h'
  obtain ⟨g1, g2⟩ := hg
  have hb := phase_bd h1 t
  by_cases g0 : g < 0
  · rw [awakeB_neg g0]
    go_enter Try.func11, Try.ntmps11
    go_wp2_with (first
      | (go_at_call 8; refine (rgood_yes r o n _ h).mono ?_; rintro e w2 ⟨rfl, hb⟩; replace HB := Lib.hid (HB.out.next hb); obtain ⟨c0, c1, c2, _⟩ := HB.out.cells3; clear hb))
    go_ret
    exact ⟨rfl, HB.out.below⟩
  have d0 : decide (g < 0) = false := decide_eq_false g0
  by_cases q0 : r * 1000 ≤ g
  · rw [awakeB_high (by omega)]
    go_enter Try.func11, Try.ntmps11
    go_wp2_with (first
      | (go_at_call 8; refine (rgood_yes r o n _ h).mono ?_; rintro e w2 ⟨rfl, hb⟩; replace HB := Lib.hid (HB.out.next hb); obtain ⟨c0, c1, c2, _⟩ := HB.out.cells3; clear hb))
    go_ret
    exact ⟨rfl, HB.out.below⟩
  have d1 : decide (r * 1000 ≤ g) = false := decide_eq_false q0
  by_cases q1 : phaseV r t < o * 1000 + g
  · rw [awakeB_low q1]
    obtain ⟨M, hM⟩ : ∃ M, phaseV r t = M := ⟨_, rfl⟩
    rw [hM] at hb q1
    go_enter Try.func11, Try.ntmps11
    go_wp2_with (first
      | (go_at_call 8; refine (rgood_yes r o n _ h).mono ?_; rintro e w2 ⟨rfl, hb⟩; replace HB := Lib.hid (HB.out.next hb); obtain ⟨c0, c1, c2, _⟩ := HB.out.cells3; clear hb)
      | (go_at_call 14; refine (rphase_any r o n t _ h1 h2 ht).mono ?_; rintro e w2 ⟨rfl, hb⟩; replace HB := Lib.hid (HB.out.next hb); obtain ⟨c0, c1, c2, _⟩ := HB.out.cells3; clear hb))
    go_ret
    exact ⟨rfl, HB.out.below⟩
  by_cases q3 : r * 1000 - g ≤ phaseV r t
  · rw [awakeB_high q3]
    obtain ⟨M, hM⟩ : ∃ M, phaseV r t = M := ⟨_, rfl⟩
    rw [hM] at hb q1 q3
    have d2 : decide (M < o * 1000 + g) = false := decide_eq_false q1
    go_enter Try.func11, Try.ntmps11
    go_wp2_with (first
      | (go_at_call 8; refine (rgood_yes r o n _ h).mono ?_; rintro e w2 ⟨rfl, hb⟩; replace HB := Lib.hid (HB.out.next hb); obtain ⟨c0, c1, c2, _⟩ := HB.out.cells3; clear hb)
      | (go_at_call 14; refine (rphase_any r o n t _ h1 h2 ht).mono ?_; rintro e w2 ⟨rfl, hb⟩; replace HB := Lib.hid (HB.out.next hb); obtain ⟨c0, c1, c2, _⟩ := HB.out.cells3; clear hb))
    go_ret
    exact ⟨rfl, HB.out.below⟩
  · rw [awakeB_no g0 q1 q3]
    obtain ⟨M, hM⟩ : ∃ M, phaseV r t = M := ⟨_, rfl⟩
    rw [hM] at hb q1 q3
    have d2 : decide (M < o * 1000 + g) = false := decide_eq_false q1
    have d3 : decide (r * 1000 - g ≤ M) = false := decide_eq_false q3
    go_enter Try.func11, Try.ntmps11
    go_wp2_with (first
      | (go_at_call 8; refine (rgood_yes r o n _ h).mono ?_; rintro e w2 ⟨rfl, hb⟩; replace HB := Lib.hid (HB.out.next hb); obtain ⟨c0, c1, c2, _⟩ := HB.out.cells3; clear hb)
      | (go_at_call 14; refine (rphase_any r o n t _ h1 h2 ht).mono ?_; rintro e w2 ⟨rfl, hb⟩; replace HB := Lib.hid (HB.out.next hb); obtain ⟨c0, c1, c2, _⟩ := HB.out.cells3; clear hb))
    go_ret
    exact ⟨rfl, HB.out.below⟩
end Go.Proofs.Ythkpalfpohhmoaa
