/- Package flood: New, Time. -/
import Derived.Test.YtgmeakcfiaopcaaGreatFlD
namespace Go.Proofs.YtgmeakcfiaopcaaGreat
open Go.RowKit
set_option linter.unusedVariables false
set_option linter.unusedSimpArgs false

theorem fo_new {w : World} {B g b n : Nat} {me tmo ign need drift x : Int} (h : En w B g b n (newS me tmo ign x)) (hB : B ≤ w.heap.size) :
    Fo (w.alloc (.cells (tcs (preV g (newF me tmo ign need drift x)) (ptV 0 0 0) (List.replicate 8 (0, 0, 0)) 0).toArray 89)) B w.heap.size g b n (newF me tmo ign need drift x) :=
  ⟨h.below (below_alloc _ _), hB, List.replicate 8 (0, 0, 0), rfl, rfl, Nat.zero_le _, rfl, Holds.new _ _ _⟩
set_option maxHeartbeats 1000000 in
set_option maxRecDepth 100000 in
theorem fnew_no (w : World) (me tmo ign need drift : Int) (h : fgoodB me tmo ign need drift = false) : Calls Tryz.prog 7 #[.int .i64 me, .agg #[.int .i64 tmo, .int .i64 ign, .int .i64 need, .int .i64 drift]] w fun e w' => e = .returned (.tuple #[.pointer none, .int .i64 1]) ∧ Below w.heap.size w w' := by
  have HX := Lib.hid (Box.start w 37 #[.int .i64 tmo, .int .i64 ign, .int .i64 need, .int .i64 drift])
  have hgood := fun W => frules_any W tmo ign need drift
  have hcase : frulesB tmo ign need drift = false ∨ frulesB tmo ign need drift = true ∧ goodB me tmo ign = false := by
    unfold fgoodB at h
    unfold frulesB
    cases hr : rulesB tmo ign with
    | false => exact .inl rfl
    | true =>
      cases hd : decide (1 ≤ need ∧ need ≤ 8 ∧ 0 ≤ drift ∧ drift ≤ 10) with
      | false => exact .inl rfl
      | true =>
        rw [hd] at h
        exact .inr ⟨rfl, by simpa using h⟩
  rcases hcase with h1 | ⟨h1, h2⟩
  · simp only [h1] at hgood
    clear h h1
    go_enter Tryz.func7, Tryz.ntmps7
    go_wp2_with (go_at_call 24; refine (hgood _).mono ?_; rintro e w2 ⟨rfl, hb2⟩; have hx2 := HX.out.next hb2)
    go_ret2
    exact ⟨rfl, hx2.below⟩
  · simp only [h1] at hgood
    have hnew := fun W => enew_no W me tmo ign h2
    clear h h1 h2
    go_enter Tryz.func7, Tryz.ntmps7
    go_wp2_with (first
      | (go_at_call 24; refine (hgood _).mono ?_; rintro e w2 ⟨rfl, hb2⟩; have hx2 := HX.out.next hb2; have HX2 := Lib.hid hx2; have x0 := hx2.holds.cell 0; have x1 := hx2.holds.cell 1; clear hx2 hb2)
      | (go_at_call 25; refine (hnew _).mono ?_; rintro e w3 ⟨rfl, hb3⟩; have HX3 := Lib.hid (HX2.out.next hb3)))
    go_ret2
    exact ⟨rfl, HX3.out.below⟩
set_option maxHeartbeats 1000000 in
set_option maxRecDepth 100000 in
theorem fnew_yes (w : World) (me tmo ign need drift : Int) (h : fgoodB me tmo ign need drift = true) : Calls Tryz.prog 7 #[.int .i64 me, .agg #[.int .i64 tmo, .int .i64 ign, .int .i64 need, .int .i64 drift]] w fun e w' => ∃ gf g b, e = .returned (.tuple #[.pointer (some ⟨gf, 0, none⟩), .int .i64 0]) ∧ Fo w' w.heap.size gf g b 0 (newF me tmo ign need drift 0) ∧ Below w.heap.size w w' := by
  have HX := Lib.hid (Box.start w 37 #[.int .i64 tmo, .int .i64 ign, .int .i64 need, .int .i64 drift])
  have hgood := fun W => frules_any W tmo ign need drift
  unfold fgoodB at h
  simp only [Bool.and_eq_true] at h
  obtain ⟨h1, h2⟩ := h
  have hr : frulesB tmo ign need drift = true := by
    unfold frulesB
    rw [h2, show rulesB tmo ign = true from decide_eq_true (by have := (good_iff _ _ _).1 h1; omega)]
    rfl
  simp only [hr] at hgood
  have hnew := fun W => enew_yes W me tmo ign h1
  clear h1 h2 hr
  go_enter Tryz.func7, Tryz.ntmps7
  go_wp2_with (first
    | (go_at_call 24; refine (hgood _).mono ?_; rintro e w2 ⟨rfl, hb2⟩; have hx2 := HX.out.next hb2; have HX2 := Lib.hid hx2; have x0 := hx2.holds.cell 0; have x1 := hx2.holds.cell 1; clear hx2 hb2)
    | (go_at_call 25; refine (hnew _).mono ?_; rintro e w3 ⟨g, b, rfl, hE, hb3⟩; have HE := Lib.hid hE; have hx3 := HX2.out.next hb3; have HX3 := Lib.hid hx3; have y0 := hx3.holds.cell 0; have y1 := hx3.holds.cell 1; have y2 := hx3.holds.cell 2; have y3 := hx3.holds.cell 3; clear hE hb3 hx3))
  go_ret2
  have hlt := HX2.out.lt
  have hlt3 := HX3.out.lt
  have hE := HE.out.at (B' := w.heap.size) (by have := HE.out.newer.1; omega) (by have := HE.out.newer.2; omega)
  exact ⟨_, g, b, rfl, fo_new hE (Nat.le_of_lt hlt3), (HX3.out.alloc _).below⟩
end Go.Proofs.YtgmeakcfiaopcaaGreat
