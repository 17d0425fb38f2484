/- Slopes of entries on a line. -/
import Derived.Test.YtcgnedndfhkgiaaSpJ
import Derived.Test.YtcgnedndfhkgiaaSpF
namespace Go.Proofs.Ytcgnedndfhkgiaa
open Go.RowKit
set_option linter.unusedVariables false

/-- The entry on a line, so far along. -/
def lineE (l o gain of x : Int) : Ent := (l + x * of, o + x * gain, 1)
theorem prod0 {x y m k : Int} (hx : 0 ≤ x ∧ x ≤ m) (hy : 0 ≤ y ∧ y ≤ k) : 0 ≤ x * y ∧ x * y ≤ m * k := by
  have h1 := Int.mul_nonneg hx.1 hy.1
  have h2 := Int.mul_le_mul hx.2 hy.2 hy.1 (by omega)
  exact ⟨h1, h2⟩
theorem line_head {l o gain of x : Int} {z : List Int} (h : z[0]? = some x) : headE (z.map (lineE l o gain of)) = lineE l o gain of x := by
  refine head_of ?_
  simp [h]
theorem line_pt (l o gain of x y : Int) : ptO (lineE l o gain of x) (lineE l o gain of y) = onLine gain of (y - x) := by
  unfold ptO lineE onLine
  dsimp only
  congr 1 <;> grind
theorem line_pts {l o gain of x : Int} {z : List Int} (h : z[0]? = some x) : ptsL (z.map (lineE l o gain of)) = (z.map (· - x)).map (onLine gain of) := by
  unfold ptsL
  rw [line_head h, List.map_map, List.map_map]
  refine List.map_congr_left fun y _ => ?_
  exact line_pt l o gain of x y
theorem gain_le {gain of c e : Int} (h1 : 1 ≤ of) (hc : 0 ≤ c ∧ c ≤ 20) (he : 990 ≤ e) (h : ¬ c * of < max gain (-gain) * e) : -of ≤ gain ∧ gain ≤ of := by
  have hm0 : 0 ≤ max gain (-gain) := by omega
  have k1 := Int.mul_le_mul_of_nonneg_right hc.2 (show 0 ≤ of by omega)
  have k2 := Int.mul_le_mul_of_nonneg_left he hm0
  generalize hX : max gain (-gain) = X at *
  have hx : X ≤ of := by omega
  omega
theorem line_fits {l o gain of x0 xl : Int} {z : List Int} (h2 : 2 ≤ z.length) (h8 : z.length ≤ 8) (hz : ∀ x ∈ z, 0 ≤ x ∧ x ≤ 4000) (ho1 : 1 ≤ of) (ho2 : of ≤ 1000) (hg1 : -of ≤ gain) (hg2 : gain ≤ of)
    (hl1 : 0 ≤ l) (hl2 : l ≤ 1099511627776) (hf1 : -1099511627776 ≤ o) (hf2 : o ≤ 1099511627776) (hx0 : z[0]? = some x0) (hle : ∀ x ∈ z, x0 ≤ x ∧ x ≤ xl) (hd : (xl - x0) * of ≤ 4194304) :
    FitsL (z.map (lineE l o gain of)) := by
  refine ⟨by rwa [List.length_map], by rwa [List.length_map], fun e he => ?_⟩
  obtain ⟨x, hx, rfl⟩ := List.mem_map.1 he
  obtain ⟨a1, a2⟩ := hz x hx
  obtain ⟨b1, b2⟩ := hle x hx
  have p1 := prod0 (x := x) (y := of) (m := 4000) (k := 1000) ⟨a1, a2⟩ ⟨by omega, ho2⟩
  have p2 := prod_bd (x := x) (y := gain) (m := 4000) (k := 1000) ⟨by omega, by omega⟩ ⟨by omega, by omega⟩
  have p3 := Int.mul_le_mul_of_nonneg_right (show x - x0 ≤ xl - x0 by omega) (show 0 ≤ of by omega)
  have p4 := Int.mul_nonneg (show 0 ≤ x - x0 by omega) (show 0 ≤ of by omega)
  have p5 := Int.mul_le_mul_of_nonneg_left hg2 (show 0 ≤ x - x0 by omega)
  have p6 := Int.mul_le_mul_of_nonneg_left hg1 (show 0 ≤ x - x0 by omega)
  rw [Int.mul_neg] at p6
  rw [line_head hx0, line_pt]
  refine ⟨⟨?_, ?_, ?_, ?_, by show (1 : Int) ≤ 1; decide, by show (1 : Int) ≤ 63; decide⟩, ?_⟩
  · unfold lineE; dsimp only; omega
  · unfold lineE; dsimp only; omega
  · unfold lineE; dsimp only; omega
  · unfold lineE; dsimp only; omega
  · unfold Near onLine
    dsimp only
    omega
theorem line_far (d : Int) {l o gain of x0 xl : Int} {z : List Int} (hx0 : z[0]? = some x0) (hxl : xl ∈ z) (hd : 4194304 < (xl - x0) * of) : (ofV d (z.map (lineE l o gain of))).1 = 0 := by
  rw [of_not (fun hf => ?_)]
  have := (hf.each _ (List.mem_map_of_mem hxl)).2
  rw [line_head hx0, line_pt] at this
  unfold Near onLine at this
  dsimp only at this
  omega
theorem line_slope (d : Int) {l o gain of x0 : Int} {z : List Int} (hF : FitsL (z.map (lineE l o gain of))) (h2 : 2 ≤ z.length) (ho1 : 1 ≤ of) (hx0 : z[0]? = some x0) (hr : z.Pairwise (· < ·))
    (h : ¬ 2 * dV d * of < max gain (-gain) * (1000 - dV d)) : 0 < (ofV d (z.map (lineE l o gain of))).2 ∧ (ofV d (z.map (lineE l o gain of))).1 * of = gain * (ofV d (z.map (lineE l o gain of))).2 := by
  have hp := line_pts (l := l) (o := o) (gain := gain) (of := of) hx0
  have hD : 0 < denV ((z.map (· - x0)).map (fun t => (t, t))) := by
    refine den_pos (by simpa using h2) ?_
    refine List.pairwise_map.2 (List.pairwise_map.2 ?_)
    refine hr.imp ?_
    intro a b hab
    show a - x0 < b - x0
    omega
  have hn := line_num gain of (z.map (· - x0))
  have hd := line_den gain of (z.map (· - x0))
  rw [← hp] at hn hd
  generalize hDD : denV ((z.map (· - x0)).map (fun t => (t, t))) = D at *
  obtain ⟨c, hc⟩ : ∃ c, 2 * dV d = c := ⟨_, rfl⟩
  obtain ⟨e, he⟩ : ∃ e, 1000 - dV d = e := ⟨_, rfl⟩
  have hdp : 0 < of * of * D := Int.mul_pos (Int.mul_pos (by omega) (by omega)) hD
  have hpos : 0 < of * D := Int.mul_pos (by omega) hD
  rw [of_is hF (by rw [hd]; omega), hn, hd, hc, he]
  rw [hc, he] at h
  have k1 : gain * e ≤ c * of := by
    have := Int.mul_le_mul_of_nonneg_right (show gain ≤ max gain (-gain) by omega) (show 0 ≤ e by have := dV_bd d; omega)
    omega
  have k2 : -gain * e ≤ c * of := by
    have := Int.mul_le_mul_of_nonneg_right (show -gain ≤ max gain (-gain) by omega) (show 0 ≤ e by have := dV_bd d; omega)
    omega
  have m1 := Int.mul_le_mul_of_nonneg_right k1 (Int.le_of_lt hpos)
  have m2 := Int.mul_le_mul_of_nonneg_right k2 (Int.le_of_lt hpos)
  have hcl : clampS (of * gain * D) (of * of * D) c e = (of * gain * D, of * of * D) := by
    refine clamp_mid ?_ ?_
    · have e1 : c * (of * of * D) = c * of * (of * D) := by grind
      have e2 : of * gain * D * e = gain * e * (of * D) := by grind
      omega
    · have e1 : c * (of * of * D) = c * of * (of * D) := by grind
      have e2 : -(of * gain * D) * e = -gain * e * (of * D) := by grind
      omega
  rw [hcl]
  exact ⟨hdp, by dsimp only; grind⟩
/-- Of a row that rises one by one: the first and the last one are its least and its greatest. -/
theorem rise_ends {z : List Int} {n : Nat} {x0 xl : Int} (hl : z.length = n + 1) (hr : z.Pairwise (· < ·)) (h0 : z[0]? = some x0) (h1 : z[n]? = some xl) : ∀ x ∈ z, x0 ≤ x ∧ x ≤ xl := fun x hx => by
  obtain ⟨i, hi⟩ := List.mem_iff_getElem?.1 hx
  have hp := List.pairwise_iff_getElem.1 hr
  obtain ⟨g0, e0⟩ := List.getElem?_eq_some_iff.1 h0
  obtain ⟨g1, e1⟩ := List.getElem?_eq_some_iff.1 h1
  obtain ⟨gi, ei⟩ := List.getElem?_eq_some_iff.1 hi
  constructor
  · by_cases c : i = 0
    · subst c; omega
    · have := hp 0 i g0 gi (by omega)
      omega
  · by_cases c : i = n
    · subst c; omega
    · have := hp i n gi g1 (by omega)
      omega
theorem rise_list {z : List Int} {n : Nat} (hl : z.length = n) (h : ∀ i x y, i + 1 < n → z[i]? = some x → z[i + 1]? = some y → x < y) : z.Pairwise (· < ·) :=
  pairs_of (R := fun x y : Int => x < y) (fun a b c h h' => Int.lt_trans h h') (fun i x y hx hy => h i x y (by have := (List.getElem?_eq_some_iff.1 hy).1; omega) hx hy)
end Go.Proofs.Ytcgnedndfhkgiaa
