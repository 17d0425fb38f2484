/- What Times of the document's reckoning answers: a product of 128 bits in four parts; for the seats of later layers. -/
import Derived.Test.YtgmeakcfiaopcaaGreatMdO
import Derived.Handy
namespace Go.Proofs.YtgmeakcfiaopcaaGreat
open Go.RowKit
/-- The world while Times runs: the four blocks that it has made, and what they hold. -/
structure TW (w W : World) (x0 x1 y0 y1 v0 v1 v2 v3 : Int) : Prop where
  cx0 : W.cell? ⟨w.heap.size + 1, 0, none⟩ = some (.int .u64 x0)
  cx1 : W.cell? ⟨w.heap.size + 1, 1, none⟩ = some (.int .u64 x1)
  cy0 : W.cell? ⟨w.heap.size + 1 + 1, 0, none⟩ = some (.int .u64 y0)
  cy1 : W.cell? ⟨w.heap.size + 1 + 1, 1, none⟩ = some (.int .u64 y1)
  c0 : W.cell? ⟨w.heap.size + 1 + 1 + 1, 0, none⟩ = some (.int .u64 v0)
  c1 : W.cell? ⟨w.heap.size + 1 + 1 + 1, 1, none⟩ = some (.int .u64 v1)
  c2 : W.cell? ⟨w.heap.size + 1 + 1 + 1, 2, none⟩ = some (.int .u64 v2)
  c3 : W.cell? ⟨w.heap.size + 1 + 1 + 1, 3, none⟩ = some (.int .u64 v3)
  r0 : W.cell? ⟨w.heap.size, 0, none⟩ = some (.int .u64 0)
  r1 : W.cell? ⟨w.heap.size, 1, none⟩ = some (.int .u64 0)
  r2 : W.cell? ⟨w.heap.size, 2, none⟩ = some (.int .u64 0)
  r3 : W.cell? ⟨w.heap.size, 3, none⟩ = some (.int .u64 0)
  f0 : W.frozen? ⟨w.heap.size + 1 + 1 + 1, 0, none⟩ = false
  f1 : W.frozen? ⟨w.heap.size + 1 + 1 + 1, 1, none⟩ = false
  f2 : W.frozen? ⟨w.heap.size + 1 + 1 + 1, 2, none⟩ = false
  f3 : W.frozen? ⟨w.heap.size + 1 + 1 + 1, 3, none⟩ = false
  g0 : W.frozen? ⟨w.heap.size, 0, none⟩ = false
  g1 : W.frozen? ⟨w.heap.size, 1, none⟩ = false
  g2 : W.frozen? ⟨w.heap.size, 2, none⟩ = false
  g3 : W.frozen? ⟨w.heap.size, 3, none⟩ = false
  gr : Below w.heap.size w W
theorem TW.drewN {w W : World} {x0 x1 y0 y1 v0 v1 v2 v3 : Int} (T : TW w W x0 x1 y0 y1 v0 v1 v2 v3) (n : Nat) : TW w (W.drewN n) x0 x1 y0 y1 v0 v1 v2 v3 := by
  obtain ⟨a1, a2, a3, a4, a5, a6, a7, a8, a9, a10, a11, a12, a13, a14, a15, a16, a17, a18, a19, a20, G⟩ := T
  exact ⟨a1, a2, a3, a4, a5, a6, a7, a8, a9, a10, a11, a12, a13, a14, a15, a16, a17, a18, a19, a20, below_drewN G n⟩
theorem TW.start (w : World) (x0 x1 y0 y1 : Int) : TW w ((((w.alloc (.cells #[.int .u64 0, .int .u64 0, .int .u64 0, .int .u64 0] 196)).alloc (.cells #[.int .u64 x0, .int .u64 x1] 203)).alloc (.cells #[.int .u64 y0, .int .u64 y1] 203)).alloc (.cells #[.int .u64 0, .int .u64 0, .int .u64 0, .int .u64 0] 196)) x0 x1 y0 y1 0 0 0 0 := by
  constructor
  all_goals first | (go_simp; done) | exact ((((Below.refl _ _).alloc (Nat.le_refl _) _).alloc (by simp) _).alloc (by simp; omega) _).alloc (by simp; omega) _
theorem TW.set0 {w W : World} {x0 x1 y0 y1 v0 v1 v2 v3 : Int} (T : TW w W x0 x1 y0 y1 v0 v1 v2 v3) (x : Int) : TW w (W.setCell ⟨w.heap.size + 1 + 1 + 1, 0, none⟩ (.int .u64 x)) x0 x1 y0 y1 x v1 v2 v3 := by
  obtain ⟨a1, a2, a3, a4, a5, a6, a7, a8, a9, a10, a11, a12, a13, a14, a15, a16, a17, a18, a19, a20, G⟩ := T
  constructor
  all_goals first | (rw [World.frozen?_setCell]; assumption) | (exact World.cell?_setCell_same _ _ _ (by assumption)) | (rw [World.cell?_setCell_other _ _ _ _ (by simp)]; assumption) | exact G.setCell (by show w.heap.size ≤ w.heap.size + 1 + 1 + 1; omega) _
theorem TW.set1 {w W : World} {x0 x1 y0 y1 v0 v1 v2 v3 : Int} (T : TW w W x0 x1 y0 y1 v0 v1 v2 v3) (x : Int) : TW w (W.setCell ⟨w.heap.size + 1 + 1 + 1, 1, none⟩ (.int .u64 x)) x0 x1 y0 y1 v0 x v2 v3 := by
  obtain ⟨a1, a2, a3, a4, a5, a6, a7, a8, a9, a10, a11, a12, a13, a14, a15, a16, a17, a18, a19, a20, G⟩ := T
  constructor
  all_goals first | (rw [World.frozen?_setCell]; assumption) | (exact World.cell?_setCell_same _ _ _ (by assumption)) | (rw [World.cell?_setCell_other _ _ _ _ (by simp)]; assumption) | exact G.setCell (by show w.heap.size ≤ w.heap.size + 1 + 1 + 1; omega) _
theorem TW.set2 {w W : World} {x0 x1 y0 y1 v0 v1 v2 v3 : Int} (T : TW w W x0 x1 y0 y1 v0 v1 v2 v3) (x : Int) : TW w (W.setCell ⟨w.heap.size + 1 + 1 + 1, 2, none⟩ (.int .u64 x)) x0 x1 y0 y1 v0 v1 x v3 := by
  obtain ⟨a1, a2, a3, a4, a5, a6, a7, a8, a9, a10, a11, a12, a13, a14, a15, a16, a17, a18, a19, a20, G⟩ := T
  constructor
  all_goals first | (rw [World.frozen?_setCell]; assumption) | (exact World.cell?_setCell_same _ _ _ (by assumption)) | (rw [World.cell?_setCell_other _ _ _ _ (by simp)]; assumption) | exact G.setCell (by show w.heap.size ≤ w.heap.size + 1 + 1 + 1; omega) _
theorem TW.set3 {w W : World} {x0 x1 y0 y1 v0 v1 v2 v3 : Int} (T : TW w W x0 x1 y0 y1 v0 v1 v2 v3) (x : Int) : TW w (W.setCell ⟨w.heap.size + 1 + 1 + 1, 3, none⟩ (.int .u64 x)) x0 x1 y0 y1 v0 v1 v2 x := by
  obtain ⟨a1, a2, a3, a4, a5, a6, a7, a8, a9, a10, a11, a12, a13, a14, a15, a16, a17, a18, a19, a20, G⟩ := T
  constructor
  all_goals first | (rw [World.frozen?_setCell]; assumption) | (exact World.cell?_setCell_same _ _ _ (by assumption)) | (rw [World.cell?_setCell_other _ _ _ _ (by simp)]; assumption) | exact G.setCell (by show w.heap.size ≤ w.heap.size + 1 + 1 + 1; omega) _
set_option maxHeartbeats 4000000 in
theorem times_any (a b : Int) (w : World) (ha : 0 ≤ a) (ha' : a ≤ 9223372036854775808) (hb : 0 ≤ b) (hb' : b ≤ 9223372036854775808) :
    Calls Tryz.prog 105 #[.int .u64 a, .int .u64 b] w fun e w' => ∃ p0 p1 p2 p3 : Int, (P32 p0 ∧ P32 p1 ∧ P32 p2 ∧ P32 p3 ∧ wide p0 p1 p2 p3 = a * b) ∧
      e = .returned (.agg #[.int .u64 p0, .int .u64 p1, .int .u64 p2, .int .u64 p3]) ∧ Below w.heap.size w w' := by
  have e1 := and32 a ha (by omega)
  have e2 := and32 b hb (by omega)
  have pp := prod_parts a b
  obtain ⟨x0, hx0⟩ : ∃ x, a % 4294967296 = x := ⟨_, rfl⟩
  obtain ⟨x1, hx1⟩ : ∃ x, a / 4294967296 = x := ⟨_, rfl⟩
  obtain ⟨y0, hy0⟩ : ∃ x, b % 4294967296 = x := ⟨_, rfl⟩
  obtain ⟨y1, hy1⟩ : ∃ x, b / 4294967296 = x := ⟨_, rfl⟩
  rw [hx0] at e1 pp
  rw [hy0] at e2 pp
  rw [hx1, hy1] at pp
  have bx0 : 0 ≤ x0 ∧ x0 ≤ 4294967295 := by omega
  have bx1 : 0 ≤ x1 ∧ x1 ≤ 4294967295 := by omega
  have by0 : 0 ≤ y0 ∧ y0 ≤ 4294967295 := by omega
  have by1 : 0 ≤ y1 ∧ y1 ≤ 4294967295 := by omega
  obtain ⟨t00, t01⟩ := mul32 x0 y0 bx0.1 bx0.2 by0.1 by0.2
  obtain ⟨u10, u11⟩ := mul32 x0 y1 bx0.1 bx0.2 by1.1 by1.2
  obtain ⟨u20, u21⟩ := mul32 x1 y0 bx1.1 bx1.2 by0.1 by0.2
  obtain ⟨u30, u31⟩ := mul32 x1 y1 bx1.1 bx1.2 by1.1 by1.2
  obtain ⟨t0, ht0⟩ : ∃ x, x0 * y0 = x := ⟨_, rfl⟩
  obtain ⟨u1, hu1⟩ : ∃ x, x0 * y1 = x := ⟨_, rfl⟩
  obtain ⟨u2, hu2⟩ : ∃ x, x1 * y0 = x := ⟨_, rfl⟩
  obtain ⟨u3, hu3⟩ : ∃ x, x1 * y1 = x := ⟨_, rfl⟩
  rw [ht0] at t00 t01 pp
  rw [hu1] at u10 u11 pp
  rw [hu2] at u20 u21 pp
  rw [hu3] at u30 u31 pp
  have m0 := and32 t0 t00 (by omega)
  obtain ⟨o0, ho0⟩ : ∃ x, t0 % 4294967296 = x := ⟨_, rfl⟩
  obtain ⟨c0, hc0⟩ : ∃ x, t0 / 4294967296 = x := ⟨_, rfl⟩
  obtain ⟨t1, ht1⟩ : ∃ x, u1 + c0 = x := ⟨_, rfl⟩
  have m1 := and32 t1 (by omega) (by omega)
  obtain ⟨o1, ho1⟩ : ∃ x, t1 % 4294967296 = x := ⟨_, rfl⟩
  obtain ⟨c1, hc1⟩ : ∃ x, t1 / 4294967296 = x := ⟨_, rfl⟩
  obtain ⟨t2, ht2⟩ : ∃ x, o1 + u2 = x := ⟨_, rfl⟩
  have m2 := and32 t2 (by omega) (by omega)
  obtain ⟨o2, ho2⟩ : ∃ x, t2 % 4294967296 = x := ⟨_, rfl⟩
  obtain ⟨c2, hc2⟩ : ∃ x, t2 / 4294967296 = x := ⟨_, rfl⟩
  obtain ⟨v3, hv3⟩ : ∃ x, c1 + u3 = x := ⟨_, rfl⟩
  obtain ⟨t3, ht3⟩ : ∃ x, v3 + c2 = x := ⟨_, rfl⟩
  have m3 := and32 t3 (by omega) (by omega)
  obtain ⟨o3, ho3⟩ : ∃ x, t3 % 4294967296 = x := ⟨_, rfl⟩
  obtain ⟨c3, hc3⟩ : ∃ x, t3 / 4294967296 = x := ⟨_, rfl⟩
  rw [ho0] at m0
  rw [ho1] at m1
  rw [ho2] at m2
  rw [ho3] at m3
  have R : Hid ((P32 o0 ∧ P32 o2 ∧ P32 o3 ∧ P32 c3 ∧ wide o0 o2 o3 c3 = a * b)) := by
    have : P32 o0 ∧ P32 o2 ∧ P32 o3 ∧ P32 c3 ∧ wide o0 o2 o3 c3 = a * b := by
      unfold P32 wide
      refine ⟨by omega, by omega, by omega, by omega, ?_⟩
      rw [pp]; omega
    exact Lib.hid this
  clear pp
  obtain ⟨bx00, bx01⟩ := bx0
  have bc0 : 0 ≤ c0 := by omega
  have bo1 : 0 ≤ o1 := by omega
  have bc1 : 0 ≤ c1 := by omega
  have bc2 : 0 ≤ c2 := by omega
  have bt1 : t1 ≤ 18446744073709551615 := by omega
  have bt2 : t2 ≤ 18446744073709551615 := by omega
  have bt3 : t3 ≤ 18446744073709551615 := by omega
  have zt1 : 0 ≤ t1 := by omega
  have zt2 : 0 ≤ t2 := by omega
  have zt3 : 0 ≤ t3 := by omega
  have zv3 : 0 ≤ v3 := by omega
  have bv3 : v3 ≤ 18446744073709551615 := by omega
  have bc3 : 0 ≤ c3 := by omega
  have bc3' : c3 ≤ 4294967295 := by omega
  have bc1' : c1 ≤ 4294967295 := by omega
  go_enter Tryz.func105, Tryz.ntmps105
  go_wp2
  have T0 := TW.start w x0 x1 y0 y1
  generalize (((w.alloc (.cells #[.int .u64 0, .int .u64 0, .int .u64 0, .int .u64 0] 196)).alloc (.cells #[.int .u64 x0, .int .u64 x1] 203)).alloc (.cells #[.int .u64 y0, .int .u64 y1] 203)).alloc (.cells #[.int .u64 0, .int .u64 0, .int .u64 0, .int .u64 0] 196) = W0 at T0 ⊢
  have TT := T0
  obtain ⟨a1, a2, a3, a4, a5, a6, a7, a8, a9, a10, a11, a12, a13, a14, a15, a16, a17, a18, a19, a20, G⟩ := TT
  refine wp_loop_rounds 3 ?_
  rw [rounds_succ]
  go_wp2
  refine wp_loop_rounds 3 ?_
  rw [rounds_succ]
  go_wp2
  go_quiet (fail)
  go_wp2
  clear a1 a2 a3 a4 a5 a6 a7 a8 a9 a10 a11 a12 a13 a14 a15 a16 a17 a18 a19 a20 G
  have T1 := (T0.drewN nq).set0 o0
  generalize (W0.drewN nq).setCell ⟨w.heap.size + 1 + 1 + 1, 0, none⟩ (.int .u64 o0) = W1 at T1 ⊢
  clear T0
  have TT := T1
  obtain ⟨a1, a2, a3, a4, a5, a6, a7, a8, a9, a10, a11, a12, a13, a14, a15, a16, a17, a18, a19, a20, G⟩ := TT
  rw [rounds_succ]
  go_wp2
  go_quiet (fail)
  go_wp2
  clear a1 a2 a3 a4 a5 a6 a7 a8 a9 a10 a11 a12 a13 a14 a15 a16 a17 a18 a19 a20 G
  have T2 := (T1.drewN nq).set1 o1
  generalize (W1.drewN nq).setCell ⟨w.heap.size + 1 + 1 + 1, 1, none⟩ (.int .u64 o1) = W2 at T2 ⊢
  clear T1
  have TT := T2
  obtain ⟨a1, a2, a3, a4, a5, a6, a7, a8, a9, a10, a11, a12, a13, a14, a15, a16, a17, a18, a19, a20, G⟩ := TT
  rw [rounds_succ]
  go_wp2
  clear a1 a2 a3 a4 a5 a6 a7 a8 a9 a10 a11 a12 a13 a14 a15 a16 a17 a18 a19 a20 G
  have T3 := T2.set2 c1
  generalize W2.setCell ⟨w.heap.size + 1 + 1 + 1, 2, none⟩ (.int .u64 c1) = W3 at T3 ⊢
  clear T2
  have TT := T3
  obtain ⟨a1, a2, a3, a4, a5, a6, a7, a8, a9, a10, a11, a12, a13, a14, a15, a16, a17, a18, a19, a20, G⟩ := TT
  rw [rounds_succ]
  go_wp2
  refine wp_loop_rounds 3 ?_
  rw [rounds_succ]
  go_wp2
  go_quiet (fail)
  go_wp2
  clear a1 a2 a3 a4 a5 a6 a7 a8 a9 a10 a11 a12 a13 a14 a15 a16 a17 a18 a19 a20 G
  have T4 := (T3.drewN nq).set1 o2
  generalize (W3.drewN nq).setCell ⟨w.heap.size + 1 + 1 + 1, 1, none⟩ (.int .u64 o2) = W4 at T4 ⊢
  clear T3
  have TT := T4
  obtain ⟨a1, a2, a3, a4, a5, a6, a7, a8, a9, a10, a11, a12, a13, a14, a15, a16, a17, a18, a19, a20, G⟩ := TT
  rw [rounds_succ]
  go_wp2
  go_quiet (fail)
  go_wp2
  clear a1 a2 a3 a4 a5 a6 a7 a8 a9 a10 a11 a12 a13 a14 a15 a16 a17 a18 a19 a20 G
  have T5 := (T4.drewN nq).set2 o3
  generalize (W4.drewN nq).setCell ⟨w.heap.size + 1 + 1 + 1, 2, none⟩ (.int .u64 o3) = W5 at T5 ⊢
  clear T4
  have TT := T5
  obtain ⟨a1, a2, a3, a4, a5, a6, a7, a8, a9, a10, a11, a12, a13, a14, a15, a16, a17, a18, a19, a20, G⟩ := TT
  rw [rounds_succ]
  go_wp2
  clear a1 a2 a3 a4 a5 a6 a7 a8 a9 a10 a11 a12 a13 a14 a15 a16 a17 a18 a19 a20 G
  have T6 := T5.set3 c3
  generalize W5.setCell ⟨w.heap.size + 1 + 1 + 1, 3, none⟩ (.int .u64 c3) = W6 at T6 ⊢
  clear T5
  have TT := T6
  obtain ⟨a1, a2, a3, a4, a5, a6, a7, a8, a9, a10, a11, a12, a13, a14, a15, a16, a17, a18, a19, a20, G⟩ := TT
  rw [rounds_succ]
  go_wp2
  refine bodyPost_ret (v := .agg #[.int .u64 o0, .int .u64 o2, .int .u64 o3, .int .u64 c3]) (by simp [results, Tryz.results105, go_sem, a9, a10, a11, a12]) rfl ⟨o0, o2, o3, c3, R.out, rfl, ?_⟩
  exact (((G.setCell (p := ⟨w.heap.size, 0, none⟩) (Nat.le_refl _) _).setCell (p := ⟨w.heap.size, 1, none⟩) (Nat.le_refl _) _).setCell (p := ⟨w.heap.size, 2, none⟩) (Nat.le_refl _) _).setCell (p := ⟨w.heap.size, 3, none⟩) (Nat.le_refl _) _
end Go.Proofs.YtgmeakcfiaopcaaGreat
