/- Package civil: the date of a number; the document's next date. -/
import Derived.Test.YtcknllkbeadmlaaDoorCvB
import Derived.Test.YtcknllkbeadmlaaDoorTbM
import Derived.Deep.CutRange
import Derived.Deep.CutBlock
namespace Go.Proofs.YtcknllkbeadmlaaDoor
open Go.RowKit
set_option linter.unusedSimpArgs false
set_option linter.unusedVariables false

theorem date_size : (Tryd.prog.info? 33).map (·.size) = some 3 := by kernel_rfl
/-- The end of a call that answers a date, which lies in a variable of its own, and a bool. -/
def GaveDate (y m d : Int) (ok : Bool) (e : Ending) : Prop := e = .returned (.tuple #[.agg #[.int .i64 y, .int .i64 m, .int .i64 d], .bool ok])
theorem of_no (n : Int) (w : World) (h : n < -719162 ∨ 2932896 < n) :
    Calls Tryd.prog 25 #[.int .i64 n] w fun e w' => GaveDate 0 0 0 false e ∧ Below w.heap.size w w' := by
  have hb := Holds.new w 33 #[.int .i64 0, .int .i64 0, .int .i64 0]
  have HH := Lib.hid hb
  have c0 := hb.cell 0
  have c1 := hb.cell 1
  have c2 := hb.cell 2
  have f0 := hb.soft 0
  have f1 := hb.soft 1
  have f2 := hb.soft 2
  have HB := Lib.hid (below_alloc w (.cells #[.int .i64 0, .int .i64 0, .int .i64 0] 33))
  clear hb
  by_cases hl : n < -719162
  · clear h
    go_enter Tryd.func25, Tryd.ntmps25
    go_wp2
    refine bodyPost_ret (results_row_tmp rfl _ _ w.heap.size 33 [.int .i64 0, .int .i64 0, .int .i64 0] _ _ rfl HH.out Tryd.underlying33 rfl date_size rfl) rfl ?_
    exact ⟨rfl, HB.out⟩
  · have hg : 2932896 < n := by omega
    have d0 : decide (n < -719162) = false := decide_eq_false hl
    clear h
    go_enter Tryd.func25, Tryd.ntmps25
    go_wp2
    refine bodyPost_ret (results_row_tmp rfl _ _ w.heap.size 33 [.int .i64 0, .int .i64 0, .int .i64 0] _ _ rfl HH.out Tryd.underlying33 rfl date_size rfl) rfl ?_
    exact ⟨rfl, HB.out⟩
theorem of_yes (n : Int) (w : World) (h1 : -719162 ≤ n) (h2 : n ≤ 2932896) :
    Calls Tryd.prog 25 #[.int .i64 n] w fun e w' => (∃ y m d, CanD y m d ∧ numV y m d = n ∧ GaveDate y m d true e) ∧ Below w.heap.size w w' := by
  have HB := Lib.hid (Box.start w 33 #[.int .i64 0, .int .i64 0, .int .i64 0])
  have d0 : decide (n < -719162) = false := decide_eq_false (by omega)
  have d1 : decide (2932896 < n) = false := decide_eq_false (by omega)
  have e0 : n - -719162 = n + 719162 := by omega
  obtain ⟨L, hL⟩ : ∃ L, n + 719162 = L := ⟨_, rfl⟩
  rw [hL] at e0
  have l1 : 0 ≤ L := by omega
  have l2 : L ≤ 3652058 := by omega
  have HL := Lib.hid hL
  have e1 := IntWalk.i64_in L (by omega)
  have e2 := tdiv_of l1 366
  have e3 := IntWalk.i64_in (L / 366) (by omega)
  have e4 := IntWalk.i64_in (L / 366 + 1) (by omega)
  clear hL
  go_enter Tryd.func25, Tryd.ntmps25
  go_wp2
  have hq : aheadV (L / 366 + 1) ≤ L := by unfold aheadV; omega
  have hq2 : L / 366 + 1 ≤ 9999 := by omega
  have HQ := Lib.hid hq
  have HQ2 := Lib.hid hq2
  clear hq hq2 d0 d1 e0 e1 e2 e3 e4
  go_loopw [5] (fun i wr => ∃ y : Int, 1 ≤ y ∧ y ≤ 9999 ∧ aheadV y ≤ L ∧ i = .int .i64 y ∧ Box w 33 #[.int .i64 0, .int .i64 0, .int .i64 0] wr) (fun i _ => 10000 - (intOf i).toNat)
  case atStart => exact ⟨L / 366 + 1, by omega, HQ2.out, HQ.out, rfl, HB.out⟩
  case round =>
    clear HQ HQ2
    obtain ⟨y, y1, y2, ya, rfl, hbx⟩ := hrel
    have HX := Lib.hid hbx
    clear hbx
    have g1 := IntWalk.i64_in (y + 1) (by omega)
    obtain ⟨A1, hA1⟩ : ∃ A, aheadV (y + 1) = A := ⟨_, rfl⟩
    have HA1 := Lib.hid hA1
    by_cases hlt : A1 ≤ L
    · have y3 : y + 1 ≤ 9999 := by
        refine Classical.byContradiction fun hc => ?_
        have e : y + 1 = 10000 := by omega
        rw [e] at hA1
        have : aheadV 10000 = 3652059 := by decide
        omega
      clear hA1
      go_wp2_with (go_at_call 45; refine (ahead_any (y + 1) _ (by omega) (by omega)).mono ?_; rintro e wx ⟨rfl, rfl⟩; rw [HA1.out])
      go_roundw
      case rel => exact ⟨y + 1, by omega, y3, by rw [HA1.out]; exact hlt, rfl, HX.out⟩
      case measure => simp [intOf]; omega
    · have d2 : decide (A1 ≤ L) = false := decide_eq_false hlt
      have yf := year_full y
      rw [hA1] at yf
      obtain ⟨A, hA⟩ : ∃ A, aheadV y = A := ⟨_, rfl⟩
      have HA := Lib.hid hA
      rw [hA] at ya yf
      have m0 := months_nonneg y 12
      obtain ⟨M12, hM12⟩ : ∃ M, monthsV y 12 = M := ⟨_, rfl⟩
      have HM12 := Lib.hid hM12
      rw [hM12] at yf
      have a0 := ahead_bd (y := y) y1 (by omega)
      rw [hA] at a0
      have g2 := IntWalk.i64_in (L - A) (by omega)
      obtain ⟨D, hD⟩ : ∃ D, L - A = D := ⟨_, rfl⟩
      have HD := Lib.hid hD
      rw [hD] at g2
      have dd1 : 0 ≤ D := by omega
      have dd3 : D ≤ 3652058 := by omega
      have dd2 : D < M12 := by omega
      clear hA1 hM12 m0
      go_wp2_with (first
        | (go_at_call 45; with_reducible refine (ahead_any (y + 1) _ (by omega) (by omega)).mono ?_; rintro e wx ⟨rfl, rfl⟩; rw [HA1.out])
        | (go_at_call 45; with_reducible refine (ahead_any y _ (by omega) (by omega)).mono ?_; rintro e wx ⟨rfl, rfl⟩; rw [HA.out]))
      clear hD hA d2 hlt yf
      go_loopw [4, 6] (fun l i wr => ∃ k : Nat, k ≤ 11 ∧ monthsV y k ≤ D ∧ l = .int .i64 (D - monthsV y k) ∧ i = .int .i64 ((k : Int) + 1) ∧ Box w 33 #[.int .i64 0, .int .i64 0, .int .i64 0] wr) (fun _ i _ => 13 - (intOf i).toNat)
      case atStart => exact ⟨0, by omega, dd1, by show _ = Value.int .i64 (D - 0); rw [Int.sub_zero], rfl, HX.out⟩
      case round =>
        obtain ⟨k, hk, mk, rfl, rfl, hbx⟩ := hrel
        have HY := Lib.hid hbx
        have hh := hbx.holds
        have c0 := hh.cell 0
        have c1 := hh.cell 1
        have c2 := hh.cell 2
        have f0 := hh.soft 0
        have f1 := hh.soft 1
        have f2 := hh.soft 2
        clear hh hbx
        have hn := months_next y k
        have dd := days_bd y ((k : Int) + 1)
        have mz := months_nonneg y k
        have ml := months_le y (j := k) (k := 12) (by omega)
        rw [HM12.out] at ml
        obtain ⟨M, hM⟩ : ∃ M, monthsV y k = M := ⟨_, rfl⟩
        obtain ⟨E, hE⟩ : ∃ D, daysV y ((k : Int) + 1) = D := ⟨_, rfl⟩
        rw [hM] at hn mk mz ml
        rw [hE] at hn dd
        have HM := Lib.hid hM
        have HE := Lib.hid hE
        have HN := Lib.hid hn
        simp only [hM]
        by_cases hge : E ≤ D - M
        · have k11 : k + 1 ≤ 11 := by
            refine Classical.byContradiction fun hc => ?_
            have e : k + 1 = 12 := by omega
            rw [e, HM12.out] at hn
            omega
          clear hM hE hn ml
          have f3 := IntWalk.i64_in (D - M - E) (by omega)
          have f4 := IntWalk.i64_in ((k : Int) + 1 + 1) (by omega)
          go_wp2_with (go_at_call 46; refine (days_any y _ _ (by omega)).mono ?_; rintro e wx ⟨rfl, rfl⟩; rw [HE.out])
          go_roundw
          case rel => exact ⟨k + 1, k11, by rw [HN.out]; omega, by rw [HN.out, Int.sub_sub], by go_num, HY.out⟩
          case measure => simp [intOf]; omega
        · have d3 : decide (E ≤ D - M) = false := decide_eq_false hge
          clear hM hE hn ml
          have f3 := IntWalk.i64_in (D - M + 1) (by omega)
          go_wp2_with (go_at_call 46; refine (days_any y _ _ (by omega)).mono ?_; rintro e wx ⟨rfl, rfl⟩; rw [HE.out])
          refine bodyPost_ret (results_row_tmp rfl _ _ w.heap.size 33 [.int .i64 y, .int .i64 ((k : Int) + 1), .int .i64 (D - M + 1)] _ _ rfl (((HY.out.holds.put 0 _).put 1 _).put 2 _) Tryd.underlying33 rfl date_size rfl) rfl ?_
          refine ⟨⟨y, (k : Int) + 1, D - M + 1, ⟨y1, y2, by omega, by omega, by omega, by rw [HE.out]; omega⟩, ?_, rfl⟩, ?_⟩
          · unfold numV
            have ek : ((k : Int) + 1 - 1).toNat = k := by omega
            rw [ek, HM.out, HA.out]
            have := HD.out
            have := HL.out
            omega
          · exact ((HY.out.below.setCell (Nat.le_refl _) _).setCell (Nat.le_refl _) _).setCell (Nat.le_refl _) _
theorem rdate_size : (Tryd.prog.info? 26).map (·.size) = some 3 := by kernel_rfl
/-- The document's Next, under way: its date in a block of its own, what it answers in the next. -/
structure N2 (w : World) (a b c x y z : Int) (W : World) : Prop where
  box : Holds W w.heap.size 26 #[.int .i64 a, .int .i64 b, .int .i64 c]
  res : Holds W (w.heap.size + 1) 26 #[.int .i64 x, .int .i64 y, .int .i64 z]
  below : Below w.heap.size w W
section
variable {w W : World} {a b c x y z : Int}
theorem N2.start (w : World) (a b c : Int) : N2 w a b c 0 0 0 ((w.alloc (.cells #[.int .i64 a, .int .i64 b, .int .i64 c] 26)).alloc (.cells #[.int .i64 0, .int .i64 0, .int .i64 0] 26)) := by
  have e := size_alloc w (.cells #[.int .i64 a, .int .i64 b, .int .i64 c] 26)
  refine ⟨(Holds.new w _ _).alloc _, ?_, ((below_alloc w _).trans ((below_alloc _ _).mono (by rw [e]; omega)))⟩
  have h := Holds.new (w.alloc (.cells #[.int .i64 a, .int .i64 b, .int .i64 c] 26)) 26 #[.int .i64 0, .int .i64 0, .int .i64 0]
  rw [e] at h
  exact h
theorem N2.drewN (h : N2 w a b c x y z W) (n : Nat) : N2 w a b c x y z (W.drewN n) := ⟨h.box.drewN n, h.res.drewN n, below_drewN h.below n⟩
theorem N2.p0 (h : N2 w a b c x y z W) (v : Int) : N2 w v b c x y z (W.setCell ⟨w.heap.size, 0, none⟩ (.int .i64 v)) := ⟨h.box.put 0 _, h.res.far (by omega) _, h.below.setCell (Nat.le_refl _) _⟩
theorem N2.p1 (h : N2 w a b c x y z W) (v : Int) : N2 w a v c x y z (W.setCell ⟨w.heap.size, 1, none⟩ (.int .i64 v)) := ⟨h.box.put 1 _, h.res.far (by omega) _, h.below.setCell (Nat.le_refl _) _⟩
theorem N2.p2 (h : N2 w a b c x y z W) (v : Int) : N2 w a b v x y z (W.setCell ⟨w.heap.size, 2, none⟩ (.int .i64 v)) := ⟨h.box.put 2 _, h.res.far (by omega) _, h.below.setCell (Nat.le_refl _) _⟩
theorem N2.all (h : N2 w a b c x y z W) : W.cell? ⟨w.heap.size, 0, none⟩ = some (.int .i64 a) ∧ W.cell? ⟨w.heap.size, 1, none⟩ = some (.int .i64 b) ∧ W.cell? ⟨w.heap.size, 2, none⟩ = some (.int .i64 c) ∧
    W.frozen? ⟨w.heap.size, 0, none⟩ = false ∧ W.frozen? ⟨w.heap.size, 1, none⟩ = false ∧ W.frozen? ⟨w.heap.size, 2, none⟩ = false ∧
    W.cell? ⟨w.heap.size + 1, 0, none⟩ = some (.int .i64 x) ∧ W.cell? ⟨w.heap.size + 1, 1, none⟩ = some (.int .i64 y) ∧ W.cell? ⟨w.heap.size + 1, 2, none⟩ = some (.int .i64 z) ∧
    W.frozen? ⟨w.heap.size + 1, 0, none⟩ = false ∧ W.frozen? ⟨w.heap.size + 1, 1, none⟩ = false ∧ W.frozen? ⟨w.heap.size + 1, 2, none⟩ = false :=
  ⟨h.box.cell 0, h.box.cell 1, h.box.cell 2, h.box.soft 0, h.box.soft 1, h.box.soft 2, h.res.cell 0, h.res.cell 1, h.res.cell 2, h.res.soft 0, h.res.soft 1, h.res.soft 2⟩
end
theorem rnext_any (y m d : Int) (w : World) (h : CanD y m d) :
    Calls Tryd.prog 65 #[.agg #[.int .i64 y, .int .i64 m, .int .i64 d]] w fun e w' => e = .returned (.agg #[.int .i64 (nextD y m d).1, .int .i64 (nextD y m d).2.1, .int .i64 (nextD y m d).2.2]) ∧ Below w.heap.size w w' := by
  have h2 := (Holds.new w 26 #[.int .i64 y, .int .i64 m, .int .i64 d]).alloc (.cells #[.int .i64 0, .int .i64 0, .int .i64 0] 26)
  have c2 := h2.cell 2
  have f2 := h2.soft 2
  obtain ⟨hy1, hy2, hm1, hm2, h1, h3⟩ := h
  have h4 := (days_bd y m).2
  have e1 := IntWalk.i64_in (d + 1) (by omega)
  have e2 := IntWalk.i64_in (m + 1) (by omega)
  have e3 := IntWalk.i64_in (y + 1) (by omega)
  have HN := Lib.hid (N2.start w y m (d + 1))
  clear h2
  unfold nextD
  go_enter Tryd.func65, Tryd.ntmps65
  go_upto_region 2 with fail
  obtain ⟨a0, a1, a2, _⟩ := HN.out.all
  by_cases g : d + 1 ≤ daysV y m
  · have g' : decide (daysV y m < d + 1) = false := decide_eq_false (by omega)
    go_quiet ((go_at_call 55; refine (rdays_any y m _ (by omega)).mono ?_; rintro e wx ⟨rfl, rfl⟩; exact ⟨rfl, _, rfl⟩))
    have HM := Lib.hid (HN.out.drewN nq)
    clear a0 a1 a2 c2 f2 HN
    generalize ((w.alloc (.cells #[.int .i64 y, .int .i64 m, .int .i64 (d + 1)] 26)).alloc (.cells #[.int .i64 0, .int .i64 0, .int .i64 0] 26)).drewN nq = W at HM ⊢
    obtain ⟨a0, a1, a2, s0, s1, s2, r0, r1, r2, t0, t1, t2⟩ := HM.out.all
    have g2 : decide (12 < m) = false := decide_eq_false (by omega)
    go_wp2
    refine bodyPost_ret (results_cell_row rfl _ _ (w.heap.size + 1) 26 _ (0, 0) _ rfl (((HM.out.res.put 0 _).put 1 _).put 2 _) Tryd.underlying26 rfl rdate_size) rfl ?_
    exact ⟨by first | rfl | simp [show d + 1 ≤ daysV y m from by omega], ((HM.out.below.setCell (by dsimp only; omega) _).setCell (by dsimp only; omega) _).setCell (by dsimp only; omega) _⟩
  · have g' : daysV y m < d + 1 := by omega
    go_quiet ((go_at_call 55; refine (rdays_any y m _ (by omega)).mono ?_; rintro e wx ⟨rfl, rfl⟩; exact ⟨rfl, _, rfl⟩))
    have HM0 := Lib.hid (HN.out.drewN nq)
    clear a0 a1 a2 c2 f2 HN
    generalize ((w.alloc (.cells #[.int .i64 y, .int .i64 m, .int .i64 (d + 1)] 26)).alloc (.cells #[.int .i64 0, .int .i64 0, .int .i64 0] 26)).drewN nq = W at HM0 ⊢
    obtain ⟨a0, a1, a2, s0, s1, s2, _⟩ := HM0.out.all
    have HM1 := Lib.hid ((HM0.out.p2 1).p1 (m + 1))
    go_upto_region 5 with fail
    clear a0 a1 a2 s0 s1 s2 HM0
    generalize (W.setCell ⟨w.heap.size, 2, none⟩ (.int .i64 1)).setCell ⟨w.heap.size, 1, none⟩ (.int .i64 (m + 1)) = W1 at HM1 ⊢
    obtain ⟨a0, a1, a2, s0, s1, s2, r0, r1, r2, t0, t1, t2⟩ := HM1.out.all
    by_cases k : m + 1 ≤ 12
    · have g2 : decide (12 < m + 1) = false := decide_eq_false (by omega)
      go_wp2
      refine bodyPost_ret (results_cell_row rfl _ _ (w.heap.size + 1) 26 _ (0, 0) _ rfl (((HM1.out.res.put 0 _).put 1 _).put 2 _) Tryd.underlying26 rfl rdate_size) rfl ?_
      exact ⟨by first | rfl | simp [show ¬ d + 1 ≤ daysV y m from by omega, show m + 1 ≤ 12 from by omega], ((HM1.out.below.setCell (by dsimp only; omega) _).setCell (by dsimp only; omega) _).setCell (by dsimp only; omega) _⟩
    · have g2 : 12 < m + 1 := by omega
      have HM2 := Lib.hid ((HM1.out.p1 1).p0 (y + 1))
      go_upto_region 8 with fail
      clear a0 a1 a2 s0 s1 s2 r0 r1 r2 t0 t1 t2 HM1
      generalize (W1.setCell ⟨w.heap.size, 1, none⟩ (.int .i64 1)).setCell ⟨w.heap.size, 0, none⟩ (.int .i64 (y + 1)) = W2 at HM2 ⊢
      obtain ⟨a0, a1, a2, s0, s1, s2, r0, r1, r2, t0, t1, t2⟩ := HM2.out.all
      go_wp2
      refine bodyPost_ret (results_cell_row rfl _ _ (w.heap.size + 1) 26 _ (0, 0) _ rfl (((HM2.out.res.put 0 _).put 1 _).put 2 _) Tryd.underlying26 rfl rdate_size) rfl ?_
      exact ⟨by first | rfl | simp [show ¬ d + 1 ≤ daysV y m from by omega, show ¬ m + 1 ≤ 12 from by omega], ((HM2.out.below.setCell (by dsimp only; omega) _).setCell (by dsimp only; omega) _).setCell (by dsimp only; omega) _⟩
end Go.Proofs.YtcknllkbeadmlaaDoor
