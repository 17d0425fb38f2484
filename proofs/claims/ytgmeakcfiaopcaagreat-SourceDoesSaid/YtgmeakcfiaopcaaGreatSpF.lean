/- The document's slope: Of. -/
import Derived.Test.YtgmeakcfiaopcaaGreatSpE
namespace Go.Proofs.YtgmeakcfiaopcaaGreat
open Go.RowKit
set_option linter.unusedVariables false
set_option linter.unusedSimpArgs false

theorem near_all {L : List Ent} {n : Nat} (hl : L.length = n) (hc : ∀ j e, j < n → L[j]? = some e → CanE e) (hn : ∀ p ∈ (ptsL L).take n, Near p) (h2 : 2 ≤ n) (h8 : n ≤ 8) : FitsL L :=
  ⟨by omega, by omega, fun e he => by
    obtain ⟨j, hj⟩ := List.mem_iff_getElem?.1 he
    have hjl := (List.getElem?_eq_some_iff.1 hj).1
    refine ⟨hc j e (by omega) hj, hn _ ?_⟩
    rw [List.take_of_length_le (by rw [pts_len]; omega)]
    exact List.mem_of_getElem? (pts_at hj)⟩
theorem clamp_pos {a b c d : Int} (h : c * b < a * d) : clampS a b c d = (c, d) := if_pos h
theorem clamp_neg {a b c d : Int} (h0 : ¬ c * b < a * d) (h : c * b < -a * d) : clampS a b c d = (-c, d) := by unfold clampS; rw [if_neg h0, if_pos h]
theorem clamp_mid {a b c d : Int} (h0 : ¬ c * b < a * d) (h : ¬ c * b < -a * d) : clampS a b c d = (a, b) := by unfold clampS; rw [if_neg h0, if_neg h]
theorem cb_nonneg {b c : Int} (hb : 0 < b) (hc : 0 ≤ c) : 0 ≤ c * b := Int.mul_nonneg hc (Int.le_of_lt hb)
theorem ad_nonpos {a d : Int} (ha : a ≤ 0) (hd : 0 ≤ d) : a * d ≤ 0 := by
  have := Int.mul_nonneg (show 0 ≤ -a by omega) hd
  rw [Int.neg_mul] at this
  omega
/-- What the document's Of answers. -/
def RofAns (p : Int × Int) (w : World) (e : Ending) (w' : World) : Prop := e = .returned (.tuple #[.int .i64 p.1, .int .i64 p.2]) ∧ Below w.heap.size w w'
theorem rof_end {p : Int × Int} {w w' : World} {x y : Int} (h : p = (x, y)) (hb : Below w.heap.size w w') : RofAns p w (.returned (.tuple #[.int .i64 x, .int .i64 y])) w' := by
  subst h
  exact ⟨rfl, hb⟩
set_option maxHeartbeats 4000000 in
set_option maxRecDepth 100000 in
theorem rof_any (d : Int) (w : World) (B : Nat) (A : Option Addr) (n c : Nat) (L : List Ent) (h : TRow w B A n c L) :
    Calls Tryz.prog 79 #[.int .i64 d, .slice A n c] w (RofAns (ofV d L) w) := by
  have hlen := h.len
  have hcap := h.cap_le
  have hmx := h.max
  unfold maxLen at hmx
  obtain ⟨V, hV⟩ : ∃ V, ofV d L = V := ⟨_, rfl⟩
  rw [hV]
  have HV := Lib.hid hV
  clear hV
  by_cases n2 : n < 2
  · have hno := Lib.hid (show V = (0, 1) by rw [← HV.out]; exact of_not (fun hf => by have := hf.two; omega))
    have t1 : (n : Int) < 2 := by omega
    clear h hlen
    go_enter Tryz.func79, Tryz.ntmps79
    go_wp2
    go_ret2
    exact rof_end hno.out (Below.refl _ _)
  by_cases n8 : 8 < n
  · have hno := Lib.hid (show V = (0, 1) by rw [← HV.out]; exact of_not (fun hf => by have := hf.eight; omega))
    have t1 : ¬ (n : Int) < 2 := by omega
    have t2 : (8 : Int) < n := by omega
    have t3 : decide ((n : Int) < 2) = false := decide_eq_false t1
    clear h hlen
    go_enter Tryz.func79, Tryz.ntmps79
    go_wp2
    go_ret2
    exact rof_end hno.out (Below.refl _ _)
  have t1 : ¬ (n : Int) < 2 := by omega
  have t2 : ¬ (8 : Int) < n := by omega
  have t3 : decide ((n : Int) < 2) = false := decide_eq_false t1
  have t4 : decide ((8 : Int) < n) = false := decide_eq_false t2
  obtain ⟨o, ho⟩ : ∃ o, L[0]? = some o := ⟨_, List.getElem?_eq_getElem (by omega)⟩
  have HH := Lib.hid (head_of ho)
  have H := Lib.hid h
  have HL := Lib.hid hlen
  have HO := Lib.hid ho
  clear h hlen ho
  go_enter Tryz.func79, Tryz.ntmps79
  go_wp2
  go_loopw [31] (fun i wr => ∃ k : Nat, k ≤ n ∧ i = .int .i64 (k : Int) ∧ Below w.heap.size w wr ∧ ∀ j e, j < k → L[j]? = some e → CanE e) (fun i _ => n - (intOf i).toNat)
  case atStart => exact ⟨0, Nat.zero_le _, rfl, Below.refl _ _, fun j e hj => absurd hj (Nat.not_lt_zero _)⟩
  case round =>
    obtain ⟨k, hk, rfl, hb, hall⟩ := hrel
    have HA := Lib.hid hall
    have HB := Lib.hid hb
    clear hall hb
    by_cases hlt : k < n
    · obtain ⟨x, hx⟩ : ∃ x, L[k]? = some x := ⟨_, List.getElem?_eq_getElem (by rw [HL.out]; exact hlt)⟩
      obtain ⟨b, off, rfl, q0, q1, q2⟩ := (H.out.below HB.out).at hx
      obtain ⟨x1, x2, x3⟩ := x
      dsimp only at q0 q1 q2
      have HX := Lib.hid hx
      have ewk := IntWalk.i64_in ((k : Int) + 1) (by omega)
      have HB1 := Lib.hid (HB.out.alloc HB.out.size (.cells #[.int .i64 x1, .int .i64 x2, .int .i64 x3] 51))
      clear hx
      by_cases hcan : CanE (x1, x2, x3)
      · have HC := Lib.hid hcan
        go_wp2_with (go_at_call 50; (with_reducible refine (rgood_yes _ _ _ _ hcan).mono ?_); rintro e w2 ⟨rfl, hb2⟩; have HB2 := Lib.hid (HB1.out.trans (hb2.mono HB1.out.size)); clear hb2)
        go_roundw
        case rel =>
          refine ⟨k + 1, by omega, by go_num, HB2.out, fun j e hj hje => ?_⟩
          by_cases hjk : j = k
          · subst hjk
            have := HX.out.symm.trans hje
            cases this
            exact HC.out
          · exact HA.out j e (by omega) hje
        case measure => simp [intOf]; omega
      · have hno : V = (0, 1) := by rw [← HV.out]; exact of_not (fun hf => hcan (hf.each _ (List.mem_of_getElem? HX.out)).1)
        have HNO := Lib.hid hno
        clear hno
        go_wp2_with (go_at_call 50; (with_reducible refine (rgood_no _ _ _ _ hcan).mono ?_); rintro e w2 ⟨rfl, hb2⟩)
        go_ret2
        exact rof_end HNO.out (HB1.out.trans (hb2.mono HB1.out.size))
    · obtain rfl : k = n := by omega
      obtain ⟨P, hP⟩ : ∃ P, ptsL L = P := ⟨_, rfl⟩
      have HPl : P.length = k := by rw [← hP, pts_len, HL.out]
      have HP := Lib.hid hP
      replace HPl := Lib.hid HPl
      clear hP
      have l1 : ¬ (k : Int) < k := by omega
      have hk2 : 2 ≤ k := by omega
      have hk8 : k ≤ 8 := by omega
      clear hk hlt
      go_wp2
      go_loopw [7, 8, 9, 10, 41] (fun sx sy sxy sxx i wr => ∃ m : Nat, m ≤ k ∧ i = .int .i64 (m : Int) ∧ sx = .int .i64 (sumP pX (P.take m)) ∧ sy = .int .i64 (sumP pY (P.take m)) ∧ sxx = .int .i64 (sumP pXX (P.take m)) ∧ sxy = .int .i64 (sumP pXY (P.take m)) ∧ (∀ p ∈ P.take m, Near p) ∧ Below w.heap.size w wr) (fun _ _ _ _ i _ => k - (intOf i).toNat)
      case atStart => exact ⟨0, Nat.zero_le _, rfl, rfl, rfl, rfl, rfl, (fun p hp => by cases hp), HB.out⟩
      case round =>
        obtain ⟨m, hm, rfl, rfl, rfl, rfl, rfl, hnear, hb⟩ := hrel
        clear HB
        have HB := Lib.hid hb
        have HN := Lib.hid hnear
        clear hb hnear
        by_cases hlt : m < k
        · obtain ⟨x, hx⟩ : ∃ x, L[m]? = some x := ⟨_, List.getElem?_eq_getElem (by rw [HL.out]; exact hlt)⟩
          obtain ⟨b, off, hA, q0, q1, q2⟩ := (H.out.below HB.out).at hx
          obtain ⟨b', off', hA', p0, p1, p2⟩ := (H.out.below HB.out).at HO.out
          rw [hA] at hA'
          simp only [Option.some.injEq, Addr.mk.injEq, and_true] at hA'
          obtain ⟨rfl, rfl⟩ := hA'
          obtain ⟨b3, off3, hA3, _, hlt3, _⟩ := (H.out.below HB.out).cell (by omega)
          rw [hA] at hA3
          simp only [Option.some.injEq, Addr.mk.injEq, and_true] at hA3
          obtain ⟨rfl, rfl⟩ := hA3
          subst hA
          have hpx := pts_at hx
          rw [HP.out, HH.out] at hpx
          have htk := take_next hpx
          have hcx := HA.out m x hlt hx
          have hco := HA.out 0 o (by omega) HO.out
          obtain ⟨f1, f2⟩ := can_apart hco hcx
          obtain ⟨o1, o2, o3⟩ := o
          obtain ⟨x1, x2, x3⟩ := x
          dsimp only at q0 q1 q2 p0 p1 p2 f1 f2
          rw [Nat.zero_mul, Nat.add_zero] at p0 p1 p2
          have hal := below_alloc wr (.cells #[.int .i64 x1, .int .i64 x2, .int .i64 x3] 51)
          replace p0 := below_cells hal hlt3 p0
          replace p1 := below_cells hal hlt3 p1
          have hk0 := (Holds.new wr 51 #[.int .i64 x1, .int .i64 x2, .int .i64 x3])
          have c0 := hk0.cell 0
          have c1 := hk0.cell 1
          have HX := Lib.hid hx
          have ewk := IntWalk.i64_in ((m : Int) + 1) (by omega)
          have HB1 := Lib.hid (HB.out.alloc HB.out.size (.cells #[.int .i64 x1, .int .i64 x2, .int .i64 x3] 51))
          have hsp : ptO (o1, o2, o3) (x1, x2, x3) = (x1 - o1, x2 - o2) := rfl
          rw [hsp] at htk hpx
          have y1 : IntKind.i64.wrap (x1 - o1) = x1 - o1 := IntWalk.i64_in _ (by unfold Fits at f1; omega)
          have y2 : IntKind.i64.wrap (x2 - o2) = x2 - o2 := IntWalk.i64_in _ (by unfold Fits at f2; omega)
          obtain ⟨X, hX⟩ : ∃ X, x1 - o1 = X := ⟨_, rfl⟩
          obtain ⟨Y, hY⟩ : ∃ Y, x2 - o2 = Y := ⟨_, rfl⟩
          rw [hX, hY] at htk hpx
          rw [hX] at y1
          rw [hY] at y2
          have n0 : 0 < k := by omega
          have HT := Lib.hid htk
          have HPX := Lib.hid hpx
          clear hx hal hk0 hlt3 hsp htk hpx hcx hco f1 f2
          go_upto_region 14 with (fail)
          go_quiet (fail)
          go_upto_region 15 with (fail)
          go_quiet (fail)
          by_cases hn : Near (X, Y)
          · have hall : ∀ p ∈ P.take (m + 1), Near p := fun p hp => by
              rw [HT.out] at hp
              rcases List.mem_append.1 hp with hp | hp
              · exact HN.out p hp
              · simp only [List.mem_singleton] at hp
                subst hp
                exact hn
            have hb1 := sum_b hall (by rw [List.length_take, HPl.out]; omega)
            have hpr' := near_prod hn
            have HN1 := Lib.hid hall
            have hsx : sumP pX (P.take (m + 1)) = sumP pX (P.take m) + X := by rw [HT.out, sumP_snoc]; rfl
            have hsy : sumP pY (P.take (m + 1)) = sumP pY (P.take m) + Y := by rw [HT.out, sumP_snoc]; rfl
            have hsxx : sumP pXX (P.take (m + 1)) = sumP pXX (P.take m) + X * X := by rw [HT.out, sumP_snoc]; rfl
            have hsxy : sumP pXY (P.take (m + 1)) = sumP pXY (P.take m) + X * Y := by rw [HT.out, sumP_snoc]; rfl
            obtain ⟨g1, g2, g3, g4⟩ := hn
            obtain ⟨a1, a2, a3, a4, a5, a6, a7, a8⟩ := hb1
            dsimp only at g1 g2 g3 g4 hpr'
            clear hall
            have d1 : decide (X < 0) = false := decide_eq_false (by omega)
            have d2 : decide (4194304 < X) = false := decide_eq_false (by omega)
            have d3 : decide (Y < -4194304) = false := decide_eq_false (by omega)
            have d4 : decide (4194304 < Y) = false := decide_eq_false (by omega)
            have w1 := IntWalk.i64_in (X * X) (by omega)
            have w2 := IntWalk.i64_in (X * Y) (by omega)
            obtain ⟨XX, hXX⟩ : ∃ XX, X * X = XX := ⟨_, rfl⟩
            obtain ⟨XY, hXY⟩ : ∃ XY, X * Y = XY := ⟨_, rfl⟩
            rw [hXX] at w1 hsxx hpr'
            rw [hXY] at w2 hsxy hpr'
            have w3' : IntKind.i64.wrap (sumP pX (P.take m) + X) = sumP pX (P.take (m + 1)) := by rw [hsx]; exact IntWalk.i64_in _ (by omega)
            have w4' : IntKind.i64.wrap (sumP pY (P.take m) + Y) = sumP pY (P.take (m + 1)) := by rw [hsy]; exact IntWalk.i64_in _ (by omega)
            have w5' : IntKind.i64.wrap (sumP pXX (P.take m) + XX) = sumP pXX (P.take (m + 1)) := by rw [hsxx]; exact IntWalk.i64_in _ (by omega)
            have w6' : IntKind.i64.wrap (sumP pXY (P.take m) + XY) = sumP pXY (P.take (m + 1)) := by rw [hsxy]; exact IntWalk.i64_in _ (by omega)
            clear hpr' a1 a2 a3 a4 a5 a6 a7 a8 hsx hsy hsxx hsxy
            go_wp2
            go_roundw
            case rel => exact ⟨m + 1, by omega, by go_num, rfl, rfl, rfl, rfl, HN1.out, below_drewN HB1.out _⟩
            case measure => simp [intOf]; omega
          · have hno : V = (0, 1) := by
              rw [← HV.out]
              refine of_not (fun hf => hn ?_)
              have := near_in hf (X, Y)
              rw [HP.out] at this
              exact this (List.mem_of_getElem? HPX.out)
            have HNO := Lib.hid hno
            clear hno
            rcases not_near hn with g1 | ⟨g1, g2⟩ | ⟨g1, g2, g3⟩ | ⟨g1, g2, g3, g4⟩
            all_goals
              clear hn
              try have d1 : decide (X < 0) = false := decide_eq_false (by omega)
              try have d2 : decide (4194304 < X) = false := decide_eq_false (by omega)
              try have d3 : decide (Y < -4194304) = false := decide_eq_false (by omega)
              go_wp2
              go_ret2
              exact rof_end HNO.out (below_drewN HB1.out _)
        · have htk : P.take m = P := List.take_of_length_le (by rw [HPl.out]; omega)
          rw [htk]
          have hnr : ∀ p ∈ P, Near p := by have := HN.out; rw [htk] at this; exact this
          have hfit : FitsL L := near_all HL.out HA.out (by rw [HP.out, List.take_of_length_le (by rw [HPl.out]; omega)]; exact hnr) hk2 hk8
          obtain ⟨b1, b2, b3, b4⟩ := numden_bd hnr (by rw [HPl.out]; exact hk8)
          obtain ⟨n1, n2, d1, d2⟩ := num_b hnr (by rw [HPl.out]; exact hk8)
          have hpn := HP.out
          obtain ⟨nu, hnu0⟩ : ∃ nu, numV P = nu := ⟨_, rfl⟩
          obtain ⟨de, hde0⟩ : ∃ nu, denV P = nu := ⟨_, rfl⟩
          rw [hnu0] at b1 b2
          rw [hde0] at b3 b4
          have hnu : (k : Int) * sumP pXY P - sumP pX P * sumP pY P = nu := by rw [← hnu0, ← HPl.out]; rfl
          have hde : (k : Int) * sumP pXX P - sumP pX P * sumP pX P = de := by rw [← hde0, ← HPl.out]; rfl
          rw [HPl.out] at n1 d1
          have w1 := IntWalk.i64_in ((k : Int) * sumP pXY P) (by omega)
          have w2 := IntWalk.i64_in (sumP pX P * sumP pY P) (by omega)
          have w3 := IntWalk.i64_in ((k : Int) * sumP pXX P) (by omega)
          have w4 := IntWalk.i64_in (sumP pX P * sumP pX P) (by omega)
          have w5 : IntKind.i64.wrap ((k : Int) * sumP pXY P - sumP pX P * sumP pY P) = nu := by rw [← hnu]; exact IntWalk.i64_in _ (by omega)
          have w6 : IntKind.i64.wrap ((k : Int) * sumP pXX P - sumP pX P * sumP pX P) = de := by rw [← hde]; exact IntWalk.i64_in _ (by omega)
          have l1 : ¬ (m : Int) < k := by omega
          have l2 : decide ((m : Int) < k) = false := decide_eq_false l1
          clear hnu hde n1 n2 d1 d2 htk hnr
          by_cases hz : de = 0
          · have hno : V = (0, 1) := by rw [← HV.out]; exact of_flat (by rw [hpn, hde0]; exact hz)
            have HNO := Lib.hid hno
            clear hno hnu0 hde0 hpn hfit
            subst hz
            go_wp2
            go_ret2
            exact rof_end HNO.out HB.out
          have hvv : V = clampS nu de (2 * dV d) (1000 - dV d) := by rw [← HV.out, of_is hfit (by rw [hpn, hde0]; exact hz), hpn, hnu0, hde0]
          obtain ⟨v1, v2⟩ := dV_bd d
          have hm := fun W => rmost_any d W
          obtain ⟨cc, hcc⟩ : ∃ cc, 2 * dV d = cc := ⟨_, rfl⟩
          obtain ⟨dd, hdd⟩ : ∃ dd, 1000 - dV d = dd := ⟨_, rfl⟩
          simp only [hcc, hdd] at hm hvv
          have hc0 : 0 ≤ cc := by omega
          have hc1 : cc ≤ 20 := by omega
          have hd0 : 0 ≤ dd := by omega
          have hd1 : dd < 1024 := by omega
          have hdp : 0 < de := by omega
          have hcb := cb_nonneg hdp hc0
          have HM := Lib.hid hm
          have HVV := Lib.hid hvv
          have wn := IntWalk.i64_in (-nu) (by omega)
          have wc := IntWalk.i64_in (-cc) (by omega)
          have z1 : decide (de ≤ 0) = false := decide_eq_false (by omega)
          clear hcc hdd hm hvv hnu0 hde0 hpn hfit hz
          by_cases s1 : 0 < nu
          · have ho := fun W => over_bits nu de cc dd W (by omega) (by omega) hdp (by omega) hd0 hd1
            by_cases g1 : cc * de < nu * dd
            · have HNO := Lib.hid (HVV.out.trans (clamp_pos g1))
              simp only [decide_eq_true g1] at ho
              have HOv := Lib.hid ho
              clear ho g1 hcb
              go_wp2_with (first
                | (go_at_call 89; refine (HM.out _).mono ?_; rintro e w3 ⟨rfl, rfl⟩)
                | (go_at_call 90; refine (HOv.out _).mono ?_; rintro e w4 ⟨rfl, rfl⟩))
              go_ret2
              exact rof_end HNO.out HB.out
            · have hnn := ad_nonpos (a := -nu) (d := dd) (by omega) hd0
              have HNO := Lib.hid (HVV.out.trans (clamp_mid g1 (by omega)))
              simp only [decide_eq_false g1] at ho
              have HOv := Lib.hid ho
              have s2 : decide (nu < 0) = false := decide_eq_false (by omega)
              clear ho g1 hcb hnn
              go_wp2_with (first
                | (go_at_call 89; refine (HM.out _).mono ?_; rintro e w3 ⟨rfl, rfl⟩)
                | (go_at_call 90; refine (HOv.out _).mono ?_; rintro e w4 ⟨rfl, rfl⟩))
              go_ret2
              exact rof_end HNO.out HB.out
          · have s1' : decide (0 < nu) = false := decide_eq_false s1
            have hnp := ad_nonpos (a := nu) (d := dd) (by omega) hd0
            by_cases s2 : nu < 0
            · have ho := fun W => over_bits (-nu) de cc dd W (by omega) (by omega) hdp (by omega) hd0 hd1
              by_cases g1 : cc * de < -nu * dd
              · have HNO := Lib.hid (HVV.out.trans (clamp_neg (by omega) g1))
                simp only [decide_eq_true g1] at ho
                have HOv := Lib.hid ho
                clear ho g1 hcb hnp
                go_wp2_with (first
                  | (go_at_call 89; refine (HM.out _).mono ?_; rintro e w3 ⟨rfl, rfl⟩)
                  | (go_at_call 90; refine (HOv.out _).mono ?_; rintro e w4 ⟨rfl, rfl⟩))
                go_ret2
                exact rof_end HNO.out HB.out
              · have HNO := Lib.hid (HVV.out.trans (clamp_mid (by omega) g1))
                simp only [decide_eq_false g1] at ho
                have HOv := Lib.hid ho
                clear ho g1 hcb hnp
                go_wp2_with (first
                  | (go_at_call 89; refine (HM.out _).mono ?_; rintro e w3 ⟨rfl, rfl⟩)
                  | (go_at_call 90; refine (HOv.out _).mono ?_; rintro e w4 ⟨rfl, rfl⟩))
                go_ret2
                exact rof_end HNO.out HB.out
            · have s2' : decide (nu < 0) = false := decide_eq_false s2
              have hz0 : nu = 0 := by omega
              subst hz0
              have HNO := Lib.hid (HVV.out.trans (clamp_mid (by omega) (by rw [Int.neg_zero, Int.zero_mul]; omega)))
              clear hcb hnp
              go_wp2_with (first
                | (go_at_call 89; refine (HM.out _).mono ?_; rintro e w3 ⟨rfl, rfl⟩))
              go_ret2
              exact rof_end HNO.out HB.out
end Go.Proofs.YtgmeakcfiaopcaaGreat
