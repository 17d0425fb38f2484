/- The document's slope: Over. -/
import Derived.Test.YtgmeakcfiaopcaaGreatSpD
namespace Go.Proofs.YtgmeakcfiaopcaaGreat
open Go.RowKit
set_option linter.unusedVariables false
set_option linter.unusedSimpArgs false

theorem over_bits (a b c d : Int) (w : World) (ha : 0 ≤ a) (ha1 : a ≤ 4503599627370496) (hb : 0 < b) (hb1 : b ≤ 1152921504606846976) (hd0 : 0 ≤ d) (hd1 : d < 1024) :
    Calls Tryz.prog 90 #[.int .i64 a, .int .i64 b, .int .i64 c, .int .i64 d] w fun e w' => e = .returned (.bool (decide (c * b < a * d))) ∧ w' = w := by
  have H0 := Lib.hid (ov_start (a := a) hb hd0 hd1)
  have HD := Lib.hid (rfl : decide (c * b < a * d) = decide (c * b < a * d))
  obtain ⟨ans, hans⟩ : ∃ ans, decide (c * b < a * d) = ans := ⟨_, rfl⟩
  rw [hans]
  have HA := Lib.hid hans
  clear hans HD
  have hb0 : ¬ b = 0 := by omega
  have hbne : (b == 0) = false := by simpa using hb0
  have et : a.tdiv b = a / b := Int.tdiv_eq_ediv_of_nonneg ha
  have em : a.tmod b = a % b := Int.tmod_eq_emod_of_nonneg ha
  have q0 : 0 ≤ a / b := Int.ediv_nonneg ha (by omega)
  have q1 : a / b ≤ a := Int.ediv_le_self b ha
  have m0 := Int.emod_nonneg a (show b ≠ 0 by omega)
  have m1 := Int.emod_lt_of_pos a hb
  have wq := IntWalk.i64_in (a / b) (by omega)
  have wm := IntWalk.i64_in (a % b) (by omega)
  go_enter Tryz.func90, Tryz.ntmps90
  go_wp2
  go_loopw [9, 10, 11] (fun q r i wr => ∃ n q' r' : Int, i = .int .i64 n ∧ q = .int .i64 q' ∧ r = .int .i64 r' ∧ OvI a b d n q' r' ∧ wr = w) (fun _ _ i _ => (intOf i + 1).toNat)
  case atStart => exact ⟨9, 0, 0, rfl, rfl, rfl, H0.out, rfl⟩
  case round =>
    obtain ⟨n, q, r, rfl, rfl, rfl, hov, rfl⟩ := hrel
    have HO := Lib.hid hov
    have hbd := ov_bound hov ha hd0 hd1
    obtain ⟨k1, k2, k3, k4, k5, _⟩ := hov
    clear H0
    by_cases hn : 0 ≤ n
    · obtain ⟨j, rfl⟩ : ∃ j : Nat, n = (j : Int) := ⟨n.toNat, by omega⟩
      have w1 := IntWalk.i64_in (2 * q) (by omega)
      have w2 := IntWalk.i64_in (2 * r) (by omega)
      have w5 := IntWalk.i64_in ((j : Int) - 1) (by omega)
      have hdb := ov_dbl (q := q) k4 k5
      have hmn : 0 ≤ d / 2 ^ j := Int.ediv_nonneg hd0 (Int.le_of_lt (Int.pow_pos (by decide)))
      have htm : (d / 2 ^ j).tmod 2 = d / 2 ^ j % 2 := Int.tmod_eq_emod_of_nonneg hmn
      have HT := Lib.hid htm
      by_cases c1 : b ≤ 2 * r
      · have hd2 := hdb.1 c1
        have w3 := IntWalk.i64_in (2 * r - b) (by omega)
        have w4 := IntWalk.i64_in (2 * q + 1) (by omega)
        have ha0 := ov_add (q := 2 * q + 1) (a := a) hb hd2.2.1 hd2.2.2
        by_cases hbit : d / 2 ^ j % 2 = 1
        · have hb2 : ((d / 2 ^ j).tmod 2 == 1) = true := by rw [HT.out, hbit]; rfl
          have w6 := IntWalk.i64_in (2 * q + 1 + a / b) (by omega)
          have w7 := IntWalk.i64_in (2 * r - b + a % b) (by omega)
          have w8 := IntWalk.i64_in (2 * r - b + a % b - b) (by omega)
          have w9 := IntWalk.i64_in (2 * q + 1 + a / b + 1) (by omega)
          by_cases c2 : b ≤ 2 * r - b + a % b
          · have ha2 := ha0.1 c2
            go_wp2
            go_roundw
            case rel => exact ⟨(j : Int) - 1, 2 * q + 1 + a / b + 1, 2 * r - b + a % b - b, by go_num, rfl, rfl, ov_one HO.out (by omega) hd2.1 ha2.1 ha2.2.1 ha2.2.2 hbit, trivial⟩
            case measure => simp [intOf]
          · have ha2 := ha0.2 c2
            have c2' : decide (b ≤ 2 * r - b + a % b) = false := decide_eq_false c2
            go_wp2
            go_roundw
            case rel => exact ⟨(j : Int) - 1, 2 * q + 1 + a / b, 2 * r - b + a % b, by go_num, rfl, rfl, ov_one HO.out (by omega) hd2.1 ha2.1 ha2.2.1 ha2.2.2 hbit, trivial⟩
            case measure => simp [intOf]
        · replace hbit : d / 2 ^ j % 2 = 0 := by omega
          have hb2 : ((d / 2 ^ j).tmod 2 == 1) = false := by rw [HT.out, hbit]; rfl
          go_wp2
          go_roundw
          case rel => exact ⟨(j : Int) - 1, 2 * q + 1, 2 * r - b, by go_num, rfl, rfl, ov_zero HO.out (by omega) hd2.1 hd2.2.1 hd2.2.2 hbit, trivial⟩
          case measure => simp [intOf]
      · have hd2 := hdb.2 c1
        have c1' : decide (b ≤ 2 * r) = false := decide_eq_false c1
        have ha0 := ov_add (q := 2 * q) (a := a) hb hd2.2.1 hd2.2.2
        by_cases hbit : d / 2 ^ j % 2 = 1
        · have hb2 : ((d / 2 ^ j).tmod 2 == 1) = true := by rw [HT.out, hbit]; rfl
          have w6 := IntWalk.i64_in (2 * q + a / b) (by omega)
          have w7 := IntWalk.i64_in (2 * r + a % b) (by omega)
          have w8 := IntWalk.i64_in (2 * r + a % b - b) (by omega)
          have w9 := IntWalk.i64_in (2 * q + a / b + 1) (by omega)
          by_cases c2 : b ≤ 2 * r + a % b
          · have ha2 := ha0.1 c2
            go_wp2
            go_roundw
            case rel => exact ⟨(j : Int) - 1, 2 * q + a / b + 1, 2 * r + a % b - b, by go_num, rfl, rfl, ov_one HO.out (by omega) hd2.1 ha2.1 ha2.2.1 ha2.2.2 hbit, trivial⟩
            case measure => simp [intOf]
          · have ha2 := ha0.2 c2
            have c2' : decide (b ≤ 2 * r + a % b) = false := decide_eq_false c2
            go_wp2
            go_roundw
            case rel => exact ⟨(j : Int) - 1, 2 * q + a / b, 2 * r + a % b, by go_num, rfl, rfl, ov_one HO.out (by omega) hd2.1 ha2.1 ha2.2.1 ha2.2.2 hbit, trivial⟩
            case measure => simp [intOf]
        · replace hbit : d / 2 ^ j % 2 = 0 := by omega
          have hb2 : ((d / 2 ^ j).tmod 2 == 1) = false := by rw [HT.out, hbit]; rfl
          go_wp2
          go_roundw
          case rel => exact ⟨(j : Int) - 1, 2 * q, 2 * r, by go_num, rfl, rfl, ov_zero HO.out (by omega) hd2.1 hd2.2.1 hd2.2.2 hbit, trivial⟩
          case measure => simp [intOf]
    · have hn1 : n = -1 := by omega
      subst hn1
      have he := ov_end (c := c) HO.out
      have hv : ans = decide (c < q ∨ c = q ∧ 0 < r) := by rw [← HA.out]; exact decide_eq_decide.2 he.symm
      have HV := Lib.hid hv
      clear hv he
      by_cases g1 : c < q
      · go_wp2
        go_ret
        exact ⟨ret_bool (by rw [HV.out, decide_eq_true (.inl g1)]), rfl⟩
      · have g1' : decide (c < q) = false := decide_eq_false g1
        by_cases g2 : c = q
        · have g3 : (q == c) = true := by simp [g2]
          by_cases g4 : 0 < r
          · have hv2 : ans = true := by rw [HV.out, decide_eq_true (.inr ⟨g2, g4⟩)]
            have HV2 := Lib.hid hv2
            clear hv2 g2
            go_wp2
            go_ret
            exact ⟨ret_bool HV2.out.symm, rfl⟩
          · have g4' : decide (0 < r) = false := decide_eq_false g4
            have hv2 : ans = false := by rw [HV.out, decide_eq_false (by rintro (h | h); exact g1 h; exact g4 h.2)]
            have HV2 := Lib.hid hv2
            clear hv2 g2
            go_wp2
            go_ret
            exact ⟨ret_bool HV2.out.symm, rfl⟩
        · have g3 : (q == c) = false := by simp; omega
          have hv2 : ans = false := by rw [HV.out, decide_eq_false (by rintro (h | h); exact g1 h; exact g2 h.1)]
          have HV2 := Lib.hid hv2
          clear hv2 g2
          go_wp2
          go_ret
          exact ⟨ret_bool HV2.out.symm, rfl⟩
end Go.Proofs.YtgmeakcfiaopcaaGreat
