/- Package leap: the document's date of a day; a word's day; a word's number. -/
import Derived.Test.YtcknllkbeadmlaaDoorLpN
import Derived.Test.YtcknllkbeadmlaaDoorLpD
import Derived.Test.YtcknllkbeadmlaaDoorCvU
import Derived.Test.YtcknllkbeadmlaaDoorCvW
import Derived.Test.YtcknllkbeadmlaaDoorCvC
namespace Go.Proofs.YtcknllkbeadmlaaDoor
open Go.RowKit Go.Shelf
set_option linter.unusedVariables false
set_option linter.unusedSimpArgs false
attribute [local go_sem] Oper.semAt_some

theorem ahead_400 (y : Int) : aheadV (y + 400) = aheadV y + 146097 := by unfold aheadV; omega
theorem year_bd {y : Int} (h : -719162 + aheadV y ≤ 2932896) : y ≤ 9999 := by
  refine Classical.byContradiction fun k => ?_
  have h1 := ahead_le (show (10000 : Int) ≤ y by omega)
  have h2 : aheadV 10000 = 3652059 := by decide
  omega
theorem first_can {y : Int} (h1 : 1 ≤ y) (h2 : y ≤ 9999) : CanD y 1 1 := ⟨h1, h2, by decide, by decide, by decide, by have := (days_bd y 1).1; omega⟩
theorem first_num (y : Int) : numV y 1 1 = -719162 + aheadV y := by
  unfold numV
  rw [show ((1 : Int) - 1).toNat = 0 from rfl]
  show -719162 + aheadV y + 0 + 1 - 1 = _
  omega
set_option maxHeartbeats 4000000 in
theorem rdate_any (n : Int) (w : World) (h1 : -719162 ≤ n) (h2 : n ≤ 2932896) :
    Calls Tryd.prog 53 #[.int .i64 n] w fun e w' => e = .returned (.string (dateB n)) ∧ Below w.heap.size w w' := by
  have HX0 := Lib.hid (Box.start w 26 #[.int .i64 1, .int .i64 1, .int .i64 1])
  go_enter Tryd.func53, Tryd.ntmps53
  go_wp2
  obtain ⟨w0, hw0⟩ : ∃ w0, w.alloc (.cells #[.int .i64 1, .int .i64 1, .int .i64 1] 26) = w0 := ⟨_, rfl⟩
  simp only [hw0] at HX0 ⊢
  have HX := Lib.hid (show Box w 26 #[.int .i64 1, .int .i64 1, .int .i64 1] w0 from HX0.out)
  clear HX0 hw0
  go_loopw [4] (fun v wr => ∃ y : Int, v = .int .i64 (-719162 + aheadV y) ∧ 1 ≤ y ∧ -719162 + aheadV y ≤ n ∧ Box w 26 #[.int .i64 y, .int .i64 1, .int .i64 1] wr) (fun v _ => (n - intOf v).toNat)
  case atStart => exact ⟨1, rfl, by decide, h1, HX.out⟩
  case round =>
    clear HX
    obtain ⟨y, rfl, hy, hn, hx⟩ := hrel
    have ab := ahead_400 y
    have hyb := year_bd (y := y) (by omega)
    have ew := IntWalk.i64_in (-719162 + aheadV y + 146097) (by have := ahead_bd (y := y) hy (by omega); omega)
    have c0 := hx.holds.cell 0
    have f0 := hx.holds.soft 0
    have HX := Lib.hid hx
    clear hx
    by_cases hlt : -719162 + aheadV y + 146097 ≤ n
    · have hy2 := year_bd (y := y + 400) (by omega)
      have ey := IntWalk.i64_in (y + 400) (by omega)
      have HS := Lib.hid (HX.out.put 0 (.int .i64 (y + 400)))
      go_wp2
      go_roundw
      case rel => exact ⟨y + 400, by rw [ab]; congr 1; omega, by omega, by omega, HS.out⟩
      case measure => simp [intOf]; omega
    · have hlt2 : n < -719162 + aheadV y + 146097 := by omega
      clear ab
      have HY := Lib.hid hy
      have HN := Lib.hid hn
      clear hy hn hyb
      go_wp2
      go_loopw [4] (fun v wr => ∃ y : Int, v = .int .i64 (-719162 + aheadV y) ∧ 1 ≤ y ∧ -719162 + aheadV y ≤ n ∧ Box w 26 #[.int .i64 y, .int .i64 1, .int .i64 1] wr) (fun v _ => (n - intOf v).toNat)
      case atStart => exact ⟨y, rfl, HY.out, HN.out, HX.out⟩
      case round =>
        clear HX HY HN hlt hlt2 c0 f0
        obtain ⟨y, rfl, hy, hn, hx⟩ := hrel
        have ld := long_day y
        have hyb := year_bd (y := y) (by omega)
        have ab := ahead_bd (y := y) hy (by omega)
        have ew := IntWalk.i64_in (-719162 + aheadV y + 366) (by omega)
        have ew1 := IntWalk.i64_in (-719162 + aheadV y + 365) (by omega)
        have ew2 := IntWalk.i64_in (-719162 + aheadV y + 365 + 1) (by omega)
        have ey := IntWalk.i64_in (y + 1) (by omega)
        have c0 := hx.holds.cell 0
        have f0 := hx.holds.soft 0
        have HX := Lib.hid hx
        have HL := Lib.hid (fun W => rlong_any y W (by omega))
        clear hx
        by_cases hlt : -719162 + aheadV y + 366 ≤ n
        · have HS := Lib.hid (HX.out.put 0 (.int .i64 (y + 1)))
          cases hlg : longB y with
          | true =>
            rw [hlg] at ld HL
            have HA := Lib.hid (show -719162 + aheadV y + 365 + 1 = -719162 + aheadV (y + 1) by rw [ld]; simp; omega)
            clear ld
            go_wp2_with (go_at_call 64; refine (HL.out _).mono ?_; rintro e w1 ⟨rfl, hw1⟩; replace hw1 := hw1.symm; subst hw1)
            go_roundw
            case rel => exact ⟨y + 1, by rw [HA.out], by omega, by have := HA.out; omega, HS.out⟩
            case measure => simp [intOf]; omega
          | false =>
            rw [hlg] at ld HL
            have HA := Lib.hid (show -719162 + aheadV y + 365 = -719162 + aheadV (y + 1) by rw [ld]; simp; omega)
            clear ld
            go_wp2_with (go_at_call 64; refine (HL.out _).mono ?_; rintro e w1 ⟨rfl, hw1⟩; replace hw1 := hw1.symm; subst hw1)
            go_roundw
            case rel => exact ⟨y + 1, by rw [HA.out], by omega, by have := HA.out; omega, HS.out⟩
            case measure => simp [intOf]; omega
        · have HC := Lib.hid (first_can hy hyb)
          have HN := Lib.hid (first_num y)
          have HLE := Lib.hid hn
          clear ew1 ew2 ey ab ld HL hy hn hyb
          go_wp2
          go_loopw [4] (fun v wr => ∃ y m d : Int, v = .int .i64 (numV y m d) ∧ CanD y m d ∧ numV y m d ≤ n ∧ Box w 26 #[.int .i64 y, .int .i64 m, .int .i64 d] wr) (fun v _ => (n - intOf v).toNat)
          case atStart => exact ⟨y, 1, 1, by rw [HN.out], HC.out, by rw [HN.out]; exact HLE.out, HX.out⟩
          case round =>
            clear HX HC HN HLE hlt c0 f0
            obtain ⟨y, m, d, rfl, hc, hn, hx⟩ := hrel
            have hnb := num_bd hc
            have c0 := hx.holds.cell 0
            have c1 := hx.holds.cell 1
            have c2 := hx.holds.cell 2
            have f0 := hx.holds.soft 0
            have f1 := hx.holds.soft 1
            have f2 := hx.holds.soft 2
            have HX := Lib.hid hx
            have HC := Lib.hid hc
            clear hx
            by_cases hlt : numV y m d < n
            · have ew := IntWalk.i64_in (numV y m d + 1) (by omega)
              have h9 : ¬ 9999 < (nextD y m d).1 := fun h => by
                have := next_far hc h
                omega
              have HC2 := Lib.hid (next_can hc h9)
              have HN2 := Lib.hid (next_num hc)
              clear hc h9 hnb
              obtain ⟨p, hp⟩ : ∃ p, nextD y m d = p := ⟨_, rfl⟩
              have HNX := Lib.hid (fun W => rnext_any y m d W HC.out)
              rw [hp] at HC2 HN2 HNX
              clear hp
              obtain ⟨y2, m2, d2⟩ := p
              dsimp only at HC2 HN2 HNX
              go_wp2_with (go_at_call 65; refine (HNX.out _).mono ?_; rintro e w1 ⟨rfl, hb1⟩; have HX := Lib.hid (HX.out.next hb1); have g0 := HX.out.holds.cell 0; have g1 := HX.out.holds.cell 1; have g2 := HX.out.holds.cell 2; have k0 := HX.out.holds.soft 0; have k1 := HX.out.holds.soft 1; have k2 := HX.out.holds.soft 2; clear hb1 c0 c1 c2 f0 f1 f2)
              have HS := Lib.hid (((HX.out.put 0 (.int .i64 y2)).put 1 (.int .i64 m2)).put 2 (.int .i64 d2))
              go_roundw
              case rel => exact ⟨y2, m2, d2, by rw [HN2.out], HC2.out, by have := HN2.out; omega, HS.out⟩
              case measure => simp [intOf]; omega
            · have hnn : numV y m d = n := by omega
              have HD := Lib.hid (show dateB n = textB y m d by rw [← hnn]; exact dateB_of HC.out)
              have HT := Lib.hid (fun W => rtext_yes y m d W HC.out)
              have hlt2 : decide (numV y m d < n) = false := decide_eq_false hlt
              clear hc hnb hnn hn
              go_wp2_with (go_at_call 39; refine (HT.out _).mono ?_; rintro e w1 ⟨rfl, hb1⟩)
              go_ret
              exact ⟨by rw [HD.out]; rfl, (HX.out.next hb1).below⟩
end Go.Proofs.YtcknllkbeadmlaaDoor
