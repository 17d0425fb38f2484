/-
  Of entries on a line, whose slope can be, the slope is that line's: for every drift, every row of numbers (of less than 2 or more than 8, or such as do not rise, the law asks nothing), every gain, step, Local and Offset the law answers true; without conditions.
  The walk is the prover's own; the frame of the row's step follows the kit's template.
-/
import Derived.Test.YtcgnedndfhkgiaaRows
import Derived.Test.YtcgnedndfhkgiaaLawKit
import Derived.Test.YtcgnedndfhkgiaaSpH
import Derived.Test.YtcgnedndfhkgiaaSpL
import Derived.LoopTactic
import Derived.Deep.CutBlock
import Derived.BigQuiet
namespace Go.Proofs.Ytcgnedndfhkgiaa.slopeLine
open Go.ChangeShapes Go.WideShapes Go.ChangeAt Go.RowKit Go.ChangeMaps Go.WideElems
set_option linter.unusedVariables false

theorem own : ownKnob Try.prog.godebug = none := by kernel_rfl
set_option linter.unusedSimpArgs false in
set_option maxHeartbeats 8000000 in
set_option maxRecDepth 100000 in
theorem walk (a0 : Int) (A1 : Option Addr) (n1 c1 : Nat) (z1 : List Int) (a2 : Int) (a3 : Int) (a4 : Int) (a5 : Int) (w : World) (w0 : (Lit.int .i64 a0).wf = true) (w1 : IntRow w .i64 A1 n1 c1 z1) (w2 : (Lit.int .i64 a2).wf = true) (w3 : (Lit.int .i64 a3).wf = true) (w4 : (Lit.int .i64 a4).wf = true) (w5 : (Lit.int .i64 a5).wf = true) :
    Calls Try.prog 5 #[.int .i64 a0, .slice A1 n1 c1, .int .i64 a2, .int .i64 a3, .int .i64 a4, .int .i64 a5] w fun e w' => e = .returned (.bool true) ∧ Below w.heap.size w w' := by
  have HF0 := Lib.hid (fits_wf w0)
  obtain ⟨fa, fb⟩ := fits_wf w2
  obtain ⟨fc, fd⟩ := fits_wf w3
  have fe := fits_wf w4
  have ff := fits_wf w5
  obtain ⟨v1, v2⟩ := dV_bd a0
  have hrm := fun W => rmost_any a0 W
  obtain ⟨M1, hM1⟩ : ∃ M, 2 * dV a0 = M := ⟨_, rfl⟩
  obtain ⟨M2, hM2⟩ : ∃ M, 1000 - dV a0 = M := ⟨_, rfl⟩
  simp only [hM1, hM2] at hrm
  have HM1 := Lib.hid hM1
  have HM2 := Lib.hid hM2
  have HRM := Lib.hid hrm
  have hM1b : 0 ≤ M1 ∧ M1 ≤ 20 := by omega
  have hM2b : 990 ≤ M2 ∧ M2 ≤ 1000 := by omega
  have HR := Lib.hid w1
  have HN := Lib.hid w1.len_eq
  have HWF := Lib.hid w1.wf
  clear hM1 hM2 hrm v1 v2 w0 w1 w2 w3 w4 w5
  by_cases g1 : n1 < 2
  · have g1' : (n1 : Int) < 2 := by omega
    have d1 : decide ((n1 : Int) < 2) = true := decide_eq_true g1'
    go_enter Try.func5, Try.ntmps5
    go_wp2_with (first
      | ((go_at_call 9; refine (alive_yes _).mono ?_; rintro e w1 ⟨rfl, hb1⟩; have HB1 := Lib.hid hb1; clear hb1))
      | ((go_at_call 14; refine (HRM.out _).mono ?_; rintro e w' ⟨rfl, rfl⟩))
      | ((go_at_call 15; refine (HOv.out _).mono ?_; rintro e w' ⟨rfl, rfl⟩)))
    go_ret
    exact ⟨rfl, HB1.out⟩
  have g1' : ¬ (n1 : Int) < 2 := by omega
  have d1 : decide ((n1 : Int) < 2) = false := decide_eq_false g1'
  by_cases g2 : 8 < n1
  · have g2' : (8 : Int) < n1 := by omega
    have d2 : decide ((8 : Int) < n1) = true := decide_eq_true g2'
    go_enter Try.func5, Try.ntmps5
    go_wp2_with (first
      | ((go_at_call 9; refine (alive_yes _).mono ?_; rintro e w1 ⟨rfl, hb1⟩; have HB1 := Lib.hid hb1; clear hb1))
      | ((go_at_call 14; refine (HRM.out _).mono ?_; rintro e w' ⟨rfl, rfl⟩))
      | ((go_at_call 15; refine (HOv.out _).mono ?_; rintro e w' ⟨rfl, rfl⟩)))
    go_ret
    exact ⟨rfl, HB1.out⟩
  have g2' : ¬ (8 : Int) < n1 := by omega
  have d2 : decide ((8 : Int) < n1) = false := decide_eq_false g2'
  by_cases g3 : a3 < 1
  · go_enter Try.func5, Try.ntmps5
    go_wp2_with (first
      | ((go_at_call 9; refine (alive_yes _).mono ?_; rintro e w1 ⟨rfl, hb1⟩; have HB1 := Lib.hid hb1; clear hb1))
      | ((go_at_call 14; refine (HRM.out _).mono ?_; rintro e w' ⟨rfl, rfl⟩))
      | ((go_at_call 15; refine (HOv.out _).mono ?_; rintro e w' ⟨rfl, rfl⟩)))
    go_ret
    exact ⟨rfl, HB1.out⟩
  have d3 : decide (a3 < 1) = false := decide_eq_false g3
  by_cases g4 : 1000 < a3
  · go_enter Try.func5, Try.ntmps5
    go_wp2_with (first
      | ((go_at_call 9; refine (alive_yes _).mono ?_; rintro e w1 ⟨rfl, hb1⟩; have HB1 := Lib.hid hb1; clear hb1))
      | ((go_at_call 14; refine (HRM.out _).mono ?_; rintro e w' ⟨rfl, rfl⟩))
      | ((go_at_call 15; refine (HOv.out _).mono ?_; rintro e w' ⟨rfl, rfl⟩)))
    go_ret
    exact ⟨rfl, HB1.out⟩
  have d4 : decide (1000 < a3) = false := decide_eq_false g4
  by_cases g5 : a2 < -1000
  · go_enter Try.func5, Try.ntmps5
    go_wp2_with (first
      | ((go_at_call 9; refine (alive_yes _).mono ?_; rintro e w1 ⟨rfl, hb1⟩; have HB1 := Lib.hid hb1; clear hb1))
      | ((go_at_call 14; refine (HRM.out _).mono ?_; rintro e w' ⟨rfl, rfl⟩))
      | ((go_at_call 15; refine (HOv.out _).mono ?_; rintro e w' ⟨rfl, rfl⟩)))
    go_ret
    exact ⟨rfl, HB1.out⟩
  have d5 : decide (a2 < -1000) = false := decide_eq_false g5
  by_cases g6 : 1000 < a2
  · go_enter Try.func5, Try.ntmps5
    go_wp2_with (first
      | ((go_at_call 9; refine (alive_yes _).mono ?_; rintro e w1 ⟨rfl, hb1⟩; have HB1 := Lib.hid hb1; clear hb1))
      | ((go_at_call 14; refine (HRM.out _).mono ?_; rintro e w' ⟨rfl, rfl⟩))
      | ((go_at_call 15; refine (HOv.out _).mono ?_; rintro e w' ⟨rfl, rfl⟩)))
    go_ret
    exact ⟨rfl, HB1.out⟩
  have d6 : decide (1000 < a2) = false := decide_eq_false g6
  have wn := IntWalk.i64_in (-a2) (by omega)
  have hX0 : 0 ≤ max a2 (-a2) := by omega
  have hX1 : max a2 (-a2) ≤ 1000 := by omega
  have hov := fun W => over_bits (max a2 (-a2)) a3 M1 M2 W hX0 (by omega) (by omega) (by omega) (by omega) (by omega)
  obtain ⟨X, hX⟩ : ∃ X, max a2 (-a2) = X := ⟨_, rfl⟩
  by_cases g7 : M1 * a3 < max a2 (-a2) * M2
  · simp only [decide_eq_true g7] at hov
    simp only [hX] at hov
    have HOv := Lib.hid hov
    clear hov hX0 hX1 g7
    go_enter Try.func5, Try.ntmps5
    go_wp2_with (first
      | ((go_at_call 9; refine (alive_yes _).mono ?_; rintro e w1 ⟨rfl, hb1⟩; have HB1 := Lib.hid hb1; clear hb1))
      | ((go_at_call 14; refine (HRM.out _).mono ?_; rintro e w' ⟨rfl, rfl⟩))
      | ((go_at_call 15; refine (HOv.out _).mono ?_; rintro e w' ⟨rfl, rfl⟩)))
    go_ret
    exact ⟨rfl, HB1.out⟩
  simp only [decide_eq_false g7] at hov
  simp only [hX] at hov
  obtain ⟨gl, gh⟩ := gain_le (by omega) hM1b hM2b.1 g7
  have HG7 := Lib.hid g7
  have HOv := Lib.hid hov
  clear hov hX0 hX1 g7
  by_cases g8 : a4 < 0
  · go_enter Try.func5, Try.ntmps5
    go_wp2_with (first
      | ((go_at_call 9; refine (alive_yes _).mono ?_; rintro e w1 ⟨rfl, hb1⟩; have HB1 := Lib.hid hb1; clear hb1))
      | ((go_at_call 14; refine (HRM.out _).mono ?_; rintro e w' ⟨rfl, rfl⟩))
      | ((go_at_call 15; refine (HOv.out _).mono ?_; rintro e w' ⟨rfl, rfl⟩)))
    go_ret
    exact ⟨rfl, HB1.out⟩
  have d8 : decide (a4 < 0) = false := decide_eq_false g8
  by_cases g9 : 1099511627776 < a4
  · go_enter Try.func5, Try.ntmps5
    go_wp2_with (first
      | ((go_at_call 9; refine (alive_yes _).mono ?_; rintro e w1 ⟨rfl, hb1⟩; have HB1 := Lib.hid hb1; clear hb1))
      | ((go_at_call 14; refine (HRM.out _).mono ?_; rintro e w' ⟨rfl, rfl⟩))
      | ((go_at_call 15; refine (HOv.out _).mono ?_; rintro e w' ⟨rfl, rfl⟩)))
    go_ret
    exact ⟨rfl, HB1.out⟩
  have d9 : decide (1099511627776 < a4) = false := decide_eq_false g9
  by_cases g10 : a5 < -1099511627776
  · go_enter Try.func5, Try.ntmps5
    go_wp2_with (first
      | ((go_at_call 9; refine (alive_yes _).mono ?_; rintro e w1 ⟨rfl, hb1⟩; have HB1 := Lib.hid hb1; clear hb1))
      | ((go_at_call 14; refine (HRM.out _).mono ?_; rintro e w' ⟨rfl, rfl⟩))
      | ((go_at_call 15; refine (HOv.out _).mono ?_; rintro e w' ⟨rfl, rfl⟩)))
    go_ret
    exact ⟨rfl, HB1.out⟩
  have d10 : decide (a5 < -1099511627776) = false := decide_eq_false g10
  by_cases g11 : 1099511627776 < a5
  · go_enter Try.func5, Try.ntmps5
    go_wp2_with (first
      | ((go_at_call 9; refine (alive_yes _).mono ?_; rintro e w1 ⟨rfl, hb1⟩; have HB1 := Lib.hid hb1; clear hb1))
      | ((go_at_call 14; refine (HRM.out _).mono ?_; rintro e w' ⟨rfl, rfl⟩))
      | ((go_at_call 15; refine (HOv.out _).mono ?_; rintro e w' ⟨rfl, rfl⟩)))
    go_ret
    exact ⟨rfl, HB1.out⟩
  have d11 : decide (1099511627776 < a5) = false := decide_eq_false g11
  go_enter Try.func5, Try.ntmps5
  go_wp2_with (first
    | ((go_at_call 9; refine (alive_yes _).mono ?_; rintro e w1 ⟨rfl, hb1⟩; have HB1 := Lib.hid hb1; clear hb1))
    | ((go_at_call 14; refine (HRM.out _).mono ?_; rintro e w' ⟨rfl, rfl⟩))
    | ((go_at_call 15; refine (HOv.out _).mono ?_; rintro e w' ⟨rfl, rfl⟩)))
  have HXX := Lib.hid hX
  have hn2 : 2 ≤ n1 := by omega
  have hn8 : n1 ≤ 8 := by omega
  have b3 : 1 ≤ a3 := by omega
  have b3' : a3 ≤ 1000 := by omega
  clear hX wn d1 d2 d3 d4 d5 d6 d8 d9 d10 d11 g1 g2 g3 g4 fe ff
  go_loopw [15, 78] (fun v i wr => ∃ (k : Nat) (A' : Option Addr) (c' : Nat), k ≤ n1 ∧ i = .int .i64 (k : Int) ∧ v = .slice A' k c' ∧ wr.ownsRow w.heap.size 37 3 (.slice A' k c') k (trs ((z1.take k).map (lineE a4 a5 a2 a3))) ∧ Below w.heap.size w wr ∧ (∀ x ∈ z1.take k, 0 ≤ x ∧ x ≤ 4000) ∧ ∀ i x y, i + 1 < k → z1[i]? = some x → z1[i + 1]? = some y → x < y) (fun _ i _ => n1 - (intOf i).toNat)
  case atStart => exact ⟨0, none, 0, Nat.zero_le _, rfl, rfl, World.ownsRow_nil _ _ _ _, HB1.out, (fun e he => by cases he), (fun i _ _ h => by omega)⟩
  case round =>
    obtain ⟨k, A', c', hk, rfl, rfl, hown, hb, hall, hris⟩ := hrel
    have HO := Lib.hid hown
    have HB := Lib.hid hb
    have HA := Lib.hid hall
    have HRi := Lib.hid hris
    clear hown hb hall hris HB1
    by_cases hlt : k < n1
    · obtain ⟨x, hx⟩ : ∃ x, z1[k]? = some x := ⟨_, List.getElem?_eq_getElem (by rw [HN.out]; exact hlt)⟩
      obtain ⟨b, off, rfl, _, hcell⟩ := (HR.out.below HB.out).cell (by omega)
      have HCe := Lib.hid hcell
      have q0 := hcell k hlt
      clear hcell
      rw [List.getD_eq_getElem?_getD, hx] at q0
      dsimp only [Option.getD] at q0
      have HT := Lib.hid (take_next hx)
      have HX := Lib.hid hx
      have ewk := IntWalk.i64_in ((k : Int) + 1) (by omega)
      have q0' : k = 0 → wr.cell? ⟨b, off, none⟩ = some (.int .i64 x) := fun e => by subst e; exact q0
      have HQ0 := Lib.hid q0'
      clear q0'
      by_cases h1 : x < 0
      · go_wp2_with (first
          | ((go_at_call 9; refine (alive_yes _).mono ?_; rintro e w1 ⟨rfl, hb1⟩; have HB1 := Lib.hid hb1; clear hb1))
          | ((go_at_call 14; refine (HRM.out _).mono ?_; rintro e w' ⟨rfl, rfl⟩))
          | ((go_at_call 15; refine (HOv.out _).mono ?_; rintro e w' ⟨rfl, rfl⟩)))
        go_ret
        exact ⟨rfl, HB.out⟩
      have e1 : decide (x < 0) = false := decide_eq_false h1
      by_cases h2 : 4000 < x
      · go_wp2_with (first
          | ((go_at_call 9; refine (alive_yes _).mono ?_; rintro e w1 ⟨rfl, hb1⟩; have HB1 := Lib.hid hb1; clear hb1))
          | ((go_at_call 14; refine (HRM.out _).mono ?_; rintro e w' ⟨rfl, rfl⟩))
          | ((go_at_call 15; refine (HOv.out _).mono ?_; rintro e w' ⟨rfl, rfl⟩)))
        go_ret
        exact ⟨rfl, HB.out⟩
      have e2 : decide (4000 < x) = false := decide_eq_false h2
      obtain ⟨p1, p2⟩ := prod0 (x := x) (y := a3) (m := 4000) (k := 1000) ⟨by omega, by omega⟩ ⟨by omega, b3'⟩
      obtain ⟨p3, p4⟩ := prod_bd (x := x) (y := a2) (m := 4000) (k := 1000) ⟨by omega, by omega⟩ ⟨by omega, by omega⟩
      have t1 := IntWalk.i64_in (x * a3) (by omega)
      have t2 := IntWalk.i64_in (x * a2) (by omega)
      have t3 := IntWalk.i64_in (a4 + x * a3) (by omega)
      have t4 := IntWalk.i64_in (a5 + x * a2) (by omega)
      have hal := below_alloc wr (.cells #[.int .i64 (a4 + x * a3), .int .i64 (a5 + x * a2), .int .i64 1] 37)
      have HN7 := Lib.hid (Holds.new wr 37 #[.int .i64 (a4 + x * a3), .int .i64 (a5 + x * a2), .int .i64 1])
      have HB7 := Lib.hid (HB.out.trans (hal.mono HB.out.size))
      have HO7 := Lib.hid (own_keep' HO.out hal)
      clear hal
      rcases k with _ | m
      · have HRn : Hid (∀ i x y, i + 1 < 1 → z1[i]? = some x → z1[i + 1]? = some y → x < y) := Lib.hid (fun i _ _ h => by omega)
        clear hx
        have q0' := HQ0.out rfl
        clear q0
        go_wp2_with (at_builtin; refine wpList_push_ent rfl (.tmp 102) (.tmp 114) _ rfl w.heap.size 37 Try.underlying22 ent_info A' 0 c' ((z1.take 0).map (lineE a4 a5 a2 a3)) rfl HO7.out wr.heap.size _ (a4 + x * a3, a5 + x * a2, 1) rfl HN7.out (by omega) HB7.out.size ?_; intro A8 c8 w8 ho8 hb8; have HO8 := Lib.hid ho8; have HB8 := Lib.hid (HB7.out.trans hb8); clear ho8 hb8)
        go_roundw
        case rel =>
          refine ⟨1, A8, c8, by omega, by go_num, rfl, ?_, HB8.out, fun e he => ?_, HRn.out⟩
          · rw [HT.out, List.map_append]
            exact HO8.out
          · rw [HT.out] at he
            rcases List.mem_append.1 he with he | he
            · exact HA.out e he
            · simp only [List.mem_singleton] at he
              subst he
              omega
        case measure => simp [intOf]; omega
      · obtain ⟨y, hy⟩ : ∃ y, z1[m]? = some y := ⟨_, List.getElem?_eq_getElem (by rw [HN.out]; omega)⟩
        have q1 := HCe.out m (by omega)
        rw [List.getD_eq_getElem?_getD, hy] at q1
        dsimp only [Option.getD] at q1
        have HY := Lib.hid hy
        have ew : IntKind.i64.wrap (((m + 1 : Nat) : Int) - 1) = (m : Int) := by
          rw [IntWalk.i64_in _ (by omega)]
          omega
        have ew2 : IntKind.i64.wrap (m : Int) = (m : Int) := IntWalk.i64_in _ (by omega)
        have hmn : (m : Int) < n1 := by omega
        have hmn2 : m < n1 := by omega
        have hpos : decide ((0 : Int) < ((m + 1 : Nat) : Int)) = true := decide_eq_true (by omega)
        have hpos2 : (0 : Int) < (m : Int) + 1 := by omega
        clear hx hy
        by_cases hle : x ≤ y
        · have dl : decide (x ≤ y) = true := decide_eq_true hle
          go_wp2_with (first
            | ((go_at_call 9; refine (alive_yes _).mono ?_; rintro e w1 ⟨rfl, hb1⟩; have HB1 := Lib.hid hb1; clear hb1))
            | ((go_at_call 14; refine (HRM.out _).mono ?_; rintro e w' ⟨rfl, rfl⟩))
            | ((go_at_call 15; refine (HOv.out _).mono ?_; rintro e w' ⟨rfl, rfl⟩)))
          go_ret
          exact ⟨rfl, HB.out⟩
        · have dl : decide (x ≤ y) = false := decide_eq_false hle
          have HRn : Hid (∀ i x y, i + 1 < m + 1 + 1 → z1[i]? = some x → z1[i + 1]? = some y → x < y) := Lib.hid (fun i u v hi hu hv => by
            by_cases e : i = m
            · subst e
              have e1 := HY.out.symm.trans hu
              have e2 := HX.out.symm.trans hv
              cases e1
              cases e2
              omega
            · exact HRi.out i u v (by omega) hu hv)
          go_wp2_with (at_builtin; refine wpList_push_ent rfl (.tmp 102) (.tmp 114) _ rfl w.heap.size 37 Try.underlying22 ent_info A' (m + 1) c' ((z1.take (m + 1)).map (lineE a4 a5 a2 a3)) rfl HO7.out wr.heap.size _ (a4 + x * a3, a5 + x * a2, 1) rfl HN7.out (by omega) HB7.out.size ?_; intro A8 c8 w8 ho8 hb8; have HO8 := Lib.hid ho8; have HB8 := Lib.hid (HB7.out.trans hb8); clear ho8 hb8)
          go_roundw
          case rel =>
            refine ⟨m + 1 + 1, A8, c8, by omega, by go_num, rfl, ?_, HB8.out, fun e he => ?_, HRn.out⟩
            · rw [HT.out, List.map_append]
              exact HO8.out
            · rw [HT.out] at he
              rcases List.mem_append.1 he with he | he
              · exact HA.out e he
              · simp only [List.mem_singleton] at he
                subst he
                omega
          case measure => simp [intOf]; omega
    · obtain ⟨m, hm⟩ : ∃ m, n1 = m + 1 := ⟨n1 - 1, by omega⟩
      have hkm : k = m + 1 := by omega
      have htk : z1.take k = z1 := List.take_of_length_le (by rw [HN.out]; omega)
      rw [htk] at HO HA
      have hzl : z1.length = m + 1 := by rw [HN.out, hm]
      obtain ⟨x0, hx0⟩ : ∃ x, z1[0]? = some x := ⟨_, List.getElem?_eq_getElem (by omega)⟩
      obtain ⟨xl, hxl⟩ : ∃ x, z1[m]? = some x := ⟨_, List.getElem?_eq_getElem (by omega)⟩
      have hrise := rise_list HN.out (fun i x y hi => HRi.out i x y (by omega))
      have hends := rise_ends hzl hrise hx0 hxl
      have hfar := line_far a0 (l := a4) (o := a5) (gain := a2) (of := a3) hx0 (List.mem_of_getElem? hxl)
      have hnear := fun hd => line_slope a0 (line_fits (l := a4) (o := a5) (gain := a2) (of := a3) (by omega) (by omega) HA.out b3 b3' gl gh (by omega) (by omega) (by omega) (by omega) hx0 hends hd) (by omega) b3 hx0 hrise (by rw [HM1.out, HM2.out]; first | exact HG7.out | exact Int.not_lt.2 HG7.out)
      have hbd := of_bd a0 (z1.map (lineE a4 a5 a2 a3))
      rw [HM1.out, HM2.out] at hbd
      have hdiff : a4 + xl * a3 - (a4 + x0 * a3) = (xl - x0) * a3 := by grind
      obtain ⟨px1, px2⟩ := hends xl (List.mem_of_getElem? hxl)
      obtain ⟨pz1, pz2⟩ := HA.out x0 (List.mem_of_getElem? hx0)
      obtain ⟨py1, py2⟩ := HA.out xl (List.mem_of_getElem? hxl)
      obtain ⟨pp1, pp2⟩ := prod0 (x := xl - x0) (y := a3) (m := 4000) (k := 1000) ⟨by omega, by omega⟩ ⟨by omega, b3'⟩
      have e0 : ((z1.map (lineE a4 a5 a2 a3)))[0]? = some (lineE a4 a5 a2 a3 x0) := by simp [hx0]
      have el : ((z1.map (lineE a4 a5 a2 a3)))[m]? = some (lineE a4 a5 a2 a3 xl) := by simp [hxl]
      have hof := fun W B A n c (h : TRow W B A n c (z1.map (lineE a4 a5 a2 a3))) => slope_of a0 W B A n c _ h
      obtain ⟨V, hVV⟩ : ∃ V, ofV a0 (z1.map (lineE a4 a5 a2 a3)) = V := ⟨_, rfl⟩
      obtain ⟨V1, V2⟩ := V
      simp only [hVV] at hof hfar hnear hbd
      unfold slV at hof
      dsimp only at hof
      obtain ⟨c1', c2', c3', c4', c5'⟩ := hbd
      have hV1 : -1125899906842624 ≤ V1 ∧ V1 ≤ 1125899906842624 := by
        have k1 := Int.mul_le_mul_of_nonneg_left hM2b.1 (show 0 ≤ max V1 (-V1) by omega)
        have k2 := Int.mul_le_mul_of_nonneg_right hM1b.2 (show 0 ≤ V2 by omega)
        omega
      have HT := Lib.hid (TRow.of_own HO.out)
      have HE0 := Lib.hid e0
      have HEl := Lib.hid el
      have HOf := Lib.hid hof
      have wd : IntKind.i64.wrap (a4 + xl * a3 - (a4 + x0 * a3)) = (xl - x0) * a3 := by rw [hdiff]; exact IntWalk.i64_in _ (by omega)
      have z0 := Int.mul_nonneg pz1 (show 0 ≤ a3 by omega)
      obtain ⟨P, hP⟩ : ∃ P, a4 + xl * a3 = P := ⟨_, rfl⟩
      obtain ⟨Q, hQ⟩ : ∃ Q, a4 + x0 * a3 = Q := ⟨_, rfl⟩
      obtain ⟨D, hD⟩ : ∃ D, (xl - x0) * a3 = D := ⟨_, rfl⟩
      rw [hP, hQ, hD] at wd
      rw [hD] at hfar pp1 pp2
      simp only [hD] at hnear
      have ew : IntKind.i64.wrap (((m + 1 : Nat) : Int) - 1) = (m : Int) := by
        rw [IntWalk.i64_in _ (by omega)]
        omega
      have ew2 : IntKind.i64.wrap (m : Int) = (m : Int) := IntWalk.i64_in _ (by omega)
      have HP := Lib.hid hP
      have HQ := Lib.hid hQ
      subst hm
      subst hkm
      have hmn : (m : Int) < (m : Int) + 1 := by omega
      have hmn2 : m < m + 1 := by omega
      have l1 : ¬ ((m + 1 : Nat) : Int) < ((m + 1 : Nat) : Int) := by omega
      clear hof hP hQ hD hdiff e0 el hVV htk hzl hx0 hxl hrise hends HA z0 px1 px2 py1 py2 pz1 pz2
      go_upto_region 15 with (go_at_call 10; (with_reducible refine (HOf.out _ _ _ _ _ HT.out).mono ?_); rintro e w2 ⟨rfl, hb2⟩; have hb3 := hb2.trans ((below_alloc w2 (.cells #[.int .i64 V1, .int .i64 V2] 25)).mono hb2.size); have HT2 := Lib.hid (HT.out.below hb3); have HB3 := Lib.hid (HB.out.trans (hb3.mono HB.out.size)); have hh := Holds.new w2 25 #[.int .i64 V1, .int .i64 V2]; have k0 := hh.cell 0; have k1 := hh.cell 1; clear hb2 hb3 hh)
      obtain ⟨b, off, rfl, q0, _, _⟩ := HT2.out.at HE0.out
      obtain ⟨b', off', hA', p0, _, _⟩ := HT2.out.at HEl.out
      simp only [Option.some.injEq, Addr.mk.injEq, and_true] at hA'
      obtain ⟨rfl, rfl⟩ := hA'
      rw [Nat.zero_mul, Nat.add_zero] at q0
      unfold lineE at q0 p0
      dsimp only at q0 p0
      rw [HQ.out] at q0
      rw [HP.out] at p0
      go_quiet (fail)
      by_cases hfd : 4194304 < D
      · exfalso
        omega
      · have r0 : decide (4194304 < D) = false := decide_eq_false hfd
        obtain ⟨r1, r2⟩ := hnear (by omega)
        obtain ⟨s1, s2⟩ := hV1
        have r3 : decide (V1 < 2251799813685248) = true := decide_eq_true (by omega)
        have r4 : decide (-2251799813685248 < V1) = true := decide_eq_true (by omega)
        have r5 : decide (V2 < 2251799813685248) = true := decide_eq_true (by omega)
        have r6 : V1 < 2251799813685248 := by omega
        have r7 : -2251799813685248 < V1 := by omega
        have r8 : V2 < 2251799813685248 := by omega
        have r9 : decide (0 < V2) = true := decide_eq_true r1
        obtain ⟨u1, u2⟩ := prod_bd (x := V1) (y := a3) (m := 1125899906842624) (k := 1000) ⟨by omega, by omega⟩ ⟨by omega, b3'⟩
        have t1 := IntWalk.i64_in (V1 * a3) (by omega)
        have t2 := IntWalk.i64_in (a2 * V2) (by rw [← r2]; omega)
        rw [r2] at t1 u1 u2
        obtain ⟨Z, hZ⟩ : ∃ Z, a2 * V2 = Z := ⟨_, rfl⟩
        rw [hZ] at r2 t1 t2
        have HZZ : (Z == Z) = true := by simp
        clear hfar hnear u1 u2 s1 s2 c1' c2' c3' c4' c5'
        go_wp2
        go_ret
        exact ⟨rfl, below_drewN HB3.out _⟩

set_option maxRecDepth 100000 in
theorem lifted (os : Os) (started : os.Started) (H : Type) (enc : TypeId × Value → H) :
    ReturnsInHanded {} Try.checked os 5 .any (Rows.slopeLineSpec.pre6 enc Try.prog Try.f5 Rows.slopeLineRow.domain false) (Rows.slopeLineSpec.post enc Try.prog Try.f5 false true false false) := by
  refine returnsInHanded_of_change (C := Try.checked) own started (by kernel_rfl) Try.func5
    (ChangeSpec.witness6 (enc := enc) (C := Try.checked) false ⟨#[], #[.int .i64 0, .slice none 0 0, .int .i64 0, .int .i64 0, .int .i64 0, .int .i64 0], []⟩ 8 (by kernel_rfl) (by kernel_rfl) (by kernel_rfl) (by kernel_rfl)) ?_
  intro W base args ds gs before hval0 hW hcnd _
  have hval : ∀ (j : Nat) t v, Try.f5.params[j]? = some t → args[j]? = some v → Value.okWide Try.prog W .any base t v := hval0
  have hW' := hW
  obtain ⟨p, q, hA0, hV, rfl, hfz, hnd⟩ := hW
  have hA : DataW.TrodAll enc Try.prog W 0 (fun _ => true) true Try.f5.params.toList args.toList ds p := hA0
  have hAk := hA
  rw [Try.params5] at hA hval
  obtain ⟨v0, vs0, d0, ds0, p0, q0, hargs, rfl, hp, h0, r0⟩ := trodAll_cons hA
  obtain ⟨v1, vs1, d1, ds1, p1, q1, rfl, rfl, rfl, h1, r1⟩ := trodAll_cons r0
  obtain ⟨v2, vs2, d2, ds2, p2, q2, rfl, rfl, rfl, h2, r2⟩ := trodAll_cons r1
  obtain ⟨v3, vs3, d3, ds3, p3, q3, rfl, rfl, rfl, h3, r3⟩ := trodAll_cons r2
  obtain ⟨v4, vs4, d4, ds4, p4, q4, rfl, rfl, rfl, h4, r4⟩ := trodAll_cons r3
  obtain ⟨v5, vs5, d5, ds5, p5, q5, rfl, rfl, rfl, h5, r5⟩ := trodAll_cons r4
  obtain ⟨rfl, rfl, rfl⟩ := trodAll_nil r5
  obtain rfl : args = #[v0, v1, v2, v3, v4, v5] := by cases args; simp_all
  obtain ⟨rfl, rfl⟩ := trodVars_none hV
  clear hA0 hval0 hargs
  simp only [List.append_nil] at hW'
  have hend : ∀ W' : World, Below W.heap.size W W' → Rows.slopeLineSpec.post enc Try.prog Try.f5 false true false false W #[v0, v1, v2, v3, v4, v5] (.bool true) W' := fun W' hb =>
    law_post (tb := 4) hW' hAk rfl (by kernel_rfl) (by kernel_rfl) (by kernel_rfl) Try.underlying4 rfl rfl rfl hb
  clear hW' hAk hp
  obtain ⟨a0, rfl, rfl, rfl, w0⟩ := open_int Try.underlying3 (hval 0 3 v0 rfl rfl) h0
  obtain ⟨A1, n1, c1, z1, rfl, w1⟩ := ints_arg Try.underlying35 Try.underlying3 (by kernel_rfl) (hval 1 35 v1 rfl rfl) h1
  obtain ⟨a2, rfl, rfl, rfl, w2⟩ := open_int Try.underlying3 (hval 2 3 v2 rfl rfl) h2
  obtain ⟨a3, rfl, rfl, rfl, w3⟩ := open_int Try.underlying3 (hval 3 3 v3 rfl rfl) h3
  obtain ⟨a4, rfl, rfl, rfl, w4⟩ := open_int Try.underlying3 (hval 4 3 v4 rfl rfl) h4
  obtain ⟨a5, rfl, rfl, rfl, w5⟩ := open_int Try.underlying3 (hval 5 3 v5 rfl rfl) h5
  refine (walk a0 A1 n1 c1 z1 a2 a3 a4 a5 W w0 w1 w2 w3 w4 w5).mono fun e W' ⟨he, hg⟩ => ?_
  subst he
  exact ⟨_, rfl, hend W' hg⟩

theorem over : Rows.slopeLineRow.holds Try.pinned (OpenSpec.ofChange Rows.slopeLineSpec) :=
  OpenClaim.holds_of_wide 5 Try.f5 rfl rfl rfl rfl rfl rfl rfl ⟨rfl, rfl, rfl, rfl, rfl⟩ rfl rfl rfl rfl rfl (by kernel_rfl) Try.func5 (by kernel_rfl)
    (of_decide_eq_true (by kernel_rfl)) (by unfold Func.isWrapper; first | (rw [if_pos (by decide +kernel)]; kernel_rfl) | (rw [if_neg (by decide +kernel)]; exact ⟨rfl, rfl⟩))
    (fun os started H enc _ => lifted os started H enc)

/-- THE STATEMENT -/
theorem proved : Rows.SlopeLineSaid :=
  over
#print axioms proved
end Go.Proofs.Ytcgnedndfhkgiaa.slopeLine
