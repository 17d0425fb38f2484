/-
  Where offsets never fall the slope is no less than 0, and where they never rise no greater: for every drift and every slice of entries (of more than 8, or such as do not rise, or cannot be, the law asks nothing) the law answers true; without conditions.
  The walk is the prover's own; the frame of the row's step follows the kit's template.
-/
import Derived.Test.YtcgnedndfhkgiaaRows
import Derived.Test.YtcgnedndfhkgiaaLawKit
import Derived.Test.YtcgnedndfhkgiaaFlat
import Derived.Test.YtcgnedndfhkgiaaSpH
import Derived.Test.YtcgnedndfhkgiaaSpJ
import Derived.LoopTactic
import Derived.Deep.CutBlock
import Derived.BigQuiet
namespace Go.Proofs.Ytcgnedndfhkgiaa.slopeSigns
open Go.ChangeShapes Go.WideShapes Go.ChangeAt Go.RowKit Go.ChangeMaps Go.WideElems
set_option linter.unusedVariables false

theorem cells1 {W : World} {vs : List Value} (h : Fit W [.int .i64, .int .i64, .int .i64] vs) : ∃ (s0 : Int) (s1 : Int) (s2 : Int), vs = [.int .i64 s0, .int .i64 s1, .int .i64 s2] ∧ (Lit.int .i64 s0).wf = true ∧ (Lit.int .i64 s1).wf = true ∧ (Lit.int .i64 s2).wf = true := by
  match vs, h.length, h with
  | [y0, y1, y2], _, h =>
    obtain ⟨⟨x0, rfl, h0⟩, ⟨x1, rfl, h1⟩, ⟨x2, rfl, h2⟩, _⟩ := h
    exact ⟨x0, x1, x2, rfl, h0, h1, h2⟩
theorem own : ownKnob Try.prog.godebug = none := by kernel_rfl
set_option linter.unusedSimpArgs false in
set_option maxHeartbeats 4000000 in
set_option maxRecDepth 100000 in
theorem walk (a0 : Int) (A1 : Option Addr) (n1 c1 : Nat) (f1 : Nat → List Value) (w : World) (w0 : (Lit.int .i64 a0).wf = true) (w1 : FlatRow w [.int .i64, .int .i64, .int .i64] A1 n1 c1 f1) :
    Calls Try.prog 8 #[.int .i64 a0, .slice A1 n1 c1] w fun e w' => e = .returned (.bool true) ∧ Below w.heap.size w w' := by
  by_cases h100 : 8 < n1
  · have d3 : decide ((8 : Int) < (n1 : Int)) = true := decide_eq_true (by omega)
    go_enter Try.func8, Try.ntmps8
    go_wp2_with (first
      | ((go_at_call 9; refine (alive_yes _).mono ?_; rintro e w1 ⟨rfl, hb1⟩; try have HB1 := Lib.hid hb1))
      | ((go_at_call 10; refine (HOf.out _ HB1.out).mono ?_; rintro e w2 ⟨rfl, hb2⟩; have HB2 := Lib.hid (HB1.out.trans (hb2.mono HB1.out.size)); have hh := Holds.new w2 25 #[.int .i64 V1, .int .i64 V2]; have HB3 := Lib.hid (HB2.out.alloc HB2.out.size (.cells #[.int .i64 V1, .int .i64 V2] 25)); have c0 := hh.cell 0; have c1' := hh.cell 1; clear hb2 hh)))
    go_ret
    exact ⟨rfl, hb1⟩
  have d3 : decide ((8 : Int) < (n1 : Int)) = false := decide_eq_false (by omega)
  obtain ⟨L, hL, _⟩ := trow_of_flat w1
  have HL := Lib.hid hL
  have HN := Lib.hid hL.len
  clear w1 hL
  go_enter Try.func8, Try.ntmps8
  go_wp2_with (first
    | ((go_at_call 9; refine (alive_yes _).mono ?_; rintro e w1 ⟨rfl, hb1⟩; try have HB1 := Lib.hid hb1))
    | ((go_at_call 10; refine (HOf.out _ HB1.out).mono ?_; rintro e w2 ⟨rfl, hb2⟩; have HB2 := Lib.hid (HB1.out.trans (hb2.mono HB1.out.size)); have hh := Holds.new w2 25 #[.int .i64 V1, .int .i64 V2]; have HB3 := Lib.hid (HB2.out.alloc HB2.out.size (.cells #[.int .i64 V1, .int .i64 V2] 25)); have c0 := hh.cell 0; have c1' := hh.cell 1; clear hb2 hh)))
  clear hb1
  go_loopw [5, 6, 17] (fun u v i wr => ∃ (k : Nat) (up down : Bool), k ≤ n1 ∧ i = .int .i64 (k : Int) ∧ u = .bool up ∧ v = .bool down ∧ Below w.heap.size w wr ∧ RiseTo L k ∧ (up = true → UpTo L k) ∧ (down = true → DownTo L k)) (fun _ _ i _ => n1 - (intOf i).toNat)
  case atStart => exact ⟨0, true, true, Nat.zero_le _, rfl, rfl, rfl, HB1.out, (fun i _ _ h => by omega), (fun _ i _ _ h => by omega), (fun _ i _ _ h => by omega)⟩
  case round =>
    obtain ⟨k, up, down, hk, rfl, rfl, rfl, hb, hr, hu, hd⟩ := hrel
    have HB := Lib.hid hb
    have HR := Lib.hid hr
    have HU := Lib.hid hu
    have HD := Lib.hid hd
    clear hb hr hu hd HB1
    by_cases hlt : k < n1
    · obtain ⟨x, hx⟩ : ∃ x, L[k]? = some x := ⟨_, List.getElem?_eq_getElem (by rw [HN.out]; exact hlt)⟩
      obtain ⟨b, off, hA, q0, q1, q2⟩ := (HL.out.below HB.out).at hx
      obtain ⟨b3, off3, hA3, _, hlt3, _⟩ := (HL.out.below HB.out).cell (by omega)
      rw [hA] at hA3
      simp only [Option.some.injEq, Addr.mk.injEq, and_true] at hA3
      obtain ⟨rfl, rfl⟩ := hA3
      have ewk := IntWalk.i64_in ((k : Int) + 1) (by omega)
      rcases k with _ | m
      · obtain ⟨x1, x2, x3⟩ := x
        subst hA
        dsimp only at q0 q1 q2
        rw [Nat.zero_mul, Nat.add_zero] at q0 q1 q2
        have HB2 := Lib.hid (HB.out.alloc HB.out.size (.cells #[.int .i64 x1, .int .i64 x2, .int .i64 x3] 37))
        clear hx hlt3
        go_upto_region 9 with (fail)
        go_quiet (fail)
        go_upto_region 11 with (fail)
        go_quiet (fail)
        go_upto_region 13 with (fail)
        go_quiet (fail)
        go_wp2
        go_roundw
        case rel => exact ⟨1, up, down, by omega, by go_num, rfl, rfl, below_drewN HB2.out _, rise_one, fun _ => up_one, fun _ => down_one⟩
        case measure => simp [intOf]; omega
      · obtain ⟨y, hy⟩ : ∃ y, L[m]? = some y := ⟨_, List.getElem?_eq_getElem (by rw [HN.out]; omega)⟩
        obtain ⟨b', off', hA', p0, p1, p2⟩ := (HL.out.below HB.out).at hy
        rw [hA] at hA'
        simp only [Option.some.injEq, Addr.mk.injEq, and_true] at hA'
        obtain ⟨rfl, rfl⟩ := hA'
        subst hA
        have HX := Lib.hid hx
        have HY := Lib.hid hy
        obtain ⟨x1, x2, x3⟩ := x
        obtain ⟨y1, y2, y3⟩ := y
        dsimp only at q0 q1 q2 p0 p1 p2
        have hk0 := (Holds.new wr 37 #[.int .i64 x1, .int .i64 x2, .int .i64 x3])
        have hal := below_alloc wr (.cells #[.int .i64 x1, .int .i64 x2, .int .i64 x3] 37)
        have H6 := Lib.hid (show Six b (off + m * 3) wr.heap.size 0 (y1, y2, y3) (x1, x2, x3) (wr.alloc (.cells #[.int .i64 x1, .int .i64 x2, .int .i64 x3] 37)) from ⟨Nat.lt_of_lt_of_le hlt3 hal.size, hk0.lt, below_cells hal hlt3 p0, below_cells hal hlt3 p1, below_cells hal hlt3 p2, hk0.cell 0, hk0.cell 1, hk0.cell 2⟩)
        have HB2 := Lib.hid (HB.out.alloc HB.out.size (.cells #[.int .i64 x1, .int .i64 x2, .int .i64 x3] 37))
        have ew : IntKind.i64.wrap (((m + 1 : Nat) : Int) - 1) = (m : Int) := by
          rw [IntWalk.i64_in _ (by omega)]
          omega
        have ew2 : IntKind.i64.wrap (m : Int) = (m : Int) := IntWalk.i64_in _ (by omega)
        have hmn : (m : Int) < n1 := by omega
        have hmn2 : m < n1 := by omega
        have hpos : decide ((0 : Int) < ((m + 1 : Nat) : Int)) = true := decide_eq_true (by omega)
        have hpos2 : (0 : Int) < (m : Int) + 1 := by omega
        clear hx hy hk0 hal hlt3 p0 p1 p2
        go_upto_region 9 with (fail)
        clear q0 q1 q2
        by_cases hle : x1 ≤ y1
        · have dl : decide (x1 ≤ y1) = true := decide_eq_true hle
          refine region_turns (fun (w' : World) => w'.cell? ⟨b, off + m * 3, none⟩ = some (.int .i64 y1) ∧ w'.cell? ⟨b, off + m * 3 + 1, none⟩ = some (.int .i64 y2) ∧ w'.cell? ⟨b, off + m * 3 + 2, none⟩ = some (.int .i64 y3) ∧ w'.cell? ⟨wr.heap.size, 0, none⟩ = some (.int .i64 x1) ∧ w'.cell? ⟨wr.heap.size, 0 + 1, none⟩ = some (.int .i64 x2) ∧ w'.cell? ⟨wr.heap.size, 0 + 2, none⟩ = some (.int .i64 x3) ∧ Below w.heap.size w w') (fun j => decide (18 ≤ j)) (by kernel_rfl) ((have h := (H6.out.below (Below.refl _ _).drew); ⟨h.o0, h.o1, h.o2, h.e0, h.e1, h.e2, HB2.out.drew⟩)) (fun hS => ?_)
          refine Turns.take hS 0 _ rfl (by kernel_rfl) (by kernel_rfl) (by kernel_rfl) (by kernel_rfl) (fun _ _ _ h => h) (by rfl) (fun w' hS' => by (try dsimp only at hS'); go_split_ands; go_simp; (try with_reducible rfl)) ?_
          simp only [Act.put, List.getElem_toArray, List.getElem_cons_succ, List.getElem_cons_zero, List.setIfInBounds_toArray, List.set_cons_zero, List.set_cons_succ]
          refine Turns.take hS 1 _ rfl (by kernel_rfl) (by kernel_rfl) (by kernel_rfl) (by kernel_rfl) (fun _ _ _ h => h) (by rfl) (fun w' hS' => by (try dsimp only at hS'); go_split_ands; go_simp; (try with_reducible rfl)) ?_
          simp only [Act.put, List.getElem_toArray, List.getElem_cons_succ, List.getElem_cons_zero, List.setIfInBounds_toArray, List.set_cons_zero, List.set_cons_succ]
          refine Turns.take hS 2 _ rfl (by kernel_rfl) (by kernel_rfl) (by kernel_rfl) (by kernel_rfl) (fun _ _ _ h => h) (by rfl) (fun w' hS' => by (try dsimp only at hS'); go_split_ands; go_simp; (try with_reducible rfl)) ?_
          simp only [Act.put, List.getElem_toArray, List.getElem_cons_succ, List.getElem_cons_zero, List.setIfInBounds_toArray, List.set_cons_zero, List.set_cons_succ]
          refine Turns.take hS 3 _ rfl (by kernel_rfl) (by kernel_rfl) (by kernel_rfl) (by kernel_rfl) (fun _ _ _ h => h) (by rfl) (fun w' hS' => by (try dsimp only at hS'); go_split_ands; go_simp; (try with_reducible rfl)) ?_
          simp only [Act.put, List.getElem_toArray, List.getElem_cons_succ, List.getElem_cons_zero, List.setIfInBounds_toArray, List.set_cons_zero, List.set_cons_succ]
          refine Turns.take hS 4 _ rfl (by kernel_rfl) (by kernel_rfl) (by kernel_rfl) (by kernel_rfl) (fun _ _ _ h => h) (by rfl) (fun w' hS' => by (try dsimp only at hS'); go_split_ands; go_simp; (try with_reducible rfl)) ?_
          simp only [Act.put, List.getElem_toArray, List.getElem_cons_succ, List.getElem_cons_zero, List.setIfInBounds_toArray, List.set_cons_zero, List.set_cons_succ]
          refine Turns.take hS 5 _ rfl (by kernel_rfl) (by kernel_rfl) (by kernel_rfl) (by kernel_rfl) (fun _ _ _ h => h) (by rfl) (fun w' hS' => by (try dsimp only at hS'); go_split_ands; go_simp; (try with_reducible rfl)) ?_
          simp only [Act.put, List.getElem_toArray, List.getElem_cons_succ, List.getElem_cons_zero, List.setIfInBounds_toArray, List.set_cons_zero, List.set_cons_succ]
          refine Turns.take hS 6 _ rfl (by kernel_rfl) (by kernel_rfl) (by kernel_rfl) (by kernel_rfl) (fun _ _ _ h => h) (by rfl) (fun w' hS' => by (try dsimp only at hS'); go_split_ands; go_simp; (try with_reducible rfl)) ?_
          simp only [Act.put, List.getElem_toArray, List.getElem_cons_succ, List.getElem_cons_zero, List.setIfInBounds_toArray, List.set_cons_zero, List.set_cons_succ]
          refine Turns.take hS 7 _ rfl (by kernel_rfl) (by kernel_rfl) (by kernel_rfl) (by kernel_rfl) (fun _ _ _ h => h) (by rfl) (fun w' hS' => by (try dsimp only at hS'); go_split_ands; go_simp; (try with_reducible rfl)) ?_
          simp only [Act.put, List.getElem_toArray, List.getElem_cons_succ, List.getElem_cons_zero, List.setIfInBounds_toArray, List.set_cons_zero, List.set_cons_succ]
          refine Turns.take hS 8 _ rfl (by kernel_rfl) (by kernel_rfl) (by kernel_rfl) (by kernel_rfl) (fun _ _ _ h => h) (by rfl) (fun w' hS' => by (try dsimp only at hS'); go_split_ands; go_simp; (try with_reducible rfl)) ?_
          simp only [Act.put, List.getElem_toArray, List.getElem_cons_succ, List.getElem_cons_zero, List.setIfInBounds_toArray, List.set_cons_zero, List.set_cons_succ]
          refine Turns.take hS 9 _ rfl (by kernel_rfl) (by kernel_rfl) (by kernel_rfl) (by kernel_rfl) (fun _ _ _ h => h) (by rfl) (fun w' hS' => by (try dsimp only at hS'); go_split_ands; go_simp; (try with_reducible rfl)) ?_
          simp only [Act.put, List.getElem_toArray, List.getElem_cons_succ, List.getElem_cons_zero, List.setIfInBounds_toArray, List.set_cons_zero, List.set_cons_succ]
          refine Turns.take hS 10 _ rfl (by kernel_rfl) (by kernel_rfl) (by kernel_rfl) (by kernel_rfl) (fun _ _ _ h => h) (by rfl) (fun w' hS' => by (try dsimp only at hS'); go_split_ands; go_simp; (try with_reducible rfl)) ?_
          simp only [Act.put, List.getElem_toArray, List.getElem_cons_succ, List.getElem_cons_zero, List.setIfInBounds_toArray, List.set_cons_zero, List.set_cons_succ]
          refine Turns.take hS 11 _ rfl (by kernel_rfl) (by kernel_rfl) (by kernel_rfl) (by kernel_rfl) (fun _ _ _ h => h) (by rfl) (fun w' hS' => by (try dsimp only at hS'); go_split_ands; go_simp; (try with_reducible rfl)) ?_
          simp only [Act.put, List.getElem_toArray, List.getElem_cons_succ, List.getElem_cons_zero, List.setIfInBounds_toArray, List.set_cons_zero, List.set_cons_succ]
          refine Turns.take hS 12 _ rfl (by kernel_rfl) (by kernel_rfl) (by kernel_rfl) (by kernel_rfl) (fun _ _ _ h => h) (by rfl) (fun w' hS' => by (try dsimp only at hS'); go_split_ands; go_simp; (try with_reducible rfl)) ?_
          simp only [Act.put, List.getElem_toArray, List.getElem_cons_succ, List.getElem_cons_zero, List.setIfInBounds_toArray, List.set_cons_zero, List.set_cons_succ]
          refine Turns.skip hS 13 rfl (by kernel_rfl) (by kernel_rfl) (by kernel_rfl) (by kernel_rfl) (fun _ _ _ h => h) (by rfl) ?_
          simp only [Act.put, List.getElem_toArray, List.getElem_cons_succ, List.getElem_cons_zero, List.setIfInBounds_toArray, List.set_cons_zero, List.set_cons_succ]
          refine Turns.skip hS 14 rfl (by kernel_rfl) (by kernel_rfl) (by kernel_rfl) (by kernel_rfl) (fun _ _ _ h => h) (by rfl) ?_
          simp only [Act.put, List.getElem_toArray, List.getElem_cons_succ, List.getElem_cons_zero, List.setIfInBounds_toArray, List.set_cons_zero, List.set_cons_succ]
          refine Turns.skip hS 15 rfl (by kernel_rfl) (by kernel_rfl) (by kernel_rfl) (by kernel_rfl) (fun _ _ _ h => h) (by rfl) ?_
          simp only [Act.put, List.getElem_toArray, List.getElem_cons_succ, List.getElem_cons_zero, List.setIfInBounds_toArray, List.set_cons_zero, List.set_cons_succ]
          refine Turns.take hS 16 _ rfl (by kernel_rfl) (by kernel_rfl) (by kernel_rfl) (by kernel_rfl) (fun _ _ _ h => h) (by rfl) (fun w' hS' => by (try dsimp only at hS'); go_split_ands; go_simp; (try with_reducible rfl)) ?_
          simp only [Act.put, List.getElem_toArray, List.getElem_cons_succ, List.getElem_cons_zero, List.setIfInBounds_toArray, List.set_cons_zero, List.set_cons_succ]
          refine Turns.take hS 17 _ rfl (by kernel_rfl) (by kernel_rfl) (by kernel_rfl) (by kernel_rfl) (fun _ _ _ h => h) (by rfl) (fun w' hS' => by (try dsimp only at hS'); go_split_ands; go_simp; (try with_reducible rfl)) ?_
          simp only [Act.put, List.getElem_toArray, List.getElem_cons_succ, List.getElem_cons_zero, List.setIfInBounds_toArray, List.set_cons_zero, List.set_cons_succ]
          refine Turns.rest (late_done (by kernel_rfl)) ?_
          refine any_tail 18 (by rfl) (by kernel_rfl) ?_
          simp only [List.drop_succ_cons, List.drop_zero]
          clear hS
          go_wp2
          go_ret
          exact ⟨rfl, HB2.out.drew⟩
        · have dl : decide (x1 ≤ y1) = false := decide_eq_false hle
          by_cases hcan : CanE (x1, x2, x3)
          · skip
            refine region_turns (fun (w' : World) => w'.cell? ⟨b, off + m * 3, none⟩ = some (.int .i64 y1) ∧ w'.cell? ⟨b, off + m * 3 + 1, none⟩ = some (.int .i64 y2) ∧ w'.cell? ⟨b, off + m * 3 + 2, none⟩ = some (.int .i64 y3) ∧ w'.cell? ⟨wr.heap.size, 0, none⟩ = some (.int .i64 x1) ∧ w'.cell? ⟨wr.heap.size, 0 + 1, none⟩ = some (.int .i64 x2) ∧ w'.cell? ⟨wr.heap.size, 0 + 2, none⟩ = some (.int .i64 x3) ∧ Six b (off + m * 3) wr.heap.size 0 (y1, y2, y3) (x1, x2, x3) w' ∧ Below w.heap.size w w') (fun j => decide (18 ≤ j)) (by kernel_rfl) ((have h := (H6.out.below (Below.refl _ _).drew); ⟨h.o0, h.o1, h.o2, h.e0, h.e1, h.e2, h, HB2.out.drew⟩)) (fun hS => ?_)
            refine Turns.take hS 0 _ rfl (by kernel_rfl) (by kernel_rfl) (by kernel_rfl) (by kernel_rfl) (fun _ _ _ h => h) (by rfl) (fun w' hS' => by (try dsimp only at hS'); go_split_ands; go_simp; (try with_reducible rfl)) ?_
            simp only [Act.put, List.getElem_toArray, List.getElem_cons_succ, List.getElem_cons_zero, List.setIfInBounds_toArray, List.set_cons_zero, List.set_cons_succ]
            refine Turns.take hS 1 _ rfl (by kernel_rfl) (by kernel_rfl) (by kernel_rfl) (by kernel_rfl) (fun _ _ _ h => h) (by rfl) (fun w' hS' => by (try dsimp only at hS'); go_split_ands; go_simp; (try with_reducible rfl)) ?_
            simp only [Act.put, List.getElem_toArray, List.getElem_cons_succ, List.getElem_cons_zero, List.setIfInBounds_toArray, List.set_cons_zero, List.set_cons_succ]
            refine Turns.take hS 2 _ rfl (by kernel_rfl) (by kernel_rfl) (by kernel_rfl) (by kernel_rfl) (fun _ _ _ h => h) (by rfl) (fun w' hS' => by (try dsimp only at hS'); go_split_ands; go_simp; (try with_reducible rfl)) ?_
            simp only [Act.put, List.getElem_toArray, List.getElem_cons_succ, List.getElem_cons_zero, List.setIfInBounds_toArray, List.set_cons_zero, List.set_cons_succ]
            refine Turns.take hS 3 _ rfl (by kernel_rfl) (by kernel_rfl) (by kernel_rfl) (by kernel_rfl) (fun _ _ _ h => h) (by rfl) (fun w' hS' => by (try dsimp only at hS'); go_split_ands; go_simp; (try with_reducible rfl)) ?_
            simp only [Act.put, List.getElem_toArray, List.getElem_cons_succ, List.getElem_cons_zero, List.setIfInBounds_toArray, List.set_cons_zero, List.set_cons_succ]
            refine Turns.take hS 4 _ rfl (by kernel_rfl) (by kernel_rfl) (by kernel_rfl) (by kernel_rfl) (fun _ _ _ h => h) (by rfl) (fun w' hS' => by (try dsimp only at hS'); go_split_ands; go_simp; (try with_reducible rfl)) ?_
            simp only [Act.put, List.getElem_toArray, List.getElem_cons_succ, List.getElem_cons_zero, List.setIfInBounds_toArray, List.set_cons_zero, List.set_cons_succ]
            refine Turns.take hS 5 _ rfl (by kernel_rfl) (by kernel_rfl) (by kernel_rfl) (by kernel_rfl) (fun _ _ _ h => h) (by rfl) (fun w' hS' => by (try dsimp only at hS'); go_split_ands; go_simp; (try with_reducible rfl)) ?_
            simp only [Act.put, List.getElem_toArray, List.getElem_cons_succ, List.getElem_cons_zero, List.setIfInBounds_toArray, List.set_cons_zero, List.set_cons_succ]
            refine Turns.take hS 6 _ rfl (by kernel_rfl) (by kernel_rfl) (by kernel_rfl) (by kernel_rfl) (fun _ _ _ h => h) (by rfl) (fun w' hS' => by (try dsimp only at hS'); go_split_ands; go_simp; (try with_reducible rfl)) ?_
            simp only [Act.put, List.getElem_toArray, List.getElem_cons_succ, List.getElem_cons_zero, List.setIfInBounds_toArray, List.set_cons_zero, List.set_cons_succ]
            refine Turns.take hS 7 _ rfl (by kernel_rfl) (by kernel_rfl) (by kernel_rfl) (by kernel_rfl) (fun _ _ _ h => h) (by rfl) (fun w' hS' => by (try dsimp only at hS'); go_split_ands; go_simp; (try with_reducible rfl)) ?_
            simp only [Act.put, List.getElem_toArray, List.getElem_cons_succ, List.getElem_cons_zero, List.setIfInBounds_toArray, List.set_cons_zero, List.set_cons_succ]
            refine Turns.take hS 8 _ rfl (by kernel_rfl) (by kernel_rfl) (by kernel_rfl) (by kernel_rfl) (fun _ _ _ h => h) (by rfl) (fun w' hS' => by (try dsimp only at hS'); go_split_ands; go_simp; (try with_reducible rfl)) ?_
            simp only [Act.put, List.getElem_toArray, List.getElem_cons_succ, List.getElem_cons_zero, List.setIfInBounds_toArray, List.set_cons_zero, List.set_cons_succ]
            refine Turns.take hS 9 _ rfl (by kernel_rfl) (by kernel_rfl) (by kernel_rfl) (by kernel_rfl) (fun _ _ _ h => h) (by rfl) (fun w' hS' => by (try dsimp only at hS'); go_split_ands; go_simp; (try with_reducible rfl)) ?_
            simp only [Act.put, List.getElem_toArray, List.getElem_cons_succ, List.getElem_cons_zero, List.setIfInBounds_toArray, List.set_cons_zero, List.set_cons_succ]
            refine Turns.take hS 10 _ rfl (by kernel_rfl) (by kernel_rfl) (by kernel_rfl) (by kernel_rfl) (fun _ _ _ h => h) (by rfl) (fun w' hS' => by (try dsimp only at hS'); go_split_ands; go_simp; (try with_reducible rfl)) ?_
            simp only [Act.put, List.getElem_toArray, List.getElem_cons_succ, List.getElem_cons_zero, List.setIfInBounds_toArray, List.set_cons_zero, List.set_cons_succ]
            refine Turns.take hS 11 _ rfl (by kernel_rfl) (by kernel_rfl) (by kernel_rfl) (by kernel_rfl) (fun _ _ _ h => h) (by rfl) (fun w' hS' => by (try dsimp only at hS'); go_split_ands; go_simp; (try with_reducible rfl)) ?_
            simp only [Act.put, List.getElem_toArray, List.getElem_cons_succ, List.getElem_cons_zero, List.setIfInBounds_toArray, List.set_cons_zero, List.set_cons_succ]
            refine Turns.take hS 12 _ rfl (by kernel_rfl) (by kernel_rfl) (by kernel_rfl) (by kernel_rfl) (fun _ _ _ h => h) (by rfl) (fun w' hS' => by (try dsimp only at hS'); go_split_ands; go_simp; (try with_reducible rfl)) ?_
            simp only [Act.put, List.getElem_toArray, List.getElem_cons_succ, List.getElem_cons_zero, List.setIfInBounds_toArray, List.set_cons_zero, List.set_cons_succ]
            refine Turns.take hS 13 _ rfl (by kernel_rfl) (by kernel_rfl) (by kernel_rfl) (by kernel_rfl) (fun _ _ _ h => h) (by rfl) (fun w' hS' => by (try dsimp only at hS'); go_split_ands; go_simp; (try with_reducible rfl)) ?_
            simp only [Act.put, List.getElem_toArray, List.getElem_cons_succ, List.getElem_cons_zero, List.setIfInBounds_toArray, List.set_cons_zero, List.set_cons_succ]
            refine Turns.next 14 rfl (by kernel_rfl) (by rfl) (fun K hK => ?_)
            go_simp
            go_at_call 16
            (with_reducible refine (good_yes _ _ _ _ hcan).mono ?_)
            rintro e w4 ⟨rfl, hb4⟩
            have HS4 := Lib.hid (hS.2.2.2.2.2.2.1.below hb4)
            have HB4 := Lib.hid (hS.2.2.2.2.2.2.2.trans (hb4.mono hS.2.2.2.2.2.2.2.size))
            refine hK.out _ _ (show (fun (w' : World) => w'.cell? ⟨b, off + m * 3, none⟩ = some (.int .i64 y1) ∧ w'.cell? ⟨b, off + m * 3 + 1, none⟩ = some (.int .i64 y2) ∧ w'.cell? ⟨b, off + m * 3 + 2, none⟩ = some (.int .i64 y3) ∧ w'.cell? ⟨wr.heap.size, 0, none⟩ = some (.int .i64 x1) ∧ w'.cell? ⟨wr.heap.size, 0 + 1, none⟩ = some (.int .i64 x2) ∧ w'.cell? ⟨wr.heap.size, 0 + 2, none⟩ = some (.int .i64 x3) ∧ Six b (off + m * 3) wr.heap.size 0 (y1, y2, y3) (x1, x2, x3) w' ∧ Below w.heap.size w w') _ from ⟨HS4.out.o0, HS4.out.o1, HS4.out.o2, HS4.out.e0, HS4.out.e1, HS4.out.e2, HS4.out, HB4.out⟩) ?_
            clear hK K hS
            have hS := (show (fun (w' : World) => w'.cell? ⟨b, off + m * 3, none⟩ = some (.int .i64 y1) ∧ w'.cell? ⟨b, off + m * 3 + 1, none⟩ = some (.int .i64 y2) ∧ w'.cell? ⟨b, off + m * 3 + 2, none⟩ = some (.int .i64 y3) ∧ w'.cell? ⟨wr.heap.size, 0, none⟩ = some (.int .i64 x1) ∧ w'.cell? ⟨wr.heap.size, 0 + 1, none⟩ = some (.int .i64 x2) ∧ w'.cell? ⟨wr.heap.size, 0 + 2, none⟩ = some (.int .i64 x3) ∧ Six b (off + m * 3) wr.heap.size 0 (y1, y2, y3) (x1, x2, x3) w' ∧ Below w.heap.size w w') _ from ⟨HS4.out.o0, HS4.out.o1, HS4.out.o2, HS4.out.e0, HS4.out.e1, HS4.out.e2, HS4.out, HB4.out⟩)
            refine Turns.take hS 15 _ rfl (by kernel_rfl) (by kernel_rfl) (by kernel_rfl) (by kernel_rfl) (fun _ _ _ h => h) (by rfl) (fun w' hS' => by (try dsimp only at hS'); go_split_ands; go_simp; (try with_reducible rfl)) ?_
            simp only [Act.put, List.getElem_toArray, List.getElem_cons_succ, List.getElem_cons_zero, List.setIfInBounds_toArray, List.set_cons_zero, List.set_cons_succ]
            refine Turns.take hS 16 _ rfl (by kernel_rfl) (by kernel_rfl) (by kernel_rfl) (by kernel_rfl) (fun _ _ _ h => h) (by rfl) (fun w' hS' => by (try dsimp only at hS'); go_split_ands; go_simp; (try with_reducible rfl)) ?_
            simp only [Act.put, List.getElem_toArray, List.getElem_cons_succ, List.getElem_cons_zero, List.setIfInBounds_toArray, List.set_cons_zero, List.set_cons_succ]
            refine Turns.take hS 17 _ rfl (by kernel_rfl) (by kernel_rfl) (by kernel_rfl) (by kernel_rfl) (fun _ _ _ h => h) (by rfl) (fun w' hS' => by (try dsimp only at hS'); go_split_ands; go_simp; (try with_reducible rfl)) ?_
            simp only [Act.put, List.getElem_toArray, List.getElem_cons_succ, List.getElem_cons_zero, List.setIfInBounds_toArray, List.set_cons_zero, List.set_cons_succ]
            refine Turns.rest (late_done (by kernel_rfl)) ?_
            refine any_tail 18 (by rfl) (by kernel_rfl) ?_
            simp only [List.drop_succ_cons, List.drop_zero]
            clear hS
            have r1 := HS4.out.o1
            have r2 := HS4.out.e1
            dsimp only at r1 r2
            rw [Nat.zero_add] at r2
            have HRN := Lib.hid (rise_next HR.out HY.out HX.out (by dsimp only; omega))
            rcases Int.lt_trichotomy x2 y2 with t | t | t
            · have t1 : decide (x2 < y2) = true := decide_eq_true t
              have t2 : decide (y2 < x2) = false := decide_eq_false (by omega)
              have t3 : ¬ y2 < x2 := by omega
              have HDN := Lib.hid (fun h => down_next (HD.out h) HY.out HX.out (by dsimp only; omega))
              go_upto_region 11 with (fail)
              go_quiet (fail)
              go_upto_region 13 with (fail)
              go_quiet (fail)
              go_wp2
              go_roundw
              case rel => exact ⟨m + 1 + 1, false, down, by omega, by go_num, rfl, rfl, below_drewN HB4.out _, HRN.out, (fun h => by cases h), HDN.out⟩
              case measure => simp [intOf]; omega
            · have t1 : decide (x2 < y2) = false := decide_eq_false (by omega)
              have t2 : decide (y2 < x2) = false := decide_eq_false (by omega)
              have t3 : ¬ y2 < x2 := by omega
              have t4 : ¬ x2 < y2 := by omega
              have HUN := Lib.hid (fun h => up_next (HU.out h) HY.out HX.out (by dsimp only; omega))
              have HDN := Lib.hid (fun h => down_next (HD.out h) HY.out HX.out (by dsimp only; omega))
              clear t
              go_upto_region 11 with (fail)
              go_quiet (fail)
              go_upto_region 13 with (fail)
              go_quiet (fail)
              go_wp2
              go_roundw
              case rel => exact ⟨m + 1 + 1, up, down, by omega, by go_num, rfl, rfl, below_drewN HB4.out _, HRN.out, HUN.out, HDN.out⟩
              case measure => simp [intOf]; omega
            · have t1 : decide (x2 < y2) = false := decide_eq_false (by omega)
              have t2 : decide (y2 < x2) = true := decide_eq_true t
              have t4 : ¬ x2 < y2 := by omega
              have HUN := Lib.hid (fun h => up_next (HU.out h) HY.out HX.out (by dsimp only; omega))
              go_upto_region 11 with (fail)
              go_quiet (fail)
              go_upto_region 13 with (fail)
              go_quiet (fail)
              go_wp2
              go_roundw
              case rel => exact ⟨m + 1 + 1, up, false, by omega, by go_num, rfl, rfl, below_drewN HB4.out _, HRN.out, HUN.out, (fun h => by cases h)⟩
              case measure => simp [intOf]; omega
          · skip
            refine region_turns (fun (w' : World) => w'.cell? ⟨b, off + m * 3, none⟩ = some (.int .i64 y1) ∧ w'.cell? ⟨b, off + m * 3 + 1, none⟩ = some (.int .i64 y2) ∧ w'.cell? ⟨b, off + m * 3 + 2, none⟩ = some (.int .i64 y3) ∧ w'.cell? ⟨wr.heap.size, 0, none⟩ = some (.int .i64 x1) ∧ w'.cell? ⟨wr.heap.size, 0 + 1, none⟩ = some (.int .i64 x2) ∧ w'.cell? ⟨wr.heap.size, 0 + 2, none⟩ = some (.int .i64 x3) ∧ Six b (off + m * 3) wr.heap.size 0 (y1, y2, y3) (x1, x2, x3) w' ∧ Below w.heap.size w w') (fun j => decide (18 ≤ j)) (by kernel_rfl) ((have h := (H6.out.below (Below.refl _ _).drew); ⟨h.o0, h.o1, h.o2, h.e0, h.e1, h.e2, h, HB2.out.drew⟩)) (fun hS => ?_)
            refine Turns.take hS 0 _ rfl (by kernel_rfl) (by kernel_rfl) (by kernel_rfl) (by kernel_rfl) (fun _ _ _ h => h) (by rfl) (fun w' hS' => by (try dsimp only at hS'); go_split_ands; go_simp; (try with_reducible rfl)) ?_
            simp only [Act.put, List.getElem_toArray, List.getElem_cons_succ, List.getElem_cons_zero, List.setIfInBounds_toArray, List.set_cons_zero, List.set_cons_succ]
            refine Turns.take hS 1 _ rfl (by kernel_rfl) (by kernel_rfl) (by kernel_rfl) (by kernel_rfl) (fun _ _ _ h => h) (by rfl) (fun w' hS' => by (try dsimp only at hS'); go_split_ands; go_simp; (try with_reducible rfl)) ?_
            simp only [Act.put, List.getElem_toArray, List.getElem_cons_succ, List.getElem_cons_zero, List.setIfInBounds_toArray, List.set_cons_zero, List.set_cons_succ]
            refine Turns.take hS 2 _ rfl (by kernel_rfl) (by kernel_rfl) (by kernel_rfl) (by kernel_rfl) (fun _ _ _ h => h) (by rfl) (fun w' hS' => by (try dsimp only at hS'); go_split_ands; go_simp; (try with_reducible rfl)) ?_
            simp only [Act.put, List.getElem_toArray, List.getElem_cons_succ, List.getElem_cons_zero, List.setIfInBounds_toArray, List.set_cons_zero, List.set_cons_succ]
            refine Turns.take hS 3 _ rfl (by kernel_rfl) (by kernel_rfl) (by kernel_rfl) (by kernel_rfl) (fun _ _ _ h => h) (by rfl) (fun w' hS' => by (try dsimp only at hS'); go_split_ands; go_simp; (try with_reducible rfl)) ?_
            simp only [Act.put, List.getElem_toArray, List.getElem_cons_succ, List.getElem_cons_zero, List.setIfInBounds_toArray, List.set_cons_zero, List.set_cons_succ]
            refine Turns.take hS 4 _ rfl (by kernel_rfl) (by kernel_rfl) (by kernel_rfl) (by kernel_rfl) (fun _ _ _ h => h) (by rfl) (fun w' hS' => by (try dsimp only at hS'); go_split_ands; go_simp; (try with_reducible rfl)) ?_
            simp only [Act.put, List.getElem_toArray, List.getElem_cons_succ, List.getElem_cons_zero, List.setIfInBounds_toArray, List.set_cons_zero, List.set_cons_succ]
            refine Turns.take hS 5 _ rfl (by kernel_rfl) (by kernel_rfl) (by kernel_rfl) (by kernel_rfl) (fun _ _ _ h => h) (by rfl) (fun w' hS' => by (try dsimp only at hS'); go_split_ands; go_simp; (try with_reducible rfl)) ?_
            simp only [Act.put, List.getElem_toArray, List.getElem_cons_succ, List.getElem_cons_zero, List.setIfInBounds_toArray, List.set_cons_zero, List.set_cons_succ]
            refine Turns.take hS 6 _ rfl (by kernel_rfl) (by kernel_rfl) (by kernel_rfl) (by kernel_rfl) (fun _ _ _ h => h) (by rfl) (fun w' hS' => by (try dsimp only at hS'); go_split_ands; go_simp; (try with_reducible rfl)) ?_
            simp only [Act.put, List.getElem_toArray, List.getElem_cons_succ, List.getElem_cons_zero, List.setIfInBounds_toArray, List.set_cons_zero, List.set_cons_succ]
            refine Turns.take hS 7 _ rfl (by kernel_rfl) (by kernel_rfl) (by kernel_rfl) (by kernel_rfl) (fun _ _ _ h => h) (by rfl) (fun w' hS' => by (try dsimp only at hS'); go_split_ands; go_simp; (try with_reducible rfl)) ?_
            simp only [Act.put, List.getElem_toArray, List.getElem_cons_succ, List.getElem_cons_zero, List.setIfInBounds_toArray, List.set_cons_zero, List.set_cons_succ]
            refine Turns.take hS 8 _ rfl (by kernel_rfl) (by kernel_rfl) (by kernel_rfl) (by kernel_rfl) (fun _ _ _ h => h) (by rfl) (fun w' hS' => by (try dsimp only at hS'); go_split_ands; go_simp; (try with_reducible rfl)) ?_
            simp only [Act.put, List.getElem_toArray, List.getElem_cons_succ, List.getElem_cons_zero, List.setIfInBounds_toArray, List.set_cons_zero, List.set_cons_succ]
            refine Turns.take hS 9 _ rfl (by kernel_rfl) (by kernel_rfl) (by kernel_rfl) (by kernel_rfl) (fun _ _ _ h => h) (by rfl) (fun w' hS' => by (try dsimp only at hS'); go_split_ands; go_simp; (try with_reducible rfl)) ?_
            simp only [Act.put, List.getElem_toArray, List.getElem_cons_succ, List.getElem_cons_zero, List.setIfInBounds_toArray, List.set_cons_zero, List.set_cons_succ]
            refine Turns.take hS 10 _ rfl (by kernel_rfl) (by kernel_rfl) (by kernel_rfl) (by kernel_rfl) (fun _ _ _ h => h) (by rfl) (fun w' hS' => by (try dsimp only at hS'); go_split_ands; go_simp; (try with_reducible rfl)) ?_
            simp only [Act.put, List.getElem_toArray, List.getElem_cons_succ, List.getElem_cons_zero, List.setIfInBounds_toArray, List.set_cons_zero, List.set_cons_succ]
            refine Turns.take hS 11 _ rfl (by kernel_rfl) (by kernel_rfl) (by kernel_rfl) (by kernel_rfl) (fun _ _ _ h => h) (by rfl) (fun w' hS' => by (try dsimp only at hS'); go_split_ands; go_simp; (try with_reducible rfl)) ?_
            simp only [Act.put, List.getElem_toArray, List.getElem_cons_succ, List.getElem_cons_zero, List.setIfInBounds_toArray, List.set_cons_zero, List.set_cons_succ]
            refine Turns.take hS 12 _ rfl (by kernel_rfl) (by kernel_rfl) (by kernel_rfl) (by kernel_rfl) (fun _ _ _ h => h) (by rfl) (fun w' hS' => by (try dsimp only at hS'); go_split_ands; go_simp; (try with_reducible rfl)) ?_
            simp only [Act.put, List.getElem_toArray, List.getElem_cons_succ, List.getElem_cons_zero, List.setIfInBounds_toArray, List.set_cons_zero, List.set_cons_succ]
            refine Turns.take hS 13 _ rfl (by kernel_rfl) (by kernel_rfl) (by kernel_rfl) (by kernel_rfl) (fun _ _ _ h => h) (by rfl) (fun w' hS' => by (try dsimp only at hS'); go_split_ands; go_simp; (try with_reducible rfl)) ?_
            simp only [Act.put, List.getElem_toArray, List.getElem_cons_succ, List.getElem_cons_zero, List.setIfInBounds_toArray, List.set_cons_zero, List.set_cons_succ]
            refine Turns.next 14 rfl (by kernel_rfl) (by rfl) (fun K hK => ?_)
            go_simp
            go_at_call 16
            (with_reducible refine (good_no _ _ _ _ hcan).mono ?_)
            rintro e w4 ⟨rfl, hb4⟩
            have HS4 := Lib.hid (hS.2.2.2.2.2.2.1.below hb4)
            have HB4 := Lib.hid (hS.2.2.2.2.2.2.2.trans (hb4.mono hS.2.2.2.2.2.2.2.size))
            refine hK.out _ _ (show (fun (w' : World) => w'.cell? ⟨b, off + m * 3, none⟩ = some (.int .i64 y1) ∧ w'.cell? ⟨b, off + m * 3 + 1, none⟩ = some (.int .i64 y2) ∧ w'.cell? ⟨b, off + m * 3 + 2, none⟩ = some (.int .i64 y3) ∧ w'.cell? ⟨wr.heap.size, 0, none⟩ = some (.int .i64 x1) ∧ w'.cell? ⟨wr.heap.size, 0 + 1, none⟩ = some (.int .i64 x2) ∧ w'.cell? ⟨wr.heap.size, 0 + 2, none⟩ = some (.int .i64 x3) ∧ Six b (off + m * 3) wr.heap.size 0 (y1, y2, y3) (x1, x2, x3) w' ∧ Below w.heap.size w w') _ from ⟨HS4.out.o0, HS4.out.o1, HS4.out.o2, HS4.out.e0, HS4.out.e1, HS4.out.e2, HS4.out, HB4.out⟩) ?_
            clear hK K hS
            have hS := (show (fun (w' : World) => w'.cell? ⟨b, off + m * 3, none⟩ = some (.int .i64 y1) ∧ w'.cell? ⟨b, off + m * 3 + 1, none⟩ = some (.int .i64 y2) ∧ w'.cell? ⟨b, off + m * 3 + 2, none⟩ = some (.int .i64 y3) ∧ w'.cell? ⟨wr.heap.size, 0, none⟩ = some (.int .i64 x1) ∧ w'.cell? ⟨wr.heap.size, 0 + 1, none⟩ = some (.int .i64 x2) ∧ w'.cell? ⟨wr.heap.size, 0 + 2, none⟩ = some (.int .i64 x3) ∧ Six b (off + m * 3) wr.heap.size 0 (y1, y2, y3) (x1, x2, x3) w' ∧ Below w.heap.size w w') _ from ⟨HS4.out.o0, HS4.out.o1, HS4.out.o2, HS4.out.e0, HS4.out.e1, HS4.out.e2, HS4.out, HB4.out⟩)
            refine Turns.take hS 15 _ rfl (by kernel_rfl) (by kernel_rfl) (by kernel_rfl) (by kernel_rfl) (fun _ _ _ h => h) (by rfl) (fun w' hS' => by (try dsimp only at hS'); go_split_ands; go_simp; (try with_reducible rfl)) ?_
            simp only [Act.put, List.getElem_toArray, List.getElem_cons_succ, List.getElem_cons_zero, List.setIfInBounds_toArray, List.set_cons_zero, List.set_cons_succ]
            refine Turns.take hS 16 _ rfl (by kernel_rfl) (by kernel_rfl) (by kernel_rfl) (by kernel_rfl) (fun _ _ _ h => h) (by rfl) (fun w' hS' => by (try dsimp only at hS'); go_split_ands; go_simp; (try with_reducible rfl)) ?_
            simp only [Act.put, List.getElem_toArray, List.getElem_cons_succ, List.getElem_cons_zero, List.setIfInBounds_toArray, List.set_cons_zero, List.set_cons_succ]
            refine Turns.take hS 17 _ rfl (by kernel_rfl) (by kernel_rfl) (by kernel_rfl) (by kernel_rfl) (fun _ _ _ h => h) (by rfl) (fun w' hS' => by (try dsimp only at hS'); go_split_ands; go_simp; (try with_reducible rfl)) ?_
            simp only [Act.put, List.getElem_toArray, List.getElem_cons_succ, List.getElem_cons_zero, List.setIfInBounds_toArray, List.set_cons_zero, List.set_cons_succ]
            refine Turns.rest (late_done (by kernel_rfl)) ?_
            refine any_tail 18 (by rfl) (by kernel_rfl) ?_
            simp only [List.drop_succ_cons, List.drop_zero]
            clear hS
            go_wp2
            go_ret
            exact ⟨rfl, HB4.out⟩
    · obtain rfl : k = n1 := by omega
      have HUp := Lib.hid (fun h => of_up a0 HN.out HR.out (HU.out h))
      have HDn := Lib.hid (fun h => of_down a0 HN.out HR.out (HD.out h))
      obtain ⟨V, hV⟩ : ∃ V, ofV a0 L = V := ⟨_, rfl⟩
      obtain ⟨V1, V2⟩ := V
      have hof := fun W (hW : Below w.heap.size w W) => slope_of a0 W 0 A1 k c1 L (HL.out.below hW)
      simp only [hV] at hof HUp HDn
      unfold slV at hof
      dsimp only at hof
      have HOf := Lib.hid hof
      have l1 : ¬ (k : Int) < k := by omega
      have HB1 := HB
      clear hof hV HU HD HR
      rcases up with _ | _ <;> rcases down with _ | _
      · go_wp2_with (first
          | ((go_at_call 9; refine (alive_yes _).mono ?_; rintro e w1 ⟨rfl, hb1⟩; try have HB1 := Lib.hid hb1))
          | ((go_at_call 10; refine (HOf.out _ HB1.out).mono ?_; rintro e w2 ⟨rfl, hb2⟩; have HB2 := Lib.hid (HB1.out.trans (hb2.mono HB1.out.size)); have hh := Holds.new w2 25 #[.int .i64 V1, .int .i64 V2]; have HB3 := Lib.hid (HB2.out.alloc HB2.out.size (.cells #[.int .i64 V1, .int .i64 V2] 25)); have c0 := hh.cell 0; have c1' := hh.cell 1; clear hb2 hh)))
        go_ret
        exact ⟨rfl, HB3.out⟩
      · have s2 := HDn.out rfl
        go_wp2_with (first
          | ((go_at_call 9; refine (alive_yes _).mono ?_; rintro e w1 ⟨rfl, hb1⟩; try have HB1 := Lib.hid hb1))
          | ((go_at_call 10; refine (HOf.out _ HB1.out).mono ?_; rintro e w2 ⟨rfl, hb2⟩; have HB2 := Lib.hid (HB1.out.trans (hb2.mono HB1.out.size)); have hh := Holds.new w2 25 #[.int .i64 V1, .int .i64 V2]; have HB3 := Lib.hid (HB2.out.alloc HB2.out.size (.cells #[.int .i64 V1, .int .i64 V2] 25)); have c0 := hh.cell 0; have c1' := hh.cell 1; clear hb2 hh)))
        go_ret
        exact ⟨rfl, HB3.out⟩
      · have s1 := HUp.out rfl
        go_wp2_with (first
          | ((go_at_call 9; refine (alive_yes _).mono ?_; rintro e w1 ⟨rfl, hb1⟩; try have HB1 := Lib.hid hb1))
          | ((go_at_call 10; refine (HOf.out _ HB1.out).mono ?_; rintro e w2 ⟨rfl, hb2⟩; have HB2 := Lib.hid (HB1.out.trans (hb2.mono HB1.out.size)); have hh := Holds.new w2 25 #[.int .i64 V1, .int .i64 V2]; have HB3 := Lib.hid (HB2.out.alloc HB2.out.size (.cells #[.int .i64 V1, .int .i64 V2] 25)); have c0 := hh.cell 0; have c1' := hh.cell 1; clear hb2 hh)))
        go_ret
        exact ⟨rfl, HB3.out⟩
      · have s1 := HUp.out rfl
        have s2 := HDn.out rfl
        go_wp2_with (first
          | ((go_at_call 9; refine (alive_yes _).mono ?_; rintro e w1 ⟨rfl, hb1⟩; try have HB1 := Lib.hid hb1))
          | ((go_at_call 10; refine (HOf.out _ HB1.out).mono ?_; rintro e w2 ⟨rfl, hb2⟩; have HB2 := Lib.hid (HB1.out.trans (hb2.mono HB1.out.size)); have hh := Holds.new w2 25 #[.int .i64 V1, .int .i64 V2]; have HB3 := Lib.hid (HB2.out.alloc HB2.out.size (.cells #[.int .i64 V1, .int .i64 V2] 25)); have c0 := hh.cell 0; have c1' := hh.cell 1; clear hb2 hh)))
        go_ret
        exact ⟨rfl, HB3.out⟩

set_option maxRecDepth 100000 in
theorem lifted (os : Os) (started : os.Started) (H : Type) (enc : TypeId × Value → H) :
    ReturnsInHanded {} Try.checked os 8 .any (Rows.slopeSignsSpec.pre6 enc Try.prog Try.f8 Rows.slopeSignsRow.domain false) (Rows.slopeSignsSpec.post enc Try.prog Try.f8 false true false false) := by
  refine returnsInHanded_of_change (C := Try.checked) own started (by kernel_rfl) Try.func8
    (ChangeSpec.witness6 (enc := enc) (C := Try.checked) false ⟨#[], #[.int .i64 0, .slice none 0 0], []⟩ 8 (by kernel_rfl) (by kernel_rfl) (by kernel_rfl) (by kernel_rfl)) ?_
  intro W base args ds gs before hval0 hW hcnd _
  have hval : ∀ (j : Nat) t v, Try.f8.params[j]? = some t → args[j]? = some v → Value.okWide Try.prog W .any base t v := hval0
  have hW' := hW
  obtain ⟨p, q, hA0, hV, rfl, hfz, hnd⟩ := hW
  have hA : DataW.TrodAll enc Try.prog W 0 (fun _ => true) true Try.f8.params.toList args.toList ds p := hA0
  have hAk := hA
  rw [Try.params8] at hA hval
  obtain ⟨v0, vs0, d0, ds0, p0, q0, hargs, rfl, hp, h0, r0⟩ := trodAll_cons hA
  obtain ⟨v1, vs1, d1, ds1, p1, q1, rfl, rfl, rfl, h1, r1⟩ := trodAll_cons r0
  obtain ⟨rfl, rfl, rfl⟩ := trodAll_nil r1
  obtain rfl : args = #[v0, v1] := by cases args; simp_all
  obtain ⟨rfl, rfl⟩ := trodVars_none hV
  clear hA0 hval0 hargs
  simp only [List.append_nil] at hW'
  have hend : ∀ W' : World, Below W.heap.size W W' → Rows.slopeSignsSpec.post enc Try.prog Try.f8 false true false false W #[v0, v1] (.bool true) W' := fun W' hb =>
    law_post (tb := 4) hW' hAk rfl (by kernel_rfl) (by kernel_rfl) (by kernel_rfl) Try.underlying4 rfl rfl rfl hb
  clear hW' hAk hp
  obtain ⟨a0, rfl, rfl, rfl, w0⟩ := open_int Try.underlying3 (hval 0 3 v0 rfl rfl) h0
  obtain ⟨A1, n1, c1, f1, rfl, w1⟩ := flats_arg (ks := [.int .i64, .int .i64, .int .i64]) 9 Try.underlying22 (by kernel_rfl) (by kernel_rfl) (by decide) (hval 1 22 v1 rfl rfl) h1
  refine (walk a0 A1 n1 c1 f1 W w0 w1).mono fun e W' ⟨he, hg⟩ => ?_
  subst he
  exact ⟨_, rfl, hend W' hg⟩

theorem over : Rows.slopeSignsRow.holds Try.pinned (OpenSpec.ofChange Rows.slopeSignsSpec) :=
  OpenClaim.holds_of_wide 8 Try.f8 rfl rfl rfl rfl rfl rfl rfl ⟨rfl, rfl, rfl, rfl, rfl⟩ rfl rfl rfl rfl rfl (by kernel_rfl) Try.func8 (by kernel_rfl)
    (of_decide_eq_true (by kernel_rfl)) (by unfold Func.isWrapper; first | (rw [if_pos (by decide +kernel)]; kernel_rfl) | (rw [if_neg (by decide +kernel)]; exact ⟨rfl, rfl⟩))
    (fun os started H enc _ => lifted os started H enc)

/-- THE STATEMENT -/
theorem proved : Rows.SlopeSignsSaid :=
  over
#print axioms proved
end Go.Proofs.Ytcgnedndfhkgiaa.slopeSigns
