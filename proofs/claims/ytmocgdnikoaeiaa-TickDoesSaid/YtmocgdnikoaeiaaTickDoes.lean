/-
  In every script of up to 200 calls each answer, the counter and the time are the document's; what can't be is refused; a nil clock.
  The walk is the prover's own; the frame of the row's step follows the kit's template.
-/
import Derived.Test.YtmocgdnikoaeiaaRows
import Derived.Test.YtmocgdnikoaeiaaLawKit
import Derived.Test.YtmocgdnikoaeiaaFlat
import Derived.Test.YtmocgdnikoaeiaaTickC
import Derived.Test.YtmocgdnikoaeiaaTurn
import Derived.Deep.RegionHeld3
import Derived.LoopTactic
import Derived.Deep.CutBlock
namespace Go.Proofs.Ytmocgdnikoaeiaa.tickDoes
open Go.ChangeShapes Go.WideShapes Go.ChangeAt Go.RowKit Go.ChangeMaps Go.WideElems
set_option linter.unusedVariables false

theorem cells1 {W : World} {vs : List Value} (h : Fit W [.bool, .int .u32, .int .i64] vs) : ∃ (s0 : Bool) (s1 : Int) (s2 : Int), vs = [.bool s0, .int .u32 s1, .int .i64 s2] ∧ (Lit.int .u32 s1).wf = true ∧ (Lit.int .i64 s2).wf = true := by
  match vs, h.length, h with
  | [y0, y1, y2], _, h =>
    obtain ⟨⟨x0, rfl⟩, ⟨x1, rfl, h1⟩, ⟨x2, rfl, h2⟩, _⟩ := h
    exact ⟨x0, x1, x2, rfl, h1, h2⟩
theorem own : ownKnob Try.prog.godebug = none := by kernel_rfl
/-- The clock, and the document's, behind so many calls. -/
def Both (gx gm : Nat) (d : Int) (w wr : World) (N : Int) : Prop := Clk wr gx d N ∧ RClk wr gm d N ∧ 0 ≤ N ∧ N ≤ 1125899906842624 ∧ Below w.heap.size w wr
set_option linter.unusedSimpArgs false in
set_option maxHeartbeats 4000000 in
set_option maxRecDepth 100000 in
theorem walk (a0 : Int) (A1 : Option Addr) (n1 c1 : Nat) (f1 : Nat → List Value) (w : World) (w0 : (Lit.int .i64 a0).wf = true) (w1 : FlatRow w [.bool, .int .u32, .int .i64] A1 n1 c1 f1) :
    Calls Try.prog 3 #[.int .i64 a0, .slice A1 n1 c1] w fun e w' => e = .returned (.bool true) ∧ Below w.heap.size w w' := by
  by_cases h200 : 200 < n1
  · go_enter Try.func3, Try.ntmps3
    go_wp2_with (first
      | ((go_at_call 6; refine (alive_yes _).mono ?_; rintro e w1 ⟨rfl, hb1⟩))
      | ((go_at_call 7; refine (hnew _).mono ?_; rintro e w' ⟨rfl, rfl⟩))
      | ((go_at_call 8; refine (boot_nil _ _).mono ?_; rintro e w' ⟨rfl, rfl⟩))
      | ((go_at_call 9; refine (go_nil _ _).mono ?_; rintro e w' ⟨rfl, rfl⟩))
      | ((go_at_call 10; refine (fits_nil _ _).mono ?_; rintro e w' ⟨rfl, rfl⟩))
      | ((go_at_call 11; refine (now_nil _).mono ?_; rintro e w' ⟨rfl, rfl⟩))
      | ((go_at_call 12; refine (counter_nil _).mono ?_; rintro e w' ⟨rfl, rfl⟩)))
    go_ret
    exact ⟨rfl, hb1⟩
  have hmx := w1.max
  have hcap := w1.cap_le
  unfold maxLen at hmx
  have R := Lib.hid w1
  clear w1
  by_cases h0 : a0 < 0
  · have hnew := fun W => new_no a0 W (.inl h0)
    go_enter Try.func3, Try.ntmps3
    go_wp2_with (first
      | ((go_at_call 6; refine (alive_yes _).mono ?_; rintro e w1 ⟨rfl, hb1⟩))
      | ((go_at_call 7; refine (hnew _).mono ?_; rintro e w' ⟨rfl, rfl⟩))
      | ((go_at_call 8; refine (boot_nil _ _).mono ?_; rintro e w' ⟨rfl, rfl⟩))
      | ((go_at_call 9; refine (go_nil _ _).mono ?_; rintro e w' ⟨rfl, rfl⟩))
      | ((go_at_call 10; refine (fits_nil _ _).mono ?_; rintro e w' ⟨rfl, rfl⟩))
      | ((go_at_call 11; refine (now_nil _).mono ?_; rintro e w' ⟨rfl, rfl⟩))
      | ((go_at_call 12; refine (counter_nil _).mono ?_; rintro e w' ⟨rfl, rfl⟩)))
    go_ret
    exact ⟨rfl, hb1⟩
  by_cases h1 : 10 < a0
  · have hnew := fun W => new_no a0 W (.inr h1)
    go_enter Try.func3, Try.ntmps3
    go_wp2_with (first
      | ((go_at_call 6; refine (alive_yes _).mono ?_; rintro e w1 ⟨rfl, hb1⟩))
      | ((go_at_call 7; refine (hnew _).mono ?_; rintro e w' ⟨rfl, rfl⟩))
      | ((go_at_call 8; refine (boot_nil _ _).mono ?_; rintro e w' ⟨rfl, rfl⟩))
      | ((go_at_call 9; refine (go_nil _ _).mono ?_; rintro e w' ⟨rfl, rfl⟩))
      | ((go_at_call 10; refine (fits_nil _ _).mono ?_; rintro e w' ⟨rfl, rfl⟩))
      | ((go_at_call 11; refine (now_nil _).mono ?_; rintro e w' ⟨rfl, rfl⟩))
      | ((go_at_call 12; refine (counter_nil _).mono ?_; rintro e w' ⟨rfl, rfl⟩)))
    go_ret
    exact ⟨rfl, hb1⟩
  have hnew := fun W => new_yes a0 W (by omega) (by omega)
  go_enter Try.func3, Try.ntmps3
  go_wp2_with (first
    | (go_at_call 6; refine (alive_yes _).mono ?_; rintro e w1 ⟨rfl, hb1⟩)
    | (go_at_call 7; refine (hnew _).mono ?_; rintro e w2 ⟨rfl, hc2, hb2⟩)
    | (go_at_call 8; refine (boot_nil _ _).mono ?_; rintro e w' ⟨rfl, rfl⟩)
    | (go_at_call 9; refine (go_nil _ _).mono ?_; rintro e w' ⟨rfl, rfl⟩)
    | (go_at_call 10; refine (fits_nil _ _).mono ?_; rintro e w' ⟨rfl, rfl⟩)
    | (go_at_call 11; refine (now_nil _).mono ?_; rintro e w' ⟨rfl, rfl⟩)
    | (go_at_call 12; refine (counter_nil _).mono ?_; rintro e w' ⟨rfl, rfl⟩))
  have hbb : Below w.heap.size w w2 := hb1.trans (hb2.mono hb1.size)
  have hs2 := hc2.lt
  have hboth : Both w1.heap.size w2.heap.size a0 w (w2.alloc (.cells #[.int .i64 a0, .int .i64 0] 36)) 0 := ⟨hc2.alloc _, Holds.new _ _ _, by omega, by omega, hbb.alloc hbb.size _⟩
  obtain ⟨gx, hgx⟩ : ∃ gx, w1.heap.size = gx := ⟨_, rfl⟩
  obtain ⟨gm, hgm⟩ : ∃ gm, w2.heap.size = gm := ⟨_, rfl⟩
  have hwx : w.heap.size ≤ gx := by rw [← hgx]; exact hb1.size
  have hxm : gx < gm := by rw [← hgx, ← hgm]; exact hs2
  rw [hgx, hgm] at hboth
  simp only [hgx, hgm]
  clear hgx hgm hs2 hbb hb1 hb2 hc2 hnew
  have HBo := Lib.hid hboth
  clear hboth
  go_loopw [57] (fun i wr => ∃ (k : Nat) (N : Int), k ≤ n1 ∧ i = .int .i64 k ∧ Both gx gm a0 w wr N) (fun i _ => n1 - (intOf i).toNat)
  case atStart => exact ⟨0, 0, Nat.zero_le _, rfl, HBo.out⟩
  case round =>
    obtain ⟨k, N, hk, rfl, hboth⟩ := hrel
    clear HBo
    have HB := Lib.hid hboth
    by_cases hlt : k < n1
    · have hcap := R.out.cap_le
      obtain ⟨b, off, rfl, hb', hc⟩ := (R.out.below hboth.2.2.2.2).at 3 rfl hlt
      obtain ⟨s0, s1, s2, hf, hw1, hw2⟩ := cells1 (R.out.fit k hlt)
      have q0 : wr.cell? ⟨b, off + k * 3, none⟩ = some (.bool s0) := hc 0 _ (by rw [hf]; rfl)
      have q1 : wr.cell? ⟨b, off + k * 3 + 1, none⟩ = some (.int .u32 s1) := hc 1 _ (by rw [hf]; rfl)
      have q2 : wr.cell? ⟨b, off + k * 3 + 2, none⟩ = some (.int .i64 s2) := hc 2 _ (by rw [hf]; rfl)
      clear hc hf
      obtain ⟨r1, r2⟩ := f32_wf hw1
      obtain ⟨hx, hm, N0, N1, hb⟩ := hboth
      have HX := Lib.hid hx
      have HM := Lib.hid hm
      have hsx := hx.lt
      have hsm := hm.lt
      have HO := Lib.hid (Holds.new wr 38 #[.bool s0, .int .u32 s1, .int .i64 s2])
      clear hx hm
      cases s0 with
      | true =>
        go_upto_region 21 with (first
          | (go_at_call 8; refine (boot_any gx a0 N s1 _ (HX.out.alloc _) ⟨r1, r2⟩).mono ?_; rintro e w3 ⟨rfl, hc3, hb3⟩; have HM3 := Lib.hid (Holds.grown (HM.out.alloc _) hb3 (by simp; omega)); have HO3 := Lib.hid (HO.out.grown hb3 (by simp; omega)); have o1 := HO3.out.cell 1; have m1 := HM3.out.cell 1; have mf := HM3.out.soft 1))
        have HX4 : Hid (Clk (w3.setCell ⟨gm, 1, none⟩ (.int .i64 s1)) gx a0 s1) := Lib.hid (Holds.far hc3 (by omega) _)
        have HM4 : Hid (RClk (w3.setCell ⟨gm, 1, none⟩ (.int .i64 s1)) gm a0 s1) := Lib.hid (HM3.out.put 1 _)
        have m4 := HM4.out.cell 1
        have e1 := wrap_u32 s1
        have hb4 : Below w.heap.size w (w3.setCell ⟨gm, 1, none⟩ (.int .i64 s1)) := ((hb.alloc hb.size _).grown hb3 (by simp; have := hb.size; omega) (fun k hk => by simp at hk; omega)).setCell (p := ⟨gm, 1, none⟩) (by show w.heap.size ≤ gm; omega) _
        clear o1 m1 mf hc3
        go_quiet ((first | (go_at_call 11; exact quiet_eq (now_any gx a0 s1 _ (HX4.out.drewN _))) | (go_at_call 12; exact quiet_eq (counter_any gx a0 s1 _ (HX4.out.drewN _)))))
        go_wp2
        go_roundw
        case rel => exact ⟨k + 1, s1, by omega, by go_num, HX4.out.drewN _, HM4.out.drewN _, by omega, by omega, below_drewN hb4 _⟩
        case measure => simp [intOf]; omega
      | false =>
        obtain ⟨t1, t2⟩ := fits_wf hw2
        have hfit := fun W (h : Clk W gx a0 N) => fits_any gx a0 N s2 W h h0 h1
        have hgo := fun W (h : Clk W gx a0 N) => go_any gx a0 N s2 W h h0 h1 N0 N1
        have hrgo := fun W (h : RClk W gm a0 N) => rgo_any gm a0 N s2 W h h0 h1 N0 N1
        obtain ⟨M0, M1⟩ := goN_bd (d := a0) (n := N) (t := s2) h0 h1 N0 N1
        unfold Stepped at hgo
        unfold RStepped at hrgo
        obtain ⟨V, hV⟩ : ∃ V, goV a0 N s2 = V := ⟨_, rfl⟩
        obtain ⟨M, hM⟩ : ∃ M, goN a0 N s2 = M := ⟨_, rfl⟩
        simp only [hV, hM] at hgo hrgo M0 M1
        clear hV hM
        have HX1 := Lib.hid ((HX.out.alloc (.cells #[.bool false, .int .u32 s1, .int .i64 s2] 38)).drewN 1)
        have HM1 := Lib.hid ((HM.out.alloc (.cells #[.bool false, .int .u32 s1, .int .i64 s2] 38)).drewN 1)
        have HO1 := Lib.hid (HO.out.drewN 1)
        have hb1 : Below w.heap.size w ((wr.alloc (.cells #[.bool false, .int .u32 s1, .int .i64 s2] 38)).drewN 1) := below_drewN (hb.alloc hb.size _) 1
        have hne : gx ≠ wr.heap.size := by omega
        have hnm : gm ≠ wr.heap.size := by omega
        have hgm : gx ≠ gm := by omega
        have i1 := IntWalk.i64_in (1000 - a0) (by omega)
        have i2 := IntWalk.i64_in (1000 + a0) (by omega)
        by_cases hlow : s2 < 1000 - a0
        · have hfb := fitsB_low hlow
          simp only [hfb] at hfit
          have hd : decide (1000 - a0 ≤ s2) = false := decide_eq_false (by omega)
          clear hfb
          go_upto_region 19 with fail
          refine region_turns (fun (w' : World) => w'.cell? ⟨wr.heap.size, 2, none⟩ = some (.int .i64 s2)) (fun j => decide (28 ≤ j)) (by kernel_rfl) (HO1.out.cell 2) (fun hS => ?_)
          refine Turns.take hS 0 _ rfl (by kernel_rfl) (by kernel_rfl) (by kernel_rfl) (by kernel_rfl) (fun _ _ _ h => h) (by rfl) (fun w' hS' => by (try dsimp only at hS'); go_split_ands; go_simp; (try with_reducible rfl)) ?_
          simp only [Act.put, List.getElem_toArray, List.getElem_cons_succ, List.getElem_cons_zero, List.setIfInBounds_toArray, List.set_cons_zero, List.set_cons_succ]
          refine Turns.take hS 1 _ rfl (by kernel_rfl) (by kernel_rfl) (by kernel_rfl) (by kernel_rfl) (fun _ _ _ h => h) (by rfl) (fun w' hS' => by (try dsimp only at hS'); go_split_ands; go_simp; (try with_reducible rfl)) ?_
          simp only [Act.put, List.getElem_toArray, List.getElem_cons_succ, List.getElem_cons_zero, List.setIfInBounds_toArray, List.set_cons_zero, List.set_cons_succ]
          refine Turns.take hS 2 _ rfl (by kernel_rfl) (by kernel_rfl) (by kernel_rfl) (by kernel_rfl) (fun _ _ _ h => h) (by rfl) (fun w' hS' => by (try dsimp only at hS'); go_split_ands; go_simp; (try with_reducible rfl)) ?_
          simp only [Act.put, List.getElem_toArray, List.getElem_cons_succ, List.getElem_cons_zero, List.setIfInBounds_toArray, List.set_cons_zero, List.set_cons_succ]
          refine Turns.take hS 4 _ rfl (by kernel_rfl) (by kernel_rfl) (by kernel_rfl) (by kernel_rfl) (fun _ _ _ h => h) (by rfl) (fun w' hS' => by (try dsimp only at hS'); go_split_ands; go_simp; (try with_reducible rfl)) ?_
          simp only [Act.put, List.getElem_toArray, List.getElem_cons_succ, List.getElem_cons_zero, List.setIfInBounds_toArray, List.set_cons_zero, List.set_cons_succ]
          refine Turns.take hS 5 _ rfl (by kernel_rfl) (by kernel_rfl) (by kernel_rfl) (by kernel_rfl) (fun _ _ _ h => h) (by rfl) (fun w' hS' => by (try dsimp only at hS'); go_split_ands; go_simp; (try with_reducible rfl)) ?_
          simp only [Act.put, List.getElem_toArray, List.getElem_cons_succ, List.getElem_cons_zero, List.setIfInBounds_toArray, List.set_cons_zero, List.set_cons_succ]
          refine Turns.take hS 6 _ rfl (by kernel_rfl) (by kernel_rfl) (by kernel_rfl) (by kernel_rfl) (fun _ _ _ h => h) (by rfl) (fun w' hS' => by (try dsimp only at hS'); go_split_ands; go_simp; (try with_reducible rfl)) ?_
          simp only [Act.put, List.getElem_toArray, List.getElem_cons_succ, List.getElem_cons_zero, List.setIfInBounds_toArray, List.set_cons_zero, List.set_cons_succ]
          refine Turns.take hS 7 _ rfl (by kernel_rfl) (by kernel_rfl) (by kernel_rfl) (by kernel_rfl) (fun _ _ _ h => h) (by rfl) (fun w' hS' => by (try dsimp only at hS'); go_split_ands; go_simp; (try with_reducible rfl)) ?_
          simp only [Act.put, List.getElem_toArray, List.getElem_cons_succ, List.getElem_cons_zero, List.setIfInBounds_toArray, List.set_cons_zero, List.set_cons_succ]
          refine Turns.take hS 8 _ rfl (by kernel_rfl) (by kernel_rfl) (by kernel_rfl) (by kernel_rfl) (fun _ _ _ h => h) (by rfl) (fun w' hS' => by (try dsimp only at hS'); go_split_ands; go_simp; (try with_reducible rfl)) ?_
          simp only [Act.put, List.getElem_toArray, List.getElem_cons_succ, List.getElem_cons_zero, List.setIfInBounds_toArray, List.set_cons_zero, List.set_cons_succ]
          refine Turns.next 3 rfl (by kernel_rfl) (by rfl) (fun K hK => ?_)
          go_simp
          refine (hfit _ HX1.out).mono ?_
          rintro e w4 ⟨rfl, rfl⟩
          refine hK.out _ _ (show (fun (w' : World) => w'.cell? ⟨wr.heap.size, 2, none⟩ = some (.int .i64 s2)) _ from HO1.out.cell 2) ?_
          clear hK K hS
          have hS := (show (fun (w' : World) => w'.cell? ⟨wr.heap.size, 2, none⟩ = some (.int .i64 s2)) _ from HO1.out.cell 2)
          refine Turns.take hS 9 _ rfl (by kernel_rfl) (by kernel_rfl) (by kernel_rfl) (by kernel_rfl) (fun _ _ _ h => h) (by rfl) (fun w' hS' => by (try dsimp only at hS'); go_split_ands; go_simp; (try with_reducible rfl)) ?_
          simp only [Act.put, List.getElem_toArray, List.getElem_cons_succ, List.getElem_cons_zero, List.setIfInBounds_toArray, List.set_cons_zero, List.set_cons_succ]
          refine Turns.skip hS 10 rfl (by kernel_rfl) (by kernel_rfl) (by kernel_rfl) (by kernel_rfl) (fun _ _ _ h => h) (by rfl) ?_
          simp only [Act.put, List.getElem_toArray, List.getElem_cons_succ, List.getElem_cons_zero, List.setIfInBounds_toArray, List.set_cons_zero, List.set_cons_succ]
          refine Turns.skip hS 11 rfl (by kernel_rfl) (by kernel_rfl) (by kernel_rfl) (by kernel_rfl) (fun _ _ _ h => h) (by rfl) ?_
          simp only [Act.put, List.getElem_toArray, List.getElem_cons_succ, List.getElem_cons_zero, List.setIfInBounds_toArray, List.set_cons_zero, List.set_cons_succ]
          refine Turns.skip hS 12 rfl (by kernel_rfl) (by kernel_rfl) (by kernel_rfl) (by kernel_rfl) (fun _ _ _ h => h) (by rfl) ?_
          simp only [Act.put, List.getElem_toArray, List.getElem_cons_succ, List.getElem_cons_zero, List.setIfInBounds_toArray, List.set_cons_zero, List.set_cons_succ]
          refine Turns.skip hS 13 rfl (by kernel_rfl) (by kernel_rfl) (by kernel_rfl) (by kernel_rfl) (fun _ _ _ h => h) (by rfl) ?_
          simp only [Act.put, List.getElem_toArray, List.getElem_cons_succ, List.getElem_cons_zero, List.setIfInBounds_toArray, List.set_cons_zero, List.set_cons_succ]
          refine Turns.skip hS 14 rfl (by kernel_rfl) (by kernel_rfl) (by kernel_rfl) (by kernel_rfl) (fun _ _ _ h => h) (by rfl) ?_
          simp only [Act.put, List.getElem_toArray, List.getElem_cons_succ, List.getElem_cons_zero, List.setIfInBounds_toArray, List.set_cons_zero, List.set_cons_succ]
          refine Turns.take hS 15 _ rfl (by kernel_rfl) (by kernel_rfl) (by kernel_rfl) (by kernel_rfl) (fun _ _ _ h => h) (by rfl) (fun w' hS' => by (try dsimp only at hS'); go_split_ands; go_simp; (try with_reducible rfl)) ?_
          simp only [Act.put, List.getElem_toArray, List.getElem_cons_succ, List.getElem_cons_zero, List.setIfInBounds_toArray, List.set_cons_zero, List.set_cons_succ]
          refine Turns.take hS 16 _ rfl (by kernel_rfl) (by kernel_rfl) (by kernel_rfl) (by kernel_rfl) (fun _ _ _ h => h) (by rfl) (fun w' hS' => by (try dsimp only at hS'); go_split_ands; go_simp; (try with_reducible rfl)) ?_
          simp only [Act.put, List.getElem_toArray, List.getElem_cons_succ, List.getElem_cons_zero, List.setIfInBounds_toArray, List.set_cons_zero, List.set_cons_succ]
          refine Turns.take hS 17 _ rfl (by kernel_rfl) (by kernel_rfl) (by kernel_rfl) (by kernel_rfl) (fun _ _ _ h => h) (by rfl) (fun w' hS' => by (try dsimp only at hS'); go_split_ands; go_simp; (try with_reducible rfl)) ?_
          simp only [Act.put, List.getElem_toArray, List.getElem_cons_succ, List.getElem_cons_zero, List.setIfInBounds_toArray, List.set_cons_zero, List.set_cons_succ]
          refine Turns.take hS 18 _ rfl (by kernel_rfl) (by kernel_rfl) (by kernel_rfl) (by kernel_rfl) (fun _ _ _ h => h) (by rfl) (fun w' hS' => by (try dsimp only at hS'); go_split_ands; go_simp; (try with_reducible rfl)) ?_
          simp only [Act.put, List.getElem_toArray, List.getElem_cons_succ, List.getElem_cons_zero, List.setIfInBounds_toArray, List.set_cons_zero, List.set_cons_succ]
          refine Turns.take hS 19 _ rfl (by kernel_rfl) (by kernel_rfl) (by kernel_rfl) (by kernel_rfl) (fun _ _ _ h => h) (by rfl) (fun w' hS' => by (try dsimp only at hS'); go_split_ands; go_simp; (try with_reducible rfl)) ?_
          simp only [Act.put, List.getElem_toArray, List.getElem_cons_succ, List.getElem_cons_zero, List.setIfInBounds_toArray, List.set_cons_zero, List.set_cons_succ]
          refine Turns.take hS 20 _ rfl (by kernel_rfl) (by kernel_rfl) (by kernel_rfl) (by kernel_rfl) (fun _ _ _ h => h) (by rfl) (fun w' hS' => by (try dsimp only at hS'); go_split_ands; go_simp; (try with_reducible rfl)) ?_
          simp only [Act.put, List.getElem_toArray, List.getElem_cons_succ, List.getElem_cons_zero, List.setIfInBounds_toArray, List.set_cons_zero, List.set_cons_succ]
          refine Turns.take hS 22 _ rfl (by kernel_rfl) (by kernel_rfl) (by kernel_rfl) (by kernel_rfl) (fun _ _ _ h => h) (by rfl) (fun w' hS' => by (try dsimp only at hS'); go_split_ands; go_simp; (try with_reducible rfl)) ?_
          simp only [Act.put, List.getElem_toArray, List.getElem_cons_succ, List.getElem_cons_zero, List.setIfInBounds_toArray, List.set_cons_zero, List.set_cons_succ]
          refine Turns.take hS 23 _ rfl (by kernel_rfl) (by kernel_rfl) (by kernel_rfl) (by kernel_rfl) (fun _ _ _ h => h) (by rfl) (fun w' hS' => by (try dsimp only at hS'); go_split_ands; go_simp; (try with_reducible rfl)) ?_
          simp only [Act.put, List.getElem_toArray, List.getElem_cons_succ, List.getElem_cons_zero, List.setIfInBounds_toArray, List.set_cons_zero, List.set_cons_succ]
          refine Turns.take hS 24 _ rfl (by kernel_rfl) (by kernel_rfl) (by kernel_rfl) (by kernel_rfl) (fun _ _ _ h => h) (by rfl) (fun w' hS' => by (try dsimp only at hS'); go_split_ands; go_simp; (try with_reducible rfl)) ?_
          simp only [Act.put, List.getElem_toArray, List.getElem_cons_succ, List.getElem_cons_zero, List.setIfInBounds_toArray, List.set_cons_zero, List.set_cons_succ]
          refine Turns.next 21 rfl (by kernel_rfl) (by rfl) (fun K hK => ?_)
          go_simp
          refine (hgo _ HX1.out).mono ?_
          rintro e w5 ⟨rfl, hx5, hb5⟩
          have HM5 := Lib.hid (HM1.out.grown hb5 (by simpa using hgm.symm))
          have HO5 := Lib.hid (HO1.out.grown hb5 (by simpa using hne.symm))
          refine hK.out _ _ (show (fun (w' : World) => w'.cell? ⟨wr.heap.size, 2, none⟩ = some (.int .i64 s2)) _ from HO5.out.cell 2) ?_
          clear hK K hS
          have hS := (show (fun (w' : World) => w'.cell? ⟨wr.heap.size, 2, none⟩ = some (.int .i64 s2)) _ from HO5.out.cell 2)
          refine Turns.next 25 rfl (by kernel_rfl) (by rfl) (fun K hK => ?_)
          go_simp
          refine (hrgo _ HM5.out).mono ?_
          rintro e w6 ⟨rfl, hm6, hb6⟩
          have HX6 := Lib.hid (hx5.grown hb6 (by simpa using hgm))
          have HO6 := Lib.hid (HO5.out.grown hb6 (by simpa using hnm.symm))
          refine hK.out _ _ (show (fun (w' : World) => w'.cell? ⟨wr.heap.size, 2, none⟩ = some (.int .i64 s2)) _ from HO6.out.cell 2) ?_
          clear hK K hS
          have hS := (show (fun (w' : World) => w'.cell? ⟨wr.heap.size, 2, none⟩ = some (.int .i64 s2)) _ from HO6.out.cell 2)
          refine Turns.take hS 26 _ rfl (by kernel_rfl) (by kernel_rfl) (by kernel_rfl) (by kernel_rfl) (fun _ _ _ h => h) (by rfl) (fun w' hS' => by (try dsimp only at hS'); go_split_ands; go_simp; (try with_reducible rfl)) ?_
          simp only [Act.put, List.getElem_toArray, List.getElem_cons_succ, List.getElem_cons_zero, List.setIfInBounds_toArray, List.set_cons_zero, List.set_cons_succ]
          refine Turns.take hS 27 _ rfl (by kernel_rfl) (by kernel_rfl) (by kernel_rfl) (by kernel_rfl) (fun _ _ _ h => h) (by rfl) (fun w' hS' => by (try dsimp only at hS'); go_split_ands; go_simp; (try with_reducible rfl)) ?_
          simp only [Act.put, List.getElem_toArray, List.getElem_cons_succ, List.getElem_cons_zero, List.setIfInBounds_toArray, List.set_cons_zero, List.set_cons_succ]
          refine Turns.rest (late_done (by kernel_rfl)) ?_
          refine any_tail 28 (by rfl) (by kernel_rfl) ?_
          simp only [List.drop_succ_cons, List.drop_zero]
          clear hS
          clear hgo hrgo hfit
          go_upto_region 21 with fail
          have m4 := hm6.cell 1
          have e1 := wrap_u32 M
          have hb6' : Below w.heap.size w w6 := (hb1.grown hb5 hb1.size (fun k hk => by simp at hk; omega)).grown hb6 (Nat.le_trans hb1.size hb5.size) (fun k hk => by simp at hk; omega)
          have HM6 := Lib.hid hm6
          clear hm6 hx5
          go_quiet ((first | (go_at_call 11; exact quiet_eq (now_any gx a0 M _ (HX6.out.drewN _))) | (go_at_call 12; exact quiet_eq (counter_any gx a0 M _ (HX6.out.drewN _)))))
          go_wp2
          go_roundw
          case rel => exact ⟨k + 1, M, by omega, by go_num, HX6.out.drewN _, HM6.out.drewN _, M0, M1, below_drewN hb6' _⟩
          case measure => simp [intOf]; omega
        · have hd : decide (1000 - a0 ≤ s2) = true := decide_eq_true (by omega)
          by_cases hhigh : 1000 + a0 < s2
          · have hfb := fitsB_high hhigh
            simp only [hfb] at hfit
            have hd2 : decide (s2 ≤ 1000 + a0) = false := decide_eq_false (by omega)
            clear hfb
            go_upto_region 19 with fail
            refine region_turns (fun (w' : World) => w'.cell? ⟨wr.heap.size, 2, none⟩ = some (.int .i64 s2)) (fun j => decide (28 ≤ j)) (by kernel_rfl) (HO1.out.cell 2) (fun hS => ?_)
            refine Turns.take hS 0 _ rfl (by kernel_rfl) (by kernel_rfl) (by kernel_rfl) (by kernel_rfl) (fun _ _ _ h => h) (by rfl) (fun w' hS' => by (try dsimp only at hS'); go_split_ands; go_simp; (try with_reducible rfl)) ?_
            simp only [Act.put, List.getElem_toArray, List.getElem_cons_succ, List.getElem_cons_zero, List.setIfInBounds_toArray, List.set_cons_zero, List.set_cons_succ]
            refine Turns.take hS 1 _ rfl (by kernel_rfl) (by kernel_rfl) (by kernel_rfl) (by kernel_rfl) (fun _ _ _ h => h) (by rfl) (fun w' hS' => by (try dsimp only at hS'); go_split_ands; go_simp; (try with_reducible rfl)) ?_
            simp only [Act.put, List.getElem_toArray, List.getElem_cons_succ, List.getElem_cons_zero, List.setIfInBounds_toArray, List.set_cons_zero, List.set_cons_succ]
            refine Turns.take hS 2 _ rfl (by kernel_rfl) (by kernel_rfl) (by kernel_rfl) (by kernel_rfl) (fun _ _ _ h => h) (by rfl) (fun w' hS' => by (try dsimp only at hS'); go_split_ands; go_simp; (try with_reducible rfl)) ?_
            simp only [Act.put, List.getElem_toArray, List.getElem_cons_succ, List.getElem_cons_zero, List.setIfInBounds_toArray, List.set_cons_zero, List.set_cons_succ]
            refine Turns.take hS 4 _ rfl (by kernel_rfl) (by kernel_rfl) (by kernel_rfl) (by kernel_rfl) (fun _ _ _ h => h) (by rfl) (fun w' hS' => by (try dsimp only at hS'); go_split_ands; go_simp; (try with_reducible rfl)) ?_
            simp only [Act.put, List.getElem_toArray, List.getElem_cons_succ, List.getElem_cons_zero, List.setIfInBounds_toArray, List.set_cons_zero, List.set_cons_succ]
            refine Turns.take hS 5 _ rfl (by kernel_rfl) (by kernel_rfl) (by kernel_rfl) (by kernel_rfl) (fun _ _ _ h => h) (by rfl) (fun w' hS' => by (try dsimp only at hS'); go_split_ands; go_simp; (try with_reducible rfl)) ?_
            simp only [Act.put, List.getElem_toArray, List.getElem_cons_succ, List.getElem_cons_zero, List.setIfInBounds_toArray, List.set_cons_zero, List.set_cons_succ]
            refine Turns.take hS 6 _ rfl (by kernel_rfl) (by kernel_rfl) (by kernel_rfl) (by kernel_rfl) (fun _ _ _ h => h) (by rfl) (fun w' hS' => by (try dsimp only at hS'); go_split_ands; go_simp; (try with_reducible rfl)) ?_
            simp only [Act.put, List.getElem_toArray, List.getElem_cons_succ, List.getElem_cons_zero, List.setIfInBounds_toArray, List.set_cons_zero, List.set_cons_succ]
            refine Turns.take hS 7 _ rfl (by kernel_rfl) (by kernel_rfl) (by kernel_rfl) (by kernel_rfl) (fun _ _ _ h => h) (by rfl) (fun w' hS' => by (try dsimp only at hS'); go_split_ands; go_simp; (try with_reducible rfl)) ?_
            simp only [Act.put, List.getElem_toArray, List.getElem_cons_succ, List.getElem_cons_zero, List.setIfInBounds_toArray, List.set_cons_zero, List.set_cons_succ]
            refine Turns.take hS 8 _ rfl (by kernel_rfl) (by kernel_rfl) (by kernel_rfl) (by kernel_rfl) (fun _ _ _ h => h) (by rfl) (fun w' hS' => by (try dsimp only at hS'); go_split_ands; go_simp; (try with_reducible rfl)) ?_
            simp only [Act.put, List.getElem_toArray, List.getElem_cons_succ, List.getElem_cons_zero, List.setIfInBounds_toArray, List.set_cons_zero, List.set_cons_succ]
            refine Turns.next 3 rfl (by kernel_rfl) (by rfl) (fun K hK => ?_)
            go_simp
            refine (hfit _ HX1.out).mono ?_
            rintro e w4 ⟨rfl, rfl⟩
            refine hK.out _ _ (show (fun (w' : World) => w'.cell? ⟨wr.heap.size, 2, none⟩ = some (.int .i64 s2)) _ from HO1.out.cell 2) ?_
            clear hK K hS
            have hS := (show (fun (w' : World) => w'.cell? ⟨wr.heap.size, 2, none⟩ = some (.int .i64 s2)) _ from HO1.out.cell 2)
            refine Turns.take hS 9 _ rfl (by kernel_rfl) (by kernel_rfl) (by kernel_rfl) (by kernel_rfl) (fun _ _ _ h => h) (by rfl) (fun w' hS' => by (try dsimp only at hS'); go_split_ands; go_simp; (try with_reducible rfl)) ?_
            simp only [Act.put, List.getElem_toArray, List.getElem_cons_succ, List.getElem_cons_zero, List.setIfInBounds_toArray, List.set_cons_zero, List.set_cons_succ]
            refine Turns.take hS 10 _ rfl (by kernel_rfl) (by kernel_rfl) (by kernel_rfl) (by kernel_rfl) (fun _ _ _ h => h) (by rfl) (fun w' hS' => by (try dsimp only at hS'); go_split_ands; go_simp; (try with_reducible rfl)) ?_
            simp only [Act.put, List.getElem_toArray, List.getElem_cons_succ, List.getElem_cons_zero, List.setIfInBounds_toArray, List.set_cons_zero, List.set_cons_succ]
            refine Turns.take hS 11 _ rfl (by kernel_rfl) (by kernel_rfl) (by kernel_rfl) (by kernel_rfl) (fun _ _ _ h => h) (by rfl) (fun w' hS' => by (try dsimp only at hS'); go_split_ands; go_simp; (try with_reducible rfl)) ?_
            simp only [Act.put, List.getElem_toArray, List.getElem_cons_succ, List.getElem_cons_zero, List.setIfInBounds_toArray, List.set_cons_zero, List.set_cons_succ]
            refine Turns.take hS 12 _ rfl (by kernel_rfl) (by kernel_rfl) (by kernel_rfl) (by kernel_rfl) (fun _ _ _ h => h) (by rfl) (fun w' hS' => by (try dsimp only at hS'); go_split_ands; go_simp; (try with_reducible rfl)) ?_
            simp only [Act.put, List.getElem_toArray, List.getElem_cons_succ, List.getElem_cons_zero, List.setIfInBounds_toArray, List.set_cons_zero, List.set_cons_succ]
            refine Turns.take hS 13 _ rfl (by kernel_rfl) (by kernel_rfl) (by kernel_rfl) (by kernel_rfl) (fun _ _ _ h => h) (by rfl) (fun w' hS' => by (try dsimp only at hS'); go_split_ands; go_simp; (try with_reducible rfl)) ?_
            simp only [Act.put, List.getElem_toArray, List.getElem_cons_succ, List.getElem_cons_zero, List.setIfInBounds_toArray, List.set_cons_zero, List.set_cons_succ]
            refine Turns.take hS 14 _ rfl (by kernel_rfl) (by kernel_rfl) (by kernel_rfl) (by kernel_rfl) (fun _ _ _ h => h) (by rfl) (fun w' hS' => by (try dsimp only at hS'); go_split_ands; go_simp; (try with_reducible rfl)) ?_
            simp only [Act.put, List.getElem_toArray, List.getElem_cons_succ, List.getElem_cons_zero, List.setIfInBounds_toArray, List.set_cons_zero, List.set_cons_succ]
            refine Turns.take hS 15 _ rfl (by kernel_rfl) (by kernel_rfl) (by kernel_rfl) (by kernel_rfl) (fun _ _ _ h => h) (by rfl) (fun w' hS' => by (try dsimp only at hS'); go_split_ands; go_simp; (try with_reducible rfl)) ?_
            simp only [Act.put, List.getElem_toArray, List.getElem_cons_succ, List.getElem_cons_zero, List.setIfInBounds_toArray, List.set_cons_zero, List.set_cons_succ]
            refine Turns.take hS 16 _ rfl (by kernel_rfl) (by kernel_rfl) (by kernel_rfl) (by kernel_rfl) (fun _ _ _ h => h) (by rfl) (fun w' hS' => by (try dsimp only at hS'); go_split_ands; go_simp; (try with_reducible rfl)) ?_
            simp only [Act.put, List.getElem_toArray, List.getElem_cons_succ, List.getElem_cons_zero, List.setIfInBounds_toArray, List.set_cons_zero, List.set_cons_succ]
            refine Turns.take hS 17 _ rfl (by kernel_rfl) (by kernel_rfl) (by kernel_rfl) (by kernel_rfl) (fun _ _ _ h => h) (by rfl) (fun w' hS' => by (try dsimp only at hS'); go_split_ands; go_simp; (try with_reducible rfl)) ?_
            simp only [Act.put, List.getElem_toArray, List.getElem_cons_succ, List.getElem_cons_zero, List.setIfInBounds_toArray, List.set_cons_zero, List.set_cons_succ]
            refine Turns.take hS 18 _ rfl (by kernel_rfl) (by kernel_rfl) (by kernel_rfl) (by kernel_rfl) (fun _ _ _ h => h) (by rfl) (fun w' hS' => by (try dsimp only at hS'); go_split_ands; go_simp; (try with_reducible rfl)) ?_
            simp only [Act.put, List.getElem_toArray, List.getElem_cons_succ, List.getElem_cons_zero, List.setIfInBounds_toArray, List.set_cons_zero, List.set_cons_succ]
            refine Turns.take hS 19 _ rfl (by kernel_rfl) (by kernel_rfl) (by kernel_rfl) (by kernel_rfl) (fun _ _ _ h => h) (by rfl) (fun w' hS' => by (try dsimp only at hS'); go_split_ands; go_simp; (try with_reducible rfl)) ?_
            simp only [Act.put, List.getElem_toArray, List.getElem_cons_succ, List.getElem_cons_zero, List.setIfInBounds_toArray, List.set_cons_zero, List.set_cons_succ]
            refine Turns.take hS 20 _ rfl (by kernel_rfl) (by kernel_rfl) (by kernel_rfl) (by kernel_rfl) (fun _ _ _ h => h) (by rfl) (fun w' hS' => by (try dsimp only at hS'); go_split_ands; go_simp; (try with_reducible rfl)) ?_
            simp only [Act.put, List.getElem_toArray, List.getElem_cons_succ, List.getElem_cons_zero, List.setIfInBounds_toArray, List.set_cons_zero, List.set_cons_succ]
            refine Turns.take hS 22 _ rfl (by kernel_rfl) (by kernel_rfl) (by kernel_rfl) (by kernel_rfl) (fun _ _ _ h => h) (by rfl) (fun w' hS' => by (try dsimp only at hS'); go_split_ands; go_simp; (try with_reducible rfl)) ?_
            simp only [Act.put, List.getElem_toArray, List.getElem_cons_succ, List.getElem_cons_zero, List.setIfInBounds_toArray, List.set_cons_zero, List.set_cons_succ]
            refine Turns.take hS 23 _ rfl (by kernel_rfl) (by kernel_rfl) (by kernel_rfl) (by kernel_rfl) (fun _ _ _ h => h) (by rfl) (fun w' hS' => by (try dsimp only at hS'); go_split_ands; go_simp; (try with_reducible rfl)) ?_
            simp only [Act.put, List.getElem_toArray, List.getElem_cons_succ, List.getElem_cons_zero, List.setIfInBounds_toArray, List.set_cons_zero, List.set_cons_succ]
            refine Turns.take hS 24 _ rfl (by kernel_rfl) (by kernel_rfl) (by kernel_rfl) (by kernel_rfl) (fun _ _ _ h => h) (by rfl) (fun w' hS' => by (try dsimp only at hS'); go_split_ands; go_simp; (try with_reducible rfl)) ?_
            simp only [Act.put, List.getElem_toArray, List.getElem_cons_succ, List.getElem_cons_zero, List.setIfInBounds_toArray, List.set_cons_zero, List.set_cons_succ]
            refine Turns.next 21 rfl (by kernel_rfl) (by rfl) (fun K hK => ?_)
            go_simp
            refine (hgo _ HX1.out).mono ?_
            rintro e w5 ⟨rfl, hx5, hb5⟩
            have HM5 := Lib.hid (HM1.out.grown hb5 (by simpa using hgm.symm))
            have HO5 := Lib.hid (HO1.out.grown hb5 (by simpa using hne.symm))
            refine hK.out _ _ (show (fun (w' : World) => w'.cell? ⟨wr.heap.size, 2, none⟩ = some (.int .i64 s2)) _ from HO5.out.cell 2) ?_
            clear hK K hS
            have hS := (show (fun (w' : World) => w'.cell? ⟨wr.heap.size, 2, none⟩ = some (.int .i64 s2)) _ from HO5.out.cell 2)
            refine Turns.next 25 rfl (by kernel_rfl) (by rfl) (fun K hK => ?_)
            go_simp
            refine (hrgo _ HM5.out).mono ?_
            rintro e w6 ⟨rfl, hm6, hb6⟩
            have HX6 := Lib.hid (hx5.grown hb6 (by simpa using hgm))
            have HO6 := Lib.hid (HO5.out.grown hb6 (by simpa using hnm.symm))
            refine hK.out _ _ (show (fun (w' : World) => w'.cell? ⟨wr.heap.size, 2, none⟩ = some (.int .i64 s2)) _ from HO6.out.cell 2) ?_
            clear hK K hS
            have hS := (show (fun (w' : World) => w'.cell? ⟨wr.heap.size, 2, none⟩ = some (.int .i64 s2)) _ from HO6.out.cell 2)
            refine Turns.take hS 26 _ rfl (by kernel_rfl) (by kernel_rfl) (by kernel_rfl) (by kernel_rfl) (fun _ _ _ h => h) (by rfl) (fun w' hS' => by (try dsimp only at hS'); go_split_ands; go_simp; (try with_reducible rfl)) ?_
            simp only [Act.put, List.getElem_toArray, List.getElem_cons_succ, List.getElem_cons_zero, List.setIfInBounds_toArray, List.set_cons_zero, List.set_cons_succ]
            refine Turns.take hS 27 _ rfl (by kernel_rfl) (by kernel_rfl) (by kernel_rfl) (by kernel_rfl) (fun _ _ _ h => h) (by rfl) (fun w' hS' => by (try dsimp only at hS'); go_split_ands; go_simp; (try with_reducible rfl)) ?_
            simp only [Act.put, List.getElem_toArray, List.getElem_cons_succ, List.getElem_cons_zero, List.setIfInBounds_toArray, List.set_cons_zero, List.set_cons_succ]
            refine Turns.rest (late_done (by kernel_rfl)) ?_
            refine any_tail 28 (by rfl) (by kernel_rfl) ?_
            simp only [List.drop_succ_cons, List.drop_zero]
            clear hS
            clear hgo hrgo hfit
            go_upto_region 21 with fail
            have m4 := hm6.cell 1
            have e1 := wrap_u32 M
            have hb6' : Below w.heap.size w w6 := (hb1.grown hb5 hb1.size (fun k hk => by simp at hk; omega)).grown hb6 (Nat.le_trans hb1.size hb5.size) (fun k hk => by simp at hk; omega)
            have HM6 := Lib.hid hm6
            clear hm6 hx5
            go_quiet ((first | (go_at_call 11; exact quiet_eq (now_any gx a0 M _ (HX6.out.drewN _))) | (go_at_call 12; exact quiet_eq (counter_any gx a0 M _ (HX6.out.drewN _)))))
            go_wp2
            go_roundw
            case rel => exact ⟨k + 1, M, by omega, by go_num, HX6.out.drewN _, HM6.out.drewN _, M0, M1, below_drewN hb6' _⟩
            case measure => simp [intOf]; omega
          · have hfb := fitsB_mk (d := a0) (t := s2) (by omega) (by omega)
            simp only [hfb] at hfit
            have hd2 : decide (s2 ≤ 1000 + a0) = true := decide_eq_true (by omega)
            clear hfb
            go_upto_region 19 with fail
            refine region_turns (fun (w' : World) => w'.cell? ⟨wr.heap.size, 2, none⟩ = some (.int .i64 s2)) (fun j => decide (28 ≤ j)) (by kernel_rfl) (HO1.out.cell 2) (fun hS => ?_)
            refine Turns.take hS 0 _ rfl (by kernel_rfl) (by kernel_rfl) (by kernel_rfl) (by kernel_rfl) (fun _ _ _ h => h) (by rfl) (fun w' hS' => by (try dsimp only at hS'); go_split_ands; go_simp; (try with_reducible rfl)) ?_
            simp only [Act.put, List.getElem_toArray, List.getElem_cons_succ, List.getElem_cons_zero, List.setIfInBounds_toArray, List.set_cons_zero, List.set_cons_succ]
            refine Turns.take hS 1 _ rfl (by kernel_rfl) (by kernel_rfl) (by kernel_rfl) (by kernel_rfl) (fun _ _ _ h => h) (by rfl) (fun w' hS' => by (try dsimp only at hS'); go_split_ands; go_simp; (try with_reducible rfl)) ?_
            simp only [Act.put, List.getElem_toArray, List.getElem_cons_succ, List.getElem_cons_zero, List.setIfInBounds_toArray, List.set_cons_zero, List.set_cons_succ]
            refine Turns.take hS 2 _ rfl (by kernel_rfl) (by kernel_rfl) (by kernel_rfl) (by kernel_rfl) (fun _ _ _ h => h) (by rfl) (fun w' hS' => by (try dsimp only at hS'); go_split_ands; go_simp; (try with_reducible rfl)) ?_
            simp only [Act.put, List.getElem_toArray, List.getElem_cons_succ, List.getElem_cons_zero, List.setIfInBounds_toArray, List.set_cons_zero, List.set_cons_succ]
            refine Turns.take hS 4 _ rfl (by kernel_rfl) (by kernel_rfl) (by kernel_rfl) (by kernel_rfl) (fun _ _ _ h => h) (by rfl) (fun w' hS' => by (try dsimp only at hS'); go_split_ands; go_simp; (try with_reducible rfl)) ?_
            simp only [Act.put, List.getElem_toArray, List.getElem_cons_succ, List.getElem_cons_zero, List.setIfInBounds_toArray, List.set_cons_zero, List.set_cons_succ]
            refine Turns.take hS 5 _ rfl (by kernel_rfl) (by kernel_rfl) (by kernel_rfl) (by kernel_rfl) (fun _ _ _ h => h) (by rfl) (fun w' hS' => by (try dsimp only at hS'); go_split_ands; go_simp; (try with_reducible rfl)) ?_
            simp only [Act.put, List.getElem_toArray, List.getElem_cons_succ, List.getElem_cons_zero, List.setIfInBounds_toArray, List.set_cons_zero, List.set_cons_succ]
            refine Turns.take hS 6 _ rfl (by kernel_rfl) (by kernel_rfl) (by kernel_rfl) (by kernel_rfl) (fun _ _ _ h => h) (by rfl) (fun w' hS' => by (try dsimp only at hS'); go_split_ands; go_simp; (try with_reducible rfl)) ?_
            simp only [Act.put, List.getElem_toArray, List.getElem_cons_succ, List.getElem_cons_zero, List.setIfInBounds_toArray, List.set_cons_zero, List.set_cons_succ]
            refine Turns.take hS 7 _ rfl (by kernel_rfl) (by kernel_rfl) (by kernel_rfl) (by kernel_rfl) (fun _ _ _ h => h) (by rfl) (fun w' hS' => by (try dsimp only at hS'); go_split_ands; go_simp; (try with_reducible rfl)) ?_
            simp only [Act.put, List.getElem_toArray, List.getElem_cons_succ, List.getElem_cons_zero, List.setIfInBounds_toArray, List.set_cons_zero, List.set_cons_succ]
            refine Turns.take hS 8 _ rfl (by kernel_rfl) (by kernel_rfl) (by kernel_rfl) (by kernel_rfl) (fun _ _ _ h => h) (by rfl) (fun w' hS' => by (try dsimp only at hS'); go_split_ands; go_simp; (try with_reducible rfl)) ?_
            simp only [Act.put, List.getElem_toArray, List.getElem_cons_succ, List.getElem_cons_zero, List.setIfInBounds_toArray, List.set_cons_zero, List.set_cons_succ]
            refine Turns.next 3 rfl (by kernel_rfl) (by rfl) (fun K hK => ?_)
            go_simp
            refine (hfit _ HX1.out).mono ?_
            rintro e w4 ⟨rfl, rfl⟩
            refine hK.out _ _ (show (fun (w' : World) => w'.cell? ⟨wr.heap.size, 2, none⟩ = some (.int .i64 s2)) _ from HO1.out.cell 2) ?_
            clear hK K hS
            have hS := (show (fun (w' : World) => w'.cell? ⟨wr.heap.size, 2, none⟩ = some (.int .i64 s2)) _ from HO1.out.cell 2)
            refine Turns.take hS 9 _ rfl (by kernel_rfl) (by kernel_rfl) (by kernel_rfl) (by kernel_rfl) (fun _ _ _ h => h) (by rfl) (fun w' hS' => by (try dsimp only at hS'); go_split_ands; go_simp; (try with_reducible rfl)) ?_
            simp only [Act.put, List.getElem_toArray, List.getElem_cons_succ, List.getElem_cons_zero, List.setIfInBounds_toArray, List.set_cons_zero, List.set_cons_succ]
            refine Turns.take hS 10 _ rfl (by kernel_rfl) (by kernel_rfl) (by kernel_rfl) (by kernel_rfl) (fun _ _ _ h => h) (by rfl) (fun w' hS' => by (try dsimp only at hS'); go_split_ands; go_simp; (try with_reducible rfl)) ?_
            simp only [Act.put, List.getElem_toArray, List.getElem_cons_succ, List.getElem_cons_zero, List.setIfInBounds_toArray, List.set_cons_zero, List.set_cons_succ]
            refine Turns.take hS 11 _ rfl (by kernel_rfl) (by kernel_rfl) (by kernel_rfl) (by kernel_rfl) (fun _ _ _ h => h) (by rfl) (fun w' hS' => by (try dsimp only at hS'); go_split_ands; go_simp; (try with_reducible rfl)) ?_
            simp only [Act.put, List.getElem_toArray, List.getElem_cons_succ, List.getElem_cons_zero, List.setIfInBounds_toArray, List.set_cons_zero, List.set_cons_succ]
            refine Turns.take hS 12 _ rfl (by kernel_rfl) (by kernel_rfl) (by kernel_rfl) (by kernel_rfl) (fun _ _ _ h => h) (by rfl) (fun w' hS' => by (try dsimp only at hS'); go_split_ands; go_simp; (try with_reducible rfl)) ?_
            simp only [Act.put, List.getElem_toArray, List.getElem_cons_succ, List.getElem_cons_zero, List.setIfInBounds_toArray, List.set_cons_zero, List.set_cons_succ]
            refine Turns.take hS 13 _ rfl (by kernel_rfl) (by kernel_rfl) (by kernel_rfl) (by kernel_rfl) (fun _ _ _ h => h) (by rfl) (fun w' hS' => by (try dsimp only at hS'); go_split_ands; go_simp; (try with_reducible rfl)) ?_
            simp only [Act.put, List.getElem_toArray, List.getElem_cons_succ, List.getElem_cons_zero, List.setIfInBounds_toArray, List.set_cons_zero, List.set_cons_succ]
            refine Turns.take hS 14 _ rfl (by kernel_rfl) (by kernel_rfl) (by kernel_rfl) (by kernel_rfl) (fun _ _ _ h => h) (by rfl) (fun w' hS' => by (try dsimp only at hS'); go_split_ands; go_simp; (try with_reducible rfl)) ?_
            simp only [Act.put, List.getElem_toArray, List.getElem_cons_succ, List.getElem_cons_zero, List.setIfInBounds_toArray, List.set_cons_zero, List.set_cons_succ]
            refine Turns.take hS 15 _ rfl (by kernel_rfl) (by kernel_rfl) (by kernel_rfl) (by kernel_rfl) (fun _ _ _ h => h) (by rfl) (fun w' hS' => by (try dsimp only at hS'); go_split_ands; go_simp; (try with_reducible rfl)) ?_
            simp only [Act.put, List.getElem_toArray, List.getElem_cons_succ, List.getElem_cons_zero, List.setIfInBounds_toArray, List.set_cons_zero, List.set_cons_succ]
            refine Turns.take hS 16 _ rfl (by kernel_rfl) (by kernel_rfl) (by kernel_rfl) (by kernel_rfl) (fun _ _ _ h => h) (by rfl) (fun w' hS' => by (try dsimp only at hS'); go_split_ands; go_simp; (try with_reducible rfl)) ?_
            simp only [Act.put, List.getElem_toArray, List.getElem_cons_succ, List.getElem_cons_zero, List.setIfInBounds_toArray, List.set_cons_zero, List.set_cons_succ]
            refine Turns.take hS 17 _ rfl (by kernel_rfl) (by kernel_rfl) (by kernel_rfl) (by kernel_rfl) (fun _ _ _ h => h) (by rfl) (fun w' hS' => by (try dsimp only at hS'); go_split_ands; go_simp; (try with_reducible rfl)) ?_
            simp only [Act.put, List.getElem_toArray, List.getElem_cons_succ, List.getElem_cons_zero, List.setIfInBounds_toArray, List.set_cons_zero, List.set_cons_succ]
            refine Turns.take hS 18 _ rfl (by kernel_rfl) (by kernel_rfl) (by kernel_rfl) (by kernel_rfl) (fun _ _ _ h => h) (by rfl) (fun w' hS' => by (try dsimp only at hS'); go_split_ands; go_simp; (try with_reducible rfl)) ?_
            simp only [Act.put, List.getElem_toArray, List.getElem_cons_succ, List.getElem_cons_zero, List.setIfInBounds_toArray, List.set_cons_zero, List.set_cons_succ]
            refine Turns.take hS 19 _ rfl (by kernel_rfl) (by kernel_rfl) (by kernel_rfl) (by kernel_rfl) (fun _ _ _ h => h) (by rfl) (fun w' hS' => by (try dsimp only at hS'); go_split_ands; go_simp; (try with_reducible rfl)) ?_
            simp only [Act.put, List.getElem_toArray, List.getElem_cons_succ, List.getElem_cons_zero, List.setIfInBounds_toArray, List.set_cons_zero, List.set_cons_succ]
            refine Turns.take hS 20 _ rfl (by kernel_rfl) (by kernel_rfl) (by kernel_rfl) (by kernel_rfl) (fun _ _ _ h => h) (by rfl) (fun w' hS' => by (try dsimp only at hS'); go_split_ands; go_simp; (try with_reducible rfl)) ?_
            simp only [Act.put, List.getElem_toArray, List.getElem_cons_succ, List.getElem_cons_zero, List.setIfInBounds_toArray, List.set_cons_zero, List.set_cons_succ]
            refine Turns.take hS 22 _ rfl (by kernel_rfl) (by kernel_rfl) (by kernel_rfl) (by kernel_rfl) (fun _ _ _ h => h) (by rfl) (fun w' hS' => by (try dsimp only at hS'); go_split_ands; go_simp; (try with_reducible rfl)) ?_
            simp only [Act.put, List.getElem_toArray, List.getElem_cons_succ, List.getElem_cons_zero, List.setIfInBounds_toArray, List.set_cons_zero, List.set_cons_succ]
            refine Turns.take hS 23 _ rfl (by kernel_rfl) (by kernel_rfl) (by kernel_rfl) (by kernel_rfl) (fun _ _ _ h => h) (by rfl) (fun w' hS' => by (try dsimp only at hS'); go_split_ands; go_simp; (try with_reducible rfl)) ?_
            simp only [Act.put, List.getElem_toArray, List.getElem_cons_succ, List.getElem_cons_zero, List.setIfInBounds_toArray, List.set_cons_zero, List.set_cons_succ]
            refine Turns.take hS 24 _ rfl (by kernel_rfl) (by kernel_rfl) (by kernel_rfl) (by kernel_rfl) (fun _ _ _ h => h) (by rfl) (fun w' hS' => by (try dsimp only at hS'); go_split_ands; go_simp; (try with_reducible rfl)) ?_
            simp only [Act.put, List.getElem_toArray, List.getElem_cons_succ, List.getElem_cons_zero, List.setIfInBounds_toArray, List.set_cons_zero, List.set_cons_succ]
            refine Turns.next 21 rfl (by kernel_rfl) (by rfl) (fun K hK => ?_)
            go_simp
            refine (hgo _ HX1.out).mono ?_
            rintro e w5 ⟨rfl, hx5, hb5⟩
            have HM5 := Lib.hid (HM1.out.grown hb5 (by simpa using hgm.symm))
            have HO5 := Lib.hid (HO1.out.grown hb5 (by simpa using hne.symm))
            refine hK.out _ _ (show (fun (w' : World) => w'.cell? ⟨wr.heap.size, 2, none⟩ = some (.int .i64 s2)) _ from HO5.out.cell 2) ?_
            clear hK K hS
            have hS := (show (fun (w' : World) => w'.cell? ⟨wr.heap.size, 2, none⟩ = some (.int .i64 s2)) _ from HO5.out.cell 2)
            refine Turns.next 25 rfl (by kernel_rfl) (by rfl) (fun K hK => ?_)
            go_simp
            refine (hrgo _ HM5.out).mono ?_
            rintro e w6 ⟨rfl, hm6, hb6⟩
            have HX6 := Lib.hid (hx5.grown hb6 (by simpa using hgm))
            have HO6 := Lib.hid (HO5.out.grown hb6 (by simpa using hnm.symm))
            refine hK.out _ _ (show (fun (w' : World) => w'.cell? ⟨wr.heap.size, 2, none⟩ = some (.int .i64 s2)) _ from HO6.out.cell 2) ?_
            clear hK K hS
            have hS := (show (fun (w' : World) => w'.cell? ⟨wr.heap.size, 2, none⟩ = some (.int .i64 s2)) _ from HO6.out.cell 2)
            refine Turns.take hS 26 _ rfl (by kernel_rfl) (by kernel_rfl) (by kernel_rfl) (by kernel_rfl) (fun _ _ _ h => h) (by rfl) (fun w' hS' => by (try dsimp only at hS'); go_split_ands; go_simp; (try with_reducible rfl)) ?_
            simp only [Act.put, List.getElem_toArray, List.getElem_cons_succ, List.getElem_cons_zero, List.setIfInBounds_toArray, List.set_cons_zero, List.set_cons_succ]
            refine Turns.take hS 27 _ rfl (by kernel_rfl) (by kernel_rfl) (by kernel_rfl) (by kernel_rfl) (fun _ _ _ h => h) (by rfl) (fun w' hS' => by (try dsimp only at hS'); go_split_ands; go_simp; (try with_reducible rfl)) ?_
            simp only [Act.put, List.getElem_toArray, List.getElem_cons_succ, List.getElem_cons_zero, List.setIfInBounds_toArray, List.set_cons_zero, List.set_cons_succ]
            refine Turns.rest (late_done (by kernel_rfl)) ?_
            refine any_tail 28 (by rfl) (by kernel_rfl) ?_
            simp only [List.drop_succ_cons, List.drop_zero]
            clear hS
            clear hgo hrgo hfit
            go_upto_region 21 with fail
            have m4 := hm6.cell 1
            have e1 := wrap_u32 M
            have hb6' : Below w.heap.size w w6 := (hb1.grown hb5 hb1.size (fun k hk => by simp at hk; omega)).grown hb6 (Nat.le_trans hb1.size hb5.size) (fun k hk => by simp at hk; omega)
            have HM6 := Lib.hid hm6
            clear hm6 hx5
            go_quiet ((first | (go_at_call 11; exact quiet_eq (now_any gx a0 M _ (HX6.out.drewN _))) | (go_at_call 12; exact quiet_eq (counter_any gx a0 M _ (HX6.out.drewN _)))))
            go_wp2
            go_roundw
            case rel => exact ⟨k + 1, M, by omega, by go_num, HX6.out.drewN _, HM6.out.drewN _, M0, M1, below_drewN hb6' _⟩
            case measure => simp [intOf]; omega
    · obtain ⟨_, _, _, _, hb⟩ := hboth
      go_wp2
      go_ret
      exact ⟨rfl, hb⟩

set_option maxRecDepth 100000 in
theorem lifted (os : Os) (started : os.Started) (H : Type) (enc : TypeId × Value → H) :
    ReturnsInHanded {} Try.checked os 3 .any (Rows.tickDoesSpec.pre6 enc Try.prog Try.f3 Rows.tickDoesRow.domain false) (Rows.tickDoesSpec.post enc Try.prog Try.f3 false true false false) := by
  refine returnsInHanded_of_change (C := Try.checked) own started (by kernel_rfl) Try.func3
    (ChangeSpec.witness6 (enc := enc) (C := Try.checked) false ⟨#[], #[.int .i64 0, .slice none 0 0], []⟩ 8 (by kernel_rfl) (by kernel_rfl) (by kernel_rfl) (by kernel_rfl)) ?_
  intro W base args ds gs before hval0 hW hcnd _
  have hval : ∀ (j : Nat) t v, Try.f3.params[j]? = some t → args[j]? = some v → Value.okWide Try.prog W .any base t v := hval0
  have hW' := hW
  obtain ⟨p, q, hA0, hV, rfl, hfz, hnd⟩ := hW
  have hA : DataW.TrodAll enc Try.prog W 0 (fun _ => true) true Try.f3.params.toList args.toList ds p := hA0
  have hAk := hA
  rw [Try.params3] at hA hval
  obtain ⟨v0, vs0, d0, ds0, p0, q0, hargs, rfl, hp, h0, r0⟩ := trodAll_cons hA
  obtain ⟨v1, vs1, d1, ds1, p1, q1, rfl, rfl, rfl, h1, r1⟩ := trodAll_cons r0
  obtain ⟨rfl, rfl, rfl⟩ := trodAll_nil r1
  obtain rfl : args = #[v0, v1] := by cases args; simp_all
  obtain ⟨rfl, rfl⟩ := trodVars_none hV
  clear hA0 hval0 hargs
  simp only [List.append_nil] at hW'
  have hend : ∀ W' : World, Below W.heap.size W W' → Rows.tickDoesSpec.post enc Try.prog Try.f3 false true false false W #[v0, v1] (.bool true) W' := fun W' hb =>
    law_post (tb := 4) hW' hAk rfl (by kernel_rfl) (by kernel_rfl) (by kernel_rfl) Try.underlying4 rfl rfl rfl hb
  clear hW' hAk hp
  obtain ⟨a0, rfl, rfl, rfl, w0⟩ := open_int Try.underlying3 (hval 0 3 v0 rfl rfl) h0
  obtain ⟨A1, n1, c1, f1, rfl, w1⟩ := flats_arg (ks := [.bool, .int .u32, .int .i64]) 9 Try.underlying22 (by kernel_rfl) (by kernel_rfl) (by decide) (hval 1 22 v1 rfl rfl) h1
  refine (walk a0 A1 n1 c1 f1 W w0 w1).mono fun e W' ⟨he, hg⟩ => ?_
  subst he
  exact ⟨_, rfl, hend W' hg⟩

theorem over : Rows.tickDoesRow.holds Try.pinned (OpenSpec.ofChange Rows.tickDoesSpec) :=
  OpenClaim.holds_of_wide 3 Try.f3 rfl rfl rfl rfl rfl rfl rfl ⟨rfl, rfl, rfl, rfl, rfl⟩ rfl rfl rfl rfl rfl (by kernel_rfl) Try.func3 (by kernel_rfl)
    (of_decide_eq_true (by kernel_rfl)) (by unfold Func.isWrapper; first | (rw [if_pos (by decide +kernel)]; kernel_rfl) | (rw [if_neg (by decide +kernel)]; exact ⟨rfl, rfl⟩))
    (fun os started H enc _ => lifted os started H enc)

/-- THE STATEMENT -/
theorem proved : Rows.TickDoesSaid :=
  over
#print axioms proved
end Go.Proofs.Ytmocgdnikoaeiaa.tickDoes
