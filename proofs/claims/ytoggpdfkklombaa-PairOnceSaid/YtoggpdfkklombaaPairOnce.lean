/-
  A reply is taken once, and none to a pulse that was given up, or to an earlier one: for all numbers the law answers true; without conditions.
  The walk is the prover's own; the frame of the row's step follows the kit's template.
-/
import Derived.Test.YtoggpdfkklombaaRows
import Derived.Test.YtoggpdfkklombaaLawKit
import Derived.Test.YtoggpdfkklombaaPrJ
import Derived.LoopTactic
import Derived.Deep.CutBlock
import Derived.Deep.CutRange
import Derived.BigQuiet
namespace Go.Proofs.Ytoggpdfkklombaa.pairOnce
open Go.ChangeShapes Go.WideShapes Go.ChangeAt Go.RowKit Go.ChangeMaps Go.WideElems
set_option linter.unusedVariables false

theorem own : ownKnob Try.prog.godebug = none := by kernel_rfl
set_option linter.unusedSimpArgs false in
set_option maxHeartbeats 8000000 in
set_option maxRecDepth 100000 in
theorem walk (a0 : Int) (a1 : Int) (a2 : Int) (a3 : Int) (a4 : Int) (a5 : Int) (w : World) (w0 : (Lit.int .i64 a0).wf = true) (w1 : (Lit.int .i64 a1).wf = true) (w2 : (Lit.int .i64 a2).wf = true) (w3 : (Lit.int .i64 a3).wf = true) (w4 : (Lit.int .i64 a4).wf = true) (w5 : (Lit.int .i64 a5).wf = true) :
    Calls Try.prog 7 #[.int .i64 a0, .int .i64 a1, .int .i64 a2, .int .i64 a3, .int .i64 a4, .int .i64 a5] w fun e w' => e = .returned (.bool true) ∧ Below w.heap.size w w' := by
  have fa0 := fits_wf w0
  have fa1 := fits_wf w1
  have fa2 := fits_wf w2
  have fa3 := fits_wf w3
  have fa4 := fits_wf w4
  have fa5 := fits_wf w5
  clear w0 w1 w2 w3 w4 w5
  by_cases hbad : a0 < 0 ∨ 63 < a0
  · have hnew := fun W => pnew_no W a0 hbad
    clear hbad fa0 fa1 fa2 fa3 fa4 fa5
    go_enter Try.func7, Try.ntmps7
    go_wp2_with (first
      | (go_at_call 8; refine (alive_yes _).mono ?_; rintro e wx ⟨rfl, hb⟩; have HB := Lib.hid hb; clear hb)
      | (go_at_call 15; refine (hnew _).mono ?_; rintro e wy ⟨rfl, hwy⟩; subst wy))
    go_ret
    exact ⟨rfl, HB.out⟩
  have hme : 0 ≤ a0 ∧ a0 ≤ 63 := by omega
  have hnew := fun W => pnew_yes W a0 hme
  clear hbad
  by_cases h0 : a1 < 0
  · have d0 : decide (a1 < 0) = true := decide_eq_true h0
    clear h0 fa0 fa1 fa2 fa3 fa4 fa5 hme 
    go_enter Try.func7, Try.ntmps7
    go_wp2_with (first
      | (go_at_call 8; refine (alive_yes _).mono ?_; rintro e wx ⟨rfl, hb⟩; have HB := Lib.hid hb; clear hb)
      | (go_at_call 15; refine (hnew _).mono ?_; rintro e wy ⟨rfl, hN, hb⟩; replace HB := Lib.hid (HB.out.trans (hb.mono HB.out.size)); clear hb hN))
    go_ret
    exact ⟨rfl, HB.out⟩
  have d0 : decide (a1 < 0) = false := decide_eq_false h0
  by_cases h1 : 63 < a1
  · have d1 : decide (63 < a1) = true := decide_eq_true h1
    clear h1 fa0 fa1 fa2 fa3 fa4 fa5 hme h0
    go_enter Try.func7, Try.ntmps7
    go_wp2_with (first
      | (go_at_call 8; refine (alive_yes _).mono ?_; rintro e wx ⟨rfl, hb⟩; have HB := Lib.hid hb; clear hb)
      | (go_at_call 15; refine (hnew _).mono ?_; rintro e wy ⟨rfl, hN, hb⟩; replace HB := Lib.hid (HB.out.trans (hb.mono HB.out.size)); clear hb hN))
    go_ret
    exact ⟨rfl, HB.out⟩
  have d1 : decide (63 < a1) = false := decide_eq_false h1
  by_cases h2 : a1 = a0
  · have d2 : (a1 == a0) = true := by simp [h2]
    clear h2 fa0 fa1 fa2 fa3 fa4 fa5 hme h0 h1
    go_enter Try.func7, Try.ntmps7
    go_wp2_with (first
      | (go_at_call 8; refine (alive_yes _).mono ?_; rintro e wx ⟨rfl, hb⟩; have HB := Lib.hid hb; clear hb)
      | (go_at_call 15; refine (hnew _).mono ?_; rintro e wy ⟨rfl, hN, hb⟩; replace HB := Lib.hid (HB.out.trans (hb.mono HB.out.size)); clear hb hN))
    go_ret
    exact ⟨rfl, HB.out⟩
  have d2 : (a1 == a0) = false := by simp [h2]
  by_cases h3 : a2 < 0
  · have d3 : decide (a2 < 0) = true := decide_eq_true h3
    clear h3 fa0 fa1 fa2 fa3 fa4 fa5 hme h0 h1 h2
    go_enter Try.func7, Try.ntmps7
    go_wp2_with (first
      | (go_at_call 8; refine (alive_yes _).mono ?_; rintro e wx ⟨rfl, hb⟩; have HB := Lib.hid hb; clear hb)
      | (go_at_call 15; refine (hnew _).mono ?_; rintro e wy ⟨rfl, hN, hb⟩; replace HB := Lib.hid (HB.out.trans (hb.mono HB.out.size)); clear hb hN))
    go_ret
    exact ⟨rfl, HB.out⟩
  have d3 : decide (a2 < 0) = false := decide_eq_false h3
  by_cases h4 : 1099511627776 < a2
  · have d4 : decide (1099511627776 < a2) = true := decide_eq_true h4
    clear h4 fa0 fa1 fa2 fa3 fa4 fa5 hme h0 h1 h2 h3
    go_enter Try.func7, Try.ntmps7
    go_wp2_with (first
      | (go_at_call 8; refine (alive_yes _).mono ?_; rintro e wx ⟨rfl, hb⟩; have HB := Lib.hid hb; clear hb)
      | (go_at_call 15; refine (hnew _).mono ?_; rintro e wy ⟨rfl, hN, hb⟩; replace HB := Lib.hid (HB.out.trans (hb.mono HB.out.size)); clear hb hN))
    go_ret
    exact ⟨rfl, HB.out⟩
  have d4 : decide (1099511627776 < a2) = false := decide_eq_false h4
  by_cases h5 : a3 < 1
  · have d5 : decide (a3 < 1) = true := decide_eq_true h5
    clear h5 fa0 fa1 fa2 fa3 fa4 fa5 hme h0 h1 h2 h3 h4
    go_enter Try.func7, Try.ntmps7
    go_wp2_with (first
      | (go_at_call 8; refine (alive_yes _).mono ?_; rintro e wx ⟨rfl, hb⟩; have HB := Lib.hid hb; clear hb)
      | (go_at_call 15; refine (hnew _).mono ?_; rintro e wy ⟨rfl, hN, hb⟩; replace HB := Lib.hid (HB.out.trans (hb.mono HB.out.size)); clear hb hN))
    go_ret
    exact ⟨rfl, HB.out⟩
  have d5 : decide (a3 < 1) = false := decide_eq_false h5
  by_cases h6 : 1073741824 < a3
  · have d6 : decide (1073741824 < a3) = true := decide_eq_true h6
    clear h6 fa0 fa1 fa2 fa3 fa4 fa5 hme h0 h1 h2 h3 h4 h5
    go_enter Try.func7, Try.ntmps7
    go_wp2_with (first
      | (go_at_call 8; refine (alive_yes _).mono ?_; rintro e wx ⟨rfl, hb⟩; have HB := Lib.hid hb; clear hb)
      | (go_at_call 15; refine (hnew _).mono ?_; rintro e wy ⟨rfl, hN, hb⟩; replace HB := Lib.hid (HB.out.trans (hb.mono HB.out.size)); clear hb hN))
    go_ret
    exact ⟨rfl, HB.out⟩
  have d6 : decide (1073741824 < a3) = false := decide_eq_false h6
  by_cases h7 : a4 < 0
  · have d7 : decide (a4 < 0) = true := decide_eq_true h7
    clear h7 fa0 fa1 fa2 fa3 fa4 fa5 hme h0 h1 h2 h3 h4 h5 h6
    go_enter Try.func7, Try.ntmps7
    go_wp2_with (first
      | (go_at_call 8; refine (alive_yes _).mono ?_; rintro e wx ⟨rfl, hb⟩; have HB := Lib.hid hb; clear hb)
      | (go_at_call 15; refine (hnew _).mono ?_; rintro e wy ⟨rfl, hN, hb⟩; replace HB := Lib.hid (HB.out.trans (hb.mono HB.out.size)); clear hb hN))
    go_ret
    exact ⟨rfl, HB.out⟩
  have d7 : decide (a4 < 0) = false := decide_eq_false h7
  by_cases h8 : 1099511627776 < a4
  · have d8 : decide (1099511627776 < a4) = true := decide_eq_true h8
    clear h8 fa0 fa1 fa2 fa3 fa4 fa5 hme h0 h1 h2 h3 h4 h5 h6 h7
    go_enter Try.func7, Try.ntmps7
    go_wp2_with (first
      | (go_at_call 8; refine (alive_yes _).mono ?_; rintro e wx ⟨rfl, hb⟩; have HB := Lib.hid hb; clear hb)
      | (go_at_call 15; refine (hnew _).mono ?_; rintro e wy ⟨rfl, hN, hb⟩; replace HB := Lib.hid (HB.out.trans (hb.mono HB.out.size)); clear hb hN))
    go_ret
    exact ⟨rfl, HB.out⟩
  have d8 : decide (1099511627776 < a4) = false := decide_eq_false h8
  by_cases h9 : a5 < 0
  · have d9 : decide (a5 < 0) = true := decide_eq_true h9
    clear h9 fa0 fa1 fa2 fa3 fa4 fa5 hme h0 h1 h2 h3 h4 h5 h6 h7 h8
    go_enter Try.func7, Try.ntmps7
    go_wp2_with (first
      | (go_at_call 8; refine (alive_yes _).mono ?_; rintro e wx ⟨rfl, hb⟩; have HB := Lib.hid hb; clear hb)
      | (go_at_call 15; refine (hnew _).mono ?_; rintro e wy ⟨rfl, hN, hb⟩; replace HB := Lib.hid (HB.out.trans (hb.mono HB.out.size)); clear hb hN))
    go_ret
    exact ⟨rfl, HB.out⟩
  have d9 : decide (a5 < 0) = false := decide_eq_false h9
  by_cases h10 : 1073741824 < a5
  · have d10 : decide (1073741824 < a5) = true := decide_eq_true h10
    clear h10 fa0 fa1 fa2 fa3 fa4 fa5 hme h0 h1 h2 h3 h4 h5 h6 h7 h8 h9
    go_enter Try.func7, Try.ntmps7
    go_wp2_with (first
      | (go_at_call 8; refine (alive_yes _).mono ?_; rintro e wx ⟨rfl, hb⟩; have HB := Lib.hid hb; clear hb)
      | (go_at_call 15; refine (hnew _).mono ?_; rintro e wy ⟨rfl, hN, hb⟩; replace HB := Lib.hid (HB.out.trans (hb.mono HB.out.size)); clear hb hN))
    go_ret
    exact ⟨rfl, HB.out⟩
  have d10 : decide (1073741824 < a5) = false := decide_eq_false h10
  have x1 := IntWalk.i64_in (a2 + a3) (by omega)
  have x2 := IntWalk.i64_in (a4 + a5) (by omega)
  have x3 := IntWalk.i64_in (2 * a3) (by omega)
  have x4 := IntWalk.i64_in (a2 + 2 * a3) (by omega)
  have hgood : goodT a2 a4 (a4 + a5) (a2 + a3) = true := (goodT_iff _ _ _ _).2 ⟨⟨by omega, by omega⟩, ⟨by omega, by omega⟩, ⟨by omega, by omega⟩, ⟨by omega, by omega⟩, by omega⟩
  have fs : Fits (a2 + a3) := ⟨by omega, by omega⟩
  have hask1 : ∀ W g, Par W g (newP a0) → Calls Try.prog 17 #[.pointer (some ⟨g, 0, none⟩), .int .i64 a1, .int .i64 a2] W fun e w' => e = .returned (.tuple #[.agg #[.int .i64 a0, .int .i64 a1, .int .i64 a2], .bool true]) ∧ PGoes g ⟨a0, true, a0, a1, a2, 0, 0, 0⟩ W w' := fun W g h => pask_yes W g _ h a1 a2 fa0 fa1 fa2 (askB_yes rfl (Int.le_refl 0) h2 hme ⟨by omega, by omega⟩ ⟨by omega, by omega⟩)
  have hask2 : ∀ W g, Par W g (newP a0) → Calls Try.prog 17 #[.pointer (some ⟨g, 0, none⟩), .int .i64 a1, .int .i64 (a2 + a3)] W fun e w' => e = .returned (.tuple #[.agg #[.int .i64 a0, .int .i64 a1, .int .i64 (a2 + a3)], .bool true]) ∧ PGoes g ⟨a0, true, a0, a1, (a2 + a3), 0, 0, 0⟩ W w' := fun W g h => pask_yes W g _ h a1 (a2 + a3) fa0 fa1 fs (askB_yes rfl (Int.le_refl 0) h2 hme ⟨by omega, by omega⟩ ⟨by omega, by omega⟩)
  have ht : takenB ⟨a0, true, a0, a1, a2, 0, 0, 0⟩ a1 a0 a2 a4 (a4 + a5) 0 (a2 + a3) = true := takenB_yes rfl rfl rfl rfl hgood (by omega)
  have hv : hearV ⟨a0, true, a0, a1, a2, 0, 0, 0⟩ a1 a0 a2 a4 (a4 + a5) 0 (a2 + a3) = .tuple #[.agg #[.int .i64 (a2 + a3), .int .i64 (offV a2 a4 (a4 + a5) (a2 + a3)), .int .i64 1], .bool true] := by
    unfold hearV
    rw [if_pos ht]
    rfl
  have hp : hearP ⟨a0, true, a0, a1, a2, 0, 0, 0⟩ a1 a0 a2 a4 (a4 + a5) 0 (a2 + a3) = newP a0 := by
    unfold hearP
    rw [if_pos ht]
    rfl
  have hhear1 := fun W g (h : Par W g ⟨a0, true, a0, a1, a2, 0, 0, 0⟩) => phear_any W g _ h a1 a0 a2 a4 (a4 + a5) 0 0 0 (a2 + a3) ⟨by decide, by decide⟩
  rw [hv, hp] at hhear1
  obtain ⟨O, hO⟩ : ∃ O, offV a2 a4 (a4 + a5) (a2 + a3) = O := ⟨_, rfl⟩
  rw [hO] at hhear1
  have hhear2 := fun W g (h : Par W g (newP a0)) => phear_other W g _ h a1 a0 a2 a4 (a4 + a5) 0 0 0 (a2 + a3) (.inl rfl)
  have hhear3 := fun W g (h : Par W g ⟨a0, true, a0, a1, a2 + a3, 0, 0, 0⟩) => phear_other W g _ h a1 a0 a2 a4 (a4 + a5) 0 0 0 (a2 + 2 * a3) (.inr ⟨rfl, askedB_sent (by show a2 ≠ a2 + a3; omega)⟩)
  have hhear4 := fun W g (h : Par W g ⟨a0, false, 0, 0, 0, 0, 1, 1⟩) => phear_other W g _ h a1 a0 (a2 + a3) a4 (a4 + a5) 0 0 0 (a2 + 2 * a3) (.inl rfl)
  have hi3 : PInv ⟨a0, true, a0, a1, a2 + a3, 0, 0, 0⟩ := ⟨hme, by show (0 : Int) ≤ 0 ∧ (0 : Int) ≤ 1; omega, by show (0 : Int) ≤ 0 ∧ (0 : Int) ≤ 2; omega, by show (0 : Int) ≤ 0 ∧ (0 : Int) ≤ 3; omega, (fun e => by cases e), fun _ => ⟨rfl, by show 0 ≤ a2 + a3; omega⟩⟩
  have hi4 : PInv ⟨a0, true, a0, a1, a2 + a3, 1, 0, 0⟩ := ⟨hme, by show (0 : Int) ≤ 1 ∧ (1 : Int) ≤ 1; omega, by show (0 : Int) ≤ 0 ∧ (0 : Int) ≤ 2; omega, by show (0 : Int) ≤ 0 ∧ (0 : Int) ≤ 3; omega, (fun e => by cases e), fun _ => ⟨rfl, by show 0 ≤ a2 + a3; omega⟩⟩
  have hbeat1 : ∀ W g, Par W g ⟨a0, true, a0, a1, a2 + a3, 0, 0, 0⟩ → Calls Try.prog 19 #[.pointer (some ⟨g, 0, none⟩)] W fun e w' => e = .returned (.bool false) ∧ PGoes g ⟨a0, true, a0, a1, a2 + a3, 1, 0, 0⟩ W w' := fun W g h => pbeat_any W g _ h hi3
  have hbeat2 : ∀ W g, Par W g ⟨a0, true, a0, a1, a2 + a3, 1, 0, 0⟩ → Calls Try.prog 19 #[.pointer (some ⟨g, 0, none⟩)] W fun e w' => e = .returned (.bool false) ∧ PGoes g ⟨a0, false, 0, 0, 0, 0, 1, 1⟩ W w' := fun W g h => pbeat_any W g _ h hi4
  have dd1 : (a2 != a2) = false := by simp
  have dd2 : (a2 + a3 != a2 + a3) = false := by simp
  have HA1 := Lib.hid hask1
  have HA2 := Lib.hid hask2
  have HH1 := Lib.hid hhear1
  have HH2 := Lib.hid hhear2
  have HH3 := Lib.hid hhear3
  have HH4 := Lib.hid hhear4
  have HB1 := Lib.hid hbeat1
  have HB2 := Lib.hid hbeat2
  clear hask1 hask2 hhear1 hhear2 hhear3 hhear4 hbeat1 hbeat2 ht hv hp hO hgood fs hi3 hi4 h0 h1 h2 h3 h4 h5 h6 h7 h8 h9 h10 fa0 fa1 fa2 fa3 fa4 fa5 hme
  go_enter Try.func7, Try.ntmps7
  go_upto_region 6 with (first
    | (go_at_call 8; refine (alive_yes _).mono ?_; rintro e wx ⟨rfl, hb⟩; have HB := Lib.hid hb; clear hb)
    | (go_at_call 15; refine (hnew _).mono ?_; rintro e w1 ⟨rfl, hN, hb⟩; have HN := Lib.hid (⟨hN, HB.out.trans (hb.mono HB.out.size), HB.out.size⟩ : N1 w w1 wx.heap.size (newP a0)); clear hb hN hnew))
  obtain ⟨g, hg⟩ : ∃ g, wx.heap.size = g := ⟨_, rfl⟩
  rw [hg] at HN
  simp only [hg]
  clear hg HB
  have hc := HA1.out _ _ HN.out.node
  go_upto_region 7 with (go_at_call 17; (with_reducible refine hc.mono ?_); rintro e w2 ⟨rfl, hg2⟩; replace HN := Lib.hid ((HN.out.next hg2).alloc (.cells #[.int .i64 a0, .int .i64 a1, .int .i64 a2] 36)); have HF := Lib.hid (Holds.new w2 36 #[.int .i64 a0, .int .i64 a1, .int .i64 a2]); clear hg2 hc HA1)
  obtain ⟨xf, hx⟩ : ∃ x, w2.heap.size = x := ⟨_, rfl⟩
  rw [hx] at HF
  simp only [hx]
  clear hx
  obtain ⟨U2, hU⟩ : ∃ U, U = w2.alloc (.cells #[.int .i64 a0, .int .i64 a1, .int .i64 a2] 36) := ⟨_, rfl⟩
  rw [← hU] at HN HF ⊢
  clear hU
  go_upto_region 8 with fail
  have HXR := Lib.hid HN.out.below.size
  have HR := Lib.hid (Holds.new U2 45 #[.int .i64 a1, .int .i64 a0, .int .i64 a2, .int .i64 a4, .int .i64 (a4 + a5), .int .i64 0, .int .u16 0, .int .i64 0])
  replace HN := Lib.hid (HN.out.alloc (.cells #[.int .i64 a1, .int .i64 a0, .int .i64 a2, .int .i64 a4, .int .i64 (a4 + a5), .int .i64 0, .int .u16 0, .int .i64 0] 45))
  replace HF := Lib.hid (HF.out.alloc (.cells #[.int .i64 a1, .int .i64 a0, .int .i64 a2, .int .i64 a4, .int .i64 (a4 + a5), .int .i64 0, .int .u16 0, .int .i64 0] 45))
  obtain ⟨xr, hx⟩ : ∃ x, U2.heap.size = x := ⟨_, rfl⟩
  rw [hx] at HR HXR
  simp only [hx]
  clear hx
  obtain ⟨U3, hU⟩ : ∃ U, U = U2.alloc (.cells #[.int .i64 a1, .int .i64 a0, .int .i64 a2, .int .i64 a4, .int .i64 (a4 + a5), .int .i64 0, .int .u16 0, .int .i64 0] 45) := ⟨_, rfl⟩
  rw [← hU] at HN HF HR ⊢
  clear hU
  have r0 := HR.out.cell 0
  have r1 := HR.out.cell 1
  have r2 := HR.out.cell 2
  have r3 := HR.out.cell 3
  have r4 := HR.out.cell 4
  have r5 := HR.out.cell 5
  have r6 := HR.out.cell 6
  have r7 := HR.out.cell 7
  have hc := HH1.out _ _ HN.out.node
  go_upto_region 9 with (go_at_call 18; (with_reducible refine hc.mono ?_); rintro e w4 ⟨rfl, hg4⟩; replace HF := Lib.hid (HF.out.chg hg4.2 (HF.out.apart HN.out.node (by decide))); replace HR := Lib.hid (HR.out.chg hg4.2 (HR.out.apart HN.out.node (by decide))); replace HN := Lib.hid ((HN.out.next hg4).alloc (.cells #[.int .i64 (a2 + a3), .int .i64 O, .int .i64 1] 40)); replace HF := Lib.hid (HF.out.alloc (.cells #[.int .i64 (a2 + a3), .int .i64 O, .int .i64 1] 40)); replace HR := Lib.hid (HR.out.alloc (.cells #[.int .i64 (a2 + a3), .int .i64 O, .int .i64 1] 40)); have HX := Lib.hid (Holds.new w4 40 #[.int .i64 (a2 + a3), .int .i64 O, .int .i64 1]); clear hg4 hc HH1 r0 r1 r2 r3 r4 r5 r6 r7)
  obtain ⟨xx, hx⟩ : ∃ x, w4.heap.size = x := ⟨_, rfl⟩
  rw [hx] at HX
  simp only [hx]
  clear hx
  obtain ⟨U4, hU⟩ : ∃ U, U = w4.alloc (.cells #[.int .i64 (a2 + a3), .int .i64 O, .int .i64 1] 40) := ⟨_, rfl⟩
  rw [← hU] at HN HF HR HX ⊢
  clear hU
  have r0 := HR.out.cell 0
  have r1 := HR.out.cell 1
  have r2 := HR.out.cell 2
  have r3 := HR.out.cell 3
  have r4 := HR.out.cell 4
  have r5 := HR.out.cell 5
  have r6 := HR.out.cell 6
  have r7 := HR.out.cell 7
  have hc := HH2.out _ _ HN.out.node
  go_upto_region 10 with (go_at_call 18; (with_reducible refine hc.mono ?_); rintro e w5 ⟨rfl, hg5⟩; replace HF := Lib.hid (HF.out.chg hg5.2 (HF.out.apart HN.out.node (by decide))); replace HR := Lib.hid (HR.out.chg hg5.2 (HR.out.apart HN.out.node (by decide))); replace HX := Lib.hid (HX.out.chg hg5.2 (HX.out.apart HN.out.node (by decide))); replace HN := Lib.hid ((HN.out.next hg5).alloc (.cells #[.int .i64 0, .int .i64 0, .int .i64 0] 40)); replace HF := Lib.hid (HF.out.alloc (.cells #[.int .i64 0, .int .i64 0, .int .i64 0] 40)); replace HR := Lib.hid (HR.out.alloc (.cells #[.int .i64 0, .int .i64 0, .int .i64 0] 40)); replace HX := Lib.hid (HX.out.alloc (.cells #[.int .i64 0, .int .i64 0, .int .i64 0] 40)); clear hg5 hc HH2 r0 r1 r2 r3 r4 r5 r6 r7)
  obtain ⟨U5, hU⟩ : ∃ U, U = w5.alloc (.cells #[.int .i64 0, .int .i64 0, .int .i64 0] 40) := ⟨_, rfl⟩
  rw [← hU] at HN HF HR HX ⊢
  clear hU
  have hw := pwaits_any _ _ _ HN.out.node
  have k0 := HF.out.cell 2
  have k1 := HX.out.cell 0
  have k2 := HX.out.cell 2
  go_upto_region 12 with (go_at_call 20; (with_reducible refine hw.mono ?_); rintro e wy ⟨rfl, hwy⟩; subst wy)
  clear k0 k1 k2 hw HX HF
  have hc := HA2.out _ _ HN.out.node
  go_upto_region 13 with (go_at_call 17; (with_reducible refine hc.mono ?_); rintro e w6 ⟨rfl, hg6⟩; replace HR := Lib.hid (HR.out.chg hg6.2 (HR.out.apart HN.out.node (by decide))); replace HN := Lib.hid (HN.out.next hg6); clear hg6 hc HA2)
  have r0 := HR.out.cell 0
  have r1 := HR.out.cell 1
  have r2 := HR.out.cell 2
  have r3 := HR.out.cell 3
  have r4 := HR.out.cell 4
  have r5 := HR.out.cell 5
  have r6 := HR.out.cell 6
  have r7 := HR.out.cell 7
  have hc := HH3.out _ _ HN.out.node
  go_upto_region 14 with (go_at_call 18; (with_reducible refine hc.mono ?_); rintro e w7 ⟨rfl, hg7⟩; replace HR := Lib.hid (HR.out.chg hg7.2 (HR.out.apart HN.out.node (by decide))); replace HN := Lib.hid ((HN.out.next hg7).alloc (.cells #[.int .i64 0, .int .i64 0, .int .i64 0] 40)); replace HR := Lib.hid (HR.out.alloc (.cells #[.int .i64 0, .int .i64 0, .int .i64 0] 40)); clear hg7 hc HH3 r0 r1 r2 r3 r4 r5 r6 r7)
  obtain ⟨U7, hU⟩ : ∃ U, U = w7.alloc (.cells #[.int .i64 0, .int .i64 0, .int .i64 0] 40) := ⟨_, rfl⟩
  rw [← hU] at HN HR ⊢
  clear hU
  have hc := HB1.out _ _ HN.out.node
  go_upto_region 15 with (go_at_call 19; (with_reducible refine hc.mono ?_); rintro e w8 ⟨rfl, hg8⟩; replace HR := Lib.hid (HR.out.chg hg8.2 (HR.out.apart HN.out.node (by decide))); replace HN := Lib.hid (HN.out.next hg8); clear hg8 hc HB1)
  have hc := HB2.out _ _ HN.out.node
  go_upto_region 16 with (go_at_call 19; (with_reducible refine hc.mono ?_); rintro e w9 ⟨rfl, hg9⟩; replace HR := Lib.hid (HR.out.chg hg9.2 (HR.out.apart HN.out.node (by decide))); replace HN := Lib.hid (HN.out.next hg9); clear hg9 hc HB2)
  have r2 := HR.out.cell 2
  have s2 := HR.out.soft 2
  replace HN := Lib.hid (HN.out.far (i := 2) (HR.out.apart HN.out.node (by decide)) HXR.out (.int .i64 (a2 + a3)))
  replace HR := Lib.hid (HR.out.put 2 (.int .i64 (a2 + a3)))
  go_upto_region 17 with fail
  clear r2 s2
  obtain ⟨U9, hU⟩ : ∃ U, U = w9.setCell ⟨xr, 2, none⟩ (.int .i64 (a2 + a3)) := ⟨_, rfl⟩
  rw [← hU] at HN HR ⊢
  clear hU
  have r0 := HR.out.cell 0
  have r1 := HR.out.cell 1
  have r2 := HR.out.cell 2
  have r3 := HR.out.cell 3
  have r4 := HR.out.cell 4
  have r5 := HR.out.cell 5
  have r6 := HR.out.cell 6
  have r7 := HR.out.cell 7
  have hc := HH4.out _ _ HN.out.node
  go_upto_region 18 with (go_at_call 18; (with_reducible refine hc.mono ?_); rintro e w10 ⟨rfl, hg10⟩; replace HN := Lib.hid ((HN.out.next hg10).alloc (.cells #[.int .i64 0, .int .i64 0, .int .i64 0] 40)); clear hg10 hc HH4 r0 r1 r2 r3 r4 r5 r6 r7)
  have hw := pwaits_any _ _ _ HN.out.node
  have hr := prests_any _ _ _ HN.out.node
  go_wp2_with (first
    | (go_at_call 20; (with_reducible refine hw.mono ?_); rintro e wy ⟨rfl, hwy⟩; subst wy)
    | (go_at_call 21; (with_reducible refine hr.mono ?_); rintro e wy ⟨rfl, hwy⟩; subst wy))
  go_ret
  exact ⟨rfl, HN.out.below⟩

set_option maxRecDepth 100000 in
theorem lifted (os : Os) (started : os.Started) (H : Type) (enc : TypeId × Value → H) :
    ReturnsInHanded {} Try.checked os 7 .any (Rows.pairOnceSpec.pre6 enc Try.prog Try.f7 Rows.pairOnceRow.domain false) (Rows.pairOnceSpec.post enc Try.prog Try.f7 false true false false) := by
  refine returnsInHanded_of_change (C := Try.checked) own started (by kernel_rfl) Try.func7
    (ChangeSpec.witness6 (enc := enc) (C := Try.checked) false ⟨#[], #[.int .i64 0, .int .i64 0, .int .i64 0, .int .i64 0, .int .i64 0, .int .i64 0], []⟩ 8 (by kernel_rfl) (by kernel_rfl) (by kernel_rfl) (by kernel_rfl)) ?_
  intro W base args ds gs before hval0 hW hcnd _
  have hval : ∀ (j : Nat) t v, Try.f7.params[j]? = some t → args[j]? = some v → Value.okWide Try.prog W .any base t v := hval0
  have hW' := hW
  obtain ⟨p, q, hA0, hV, rfl, hfz, hnd⟩ := hW
  have hA : DataW.TrodAll enc Try.prog W 0 (fun _ => true) true Try.f7.params.toList args.toList ds p := hA0
  have hAk := hA
  rw [Try.params7] at hA hval
  obtain ⟨v0, vs0, d0, ds0, p0, q0, hargs, rfl, hp, h0, r0⟩ := trodAll_cons hA
  obtain ⟨v1, vs1, d1, ds1, p1, q1, rfl, rfl, rfl, h1, r1⟩ := trodAll_cons r0
  obtain ⟨v2, vs2, d2, ds2, p2, q2, rfl, rfl, rfl, h2, r2⟩ := trodAll_cons r1
  obtain ⟨v3, vs3, d3, ds3, p3, q3, rfl, rfl, rfl, h3, r3⟩ := trodAll_cons r2
  obtain ⟨v4, vs4, d4, ds4, p4, q4, rfl, rfl, rfl, h4, r4⟩ := trodAll_cons r3
  obtain ⟨v5, vs5, d5, ds5, p5, q5, rfl, rfl, rfl, h5, r5⟩ := trodAll_cons r4
  obtain ⟨rfl, rfl, rfl⟩ := trodAll_nil r5
  obtain rfl : args = #[v0, v1, v2, v3, v4, v5] := by cases args; simp_all
  obtain ⟨rfl, rfl⟩ := trodVars_none hV
  clear hA0 hval0 hargs
  simp only [List.append_nil] at hW'
  have hend : ∀ W' : World, Below W.heap.size W W' → Rows.pairOnceSpec.post enc Try.prog Try.f7 false true false false W #[v0, v1, v2, v3, v4, v5] (.bool true) W' := fun W' hb =>
    law_post (tb := 4) hW' hAk rfl (by kernel_rfl) (by kernel_rfl) (by kernel_rfl) Try.underlying4 rfl rfl rfl hb
  clear hW' hAk hp
  obtain ⟨a0, rfl, rfl, rfl, w0⟩ := open_int Try.underlying3 (hval 0 3 v0 rfl rfl) h0
  obtain ⟨a1, rfl, rfl, rfl, w1⟩ := open_int Try.underlying3 (hval 1 3 v1 rfl rfl) h1
  obtain ⟨a2, rfl, rfl, rfl, w2⟩ := open_int Try.underlying3 (hval 2 3 v2 rfl rfl) h2
  obtain ⟨a3, rfl, rfl, rfl, w3⟩ := open_int Try.underlying3 (hval 3 3 v3 rfl rfl) h3
  obtain ⟨a4, rfl, rfl, rfl, w4⟩ := open_int Try.underlying3 (hval 4 3 v4 rfl rfl) h4
  obtain ⟨a5, rfl, rfl, rfl, w5⟩ := open_int Try.underlying3 (hval 5 3 v5 rfl rfl) h5
  refine (walk a0 a1 a2 a3 a4 a5 W w0 w1 w2 w3 w4 w5).mono fun e W' ⟨he, hg⟩ => ?_
  subst he
  exact ⟨_, rfl, hend W' hg⟩

theorem over : Rows.pairOnceRow.holds Try.pinned (OpenSpec.ofChange Rows.pairOnceSpec) :=
  OpenClaim.holds_of_wide 7 Try.f7 rfl rfl rfl rfl rfl rfl rfl ⟨rfl, rfl, rfl, rfl, rfl⟩ rfl rfl rfl rfl rfl (by kernel_rfl) Try.func7 (by kernel_rfl)
    (of_decide_eq_true (by kernel_rfl)) (by unfold Func.isWrapper; first | (rw [if_pos (by decide +kernel)]; kernel_rfl) | (rw [if_neg (by decide +kernel)]; exact ⟨rfl, rfl⟩))
    (fun os started H enc _ => lifted os started H enc)

/-- THE STATEMENT -/
theorem proved : Rows.PairOnceSaid :=
  over
#print axioms proved
end Go.Proofs.Ytoggpdfkklombaa.pairOnce
