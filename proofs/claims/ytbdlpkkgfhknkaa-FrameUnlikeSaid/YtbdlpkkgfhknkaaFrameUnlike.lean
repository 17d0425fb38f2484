/-
  Two frames that differ in their kind, or in a field of their kind, have unlike bytes, and two that do not have the same: for all frames.
  The walk is the prover's own; the frame of the row's step follows the kit's template.
-/
import Derived.Test.YtbdlpkkgfhknkaaRows
import Derived.Test.YtbdlpkkgfhknkaaLawKit
import Derived.Test.YtbdlpkkgfhknkaaStructArg
import Derived.Test.YtbdlpkkgfhknkaaFrmU
import Derived.Test.YtbdlpkkgfhknkaaTurn
namespace Go.Proofs.Ytbdlpkkgfhknkaa.frameUnlike
open Go.ChangeShapes Go.WideShapes Go.ChangeAt Go.RowKit Go.ChangeMaps Go.WideElems
set_option linter.unusedVariables false

theorem split14 {ns : List Int} (h : ns.length = 14) : ∃ s1_0 s1_1 s1_2 s1_3 s1_4 s1_5 s1_6 s1_7 s1_8 s1_9 s1_10 s1_11 s1_12 s1_13 : Int, ns = [s1_0, s1_1, s1_2, s1_3, s1_4, s1_5, s1_6, s1_7, s1_8, s1_9, s1_10, s1_11, s1_12, s1_13] := by
  match ns, h with
  | [y0, y1, y2, y3, y4, y5, y6, y7, y8, y9, y10, y11, y12, y13], _ => exact ⟨_, _, _, _, _, _, _, _, _, _, _, _, _, _, rfl⟩
theorem own : ownKnob Try.prog.godebug = none := by kernel_rfl

set_option linter.unusedSimpArgs false in
set_option maxHeartbeats 8000000 in
set_option maxRecDepth 100000 in
theorem both_same (s0_0 s0_1 s0_2 s0_3 s0_4 s0_5 s0_6 s0_7 s0_8 s0_9 s0_10 s0_11 s0_12 s0_13 : Int) (s1_0 s1_1 s1_2 s1_3 s1_4 s1_5 s1_6 s1_7 s1_8 s1_9 s1_10 s1_11 s1_12 s1_13 : Int) (w : World) (w0_0 : (Lit.int .i64 s0_0).wf = true) (w0_1 : (Lit.int .i64 s0_1).wf = true) (w0_2 : (Lit.int .i64 s0_2).wf = true) (w0_3 : (Lit.int .i64 s0_3).wf = true) (w0_4 : (Lit.int .u16 s0_4).wf = true) (w0_5 : (Lit.int .u16 s0_5).wf = true) (w0_6 : (Lit.int .i64 s0_6).wf = true) (w0_7 : (Lit.int .i64 s0_7).wf = true) (w0_8 : (Lit.int .i64 s0_8).wf = true) (w0_9 : (Lit.int .i64 s0_9).wf = true) (w0_10 : (Lit.int .i64 s0_10).wf = true) (w0_11 : (Lit.int .i64 s0_11).wf = true) (w0_12 : (Lit.int .i64 s0_12).wf = true) (w0_13 : (Lit.int .i64 s0_13).wf = true) (w1_0 : (Lit.int .i64 s1_0).wf = true) (w1_1 : (Lit.int .i64 s1_1).wf = true) (w1_2 : (Lit.int .i64 s1_2).wf = true) (w1_3 : (Lit.int .i64 s1_3).wf = true) (w1_4 : (Lit.int .u16 s1_4).wf = true) (w1_5 : (Lit.int .u16 s1_5).wf = true) (w1_6 : (Lit.int .i64 s1_6).wf = true) (w1_7 : (Lit.int .i64 s1_7).wf = true) (w1_8 : (Lit.int .i64 s1_8).wf = true) (w1_9 : (Lit.int .i64 s1_9).wf = true) (w1_10 : (Lit.int .i64 s1_10).wf = true) (w1_11 : (Lit.int .i64 s1_11).wf = true) (w1_12 : (Lit.int .i64 s1_12).wf = true) (w1_13 : (Lit.int .i64 s1_13).wf = true) (hfp : (∃ f, (⟨s0_0, s0_1, s0_2, s0_3, s0_4, s0_5, s0_6, s0_7, s0_8, s0_9, s0_10, s0_11, s0_12, s0_13⟩ : Pl).fr = some f ∧ f.good = true)) (hfq : (∃ f, (⟨s1_0, s1_1, s1_2, s1_3, s1_4, s1_5, s1_6, s1_7, s1_8, s1_9, s1_10, s1_11, s1_12, s1_13⟩ : Pl).fr = some f ∧ f.good = true)) (hsame : (⟨s0_0, s0_1, s0_2, s0_3, s0_4, s0_5, s0_6, s0_7, s0_8, s0_9, s0_10, s0_11, s0_12, s0_13⟩ : Pl).fr = (⟨s1_0, s1_1, s1_2, s1_3, s1_4, s1_5, s1_6, s1_7, s1_8, s1_9, s1_10, s1_11, s1_12, s1_13⟩ : Pl).fr) :
    Calls Try.prog 7 #[.agg #[.int .i64 s0_0, .int .i64 s0_1, .int .i64 s0_2, .int .i64 s0_3, .int .u16 s0_4, .int .u16 s0_5, .int .i64 s0_6, .int .i64 s0_7, .int .i64 s0_8, .int .i64 s0_9, .int .i64 s0_10, .int .i64 s0_11, .int .i64 s0_12, .int .i64 s0_13], .agg #[.int .i64 s1_0, .int .i64 s1_1, .int .i64 s1_2, .int .i64 s1_3, .int .u16 s1_4, .int .u16 s1_5, .int .i64 s1_6, .int .i64 s1_7, .int .i64 s1_8, .int .i64 s1_9, .int .i64 s1_10, .int .i64 s1_11, .int .i64 s1_12, .int .i64 s1_13]] w fun e w' => e = .returned (.bool true) ∧ Below w.heap.size w w' := by
  have hp : (⟨s0_0, s0_1, s0_2, s0_3, s0_4, s0_5, s0_6, s0_7, s0_8, s0_9, s0_10, s0_11, s0_12, s0_13⟩ : Pl).wf := ⟨fits_wf w0_0, fits_wf w0_1, fits_wf w0_2, fits_wf w0_3, f16_wf w0_4, f16_wf w0_5, fits_wf w0_6, fits_wf w0_7, fits_wf w0_8, fits_wf w0_9, fits_wf w0_10, fits_wf w0_11, fits_wf w0_12, fits_wf w0_13⟩
  have hofp := fun W => lawof_any (⟨s0_0, s0_1, s0_2, s0_3, s0_4, s0_5, s0_6, s0_7, s0_8, s0_9, s0_10, s0_11, s0_12, s0_13⟩ : Pl) W
  simp only [Pl.val] at hofp
  have hq : (⟨s1_0, s1_1, s1_2, s1_3, s1_4, s1_5, s1_6, s1_7, s1_8, s1_9, s1_10, s1_11, s1_12, s1_13⟩ : Pl).wf := ⟨fits_wf w1_0, fits_wf w1_1, fits_wf w1_2, fits_wf w1_3, f16_wf w1_4, f16_wf w1_5, fits_wf w1_6, fits_wf w1_7, fits_wf w1_8, fits_wf w1_9, fits_wf w1_10, fits_wf w1_11, fits_wf w1_12, fits_wf w1_13⟩
  have hofq := fun W => lawof_any (⟨s1_0, s1_1, s1_2, s1_3, s1_4, s1_5, s1_6, s1_7, s1_8, s1_9, s1_10, s1_11, s1_12, s1_13⟩ : Pl) W
  simp only [Pl.val] at hofq
  have HBOX := Lib.hid (Holds.alloc (Holds.new w 24 #[.int .i64 s0_0, .int .i64 s0_1, .int .i64 s0_2, .int .i64 s0_3, .int .u16 s0_4, .int .u16 s0_5, .int .i64 s0_6, .int .i64 s0_7, .int .i64 s0_8, .int .i64 s0_9, .int .i64 s0_10, .int .i64 s0_11, .int .i64 s0_12, .int .i64 s0_13]) (.cells #[.int .i64 s1_0, .int .i64 s1_1, .int .i64 s1_2, .int .i64 s1_3, .int .u16 s1_4, .int .u16 s1_5, .int .i64 s1_6, .int .i64 s1_7, .int .i64 s1_8, .int .i64 s1_9, .int .i64 s1_10, .int .i64 s1_11, .int .i64 s1_12, .int .i64 s1_13] 24))
  have HBOY := Lib.hid (show Holds ((w.alloc (.cells #[.int .i64 s0_0, .int .i64 s0_1, .int .i64 s0_2, .int .i64 s0_3, .int .u16 s0_4, .int .u16 s0_5, .int .i64 s0_6, .int .i64 s0_7, .int .i64 s0_8, .int .i64 s0_9, .int .i64 s0_10, .int .i64 s0_11, .int .i64 s0_12, .int .i64 s0_13] 24)).alloc (.cells #[.int .i64 s1_0, .int .i64 s1_1, .int .i64 s1_2, .int .i64 s1_3, .int .u16 s1_4, .int .u16 s1_5, .int .i64 s1_6, .int .i64 s1_7, .int .i64 s1_8, .int .i64 s1_9, .int .i64 s1_10, .int .i64 s1_11, .int .i64 s1_12, .int .i64 s1_13] 24)) (w.heap.size + 1) 24 #[.int .i64 s1_0, .int .i64 s1_1, .int .i64 s1_2, .int .i64 s1_3, .int .u16 s1_4, .int .u16 s1_5, .int .i64 s1_6, .int .i64 s1_7, .int .i64 s1_8, .int .i64 s1_9, .int .i64 s1_10, .int .i64 s1_11, .int .i64 s1_12, .int .i64 s1_13] by
    have h := Holds.new (w.alloc (.cells #[.int .i64 s0_0, .int .i64 s0_1, .int .i64 s0_2, .int .i64 s0_3, .int .u16 s0_4, .int .u16 s0_5, .int .i64 s0_6, .int .i64 s0_7, .int .i64 s0_8, .int .i64 s0_9, .int .i64 s0_10, .int .i64 s0_11, .int .i64 s0_12, .int .i64 s0_13] 24)) 24 #[.int .i64 s1_0, .int .i64 s1_1, .int .i64 s1_2, .int .i64 s1_3, .int .u16 s1_4, .int .u16 s1_5, .int .i64 s1_6, .int .i64 s1_7, .int .i64 s1_8, .int .i64 s1_9, .int .i64 s1_10, .int .i64 s1_11, .int .i64 s1_12, .int .i64 s1_13]
    rw [size_alloc] at h
    exact h)
  have HB0 := Lib.hid (below_on (below_alloc w (.cells #[.int .i64 s0_0, .int .i64 s0_1, .int .i64 s0_2, .int .i64 s0_3, .int .u16 s0_4, .int .u16 s0_5, .int .i64 s0_6, .int .i64 s0_7, .int .i64 s0_8, .int .i64 s0_9, .int .i64 s0_10, .int .i64 s0_11, .int .i64 s0_12, .int .i64 s0_13] 24)) (below_alloc _ (.cells #[.int .i64 s1_0, .int .i64 s1_1, .int .i64 s1_2, .int .i64 s1_3, .int .u16 s1_4, .int .u16 s1_5, .int .i64 s1_6, .int .i64 s1_7, .int .i64 s1_8, .int .i64 s1_9, .int .i64 s1_10, .int .i64 s1_11, .int .i64 s1_12, .int .i64 s1_13] 24)))
  obtain ⟨f, hfrp, hgp⟩ := hfp
  have hgep := fun W => encode_sealed f W hgp
  have hswp := f.sealed_wf
  obtain ⟨zp, hzp⟩ : ∃ z, f.sealed = z := ⟨_, rfl⟩
  rw [hzp] at hswp
  simp only [hzp] at hgep
  obtain ⟨mp, hmp⟩ : ∃ m, zp.length = m := ⟨_, rfl⟩
  simp only [hmp] at hgep
  have HWp := Lib.hid hswp
  have HZp := Lib.hid hzp
  have hcanp := canBe_yes hfrp hgp
  have honp := fun W => only_any (⟨s0_0, s0_1, s0_2, s0_3, s0_4, s0_5, s0_6, s0_7, s0_8, s0_9, s0_10, s0_11, s0_12, s0_13⟩ : Pl) W
  rw [Pl.only_kind hfrp] at honp
  obtain ⟨v, hvp⟩ : ∃ v, f.val = v := ⟨_, rfl⟩
  rw [hfrp] at hofp
  have hofv : ∀ W, Calls Try.prog 10 #[.agg #[.int .i64 s0_0, .int .i64 s0_1, .int .i64 s0_2, .int .i64 s0_3, .int .u16 s0_4, .int .u16 s0_5, .int .i64 s0_6, .int .i64 s0_7, .int .i64 s0_8, .int .i64 s0_9, .int .i64 s0_10, .int .i64 s0_11, .int .i64 s0_12, .int .i64 s0_13]] W fun e w' => e = .returned v ∧ Below W.heap.size W w' := fun W => by rw [← hvp]; exact hofp W
  simp only [hvp] at hgep
  obtain ⟨g, hfrq, hgq⟩ := hfq
  have hgeq := fun W => encode_sealed g W hgq
  have hswq := g.sealed_wf
  obtain ⟨zq, hzq⟩ : ∃ z, g.sealed = z := ⟨_, rfl⟩
  rw [hzq] at hswq
  simp only [hzq] at hgeq
  obtain ⟨mq, hmq⟩ : ∃ m, zq.length = m := ⟨_, rfl⟩
  simp only [hmq] at hgeq
  have HWq := Lib.hid hswq
  have HZq := Lib.hid hzq
  have hcanq := canBe_yes hfrq hgq
  have honq := fun W => only_any (⟨s1_0, s1_1, s1_2, s1_3, s1_4, s1_5, s1_6, s1_7, s1_8, s1_9, s1_10, s1_11, s1_12, s1_13⟩ : Pl) W
  rw [Pl.only_kind hfrq] at honq
  obtain ⟨u, hvq⟩ : ∃ v, g.val = v := ⟨_, rfl⟩
  rw [hfrq] at hofq
  have hofu : ∀ W, Calls Try.prog 10 #[.agg #[.int .i64 s1_0, .int .i64 s1_1, .int .i64 s1_2, .int .i64 s1_3, .int .u16 s1_4, .int .u16 s1_5, .int .i64 s1_6, .int .i64 s1_7, .int .i64 s1_8, .int .i64 s1_9, .int .i64 s1_10, .int .i64 s1_11, .int .i64 s1_12, .int .i64 s1_13]] W fun e w' => e = .returned u ∧ Below W.heap.size W w' := fun W => by rw [← hvq]; exact hofq W
  simp only [hvq] at hgeq
  obtain ⟨PP, hPP⟩ : ∃ q, f.plain = q := ⟨_, rfl⟩
  obtain ⟨QQ, hQQ⟩ : ∃ q, g.plain = q := ⟨_, rfl⟩
  simp only [hPP] at honp
  simp only [hQQ] at honq
  obtain ⟨SP, hSP⟩ : ∃ S, strOfNums zp = S := ⟨_, rfl⟩
  obtain ⟨SQ, hSQ⟩ : ∃ S, strOfNums zq = S := ⟨_, rfl⟩
  rw [hfrp, hfrq] at hsame
  have KP := Lib.hid hSP
  have KQ := Lib.hid hSQ
  have hfg : f = g := by simpa using hsame
  have h1 : PP = QQ := by rw [← hPP, ← hQQ, hfg]
  have h2 : SP = SQ := by rw [← hSP, ← hSQ, ← hzp, ← hzq, hfg]
  clear hfg hsame hSP hSQ hPP hQQ w0_0 w0_1 w0_2 w0_3 w0_4 w0_5 w0_6 w0_7 w0_8 w0_9 w0_10 w0_11 w0_12 w0_13 w1_0 w1_1 w1_2 w1_3 w1_4 w1_5 w1_6 w1_7 w1_8 w1_9 w1_10 w1_11 w1_12 w1_13 hofp hofq hp hq hvp hvq hcanp hcanq hgp hgq hfrp hfrq hmp hmq hzp hzq hswp hswq
  subst h1
  subst h2
  obtain ⟨b0, b1, b2, b3, b4, b5, b6, b7, b8, b9, b10, b11, b12, b13⟩ := PP
  simp only [Pl.val] at honp honq
  go_enter Try.func7, Try.ntmps7
  go_wp2_with (first
    | (go_at_call 9; (with_reducible refine (alive_yes _).mono ?_); rintro e w1 ⟨rfl, hb1⟩; have HB1 := Lib.hid (below_on HB0.out hb1); have HX1 := Lib.hid (HBOX.out.below hb1 HBOX.out.lt); have HY1 := Lib.hid (HBOY.out.below hb1 HBOY.out.lt); have HC := Lib.hid (plain_cells HX1.out); obtain ⟨k0, k1, k2, k3, k4, k5, k6, k7, k8, k9, k10, k11, k12, k13⟩ := HC.out)
    | (go_at_call 10; (with_reducible refine (hofv _).mono ?_); rintro e w2 ⟨rfl, hb2⟩; have HB2 := Lib.hid (below_on HB1.out hb2); have HX2 := Lib.hid (HX1.out.below hb2 HX1.out.lt); have HY2 := Lib.hid (HY1.out.below hb2 HY1.out.lt); clear k0 k1 k2 k3 k4 k5 k6 k7 k8 k9 k10 k11 k12 k13)
    | (go_at_call 11; (with_reducible refine (hgep _).mono ?_); rintro e w3 ⟨A3, c3, rfl, ho3, hb3⟩; have HR3 := Lib.hid (IntRow.of_own ho3 HWp.out); clear ho3; have HB3 := Lib.hid (below_on HB2.out hb3); have HX3 := Lib.hid (HX2.out.below hb3 HX2.out.lt); have HY3 := Lib.hid (HY2.out.below hb3 HY2.out.lt); obtain ⟨j0, j1, j2, j3, j4, j5, j6, j7, j8, j9, j10, j11, j12, j13⟩ := plain_cells HY3.out)
    | (go_at_call 10; (with_reducible refine (hofu _).mono ?_); rintro e w4 ⟨rfl, hb4⟩; have HB4 := Lib.hid (below_on HB3.out hb4); have HX4 := Lib.hid (HX3.out.below hb4 HX3.out.lt); have HY4 := Lib.hid (HY3.out.below hb4 HY3.out.lt); clear j0 j1 j2 j3 j4 j5 j6 j7 j8 j9 j10 j11 j12 j13)
    | (go_at_call 11; (with_reducible refine (hgeq _).mono ?_); rintro e w5 ⟨A5, c5, rfl, ho5, hb5⟩; have HR5 := Lib.hid (IntRow.of_own ho5 HWq.out); clear ho5; have HB5 := Lib.hid (below_on HB4.out hb5); have HX5 := Lib.hid (HX4.out.below hb5 HX4.out.lt); have HY5 := Lib.hid (HY4.out.below hb5 HY4.out.lt); obtain ⟨k0, k1, k2, k3, k4, k5, k6, k7, k8, k9, k10, k11, k12, k13⟩ := plain_cells HX5.out))
  have HRP := Lib.hid ((HR3.out.below hb4).below hb5)
  clear k0 k1 k2 k3 k4 k5 k6 k7 k8 k9 k10 k11 k12 k13
  refine region_turns (fun w' => w'.cell? ⟨w.heap.size, 0, none⟩ = some (.int .i64 s0_0) ∧ w'.cell? ⟨w.heap.size, 1, none⟩ = some (.int .i64 s0_1) ∧ w'.cell? ⟨w.heap.size, 2, none⟩ = some (.int .i64 s0_2) ∧ w'.cell? ⟨w.heap.size, 3, none⟩ = some (.int .i64 s0_3) ∧ w'.cell? ⟨w.heap.size, 4, none⟩ = some (.int .u16 s0_4) ∧ w'.cell? ⟨w.heap.size, 5, none⟩ = some (.int .u16 s0_5) ∧ w'.cell? ⟨w.heap.size, 6, none⟩ = some (.int .i64 s0_6) ∧ w'.cell? ⟨w.heap.size, 7, none⟩ = some (.int .i64 s0_7) ∧ w'.cell? ⟨w.heap.size, 8, none⟩ = some (.int .i64 s0_8) ∧ w'.cell? ⟨w.heap.size, 9, none⟩ = some (.int .i64 s0_9) ∧ w'.cell? ⟨w.heap.size, 10, none⟩ = some (.int .i64 s0_10) ∧ w'.cell? ⟨w.heap.size, 11, none⟩ = some (.int .i64 s0_11) ∧ w'.cell? ⟨w.heap.size, 12, none⟩ = some (.int .i64 s0_12) ∧ w'.cell? ⟨w.heap.size, 13, none⟩ = some (.int .i64 s0_13) ∧ w'.cell? ⟨(w.heap.size + 1), 0, none⟩ = some (.int .i64 s1_0) ∧ w'.cell? ⟨(w.heap.size + 1), 1, none⟩ = some (.int .i64 s1_1) ∧ w'.cell? ⟨(w.heap.size + 1), 2, none⟩ = some (.int .i64 s1_2) ∧ w'.cell? ⟨(w.heap.size + 1), 3, none⟩ = some (.int .i64 s1_3) ∧ w'.cell? ⟨(w.heap.size + 1), 4, none⟩ = some (.int .u16 s1_4) ∧ w'.cell? ⟨(w.heap.size + 1), 5, none⟩ = some (.int .u16 s1_5) ∧ w'.cell? ⟨(w.heap.size + 1), 6, none⟩ = some (.int .i64 s1_6) ∧ w'.cell? ⟨(w.heap.size + 1), 7, none⟩ = some (.int .i64 s1_7) ∧ w'.cell? ⟨(w.heap.size + 1), 8, none⟩ = some (.int .i64 s1_8) ∧ w'.cell? ⟨(w.heap.size + 1), 9, none⟩ = some (.int .i64 s1_9) ∧ w'.cell? ⟨(w.heap.size + 1), 10, none⟩ = some (.int .i64 s1_10) ∧ w'.cell? ⟨(w.heap.size + 1), 11, none⟩ = some (.int .i64 s1_11) ∧ w'.cell? ⟨(w.heap.size + 1), 12, none⟩ = some (.int .i64 s1_12) ∧ w'.cell? ⟨(w.heap.size + 1), 13, none⟩ = some (.int .i64 s1_13) ∧ (convert 29 9 (.slice A3 mp c3)).run Try.prog w' = .ok (.string SP) w' ∧ (convert 29 9 (.slice A5 mq c5)).run Try.prog w' = .ok (.string SP) w') (fun j => decide (11 ≤ j)) (by kernel_rfl) ⟨(HX5.out.drewN 1).cell 0, (HX5.out.drewN 1).cell 1, (HX5.out.drewN 1).cell 2, (HX5.out.drewN 1).cell 3, (HX5.out.drewN 1).cell 4, (HX5.out.drewN 1).cell 5, (HX5.out.drewN 1).cell 6, (HX5.out.drewN 1).cell 7, (HX5.out.drewN 1).cell 8, (HX5.out.drewN 1).cell 9, (HX5.out.drewN 1).cell 10, (HX5.out.drewN 1).cell 11, (HX5.out.drewN 1).cell 12, (HX5.out.drewN 1).cell 13, (HY5.out.drewN 1).cell 0, (HY5.out.drewN 1).cell 1, (HY5.out.drewN 1).cell 2, (HY5.out.drewN 1).cell 3, (HY5.out.drewN 1).cell 4, (HY5.out.drewN 1).cell 5, (HY5.out.drewN 1).cell 6, (HY5.out.drewN 1).cell 7, (HY5.out.drewN 1).cell 8, (HY5.out.drewN 1).cell 9, (HY5.out.drewN 1).cell 10, (HY5.out.drewN 1).cell 11, (HY5.out.drewN 1).cell 12, (HY5.out.drewN 1).cell 13, by rw [← KP.out]; exact run_convert_row _ _ _ _ Try.underlying29 Try.underlying5 Try.underlying9 _ _ _ _ (HRP.out.drewN 1), by rw [← KQ.out]; exact run_convert_row _ _ _ _ Try.underlying29 Try.underlying5 Try.underlying9 _ _ _ _ (HR5.out.drewN 1)⟩ (fun hS => ?_)
  refine Turns.take hS 0 (.slice A3 mp c3) rfl (by kernel_rfl) (by kernel_rfl) (by kernel_rfl) (by kernel_rfl) (fun _ _ _ h => h) (by rfl) (fun w' hS' => by (try dsimp only at hS'); go_split_ands; go_simp) ?_
  simp only [Act.put, List.getElem_toArray, List.getElem_cons_succ, List.getElem_cons_zero, List.setIfInBounds_toArray, List.set_cons_zero, List.set_cons_succ]
  refine Turns.take hS 1 (.string SP) rfl (by kernel_rfl) (by kernel_rfl) (by kernel_rfl) (by kernel_rfl) (fun _ _ _ h => h) (by rfl) (fun w' hS' => by (try dsimp only at hS'); go_split_ands; go_simp) ?_
  simp only [Act.put, List.getElem_toArray, List.getElem_cons_succ, List.getElem_cons_zero, List.setIfInBounds_toArray, List.set_cons_zero, List.set_cons_succ]
  refine Turns.take hS 2 (.slice A5 mq c5) rfl (by kernel_rfl) (by kernel_rfl) (by kernel_rfl) (by kernel_rfl) (fun _ _ _ h => h) (by rfl) (fun w' hS' => by (try dsimp only at hS'); go_split_ands; go_simp) ?_
  simp only [Act.put, List.getElem_toArray, List.getElem_cons_succ, List.getElem_cons_zero, List.setIfInBounds_toArray, List.set_cons_zero, List.set_cons_succ]
  refine Turns.take hS 3 (.string SP) rfl (by kernel_rfl) (by kernel_rfl) (by kernel_rfl) (by kernel_rfl) (fun _ _ _ h => h) (by rfl) (fun w' hS' => by (try dsimp only at hS'); go_split_ands; go_simp) ?_
  simp only [Act.put, List.getElem_toArray, List.getElem_cons_succ, List.getElem_cons_zero, List.setIfInBounds_toArray, List.set_cons_zero, List.set_cons_succ]
  refine Turns.take hS 4 (.bool true) rfl (by kernel_rfl) (by kernel_rfl) (by kernel_rfl) (by kernel_rfl) (fun _ _ _ h => h) (by rfl) (fun w' hS' => by (try dsimp only at hS'); go_split_ands; go_simp) ?_
  simp only [Act.put, List.getElem_toArray, List.getElem_cons_succ, List.getElem_cons_zero, List.setIfInBounds_toArray, List.set_cons_zero, List.set_cons_succ]
  refine Turns.take hS 5 (.agg #[.int .i64 s0_0, .int .i64 s0_1, .int .i64 s0_2, .int .i64 s0_3, .int .u16 s0_4, .int .u16 s0_5, .int .i64 s0_6, .int .i64 s0_7, .int .i64 s0_8, .int .i64 s0_9, .int .i64 s0_10, .int .i64 s0_11, .int .i64 s0_12, .int .i64 s0_13]) rfl (by kernel_rfl) (by kernel_rfl) (by kernel_rfl) (by kernel_rfl) (fun _ _ _ h => h) (by rfl) (fun w' hS' => by (try dsimp only at hS'); go_split_ands; go_simp) ?_
  simp only [Act.put, List.getElem_toArray, List.getElem_cons_succ, List.getElem_cons_zero, List.setIfInBounds_toArray, List.set_cons_zero, List.set_cons_succ]
  refine Turns.take hS 7 (.agg #[.int .i64 s1_0, .int .i64 s1_1, .int .i64 s1_2, .int .i64 s1_3, .int .u16 s1_4, .int .u16 s1_5, .int .i64 s1_6, .int .i64 s1_7, .int .i64 s1_8, .int .i64 s1_9, .int .i64 s1_10, .int .i64 s1_11, .int .i64 s1_12, .int .i64 s1_13]) rfl (by kernel_rfl) (by kernel_rfl) (by kernel_rfl) (by kernel_rfl) (fun _ _ _ h => h) (by rfl) (fun w' hS' => by (try dsimp only at hS'); go_split_ands; go_simp) ?_
  simp only [Act.put, List.getElem_toArray, List.getElem_cons_succ, List.getElem_cons_zero, List.setIfInBounds_toArray, List.set_cons_zero, List.set_cons_succ]
  refine Turns.next 6 rfl (by kernel_rfl) (by rfl) (fun K hK => ?_)
  go_simp
  refine (honp _).mono ?_
  rintro e w6 ⟨rfl, hb6⟩
  have HB6 := Lib.hid (below_on HB5.out.drew hb6)
  have HX6 := Lib.hid ((HX5.out.drewN 1).below hb6 HX5.out.lt)
  have HY6 := Lib.hid ((HY5.out.drewN 1).below hb6 HY5.out.lt)
  have HP6 := Lib.hid ((HRP.out.drewN 1).below hb6)
  have HQ6 := Lib.hid ((HR5.out.drewN 1).below hb6)
  have hS6 : w6.cell? ⟨w.heap.size, 0, none⟩ = some (.int .i64 s0_0) ∧ w6.cell? ⟨w.heap.size, 1, none⟩ = some (.int .i64 s0_1) ∧ w6.cell? ⟨w.heap.size, 2, none⟩ = some (.int .i64 s0_2) ∧ w6.cell? ⟨w.heap.size, 3, none⟩ = some (.int .i64 s0_3) ∧ w6.cell? ⟨w.heap.size, 4, none⟩ = some (.int .u16 s0_4) ∧ w6.cell? ⟨w.heap.size, 5, none⟩ = some (.int .u16 s0_5) ∧ w6.cell? ⟨w.heap.size, 6, none⟩ = some (.int .i64 s0_6) ∧ w6.cell? ⟨w.heap.size, 7, none⟩ = some (.int .i64 s0_7) ∧ w6.cell? ⟨w.heap.size, 8, none⟩ = some (.int .i64 s0_8) ∧ w6.cell? ⟨w.heap.size, 9, none⟩ = some (.int .i64 s0_9) ∧ w6.cell? ⟨w.heap.size, 10, none⟩ = some (.int .i64 s0_10) ∧ w6.cell? ⟨w.heap.size, 11, none⟩ = some (.int .i64 s0_11) ∧ w6.cell? ⟨w.heap.size, 12, none⟩ = some (.int .i64 s0_12) ∧ w6.cell? ⟨w.heap.size, 13, none⟩ = some (.int .i64 s0_13) ∧ w6.cell? ⟨(w.heap.size + 1), 0, none⟩ = some (.int .i64 s1_0) ∧ w6.cell? ⟨(w.heap.size + 1), 1, none⟩ = some (.int .i64 s1_1) ∧ w6.cell? ⟨(w.heap.size + 1), 2, none⟩ = some (.int .i64 s1_2) ∧ w6.cell? ⟨(w.heap.size + 1), 3, none⟩ = some (.int .i64 s1_3) ∧ w6.cell? ⟨(w.heap.size + 1), 4, none⟩ = some (.int .u16 s1_4) ∧ w6.cell? ⟨(w.heap.size + 1), 5, none⟩ = some (.int .u16 s1_5) ∧ w6.cell? ⟨(w.heap.size + 1), 6, none⟩ = some (.int .i64 s1_6) ∧ w6.cell? ⟨(w.heap.size + 1), 7, none⟩ = some (.int .i64 s1_7) ∧ w6.cell? ⟨(w.heap.size + 1), 8, none⟩ = some (.int .i64 s1_8) ∧ w6.cell? ⟨(w.heap.size + 1), 9, none⟩ = some (.int .i64 s1_9) ∧ w6.cell? ⟨(w.heap.size + 1), 10, none⟩ = some (.int .i64 s1_10) ∧ w6.cell? ⟨(w.heap.size + 1), 11, none⟩ = some (.int .i64 s1_11) ∧ w6.cell? ⟨(w.heap.size + 1), 12, none⟩ = some (.int .i64 s1_12) ∧ w6.cell? ⟨(w.heap.size + 1), 13, none⟩ = some (.int .i64 s1_13) ∧ (convert 29 9 (.slice A3 mp c3)).run Try.prog w6 = .ok (.string SP) w6 ∧ (convert 29 9 (.slice A5 mq c5)).run Try.prog w6 = .ok (.string SP) w6 := ⟨HX6.out.cell 0, HX6.out.cell 1, HX6.out.cell 2, HX6.out.cell 3, HX6.out.cell 4, HX6.out.cell 5, HX6.out.cell 6, HX6.out.cell 7, HX6.out.cell 8, HX6.out.cell 9, HX6.out.cell 10, HX6.out.cell 11, HX6.out.cell 12, HX6.out.cell 13, HY6.out.cell 0, HY6.out.cell 1, HY6.out.cell 2, HY6.out.cell 3, HY6.out.cell 4, HY6.out.cell 5, HY6.out.cell 6, HY6.out.cell 7, HY6.out.cell 8, HY6.out.cell 9, HY6.out.cell 10, HY6.out.cell 11, HY6.out.cell 12, HY6.out.cell 13, by rw [← KP.out]; exact run_convert_row _ _ _ _ Try.underlying29 Try.underlying5 Try.underlying9 _ _ _ _ (HP6.out), by rw [← KQ.out]; exact run_convert_row _ _ _ _ Try.underlying29 Try.underlying5 Try.underlying9 _ _ _ _ (HQ6.out)⟩
  refine hK.out _ _ hS6 ?_
  clear hK K hS hS6
  refine Turns.next 8 rfl (by kernel_rfl) (by rfl) (fun K hK => ?_)
  go_simp
  refine (honq _).mono ?_
  rintro e w7 ⟨rfl, hb7⟩
  have HB7 := Lib.hid (below_on HB6.out hb7)
  have HX7 := Lib.hid (HX6.out.below hb7 HX6.out.lt)
  have HY7 := Lib.hid (HY6.out.below hb7 HY6.out.lt)
  have hS7 : w7.cell? ⟨w.heap.size, 0, none⟩ = some (.int .i64 s0_0) ∧ w7.cell? ⟨w.heap.size, 1, none⟩ = some (.int .i64 s0_1) ∧ w7.cell? ⟨w.heap.size, 2, none⟩ = some (.int .i64 s0_2) ∧ w7.cell? ⟨w.heap.size, 3, none⟩ = some (.int .i64 s0_3) ∧ w7.cell? ⟨w.heap.size, 4, none⟩ = some (.int .u16 s0_4) ∧ w7.cell? ⟨w.heap.size, 5, none⟩ = some (.int .u16 s0_5) ∧ w7.cell? ⟨w.heap.size, 6, none⟩ = some (.int .i64 s0_6) ∧ w7.cell? ⟨w.heap.size, 7, none⟩ = some (.int .i64 s0_7) ∧ w7.cell? ⟨w.heap.size, 8, none⟩ = some (.int .i64 s0_8) ∧ w7.cell? ⟨w.heap.size, 9, none⟩ = some (.int .i64 s0_9) ∧ w7.cell? ⟨w.heap.size, 10, none⟩ = some (.int .i64 s0_10) ∧ w7.cell? ⟨w.heap.size, 11, none⟩ = some (.int .i64 s0_11) ∧ w7.cell? ⟨w.heap.size, 12, none⟩ = some (.int .i64 s0_12) ∧ w7.cell? ⟨w.heap.size, 13, none⟩ = some (.int .i64 s0_13) ∧ w7.cell? ⟨(w.heap.size + 1), 0, none⟩ = some (.int .i64 s1_0) ∧ w7.cell? ⟨(w.heap.size + 1), 1, none⟩ = some (.int .i64 s1_1) ∧ w7.cell? ⟨(w.heap.size + 1), 2, none⟩ = some (.int .i64 s1_2) ∧ w7.cell? ⟨(w.heap.size + 1), 3, none⟩ = some (.int .i64 s1_3) ∧ w7.cell? ⟨(w.heap.size + 1), 4, none⟩ = some (.int .u16 s1_4) ∧ w7.cell? ⟨(w.heap.size + 1), 5, none⟩ = some (.int .u16 s1_5) ∧ w7.cell? ⟨(w.heap.size + 1), 6, none⟩ = some (.int .i64 s1_6) ∧ w7.cell? ⟨(w.heap.size + 1), 7, none⟩ = some (.int .i64 s1_7) ∧ w7.cell? ⟨(w.heap.size + 1), 8, none⟩ = some (.int .i64 s1_8) ∧ w7.cell? ⟨(w.heap.size + 1), 9, none⟩ = some (.int .i64 s1_9) ∧ w7.cell? ⟨(w.heap.size + 1), 10, none⟩ = some (.int .i64 s1_10) ∧ w7.cell? ⟨(w.heap.size + 1), 11, none⟩ = some (.int .i64 s1_11) ∧ w7.cell? ⟨(w.heap.size + 1), 12, none⟩ = some (.int .i64 s1_12) ∧ w7.cell? ⟨(w.heap.size + 1), 13, none⟩ = some (.int .i64 s1_13) ∧ (convert 29 9 (.slice A3 mp c3)).run Try.prog w7 = .ok (.string SP) w7 ∧ (convert 29 9 (.slice A5 mq c5)).run Try.prog w7 = .ok (.string SP) w7 := ⟨HX7.out.cell 0, HX7.out.cell 1, HX7.out.cell 2, HX7.out.cell 3, HX7.out.cell 4, HX7.out.cell 5, HX7.out.cell 6, HX7.out.cell 7, HX7.out.cell 8, HX7.out.cell 9, HX7.out.cell 10, HX7.out.cell 11, HX7.out.cell 12, HX7.out.cell 13, HY7.out.cell 0, HY7.out.cell 1, HY7.out.cell 2, HY7.out.cell 3, HY7.out.cell 4, HY7.out.cell 5, HY7.out.cell 6, HY7.out.cell 7, HY7.out.cell 8, HY7.out.cell 9, HY7.out.cell 10, HY7.out.cell 11, HY7.out.cell 12, HY7.out.cell 13, by rw [← KP.out]; exact run_convert_row _ _ _ _ Try.underlying29 Try.underlying5 Try.underlying9 _ _ _ _ (HP6.out.below hb7), by rw [← KQ.out]; exact run_convert_row _ _ _ _ Try.underlying29 Try.underlying5 Try.underlying9 _ _ _ _ (HQ6.out.below hb7)⟩
  refine hK.out _ _ hS7 ?_
  clear hK K
  refine Turns.take hS7 9 (.bool true) rfl (by kernel_rfl) (by kernel_rfl) (by kernel_rfl) (by kernel_rfl) (fun _ _ _ h => h) (by rfl) (fun w' _ => by go_simp) ?_
  simp only [Act.put, List.getElem_toArray, List.getElem_cons_succ, List.getElem_cons_zero, List.setIfInBounds_toArray, List.set_cons_zero, List.set_cons_succ]
  refine Turns.take hS7 10 (.bool true) rfl (by kernel_rfl) (by kernel_rfl) (by kernel_rfl) (by kernel_rfl) (fun _ _ _ h => h) (by rfl) (fun w' _ => by go_simp) ?_
  simp only [Act.put, List.getElem_toArray, List.getElem_cons_succ, List.getElem_cons_zero, List.setIfInBounds_toArray, List.set_cons_zero, List.set_cons_succ]
  refine Turns.rest (late_done (by kernel_rfl)) ?_
  refine any_tail 11 (by rfl) (by kernel_rfl) ?_
  simp only [List.drop_succ_cons, List.drop_zero]
  go_wp2
  go_ret
  exact ⟨rfl, HB7.out⟩

set_option linter.unusedSimpArgs false in
set_option maxHeartbeats 8000000 in
set_option maxRecDepth 100000 in
theorem both_other (s0_0 s0_1 s0_2 s0_3 s0_4 s0_5 s0_6 s0_7 s0_8 s0_9 s0_10 s0_11 s0_12 s0_13 : Int) (s1_0 s1_1 s1_2 s1_3 s1_4 s1_5 s1_6 s1_7 s1_8 s1_9 s1_10 s1_11 s1_12 s1_13 : Int) (w : World) (w0_0 : (Lit.int .i64 s0_0).wf = true) (w0_1 : (Lit.int .i64 s0_1).wf = true) (w0_2 : (Lit.int .i64 s0_2).wf = true) (w0_3 : (Lit.int .i64 s0_3).wf = true) (w0_4 : (Lit.int .u16 s0_4).wf = true) (w0_5 : (Lit.int .u16 s0_5).wf = true) (w0_6 : (Lit.int .i64 s0_6).wf = true) (w0_7 : (Lit.int .i64 s0_7).wf = true) (w0_8 : (Lit.int .i64 s0_8).wf = true) (w0_9 : (Lit.int .i64 s0_9).wf = true) (w0_10 : (Lit.int .i64 s0_10).wf = true) (w0_11 : (Lit.int .i64 s0_11).wf = true) (w0_12 : (Lit.int .i64 s0_12).wf = true) (w0_13 : (Lit.int .i64 s0_13).wf = true) (w1_0 : (Lit.int .i64 s1_0).wf = true) (w1_1 : (Lit.int .i64 s1_1).wf = true) (w1_2 : (Lit.int .i64 s1_2).wf = true) (w1_3 : (Lit.int .i64 s1_3).wf = true) (w1_4 : (Lit.int .u16 s1_4).wf = true) (w1_5 : (Lit.int .u16 s1_5).wf = true) (w1_6 : (Lit.int .i64 s1_6).wf = true) (w1_7 : (Lit.int .i64 s1_7).wf = true) (w1_8 : (Lit.int .i64 s1_8).wf = true) (w1_9 : (Lit.int .i64 s1_9).wf = true) (w1_10 : (Lit.int .i64 s1_10).wf = true) (w1_11 : (Lit.int .i64 s1_11).wf = true) (w1_12 : (Lit.int .i64 s1_12).wf = true) (w1_13 : (Lit.int .i64 s1_13).wf = true) (hfp : (∃ f, (⟨s0_0, s0_1, s0_2, s0_3, s0_4, s0_5, s0_6, s0_7, s0_8, s0_9, s0_10, s0_11, s0_12, s0_13⟩ : Pl).fr = some f ∧ f.good = true)) (hfq : (∃ f, (⟨s1_0, s1_1, s1_2, s1_3, s1_4, s1_5, s1_6, s1_7, s1_8, s1_9, s1_10, s1_11, s1_12, s1_13⟩ : Pl).fr = some f ∧ f.good = true)) (hsame : (⟨s0_0, s0_1, s0_2, s0_3, s0_4, s0_5, s0_6, s0_7, s0_8, s0_9, s0_10, s0_11, s0_12, s0_13⟩ : Pl).fr ≠ (⟨s1_0, s1_1, s1_2, s1_3, s1_4, s1_5, s1_6, s1_7, s1_8, s1_9, s1_10, s1_11, s1_12, s1_13⟩ : Pl).fr) :
    Calls Try.prog 7 #[.agg #[.int .i64 s0_0, .int .i64 s0_1, .int .i64 s0_2, .int .i64 s0_3, .int .u16 s0_4, .int .u16 s0_5, .int .i64 s0_6, .int .i64 s0_7, .int .i64 s0_8, .int .i64 s0_9, .int .i64 s0_10, .int .i64 s0_11, .int .i64 s0_12, .int .i64 s0_13], .agg #[.int .i64 s1_0, .int .i64 s1_1, .int .i64 s1_2, .int .i64 s1_3, .int .u16 s1_4, .int .u16 s1_5, .int .i64 s1_6, .int .i64 s1_7, .int .i64 s1_8, .int .i64 s1_9, .int .i64 s1_10, .int .i64 s1_11, .int .i64 s1_12, .int .i64 s1_13]] w fun e w' => e = .returned (.bool true) ∧ Below w.heap.size w w' := by
  have hp : (⟨s0_0, s0_1, s0_2, s0_3, s0_4, s0_5, s0_6, s0_7, s0_8, s0_9, s0_10, s0_11, s0_12, s0_13⟩ : Pl).wf := ⟨fits_wf w0_0, fits_wf w0_1, fits_wf w0_2, fits_wf w0_3, f16_wf w0_4, f16_wf w0_5, fits_wf w0_6, fits_wf w0_7, fits_wf w0_8, fits_wf w0_9, fits_wf w0_10, fits_wf w0_11, fits_wf w0_12, fits_wf w0_13⟩
  have hofp := fun W => lawof_any (⟨s0_0, s0_1, s0_2, s0_3, s0_4, s0_5, s0_6, s0_7, s0_8, s0_9, s0_10, s0_11, s0_12, s0_13⟩ : Pl) W
  simp only [Pl.val] at hofp
  have hq : (⟨s1_0, s1_1, s1_2, s1_3, s1_4, s1_5, s1_6, s1_7, s1_8, s1_9, s1_10, s1_11, s1_12, s1_13⟩ : Pl).wf := ⟨fits_wf w1_0, fits_wf w1_1, fits_wf w1_2, fits_wf w1_3, f16_wf w1_4, f16_wf w1_5, fits_wf w1_6, fits_wf w1_7, fits_wf w1_8, fits_wf w1_9, fits_wf w1_10, fits_wf w1_11, fits_wf w1_12, fits_wf w1_13⟩
  have hofq := fun W => lawof_any (⟨s1_0, s1_1, s1_2, s1_3, s1_4, s1_5, s1_6, s1_7, s1_8, s1_9, s1_10, s1_11, s1_12, s1_13⟩ : Pl) W
  simp only [Pl.val] at hofq
  have HBOX := Lib.hid (Holds.alloc (Holds.new w 24 #[.int .i64 s0_0, .int .i64 s0_1, .int .i64 s0_2, .int .i64 s0_3, .int .u16 s0_4, .int .u16 s0_5, .int .i64 s0_6, .int .i64 s0_7, .int .i64 s0_8, .int .i64 s0_9, .int .i64 s0_10, .int .i64 s0_11, .int .i64 s0_12, .int .i64 s0_13]) (.cells #[.int .i64 s1_0, .int .i64 s1_1, .int .i64 s1_2, .int .i64 s1_3, .int .u16 s1_4, .int .u16 s1_5, .int .i64 s1_6, .int .i64 s1_7, .int .i64 s1_8, .int .i64 s1_9, .int .i64 s1_10, .int .i64 s1_11, .int .i64 s1_12, .int .i64 s1_13] 24))
  have HBOY := Lib.hid (show Holds ((w.alloc (.cells #[.int .i64 s0_0, .int .i64 s0_1, .int .i64 s0_2, .int .i64 s0_3, .int .u16 s0_4, .int .u16 s0_5, .int .i64 s0_6, .int .i64 s0_7, .int .i64 s0_8, .int .i64 s0_9, .int .i64 s0_10, .int .i64 s0_11, .int .i64 s0_12, .int .i64 s0_13] 24)).alloc (.cells #[.int .i64 s1_0, .int .i64 s1_1, .int .i64 s1_2, .int .i64 s1_3, .int .u16 s1_4, .int .u16 s1_5, .int .i64 s1_6, .int .i64 s1_7, .int .i64 s1_8, .int .i64 s1_9, .int .i64 s1_10, .int .i64 s1_11, .int .i64 s1_12, .int .i64 s1_13] 24)) (w.heap.size + 1) 24 #[.int .i64 s1_0, .int .i64 s1_1, .int .i64 s1_2, .int .i64 s1_3, .int .u16 s1_4, .int .u16 s1_5, .int .i64 s1_6, .int .i64 s1_7, .int .i64 s1_8, .int .i64 s1_9, .int .i64 s1_10, .int .i64 s1_11, .int .i64 s1_12, .int .i64 s1_13] by
    have h := Holds.new (w.alloc (.cells #[.int .i64 s0_0, .int .i64 s0_1, .int .i64 s0_2, .int .i64 s0_3, .int .u16 s0_4, .int .u16 s0_5, .int .i64 s0_6, .int .i64 s0_7, .int .i64 s0_8, .int .i64 s0_9, .int .i64 s0_10, .int .i64 s0_11, .int .i64 s0_12, .int .i64 s0_13] 24)) 24 #[.int .i64 s1_0, .int .i64 s1_1, .int .i64 s1_2, .int .i64 s1_3, .int .u16 s1_4, .int .u16 s1_5, .int .i64 s1_6, .int .i64 s1_7, .int .i64 s1_8, .int .i64 s1_9, .int .i64 s1_10, .int .i64 s1_11, .int .i64 s1_12, .int .i64 s1_13]
    rw [size_alloc] at h
    exact h)
  have HB0 := Lib.hid (below_on (below_alloc w (.cells #[.int .i64 s0_0, .int .i64 s0_1, .int .i64 s0_2, .int .i64 s0_3, .int .u16 s0_4, .int .u16 s0_5, .int .i64 s0_6, .int .i64 s0_7, .int .i64 s0_8, .int .i64 s0_9, .int .i64 s0_10, .int .i64 s0_11, .int .i64 s0_12, .int .i64 s0_13] 24)) (below_alloc _ (.cells #[.int .i64 s1_0, .int .i64 s1_1, .int .i64 s1_2, .int .i64 s1_3, .int .u16 s1_4, .int .u16 s1_5, .int .i64 s1_6, .int .i64 s1_7, .int .i64 s1_8, .int .i64 s1_9, .int .i64 s1_10, .int .i64 s1_11, .int .i64 s1_12, .int .i64 s1_13] 24)))
  obtain ⟨f, hfrp, hgp⟩ := hfp
  have hgep := fun W => encode_sealed f W hgp
  have hswp := f.sealed_wf
  obtain ⟨zp, hzp⟩ : ∃ z, f.sealed = z := ⟨_, rfl⟩
  rw [hzp] at hswp
  simp only [hzp] at hgep
  obtain ⟨mp, hmp⟩ : ∃ m, zp.length = m := ⟨_, rfl⟩
  simp only [hmp] at hgep
  have HWp := Lib.hid hswp
  have HZp := Lib.hid hzp
  have hcanp := canBe_yes hfrp hgp
  have honp := fun W => only_any (⟨s0_0, s0_1, s0_2, s0_3, s0_4, s0_5, s0_6, s0_7, s0_8, s0_9, s0_10, s0_11, s0_12, s0_13⟩ : Pl) W
  rw [Pl.only_kind hfrp] at honp
  obtain ⟨v, hvp⟩ : ∃ v, f.val = v := ⟨_, rfl⟩
  rw [hfrp] at hofp
  have hofv : ∀ W, Calls Try.prog 10 #[.agg #[.int .i64 s0_0, .int .i64 s0_1, .int .i64 s0_2, .int .i64 s0_3, .int .u16 s0_4, .int .u16 s0_5, .int .i64 s0_6, .int .i64 s0_7, .int .i64 s0_8, .int .i64 s0_9, .int .i64 s0_10, .int .i64 s0_11, .int .i64 s0_12, .int .i64 s0_13]] W fun e w' => e = .returned v ∧ Below W.heap.size W w' := fun W => by rw [← hvp]; exact hofp W
  simp only [hvp] at hgep
  obtain ⟨g, hfrq, hgq⟩ := hfq
  have hgeq := fun W => encode_sealed g W hgq
  have hswq := g.sealed_wf
  obtain ⟨zq, hzq⟩ : ∃ z, g.sealed = z := ⟨_, rfl⟩
  rw [hzq] at hswq
  simp only [hzq] at hgeq
  obtain ⟨mq, hmq⟩ : ∃ m, zq.length = m := ⟨_, rfl⟩
  simp only [hmq] at hgeq
  have HWq := Lib.hid hswq
  have HZq := Lib.hid hzq
  have hcanq := canBe_yes hfrq hgq
  have honq := fun W => only_any (⟨s1_0, s1_1, s1_2, s1_3, s1_4, s1_5, s1_6, s1_7, s1_8, s1_9, s1_10, s1_11, s1_12, s1_13⟩ : Pl) W
  rw [Pl.only_kind hfrq] at honq
  obtain ⟨u, hvq⟩ : ∃ v, g.val = v := ⟨_, rfl⟩
  rw [hfrq] at hofq
  have hofu : ∀ W, Calls Try.prog 10 #[.agg #[.int .i64 s1_0, .int .i64 s1_1, .int .i64 s1_2, .int .i64 s1_3, .int .u16 s1_4, .int .u16 s1_5, .int .i64 s1_6, .int .i64 s1_7, .int .i64 s1_8, .int .i64 s1_9, .int .i64 s1_10, .int .i64 s1_11, .int .i64 s1_12, .int .i64 s1_13]] W fun e w' => e = .returned u ∧ Below W.heap.size W w' := fun W => by rw [← hvq]; exact hofq W
  simp only [hvq] at hgeq
  obtain ⟨PP, hPP⟩ : ∃ q, f.plain = q := ⟨_, rfl⟩
  obtain ⟨QQ, hQQ⟩ : ∃ q, g.plain = q := ⟨_, rfl⟩
  simp only [hPP] at honp
  simp only [hQQ] at honq
  obtain ⟨SP, hSP⟩ : ∃ S, strOfNums zp = S := ⟨_, rfl⟩
  obtain ⟨SQ, hSQ⟩ : ∃ S, strOfNums zq = S := ⟨_, rfl⟩
  rw [hfrp, hfrq] at hsame
  have KP := Lib.hid hSP
  have KQ := Lib.hid hSQ
  have hfg : f ≠ g := fun e => hsame (by rw [e])
  have h1 : PP ≠ QQ := fun h => hfg (Fr.plain_inj (by rw [hPP, hQQ, h]))
  have h2 : (SP.toList == SQ.toList) = false := by rw [← hSP, ← hSQ]; exact str_other (f8s HWp.out) (f8s HWq.out) (fun h => hfg (sealed_inj hgp hgq (by rw [hzp, hzq, h])))
  clear hfg hsame hSP hSQ hPP hQQ w0_0 w0_1 w0_2 w0_3 w0_4 w0_5 w0_6 w0_7 w0_8 w0_9 w0_10 w0_11 w0_12 w0_13 w1_0 w1_1 w1_2 w1_3 w1_4 w1_5 w1_6 w1_7 w1_8 w1_9 w1_10 w1_11 w1_12 w1_13 hofp hofq hp hq hvp hvq hcanp hcanq hgp hgq hfrp hfrq hmp hmq hzp hzq hswp hswq
  have HNE := Lib.hid h1
  clear h1
  obtain ⟨b0, b1, b2, b3, b4, b5, b6, b7, b8, b9, b10, b11, b12, b13⟩ := PP
  obtain ⟨d0, d1, d2, d3, d4, d5, d6, d7, d8, d9, d10, d11, d12, d13⟩ := QQ
  simp only [Pl.val] at honp honq
  go_enter Try.func7, Try.ntmps7
  go_wp2_with (first
    | (go_at_call 9; (with_reducible refine (alive_yes _).mono ?_); rintro e w1 ⟨rfl, hb1⟩; have HB1 := Lib.hid (below_on HB0.out hb1); have HX1 := Lib.hid (HBOX.out.below hb1 HBOX.out.lt); have HY1 := Lib.hid (HBOY.out.below hb1 HBOY.out.lt); have HC := Lib.hid (plain_cells HX1.out); obtain ⟨k0, k1, k2, k3, k4, k5, k6, k7, k8, k9, k10, k11, k12, k13⟩ := HC.out)
    | (go_at_call 10; (with_reducible refine (hofv _).mono ?_); rintro e w2 ⟨rfl, hb2⟩; have HB2 := Lib.hid (below_on HB1.out hb2); have HX2 := Lib.hid (HX1.out.below hb2 HX1.out.lt); have HY2 := Lib.hid (HY1.out.below hb2 HY1.out.lt); clear k0 k1 k2 k3 k4 k5 k6 k7 k8 k9 k10 k11 k12 k13)
    | (go_at_call 11; (with_reducible refine (hgep _).mono ?_); rintro e w3 ⟨A3, c3, rfl, ho3, hb3⟩; have HR3 := Lib.hid (IntRow.of_own ho3 HWp.out); clear ho3; have HB3 := Lib.hid (below_on HB2.out hb3); have HX3 := Lib.hid (HX2.out.below hb3 HX2.out.lt); have HY3 := Lib.hid (HY2.out.below hb3 HY2.out.lt); obtain ⟨j0, j1, j2, j3, j4, j5, j6, j7, j8, j9, j10, j11, j12, j13⟩ := plain_cells HY3.out)
    | (go_at_call 10; (with_reducible refine (hofu _).mono ?_); rintro e w4 ⟨rfl, hb4⟩; have HB4 := Lib.hid (below_on HB3.out hb4); have HX4 := Lib.hid (HX3.out.below hb4 HX3.out.lt); have HY4 := Lib.hid (HY3.out.below hb4 HY3.out.lt); clear j0 j1 j2 j3 j4 j5 j6 j7 j8 j9 j10 j11 j12 j13)
    | (go_at_call 11; (with_reducible refine (hgeq _).mono ?_); rintro e w5 ⟨A5, c5, rfl, ho5, hb5⟩; have HR5 := Lib.hid (IntRow.of_own ho5 HWq.out); clear ho5; have HB5 := Lib.hid (below_on HB4.out hb5); have HX5 := Lib.hid (HX4.out.below hb5 HX4.out.lt); have HY5 := Lib.hid (HY4.out.below hb5 HY4.out.lt); obtain ⟨k0, k1, k2, k3, k4, k5, k6, k7, k8, k9, k10, k11, k12, k13⟩ := plain_cells HX5.out))
  have HRP := Lib.hid ((HR3.out.below hb4).below hb5)
  clear k0 k1 k2 k3 k4 k5 k6 k7 k8 k9 k10 k11 k12 k13
  refine region_turns (fun w' => w'.cell? ⟨w.heap.size, 0, none⟩ = some (.int .i64 s0_0) ∧ w'.cell? ⟨w.heap.size, 1, none⟩ = some (.int .i64 s0_1) ∧ w'.cell? ⟨w.heap.size, 2, none⟩ = some (.int .i64 s0_2) ∧ w'.cell? ⟨w.heap.size, 3, none⟩ = some (.int .i64 s0_3) ∧ w'.cell? ⟨w.heap.size, 4, none⟩ = some (.int .u16 s0_4) ∧ w'.cell? ⟨w.heap.size, 5, none⟩ = some (.int .u16 s0_5) ∧ w'.cell? ⟨w.heap.size, 6, none⟩ = some (.int .i64 s0_6) ∧ w'.cell? ⟨w.heap.size, 7, none⟩ = some (.int .i64 s0_7) ∧ w'.cell? ⟨w.heap.size, 8, none⟩ = some (.int .i64 s0_8) ∧ w'.cell? ⟨w.heap.size, 9, none⟩ = some (.int .i64 s0_9) ∧ w'.cell? ⟨w.heap.size, 10, none⟩ = some (.int .i64 s0_10) ∧ w'.cell? ⟨w.heap.size, 11, none⟩ = some (.int .i64 s0_11) ∧ w'.cell? ⟨w.heap.size, 12, none⟩ = some (.int .i64 s0_12) ∧ w'.cell? ⟨w.heap.size, 13, none⟩ = some (.int .i64 s0_13) ∧ w'.cell? ⟨(w.heap.size + 1), 0, none⟩ = some (.int .i64 s1_0) ∧ w'.cell? ⟨(w.heap.size + 1), 1, none⟩ = some (.int .i64 s1_1) ∧ w'.cell? ⟨(w.heap.size + 1), 2, none⟩ = some (.int .i64 s1_2) ∧ w'.cell? ⟨(w.heap.size + 1), 3, none⟩ = some (.int .i64 s1_3) ∧ w'.cell? ⟨(w.heap.size + 1), 4, none⟩ = some (.int .u16 s1_4) ∧ w'.cell? ⟨(w.heap.size + 1), 5, none⟩ = some (.int .u16 s1_5) ∧ w'.cell? ⟨(w.heap.size + 1), 6, none⟩ = some (.int .i64 s1_6) ∧ w'.cell? ⟨(w.heap.size + 1), 7, none⟩ = some (.int .i64 s1_7) ∧ w'.cell? ⟨(w.heap.size + 1), 8, none⟩ = some (.int .i64 s1_8) ∧ w'.cell? ⟨(w.heap.size + 1), 9, none⟩ = some (.int .i64 s1_9) ∧ w'.cell? ⟨(w.heap.size + 1), 10, none⟩ = some (.int .i64 s1_10) ∧ w'.cell? ⟨(w.heap.size + 1), 11, none⟩ = some (.int .i64 s1_11) ∧ w'.cell? ⟨(w.heap.size + 1), 12, none⟩ = some (.int .i64 s1_12) ∧ w'.cell? ⟨(w.heap.size + 1), 13, none⟩ = some (.int .i64 s1_13) ∧ (convert 29 9 (.slice A3 mp c3)).run Try.prog w' = .ok (.string SP) w' ∧ (convert 29 9 (.slice A5 mq c5)).run Try.prog w' = .ok (.string SQ) w') (fun j => decide (11 ≤ j)) (by kernel_rfl) ⟨(HX5.out.drewN 1).cell 0, (HX5.out.drewN 1).cell 1, (HX5.out.drewN 1).cell 2, (HX5.out.drewN 1).cell 3, (HX5.out.drewN 1).cell 4, (HX5.out.drewN 1).cell 5, (HX5.out.drewN 1).cell 6, (HX5.out.drewN 1).cell 7, (HX5.out.drewN 1).cell 8, (HX5.out.drewN 1).cell 9, (HX5.out.drewN 1).cell 10, (HX5.out.drewN 1).cell 11, (HX5.out.drewN 1).cell 12, (HX5.out.drewN 1).cell 13, (HY5.out.drewN 1).cell 0, (HY5.out.drewN 1).cell 1, (HY5.out.drewN 1).cell 2, (HY5.out.drewN 1).cell 3, (HY5.out.drewN 1).cell 4, (HY5.out.drewN 1).cell 5, (HY5.out.drewN 1).cell 6, (HY5.out.drewN 1).cell 7, (HY5.out.drewN 1).cell 8, (HY5.out.drewN 1).cell 9, (HY5.out.drewN 1).cell 10, (HY5.out.drewN 1).cell 11, (HY5.out.drewN 1).cell 12, (HY5.out.drewN 1).cell 13, by rw [← KP.out]; exact run_convert_row _ _ _ _ Try.underlying29 Try.underlying5 Try.underlying9 _ _ _ _ (HRP.out.drewN 1), by rw [← KQ.out]; exact run_convert_row _ _ _ _ Try.underlying29 Try.underlying5 Try.underlying9 _ _ _ _ (HR5.out.drewN 1)⟩ (fun hS => ?_)
  refine Turns.take hS 0 (.slice A3 mp c3) rfl (by kernel_rfl) (by kernel_rfl) (by kernel_rfl) (by kernel_rfl) (fun _ _ _ h => h) (by rfl) (fun w' hS' => by (try dsimp only at hS'); go_split_ands; go_simp) ?_
  simp only [Act.put, List.getElem_toArray, List.getElem_cons_succ, List.getElem_cons_zero, List.setIfInBounds_toArray, List.set_cons_zero, List.set_cons_succ]
  refine Turns.take hS 1 (.string SP) rfl (by kernel_rfl) (by kernel_rfl) (by kernel_rfl) (by kernel_rfl) (fun _ _ _ h => h) (by rfl) (fun w' hS' => by (try dsimp only at hS'); go_split_ands; go_simp) ?_
  simp only [Act.put, List.getElem_toArray, List.getElem_cons_succ, List.getElem_cons_zero, List.setIfInBounds_toArray, List.set_cons_zero, List.set_cons_succ]
  refine Turns.take hS 2 (.slice A5 mq c5) rfl (by kernel_rfl) (by kernel_rfl) (by kernel_rfl) (by kernel_rfl) (fun _ _ _ h => h) (by rfl) (fun w' hS' => by (try dsimp only at hS'); go_split_ands; go_simp) ?_
  simp only [Act.put, List.getElem_toArray, List.getElem_cons_succ, List.getElem_cons_zero, List.setIfInBounds_toArray, List.set_cons_zero, List.set_cons_succ]
  refine Turns.take hS 3 (.string SQ) rfl (by kernel_rfl) (by kernel_rfl) (by kernel_rfl) (by kernel_rfl) (fun _ _ _ h => h) (by rfl) (fun w' hS' => by (try dsimp only at hS'); go_split_ands; go_simp) ?_
  simp only [Act.put, List.getElem_toArray, List.getElem_cons_succ, List.getElem_cons_zero, List.setIfInBounds_toArray, List.set_cons_zero, List.set_cons_succ]
  refine Turns.take hS 4 (.bool false) rfl (by kernel_rfl) (by kernel_rfl) (by kernel_rfl) (by kernel_rfl) (fun _ _ _ h => h) (by rfl) (fun w' hS' => by (try dsimp only at hS'); go_split_ands; go_simp) ?_
  simp only [Act.put, List.getElem_toArray, List.getElem_cons_succ, List.getElem_cons_zero, List.setIfInBounds_toArray, List.set_cons_zero, List.set_cons_succ]
  refine Turns.take hS 5 (.agg #[.int .i64 s0_0, .int .i64 s0_1, .int .i64 s0_2, .int .i64 s0_3, .int .u16 s0_4, .int .u16 s0_5, .int .i64 s0_6, .int .i64 s0_7, .int .i64 s0_8, .int .i64 s0_9, .int .i64 s0_10, .int .i64 s0_11, .int .i64 s0_12, .int .i64 s0_13]) rfl (by kernel_rfl) (by kernel_rfl) (by kernel_rfl) (by kernel_rfl) (fun _ _ _ h => h) (by rfl) (fun w' hS' => by (try dsimp only at hS'); go_split_ands; go_simp) ?_
  simp only [Act.put, List.getElem_toArray, List.getElem_cons_succ, List.getElem_cons_zero, List.setIfInBounds_toArray, List.set_cons_zero, List.set_cons_succ]
  refine Turns.take hS 7 (.agg #[.int .i64 s1_0, .int .i64 s1_1, .int .i64 s1_2, .int .i64 s1_3, .int .u16 s1_4, .int .u16 s1_5, .int .i64 s1_6, .int .i64 s1_7, .int .i64 s1_8, .int .i64 s1_9, .int .i64 s1_10, .int .i64 s1_11, .int .i64 s1_12, .int .i64 s1_13]) rfl (by kernel_rfl) (by kernel_rfl) (by kernel_rfl) (by kernel_rfl) (fun _ _ _ h => h) (by rfl) (fun w' hS' => by (try dsimp only at hS'); go_split_ands; go_simp) ?_
  simp only [Act.put, List.getElem_toArray, List.getElem_cons_succ, List.getElem_cons_zero, List.setIfInBounds_toArray, List.set_cons_zero, List.set_cons_succ]
  refine Turns.next 6 rfl (by kernel_rfl) (by rfl) (fun K hK => ?_)
  go_simp
  refine (honp _).mono ?_
  rintro e w6 ⟨rfl, hb6⟩
  have HB6 := Lib.hid (below_on HB5.out.drew hb6)
  have HX6 := Lib.hid ((HX5.out.drewN 1).below hb6 HX5.out.lt)
  have HY6 := Lib.hid ((HY5.out.drewN 1).below hb6 HY5.out.lt)
  have HP6 := Lib.hid ((HRP.out.drewN 1).below hb6)
  have HQ6 := Lib.hid ((HR5.out.drewN 1).below hb6)
  have hS6 : w6.cell? ⟨w.heap.size, 0, none⟩ = some (.int .i64 s0_0) ∧ w6.cell? ⟨w.heap.size, 1, none⟩ = some (.int .i64 s0_1) ∧ w6.cell? ⟨w.heap.size, 2, none⟩ = some (.int .i64 s0_2) ∧ w6.cell? ⟨w.heap.size, 3, none⟩ = some (.int .i64 s0_3) ∧ w6.cell? ⟨w.heap.size, 4, none⟩ = some (.int .u16 s0_4) ∧ w6.cell? ⟨w.heap.size, 5, none⟩ = some (.int .u16 s0_5) ∧ w6.cell? ⟨w.heap.size, 6, none⟩ = some (.int .i64 s0_6) ∧ w6.cell? ⟨w.heap.size, 7, none⟩ = some (.int .i64 s0_7) ∧ w6.cell? ⟨w.heap.size, 8, none⟩ = some (.int .i64 s0_8) ∧ w6.cell? ⟨w.heap.size, 9, none⟩ = some (.int .i64 s0_9) ∧ w6.cell? ⟨w.heap.size, 10, none⟩ = some (.int .i64 s0_10) ∧ w6.cell? ⟨w.heap.size, 11, none⟩ = some (.int .i64 s0_11) ∧ w6.cell? ⟨w.heap.size, 12, none⟩ = some (.int .i64 s0_12) ∧ w6.cell? ⟨w.heap.size, 13, none⟩ = some (.int .i64 s0_13) ∧ w6.cell? ⟨(w.heap.size + 1), 0, none⟩ = some (.int .i64 s1_0) ∧ w6.cell? ⟨(w.heap.size + 1), 1, none⟩ = some (.int .i64 s1_1) ∧ w6.cell? ⟨(w.heap.size + 1), 2, none⟩ = some (.int .i64 s1_2) ∧ w6.cell? ⟨(w.heap.size + 1), 3, none⟩ = some (.int .i64 s1_3) ∧ w6.cell? ⟨(w.heap.size + 1), 4, none⟩ = some (.int .u16 s1_4) ∧ w6.cell? ⟨(w.heap.size + 1), 5, none⟩ = some (.int .u16 s1_5) ∧ w6.cell? ⟨(w.heap.size + 1), 6, none⟩ = some (.int .i64 s1_6) ∧ w6.cell? ⟨(w.heap.size + 1), 7, none⟩ = some (.int .i64 s1_7) ∧ w6.cell? ⟨(w.heap.size + 1), 8, none⟩ = some (.int .i64 s1_8) ∧ w6.cell? ⟨(w.heap.size + 1), 9, none⟩ = some (.int .i64 s1_9) ∧ w6.cell? ⟨(w.heap.size + 1), 10, none⟩ = some (.int .i64 s1_10) ∧ w6.cell? ⟨(w.heap.size + 1), 11, none⟩ = some (.int .i64 s1_11) ∧ w6.cell? ⟨(w.heap.size + 1), 12, none⟩ = some (.int .i64 s1_12) ∧ w6.cell? ⟨(w.heap.size + 1), 13, none⟩ = some (.int .i64 s1_13) ∧ (convert 29 9 (.slice A3 mp c3)).run Try.prog w6 = .ok (.string SP) w6 ∧ (convert 29 9 (.slice A5 mq c5)).run Try.prog w6 = .ok (.string SQ) w6 := ⟨HX6.out.cell 0, HX6.out.cell 1, HX6.out.cell 2, HX6.out.cell 3, HX6.out.cell 4, HX6.out.cell 5, HX6.out.cell 6, HX6.out.cell 7, HX6.out.cell 8, HX6.out.cell 9, HX6.out.cell 10, HX6.out.cell 11, HX6.out.cell 12, HX6.out.cell 13, HY6.out.cell 0, HY6.out.cell 1, HY6.out.cell 2, HY6.out.cell 3, HY6.out.cell 4, HY6.out.cell 5, HY6.out.cell 6, HY6.out.cell 7, HY6.out.cell 8, HY6.out.cell 9, HY6.out.cell 10, HY6.out.cell 11, HY6.out.cell 12, HY6.out.cell 13, by rw [← KP.out]; exact run_convert_row _ _ _ _ Try.underlying29 Try.underlying5 Try.underlying9 _ _ _ _ (HP6.out), by rw [← KQ.out]; exact run_convert_row _ _ _ _ Try.underlying29 Try.underlying5 Try.underlying9 _ _ _ _ (HQ6.out)⟩
  refine hK.out _ _ hS6 ?_
  clear hK K hS hS6
  refine Turns.next 8 rfl (by kernel_rfl) (by rfl) (fun K hK => ?_)
  go_simp
  refine (honq _).mono ?_
  rintro e w7 ⟨rfl, hb7⟩
  have HB7 := Lib.hid (below_on HB6.out hb7)
  have HX7 := Lib.hid (HX6.out.below hb7 HX6.out.lt)
  have HY7 := Lib.hid (HY6.out.below hb7 HY6.out.lt)
  have hS7 : w7.cell? ⟨w.heap.size, 0, none⟩ = some (.int .i64 s0_0) ∧ w7.cell? ⟨w.heap.size, 1, none⟩ = some (.int .i64 s0_1) ∧ w7.cell? ⟨w.heap.size, 2, none⟩ = some (.int .i64 s0_2) ∧ w7.cell? ⟨w.heap.size, 3, none⟩ = some (.int .i64 s0_3) ∧ w7.cell? ⟨w.heap.size, 4, none⟩ = some (.int .u16 s0_4) ∧ w7.cell? ⟨w.heap.size, 5, none⟩ = some (.int .u16 s0_5) ∧ w7.cell? ⟨w.heap.size, 6, none⟩ = some (.int .i64 s0_6) ∧ w7.cell? ⟨w.heap.size, 7, none⟩ = some (.int .i64 s0_7) ∧ w7.cell? ⟨w.heap.size, 8, none⟩ = some (.int .i64 s0_8) ∧ w7.cell? ⟨w.heap.size, 9, none⟩ = some (.int .i64 s0_9) ∧ w7.cell? ⟨w.heap.size, 10, none⟩ = some (.int .i64 s0_10) ∧ w7.cell? ⟨w.heap.size, 11, none⟩ = some (.int .i64 s0_11) ∧ w7.cell? ⟨w.heap.size, 12, none⟩ = some (.int .i64 s0_12) ∧ w7.cell? ⟨w.heap.size, 13, none⟩ = some (.int .i64 s0_13) ∧ w7.cell? ⟨(w.heap.size + 1), 0, none⟩ = some (.int .i64 s1_0) ∧ w7.cell? ⟨(w.heap.size + 1), 1, none⟩ = some (.int .i64 s1_1) ∧ w7.cell? ⟨(w.heap.size + 1), 2, none⟩ = some (.int .i64 s1_2) ∧ w7.cell? ⟨(w.heap.size + 1), 3, none⟩ = some (.int .i64 s1_3) ∧ w7.cell? ⟨(w.heap.size + 1), 4, none⟩ = some (.int .u16 s1_4) ∧ w7.cell? ⟨(w.heap.size + 1), 5, none⟩ = some (.int .u16 s1_5) ∧ w7.cell? ⟨(w.heap.size + 1), 6, none⟩ = some (.int .i64 s1_6) ∧ w7.cell? ⟨(w.heap.size + 1), 7, none⟩ = some (.int .i64 s1_7) ∧ w7.cell? ⟨(w.heap.size + 1), 8, none⟩ = some (.int .i64 s1_8) ∧ w7.cell? ⟨(w.heap.size + 1), 9, none⟩ = some (.int .i64 s1_9) ∧ w7.cell? ⟨(w.heap.size + 1), 10, none⟩ = some (.int .i64 s1_10) ∧ w7.cell? ⟨(w.heap.size + 1), 11, none⟩ = some (.int .i64 s1_11) ∧ w7.cell? ⟨(w.heap.size + 1), 12, none⟩ = some (.int .i64 s1_12) ∧ w7.cell? ⟨(w.heap.size + 1), 13, none⟩ = some (.int .i64 s1_13) ∧ (convert 29 9 (.slice A3 mp c3)).run Try.prog w7 = .ok (.string SP) w7 ∧ (convert 29 9 (.slice A5 mq c5)).run Try.prog w7 = .ok (.string SQ) w7 := ⟨HX7.out.cell 0, HX7.out.cell 1, HX7.out.cell 2, HX7.out.cell 3, HX7.out.cell 4, HX7.out.cell 5, HX7.out.cell 6, HX7.out.cell 7, HX7.out.cell 8, HX7.out.cell 9, HX7.out.cell 10, HX7.out.cell 11, HX7.out.cell 12, HX7.out.cell 13, HY7.out.cell 0, HY7.out.cell 1, HY7.out.cell 2, HY7.out.cell 3, HY7.out.cell 4, HY7.out.cell 5, HY7.out.cell 6, HY7.out.cell 7, HY7.out.cell 8, HY7.out.cell 9, HY7.out.cell 10, HY7.out.cell 11, HY7.out.cell 12, HY7.out.cell 13, by rw [← KP.out]; exact run_convert_row _ _ _ _ Try.underlying29 Try.underlying5 Try.underlying9 _ _ _ _ (HP6.out.below hb7), by rw [← KQ.out]; exact run_convert_row _ _ _ _ Try.underlying29 Try.underlying5 Try.underlying9 _ _ _ _ (HQ6.out.below hb7)⟩
  refine hK.out _ _ hS7 ?_
  clear hK K
  refine Turns.take hS7 9 (.bool false) rfl (by kernel_rfl) (by kernel_rfl) (by kernel_rfl) (by kernel_rfl) (fun _ _ _ h => h) (by rfl) (fun w' _ => by
    go_simp
    intro h0 h1 h2 h3 h4 h5 h6 h7 h8 h9 h10 h11 h12 h13
    exact HNE.out (by rw [h0, h1, h2, h3, h4, h5, h6, h7, h8, h9, h10, h11, h12, h13])) ?_
  simp only [Act.put, List.getElem_toArray, List.getElem_cons_succ, List.getElem_cons_zero, List.setIfInBounds_toArray, List.set_cons_zero, List.set_cons_succ]
  refine Turns.take hS7 10 (.bool true) rfl (by kernel_rfl) (by kernel_rfl) (by kernel_rfl) (by kernel_rfl) (fun _ _ _ h => h) (by rfl) (fun w' _ => by go_simp) ?_
  simp only [Act.put, List.getElem_toArray, List.getElem_cons_succ, List.getElem_cons_zero, List.setIfInBounds_toArray, List.set_cons_zero, List.set_cons_succ]
  refine Turns.rest (late_done (by kernel_rfl)) ?_
  refine any_tail 11 (by rfl) (by kernel_rfl) ?_
  simp only [List.drop_succ_cons, List.drop_zero]
  go_wp2
  go_ret
  exact ⟨rfl, HB7.out⟩

set_option linter.unusedSimpArgs false in
set_option maxHeartbeats 8000000 in
set_option maxRecDepth 100000 in
theorem part_10 (s0_0 s0_1 s0_2 s0_3 s0_4 s0_5 s0_6 s0_7 s0_8 s0_9 s0_10 s0_11 s0_12 s0_13 : Int) (s1_0 s1_1 s1_2 s1_3 s1_4 s1_5 s1_6 s1_7 s1_8 s1_9 s1_10 s1_11 s1_12 s1_13 : Int) (w : World) (w0_0 : (Lit.int .i64 s0_0).wf = true) (w0_1 : (Lit.int .i64 s0_1).wf = true) (w0_2 : (Lit.int .i64 s0_2).wf = true) (w0_3 : (Lit.int .i64 s0_3).wf = true) (w0_4 : (Lit.int .u16 s0_4).wf = true) (w0_5 : (Lit.int .u16 s0_5).wf = true) (w0_6 : (Lit.int .i64 s0_6).wf = true) (w0_7 : (Lit.int .i64 s0_7).wf = true) (w0_8 : (Lit.int .i64 s0_8).wf = true) (w0_9 : (Lit.int .i64 s0_9).wf = true) (w0_10 : (Lit.int .i64 s0_10).wf = true) (w0_11 : (Lit.int .i64 s0_11).wf = true) (w0_12 : (Lit.int .i64 s0_12).wf = true) (w0_13 : (Lit.int .i64 s0_13).wf = true) (w1_0 : (Lit.int .i64 s1_0).wf = true) (w1_1 : (Lit.int .i64 s1_1).wf = true) (w1_2 : (Lit.int .i64 s1_2).wf = true) (w1_3 : (Lit.int .i64 s1_3).wf = true) (w1_4 : (Lit.int .u16 s1_4).wf = true) (w1_5 : (Lit.int .u16 s1_5).wf = true) (w1_6 : (Lit.int .i64 s1_6).wf = true) (w1_7 : (Lit.int .i64 s1_7).wf = true) (w1_8 : (Lit.int .i64 s1_8).wf = true) (w1_9 : (Lit.int .i64 s1_9).wf = true) (w1_10 : (Lit.int .i64 s1_10).wf = true) (w1_11 : (Lit.int .i64 s1_11).wf = true) (w1_12 : (Lit.int .i64 s1_12).wf = true) (w1_13 : (Lit.int .i64 s1_13).wf = true) (hfp : (∃ f, (⟨s0_0, s0_1, s0_2, s0_3, s0_4, s0_5, s0_6, s0_7, s0_8, s0_9, s0_10, s0_11, s0_12, s0_13⟩ : Pl).fr = some f ∧ f.good = true)) (hfq : ¬ (∃ f, (⟨s1_0, s1_1, s1_2, s1_3, s1_4, s1_5, s1_6, s1_7, s1_8, s1_9, s1_10, s1_11, s1_12, s1_13⟩ : Pl).fr = some f ∧ f.good = true)) :
    Calls Try.prog 7 #[.agg #[.int .i64 s0_0, .int .i64 s0_1, .int .i64 s0_2, .int .i64 s0_3, .int .u16 s0_4, .int .u16 s0_5, .int .i64 s0_6, .int .i64 s0_7, .int .i64 s0_8, .int .i64 s0_9, .int .i64 s0_10, .int .i64 s0_11, .int .i64 s0_12, .int .i64 s0_13], .agg #[.int .i64 s1_0, .int .i64 s1_1, .int .i64 s1_2, .int .i64 s1_3, .int .u16 s1_4, .int .u16 s1_5, .int .i64 s1_6, .int .i64 s1_7, .int .i64 s1_8, .int .i64 s1_9, .int .i64 s1_10, .int .i64 s1_11, .int .i64 s1_12, .int .i64 s1_13]] w fun e w' => e = .returned (.bool true) ∧ Below w.heap.size w w' := by
  have hp : (⟨s0_0, s0_1, s0_2, s0_3, s0_4, s0_5, s0_6, s0_7, s0_8, s0_9, s0_10, s0_11, s0_12, s0_13⟩ : Pl).wf := ⟨fits_wf w0_0, fits_wf w0_1, fits_wf w0_2, fits_wf w0_3, f16_wf w0_4, f16_wf w0_5, fits_wf w0_6, fits_wf w0_7, fits_wf w0_8, fits_wf w0_9, fits_wf w0_10, fits_wf w0_11, fits_wf w0_12, fits_wf w0_13⟩
  have hofp := fun W => lawof_any (⟨s0_0, s0_1, s0_2, s0_3, s0_4, s0_5, s0_6, s0_7, s0_8, s0_9, s0_10, s0_11, s0_12, s0_13⟩ : Pl) W
  simp only [Pl.val] at hofp
  have hq : (⟨s1_0, s1_1, s1_2, s1_3, s1_4, s1_5, s1_6, s1_7, s1_8, s1_9, s1_10, s1_11, s1_12, s1_13⟩ : Pl).wf := ⟨fits_wf w1_0, fits_wf w1_1, fits_wf w1_2, fits_wf w1_3, f16_wf w1_4, f16_wf w1_5, fits_wf w1_6, fits_wf w1_7, fits_wf w1_8, fits_wf w1_9, fits_wf w1_10, fits_wf w1_11, fits_wf w1_12, fits_wf w1_13⟩
  have hofq := fun W => lawof_any (⟨s1_0, s1_1, s1_2, s1_3, s1_4, s1_5, s1_6, s1_7, s1_8, s1_9, s1_10, s1_11, s1_12, s1_13⟩ : Pl) W
  simp only [Pl.val] at hofq
  have HBOX := Lib.hid (Holds.alloc (Holds.new w 24 #[.int .i64 s0_0, .int .i64 s0_1, .int .i64 s0_2, .int .i64 s0_3, .int .u16 s0_4, .int .u16 s0_5, .int .i64 s0_6, .int .i64 s0_7, .int .i64 s0_8, .int .i64 s0_9, .int .i64 s0_10, .int .i64 s0_11, .int .i64 s0_12, .int .i64 s0_13]) (.cells #[.int .i64 s1_0, .int .i64 s1_1, .int .i64 s1_2, .int .i64 s1_3, .int .u16 s1_4, .int .u16 s1_5, .int .i64 s1_6, .int .i64 s1_7, .int .i64 s1_8, .int .i64 s1_9, .int .i64 s1_10, .int .i64 s1_11, .int .i64 s1_12, .int .i64 s1_13] 24))
  have HBOY := Lib.hid (show Holds ((w.alloc (.cells #[.int .i64 s0_0, .int .i64 s0_1, .int .i64 s0_2, .int .i64 s0_3, .int .u16 s0_4, .int .u16 s0_5, .int .i64 s0_6, .int .i64 s0_7, .int .i64 s0_8, .int .i64 s0_9, .int .i64 s0_10, .int .i64 s0_11, .int .i64 s0_12, .int .i64 s0_13] 24)).alloc (.cells #[.int .i64 s1_0, .int .i64 s1_1, .int .i64 s1_2, .int .i64 s1_3, .int .u16 s1_4, .int .u16 s1_5, .int .i64 s1_6, .int .i64 s1_7, .int .i64 s1_8, .int .i64 s1_9, .int .i64 s1_10, .int .i64 s1_11, .int .i64 s1_12, .int .i64 s1_13] 24)) (w.heap.size + 1) 24 #[.int .i64 s1_0, .int .i64 s1_1, .int .i64 s1_2, .int .i64 s1_3, .int .u16 s1_4, .int .u16 s1_5, .int .i64 s1_6, .int .i64 s1_7, .int .i64 s1_8, .int .i64 s1_9, .int .i64 s1_10, .int .i64 s1_11, .int .i64 s1_12, .int .i64 s1_13] by
    have h := Holds.new (w.alloc (.cells #[.int .i64 s0_0, .int .i64 s0_1, .int .i64 s0_2, .int .i64 s0_3, .int .u16 s0_4, .int .u16 s0_5, .int .i64 s0_6, .int .i64 s0_7, .int .i64 s0_8, .int .i64 s0_9, .int .i64 s0_10, .int .i64 s0_11, .int .i64 s0_12, .int .i64 s0_13] 24)) 24 #[.int .i64 s1_0, .int .i64 s1_1, .int .i64 s1_2, .int .i64 s1_3, .int .u16 s1_4, .int .u16 s1_5, .int .i64 s1_6, .int .i64 s1_7, .int .i64 s1_8, .int .i64 s1_9, .int .i64 s1_10, .int .i64 s1_11, .int .i64 s1_12, .int .i64 s1_13]
    rw [size_alloc] at h
    exact h)
  have HB0 := Lib.hid (below_on (below_alloc w (.cells #[.int .i64 s0_0, .int .i64 s0_1, .int .i64 s0_2, .int .i64 s0_3, .int .u16 s0_4, .int .u16 s0_5, .int .i64 s0_6, .int .i64 s0_7, .int .i64 s0_8, .int .i64 s0_9, .int .i64 s0_10, .int .i64 s0_11, .int .i64 s0_12, .int .i64 s0_13] 24)) (below_alloc _ (.cells #[.int .i64 s1_0, .int .i64 s1_1, .int .i64 s1_2, .int .i64 s1_3, .int .u16 s1_4, .int .u16 s1_5, .int .i64 s1_6, .int .i64 s1_7, .int .i64 s1_8, .int .i64 s1_9, .int .i64 s1_10, .int .i64 s1_11, .int .i64 s1_12, .int .i64 s1_13] 24)))
  obtain ⟨f, hfrp, hgp⟩ := hfp
  have hgep := fun W => encode_sealed f W hgp
  have hswp := f.sealed_wf
  obtain ⟨zp, hzp⟩ : ∃ z, f.sealed = z := ⟨_, rfl⟩
  rw [hzp] at hswp
  simp only [hzp] at hgep
  obtain ⟨mp, hmp⟩ : ∃ m, zp.length = m := ⟨_, rfl⟩
  simp only [hmp] at hgep
  have HWp := Lib.hid hswp
  have HZp := Lib.hid hzp
  have hcanp := canBe_yes hfrp hgp
  have honp := fun W => only_any (⟨s0_0, s0_1, s0_2, s0_3, s0_4, s0_5, s0_6, s0_7, s0_8, s0_9, s0_10, s0_11, s0_12, s0_13⟩ : Pl) W
  rw [Pl.only_kind hfrp] at honp
  obtain ⟨v, hvp⟩ : ∃ v, f.val = v := ⟨_, rfl⟩
  rw [hfrp] at hofp
  have hofv : ∀ W, Calls Try.prog 10 #[.agg #[.int .i64 s0_0, .int .i64 s0_1, .int .i64 s0_2, .int .i64 s0_3, .int .u16 s0_4, .int .u16 s0_5, .int .i64 s0_6, .int .i64 s0_7, .int .i64 s0_8, .int .i64 s0_9, .int .i64 s0_10, .int .i64 s0_11, .int .i64 s0_12, .int .i64 s0_13]] W fun e w' => e = .returned v ∧ Below W.heap.size W w' := fun W => by rw [← hvp]; exact hofp W
  simp only [hvp] at hgep
  have hgeq := enc_no (⟨s1_0, s1_1, s1_2, s1_3, s1_4, s1_5, s1_6, s1_7, s1_8, s1_9, s1_10, s1_11, s1_12, s1_13⟩ : Pl) hq hfq
  have hcanq := canBe_no hfq
  obtain ⟨u, hvq⟩ : ∃ v, frVal ((⟨s1_0, s1_1, s1_2, s1_3, s1_4, s1_5, s1_6, s1_7, s1_8, s1_9, s1_10, s1_11, s1_12, s1_13⟩ : Pl)).fr = v := ⟨_, rfl⟩
  have hofu : ∀ W, Calls Try.prog 10 #[.agg #[.int .i64 s1_0, .int .i64 s1_1, .int .i64 s1_2, .int .i64 s1_3, .int .u16 s1_4, .int .u16 s1_5, .int .i64 s1_6, .int .i64 s1_7, .int .i64 s1_8, .int .i64 s1_9, .int .i64 s1_10, .int .i64 s1_11, .int .i64 s1_12, .int .i64 s1_13]] W fun e w' => e = .returned u ∧ Below W.heap.size W w' := fun W => by rw [← hvq]; exact hofq W
  rw [hvq] at hgeq
  have hgp : ∀ W, Calls Try.prog 13 #[.agg #[.int .i64 s0_0, .int .i64 s0_1, .int .i64 s0_2, .int .i64 s0_3, .int .u16 s0_4, .int .u16 s0_5, .int .i64 s0_6, .int .i64 s0_7, .int .i64 s0_8, .int .i64 s0_9, .int .i64 s0_10, .int .i64 s0_11, .int .i64 s0_12, .int .i64 s0_13]] W (Told (.bool ((⟨s0_0, s0_1, s0_2, s0_3, s0_4, s0_5, s0_6, s0_7, s0_8, s0_9, s0_10, s0_11, s0_12, s0_13⟩ : Pl)).canBe) W) := fun W => rgood_any (⟨s0_0, s0_1, s0_2, s0_3, s0_4, s0_5, s0_6, s0_7, s0_8, s0_9, s0_10, s0_11, s0_12, s0_13⟩ : Pl) W hp
  have hgq : ∀ W, Calls Try.prog 13 #[.agg #[.int .i64 s1_0, .int .i64 s1_1, .int .i64 s1_2, .int .i64 s1_3, .int .u16 s1_4, .int .u16 s1_5, .int .i64 s1_6, .int .i64 s1_7, .int .i64 s1_8, .int .i64 s1_9, .int .i64 s1_10, .int .i64 s1_11, .int .i64 s1_12, .int .i64 s1_13]] W (Told (.bool ((⟨s1_0, s1_1, s1_2, s1_3, s1_4, s1_5, s1_6, s1_7, s1_8, s1_9, s1_10, s1_11, s1_12, s1_13⟩ : Pl)).canBe) W) := fun W => rgood_any (⟨s1_0, s1_1, s1_2, s1_3, s1_4, s1_5, s1_6, s1_7, s1_8, s1_9, s1_10, s1_11, s1_12, s1_13⟩ : Pl) W hq
  simp only [hcanp] at hgp
  simp only [hcanq] at hgq
  clear w0_0 w0_1 w0_2 w0_3 w0_4 w0_5 w0_6 w0_7 w0_8 w0_9 w0_10 w0_11 w0_12 w0_13 w1_0 w1_1 w1_2 w1_3 w1_4 w1_5 w1_6 w1_7 w1_8 w1_9 w1_10 w1_11 w1_12 w1_13 hofp hofq hp hq hvp hvq hcanp hcanq
  go_enter Try.func7, Try.ntmps7
  go_wp2_with (first
    | (go_at_call 9; (with_reducible refine (alive_yes _).mono ?_); rintro e w1 ⟨rfl, hb1⟩; have HB1 := Lib.hid (below_on HB0.out hb1); have HX1 := Lib.hid (HBOX.out.below hb1 HBOX.out.lt); have HY1 := Lib.hid (HBOY.out.below hb1 HBOY.out.lt); have HC := Lib.hid (plain_cells HX1.out); obtain ⟨k0, k1, k2, k3, k4, k5, k6, k7, k8, k9, k10, k11, k12, k13⟩ := HC.out)
    | (go_at_call 10; (with_reducible refine (hofv _).mono ?_); rintro e w2 ⟨rfl, hb2⟩; have HB2 := Lib.hid (below_on HB1.out hb2); have HX2 := Lib.hid (HX1.out.below hb2 HX1.out.lt); have HY2 := Lib.hid (HY1.out.below hb2 HY1.out.lt); clear k0 k1 k2 k3 k4 k5 k6 k7 k8 k9 k10 k11 k12 k13)
    | (go_at_call 11; (with_reducible refine (hgep _).mono ?_); rintro e w3 ⟨A3, c3, rfl, ho3, hb3⟩; have HR3 := Lib.hid (IntRow.of_own ho3 HWp.out); clear ho3; have HB3 := Lib.hid (below_on HB2.out hb3); have HX3 := Lib.hid (HX2.out.below hb3 HX2.out.lt); have HY3 := Lib.hid (HY2.out.below hb3 HY2.out.lt); obtain ⟨j0, j1, j2, j3, j4, j5, j6, j7, j8, j9, j10, j11, j12, j13⟩ := plain_cells HY3.out)
    | (go_at_call 10; (with_reducible refine (hofu _).mono ?_); rintro e w4 ⟨rfl, hb4⟩; have HB4 := Lib.hid (below_on HB3.out hb4); have HX4 := Lib.hid (HX3.out.below hb4 HX3.out.lt); have HY4 := Lib.hid (HY3.out.below hb4 HY3.out.lt); clear j0 j1 j2 j3 j4 j5 j6 j7 j8 j9 j10 j11 j12 j13)
    | (go_at_call 11; (with_reducible refine (hgeq _).mono ?_); rintro e w5 ⟨rfl, hb5⟩; have HB5 := Lib.hid (below_on HB4.out hb5); have HX5 := Lib.hid (HX4.out.below hb5 HX4.out.lt); have HY5 := Lib.hid (HY4.out.below hb5 HY4.out.lt); obtain ⟨k0, k1, k2, k3, k4, k5, k6, k7, k8, k9, k10, k11, k12, k13⟩ := plain_cells HX5.out)
    | (go_at_call 13; (with_reducible refine (hgp _).mono ?_); rintro e w6 ⟨rfl, hb6⟩; have HB6 := Lib.hid (below_on HB5.out hb6); have HX6 := Lib.hid (HX5.out.below hb6 HX5.out.lt); have HY6 := Lib.hid (HY5.out.below hb6 HY5.out.lt); obtain ⟨j0, j1, j2, j3, j4, j5, j6, j7, j8, j9, j10, j11, j12, j13⟩ := plain_cells HY6.out)
    | (go_at_call 13; (with_reducible refine (hgq _).mono ?_); rintro e w7 ⟨rfl, hb7⟩; have HB7 := Lib.hid (below_on HB6.out hb7)))
  go_ret
  exact ⟨rfl, HB7.out⟩

set_option linter.unusedSimpArgs false in
set_option maxHeartbeats 8000000 in
set_option maxRecDepth 100000 in
theorem part_01 (s0_0 s0_1 s0_2 s0_3 s0_4 s0_5 s0_6 s0_7 s0_8 s0_9 s0_10 s0_11 s0_12 s0_13 : Int) (s1_0 s1_1 s1_2 s1_3 s1_4 s1_5 s1_6 s1_7 s1_8 s1_9 s1_10 s1_11 s1_12 s1_13 : Int) (w : World) (w0_0 : (Lit.int .i64 s0_0).wf = true) (w0_1 : (Lit.int .i64 s0_1).wf = true) (w0_2 : (Lit.int .i64 s0_2).wf = true) (w0_3 : (Lit.int .i64 s0_3).wf = true) (w0_4 : (Lit.int .u16 s0_4).wf = true) (w0_5 : (Lit.int .u16 s0_5).wf = true) (w0_6 : (Lit.int .i64 s0_6).wf = true) (w0_7 : (Lit.int .i64 s0_7).wf = true) (w0_8 : (Lit.int .i64 s0_8).wf = true) (w0_9 : (Lit.int .i64 s0_9).wf = true) (w0_10 : (Lit.int .i64 s0_10).wf = true) (w0_11 : (Lit.int .i64 s0_11).wf = true) (w0_12 : (Lit.int .i64 s0_12).wf = true) (w0_13 : (Lit.int .i64 s0_13).wf = true) (w1_0 : (Lit.int .i64 s1_0).wf = true) (w1_1 : (Lit.int .i64 s1_1).wf = true) (w1_2 : (Lit.int .i64 s1_2).wf = true) (w1_3 : (Lit.int .i64 s1_3).wf = true) (w1_4 : (Lit.int .u16 s1_4).wf = true) (w1_5 : (Lit.int .u16 s1_5).wf = true) (w1_6 : (Lit.int .i64 s1_6).wf = true) (w1_7 : (Lit.int .i64 s1_7).wf = true) (w1_8 : (Lit.int .i64 s1_8).wf = true) (w1_9 : (Lit.int .i64 s1_9).wf = true) (w1_10 : (Lit.int .i64 s1_10).wf = true) (w1_11 : (Lit.int .i64 s1_11).wf = true) (w1_12 : (Lit.int .i64 s1_12).wf = true) (w1_13 : (Lit.int .i64 s1_13).wf = true) (hfp : ¬ (∃ f, (⟨s0_0, s0_1, s0_2, s0_3, s0_4, s0_5, s0_6, s0_7, s0_8, s0_9, s0_10, s0_11, s0_12, s0_13⟩ : Pl).fr = some f ∧ f.good = true)) (hfq : (∃ f, (⟨s1_0, s1_1, s1_2, s1_3, s1_4, s1_5, s1_6, s1_7, s1_8, s1_9, s1_10, s1_11, s1_12, s1_13⟩ : Pl).fr = some f ∧ f.good = true)) :
    Calls Try.prog 7 #[.agg #[.int .i64 s0_0, .int .i64 s0_1, .int .i64 s0_2, .int .i64 s0_3, .int .u16 s0_4, .int .u16 s0_5, .int .i64 s0_6, .int .i64 s0_7, .int .i64 s0_8, .int .i64 s0_9, .int .i64 s0_10, .int .i64 s0_11, .int .i64 s0_12, .int .i64 s0_13], .agg #[.int .i64 s1_0, .int .i64 s1_1, .int .i64 s1_2, .int .i64 s1_3, .int .u16 s1_4, .int .u16 s1_5, .int .i64 s1_6, .int .i64 s1_7, .int .i64 s1_8, .int .i64 s1_9, .int .i64 s1_10, .int .i64 s1_11, .int .i64 s1_12, .int .i64 s1_13]] w fun e w' => e = .returned (.bool true) ∧ Below w.heap.size w w' := by
  have hp : (⟨s0_0, s0_1, s0_2, s0_3, s0_4, s0_5, s0_6, s0_7, s0_8, s0_9, s0_10, s0_11, s0_12, s0_13⟩ : Pl).wf := ⟨fits_wf w0_0, fits_wf w0_1, fits_wf w0_2, fits_wf w0_3, f16_wf w0_4, f16_wf w0_5, fits_wf w0_6, fits_wf w0_7, fits_wf w0_8, fits_wf w0_9, fits_wf w0_10, fits_wf w0_11, fits_wf w0_12, fits_wf w0_13⟩
  have hofp := fun W => lawof_any (⟨s0_0, s0_1, s0_2, s0_3, s0_4, s0_5, s0_6, s0_7, s0_8, s0_9, s0_10, s0_11, s0_12, s0_13⟩ : Pl) W
  simp only [Pl.val] at hofp
  have hq : (⟨s1_0, s1_1, s1_2, s1_3, s1_4, s1_5, s1_6, s1_7, s1_8, s1_9, s1_10, s1_11, s1_12, s1_13⟩ : Pl).wf := ⟨fits_wf w1_0, fits_wf w1_1, fits_wf w1_2, fits_wf w1_3, f16_wf w1_4, f16_wf w1_5, fits_wf w1_6, fits_wf w1_7, fits_wf w1_8, fits_wf w1_9, fits_wf w1_10, fits_wf w1_11, fits_wf w1_12, fits_wf w1_13⟩
  have hofq := fun W => lawof_any (⟨s1_0, s1_1, s1_2, s1_3, s1_4, s1_5, s1_6, s1_7, s1_8, s1_9, s1_10, s1_11, s1_12, s1_13⟩ : Pl) W
  simp only [Pl.val] at hofq
  have HBOX := Lib.hid (Holds.alloc (Holds.new w 24 #[.int .i64 s0_0, .int .i64 s0_1, .int .i64 s0_2, .int .i64 s0_3, .int .u16 s0_4, .int .u16 s0_5, .int .i64 s0_6, .int .i64 s0_7, .int .i64 s0_8, .int .i64 s0_9, .int .i64 s0_10, .int .i64 s0_11, .int .i64 s0_12, .int .i64 s0_13]) (.cells #[.int .i64 s1_0, .int .i64 s1_1, .int .i64 s1_2, .int .i64 s1_3, .int .u16 s1_4, .int .u16 s1_5, .int .i64 s1_6, .int .i64 s1_7, .int .i64 s1_8, .int .i64 s1_9, .int .i64 s1_10, .int .i64 s1_11, .int .i64 s1_12, .int .i64 s1_13] 24))
  have HBOY := Lib.hid (show Holds ((w.alloc (.cells #[.int .i64 s0_0, .int .i64 s0_1, .int .i64 s0_2, .int .i64 s0_3, .int .u16 s0_4, .int .u16 s0_5, .int .i64 s0_6, .int .i64 s0_7, .int .i64 s0_8, .int .i64 s0_9, .int .i64 s0_10, .int .i64 s0_11, .int .i64 s0_12, .int .i64 s0_13] 24)).alloc (.cells #[.int .i64 s1_0, .int .i64 s1_1, .int .i64 s1_2, .int .i64 s1_3, .int .u16 s1_4, .int .u16 s1_5, .int .i64 s1_6, .int .i64 s1_7, .int .i64 s1_8, .int .i64 s1_9, .int .i64 s1_10, .int .i64 s1_11, .int .i64 s1_12, .int .i64 s1_13] 24)) (w.heap.size + 1) 24 #[.int .i64 s1_0, .int .i64 s1_1, .int .i64 s1_2, .int .i64 s1_3, .int .u16 s1_4, .int .u16 s1_5, .int .i64 s1_6, .int .i64 s1_7, .int .i64 s1_8, .int .i64 s1_9, .int .i64 s1_10, .int .i64 s1_11, .int .i64 s1_12, .int .i64 s1_13] by
    have h := Holds.new (w.alloc (.cells #[.int .i64 s0_0, .int .i64 s0_1, .int .i64 s0_2, .int .i64 s0_3, .int .u16 s0_4, .int .u16 s0_5, .int .i64 s0_6, .int .i64 s0_7, .int .i64 s0_8, .int .i64 s0_9, .int .i64 s0_10, .int .i64 s0_11, .int .i64 s0_12, .int .i64 s0_13] 24)) 24 #[.int .i64 s1_0, .int .i64 s1_1, .int .i64 s1_2, .int .i64 s1_3, .int .u16 s1_4, .int .u16 s1_5, .int .i64 s1_6, .int .i64 s1_7, .int .i64 s1_8, .int .i64 s1_9, .int .i64 s1_10, .int .i64 s1_11, .int .i64 s1_12, .int .i64 s1_13]
    rw [size_alloc] at h
    exact h)
  have HB0 := Lib.hid (below_on (below_alloc w (.cells #[.int .i64 s0_0, .int .i64 s0_1, .int .i64 s0_2, .int .i64 s0_3, .int .u16 s0_4, .int .u16 s0_5, .int .i64 s0_6, .int .i64 s0_7, .int .i64 s0_8, .int .i64 s0_9, .int .i64 s0_10, .int .i64 s0_11, .int .i64 s0_12, .int .i64 s0_13] 24)) (below_alloc _ (.cells #[.int .i64 s1_0, .int .i64 s1_1, .int .i64 s1_2, .int .i64 s1_3, .int .u16 s1_4, .int .u16 s1_5, .int .i64 s1_6, .int .i64 s1_7, .int .i64 s1_8, .int .i64 s1_9, .int .i64 s1_10, .int .i64 s1_11, .int .i64 s1_12, .int .i64 s1_13] 24)))
  have hgep := enc_no (⟨s0_0, s0_1, s0_2, s0_3, s0_4, s0_5, s0_6, s0_7, s0_8, s0_9, s0_10, s0_11, s0_12, s0_13⟩ : Pl) hp hfp
  have hcanp := canBe_no hfp
  obtain ⟨v, hvp⟩ : ∃ v, frVal ((⟨s0_0, s0_1, s0_2, s0_3, s0_4, s0_5, s0_6, s0_7, s0_8, s0_9, s0_10, s0_11, s0_12, s0_13⟩ : Pl)).fr = v := ⟨_, rfl⟩
  have hofv : ∀ W, Calls Try.prog 10 #[.agg #[.int .i64 s0_0, .int .i64 s0_1, .int .i64 s0_2, .int .i64 s0_3, .int .u16 s0_4, .int .u16 s0_5, .int .i64 s0_6, .int .i64 s0_7, .int .i64 s0_8, .int .i64 s0_9, .int .i64 s0_10, .int .i64 s0_11, .int .i64 s0_12, .int .i64 s0_13]] W fun e w' => e = .returned v ∧ Below W.heap.size W w' := fun W => by rw [← hvp]; exact hofp W
  rw [hvp] at hgep
  obtain ⟨g, hfrq, hgq⟩ := hfq
  have hgeq := fun W => encode_sealed g W hgq
  have hswq := g.sealed_wf
  obtain ⟨zq, hzq⟩ : ∃ z, g.sealed = z := ⟨_, rfl⟩
  rw [hzq] at hswq
  simp only [hzq] at hgeq
  obtain ⟨mq, hmq⟩ : ∃ m, zq.length = m := ⟨_, rfl⟩
  simp only [hmq] at hgeq
  have HWq := Lib.hid hswq
  have HZq := Lib.hid hzq
  have hcanq := canBe_yes hfrq hgq
  have honq := fun W => only_any (⟨s1_0, s1_1, s1_2, s1_3, s1_4, s1_5, s1_6, s1_7, s1_8, s1_9, s1_10, s1_11, s1_12, s1_13⟩ : Pl) W
  rw [Pl.only_kind hfrq] at honq
  obtain ⟨u, hvq⟩ : ∃ v, g.val = v := ⟨_, rfl⟩
  rw [hfrq] at hofq
  have hofu : ∀ W, Calls Try.prog 10 #[.agg #[.int .i64 s1_0, .int .i64 s1_1, .int .i64 s1_2, .int .i64 s1_3, .int .u16 s1_4, .int .u16 s1_5, .int .i64 s1_6, .int .i64 s1_7, .int .i64 s1_8, .int .i64 s1_9, .int .i64 s1_10, .int .i64 s1_11, .int .i64 s1_12, .int .i64 s1_13]] W fun e w' => e = .returned u ∧ Below W.heap.size W w' := fun W => by rw [← hvq]; exact hofq W
  simp only [hvq] at hgeq
  have hgp : ∀ W, Calls Try.prog 13 #[.agg #[.int .i64 s0_0, .int .i64 s0_1, .int .i64 s0_2, .int .i64 s0_3, .int .u16 s0_4, .int .u16 s0_5, .int .i64 s0_6, .int .i64 s0_7, .int .i64 s0_8, .int .i64 s0_9, .int .i64 s0_10, .int .i64 s0_11, .int .i64 s0_12, .int .i64 s0_13]] W (Told (.bool ((⟨s0_0, s0_1, s0_2, s0_3, s0_4, s0_5, s0_6, s0_7, s0_8, s0_9, s0_10, s0_11, s0_12, s0_13⟩ : Pl)).canBe) W) := fun W => rgood_any (⟨s0_0, s0_1, s0_2, s0_3, s0_4, s0_5, s0_6, s0_7, s0_8, s0_9, s0_10, s0_11, s0_12, s0_13⟩ : Pl) W hp
  have hgq : ∀ W, Calls Try.prog 13 #[.agg #[.int .i64 s1_0, .int .i64 s1_1, .int .i64 s1_2, .int .i64 s1_3, .int .u16 s1_4, .int .u16 s1_5, .int .i64 s1_6, .int .i64 s1_7, .int .i64 s1_8, .int .i64 s1_9, .int .i64 s1_10, .int .i64 s1_11, .int .i64 s1_12, .int .i64 s1_13]] W (Told (.bool ((⟨s1_0, s1_1, s1_2, s1_3, s1_4, s1_5, s1_6, s1_7, s1_8, s1_9, s1_10, s1_11, s1_12, s1_13⟩ : Pl)).canBe) W) := fun W => rgood_any (⟨s1_0, s1_1, s1_2, s1_3, s1_4, s1_5, s1_6, s1_7, s1_8, s1_9, s1_10, s1_11, s1_12, s1_13⟩ : Pl) W hq
  simp only [hcanp] at hgp
  simp only [hcanq] at hgq
  clear w0_0 w0_1 w0_2 w0_3 w0_4 w0_5 w0_6 w0_7 w0_8 w0_9 w0_10 w0_11 w0_12 w0_13 w1_0 w1_1 w1_2 w1_3 w1_4 w1_5 w1_6 w1_7 w1_8 w1_9 w1_10 w1_11 w1_12 w1_13 hofp hofq hp hq hvp hvq hcanp hcanq
  go_enter Try.func7, Try.ntmps7
  go_wp2_with (first
    | (go_at_call 9; (with_reducible refine (alive_yes _).mono ?_); rintro e w1 ⟨rfl, hb1⟩; have HB1 := Lib.hid (below_on HB0.out hb1); have HX1 := Lib.hid (HBOX.out.below hb1 HBOX.out.lt); have HY1 := Lib.hid (HBOY.out.below hb1 HBOY.out.lt); have HC := Lib.hid (plain_cells HX1.out); obtain ⟨k0, k1, k2, k3, k4, k5, k6, k7, k8, k9, k10, k11, k12, k13⟩ := HC.out)
    | (go_at_call 10; (with_reducible refine (hofv _).mono ?_); rintro e w2 ⟨rfl, hb2⟩; have HB2 := Lib.hid (below_on HB1.out hb2); have HX2 := Lib.hid (HX1.out.below hb2 HX1.out.lt); have HY2 := Lib.hid (HY1.out.below hb2 HY1.out.lt); clear k0 k1 k2 k3 k4 k5 k6 k7 k8 k9 k10 k11 k12 k13)
    | (go_at_call 11; (with_reducible refine (hgep _).mono ?_); rintro e w3 ⟨rfl, hb3⟩; have HB3 := Lib.hid (below_on HB2.out hb3); have HX3 := Lib.hid (HX2.out.below hb3 HX2.out.lt); have HY3 := Lib.hid (HY2.out.below hb3 HY2.out.lt); obtain ⟨j0, j1, j2, j3, j4, j5, j6, j7, j8, j9, j10, j11, j12, j13⟩ := plain_cells HY3.out)
    | (go_at_call 10; (with_reducible refine (hofu _).mono ?_); rintro e w4 ⟨rfl, hb4⟩; have HB4 := Lib.hid (below_on HB3.out hb4); have HX4 := Lib.hid (HX3.out.below hb4 HX3.out.lt); have HY4 := Lib.hid (HY3.out.below hb4 HY3.out.lt); clear j0 j1 j2 j3 j4 j5 j6 j7 j8 j9 j10 j11 j12 j13)
    | (go_at_call 11; (with_reducible refine (hgeq _).mono ?_); rintro e w5 ⟨A5, c5, rfl, ho5, hb5⟩; have HR5 := Lib.hid (IntRow.of_own ho5 HWq.out); clear ho5; have HB5 := Lib.hid (below_on HB4.out hb5); have HX5 := Lib.hid (HX4.out.below hb5 HX4.out.lt); have HY5 := Lib.hid (HY4.out.below hb5 HY4.out.lt); obtain ⟨k0, k1, k2, k3, k4, k5, k6, k7, k8, k9, k10, k11, k12, k13⟩ := plain_cells HX5.out)
    | (go_at_call 13; (with_reducible refine (hgp _).mono ?_); rintro e w6 ⟨rfl, hb6⟩; have HB6 := Lib.hid (below_on HB5.out hb6); have HX6 := Lib.hid (HX5.out.below hb6 HX5.out.lt); have HY6 := Lib.hid (HY5.out.below hb6 HY5.out.lt); obtain ⟨j0, j1, j2, j3, j4, j5, j6, j7, j8, j9, j10, j11, j12, j13⟩ := plain_cells HY6.out)
    | (go_at_call 13; (with_reducible refine (hgq _).mono ?_); rintro e w7 ⟨rfl, hb7⟩; have HB7 := Lib.hid (below_on HB6.out hb7)))
  go_ret
  exact ⟨rfl, HB6.out⟩

set_option linter.unusedSimpArgs false in
set_option maxHeartbeats 8000000 in
set_option maxRecDepth 100000 in
theorem part_00 (s0_0 s0_1 s0_2 s0_3 s0_4 s0_5 s0_6 s0_7 s0_8 s0_9 s0_10 s0_11 s0_12 s0_13 : Int) (s1_0 s1_1 s1_2 s1_3 s1_4 s1_5 s1_6 s1_7 s1_8 s1_9 s1_10 s1_11 s1_12 s1_13 : Int) (w : World) (w0_0 : (Lit.int .i64 s0_0).wf = true) (w0_1 : (Lit.int .i64 s0_1).wf = true) (w0_2 : (Lit.int .i64 s0_2).wf = true) (w0_3 : (Lit.int .i64 s0_3).wf = true) (w0_4 : (Lit.int .u16 s0_4).wf = true) (w0_5 : (Lit.int .u16 s0_5).wf = true) (w0_6 : (Lit.int .i64 s0_6).wf = true) (w0_7 : (Lit.int .i64 s0_7).wf = true) (w0_8 : (Lit.int .i64 s0_8).wf = true) (w0_9 : (Lit.int .i64 s0_9).wf = true) (w0_10 : (Lit.int .i64 s0_10).wf = true) (w0_11 : (Lit.int .i64 s0_11).wf = true) (w0_12 : (Lit.int .i64 s0_12).wf = true) (w0_13 : (Lit.int .i64 s0_13).wf = true) (w1_0 : (Lit.int .i64 s1_0).wf = true) (w1_1 : (Lit.int .i64 s1_1).wf = true) (w1_2 : (Lit.int .i64 s1_2).wf = true) (w1_3 : (Lit.int .i64 s1_3).wf = true) (w1_4 : (Lit.int .u16 s1_4).wf = true) (w1_5 : (Lit.int .u16 s1_5).wf = true) (w1_6 : (Lit.int .i64 s1_6).wf = true) (w1_7 : (Lit.int .i64 s1_7).wf = true) (w1_8 : (Lit.int .i64 s1_8).wf = true) (w1_9 : (Lit.int .i64 s1_9).wf = true) (w1_10 : (Lit.int .i64 s1_10).wf = true) (w1_11 : (Lit.int .i64 s1_11).wf = true) (w1_12 : (Lit.int .i64 s1_12).wf = true) (w1_13 : (Lit.int .i64 s1_13).wf = true) (hfp : ¬ (∃ f, (⟨s0_0, s0_1, s0_2, s0_3, s0_4, s0_5, s0_6, s0_7, s0_8, s0_9, s0_10, s0_11, s0_12, s0_13⟩ : Pl).fr = some f ∧ f.good = true)) (hfq : ¬ (∃ f, (⟨s1_0, s1_1, s1_2, s1_3, s1_4, s1_5, s1_6, s1_7, s1_8, s1_9, s1_10, s1_11, s1_12, s1_13⟩ : Pl).fr = some f ∧ f.good = true)) :
    Calls Try.prog 7 #[.agg #[.int .i64 s0_0, .int .i64 s0_1, .int .i64 s0_2, .int .i64 s0_3, .int .u16 s0_4, .int .u16 s0_5, .int .i64 s0_6, .int .i64 s0_7, .int .i64 s0_8, .int .i64 s0_9, .int .i64 s0_10, .int .i64 s0_11, .int .i64 s0_12, .int .i64 s0_13], .agg #[.int .i64 s1_0, .int .i64 s1_1, .int .i64 s1_2, .int .i64 s1_3, .int .u16 s1_4, .int .u16 s1_5, .int .i64 s1_6, .int .i64 s1_7, .int .i64 s1_8, .int .i64 s1_9, .int .i64 s1_10, .int .i64 s1_11, .int .i64 s1_12, .int .i64 s1_13]] w fun e w' => e = .returned (.bool true) ∧ Below w.heap.size w w' := by
  have hp : (⟨s0_0, s0_1, s0_2, s0_3, s0_4, s0_5, s0_6, s0_7, s0_8, s0_9, s0_10, s0_11, s0_12, s0_13⟩ : Pl).wf := ⟨fits_wf w0_0, fits_wf w0_1, fits_wf w0_2, fits_wf w0_3, f16_wf w0_4, f16_wf w0_5, fits_wf w0_6, fits_wf w0_7, fits_wf w0_8, fits_wf w0_9, fits_wf w0_10, fits_wf w0_11, fits_wf w0_12, fits_wf w0_13⟩
  have hofp := fun W => lawof_any (⟨s0_0, s0_1, s0_2, s0_3, s0_4, s0_5, s0_6, s0_7, s0_8, s0_9, s0_10, s0_11, s0_12, s0_13⟩ : Pl) W
  simp only [Pl.val] at hofp
  have hq : (⟨s1_0, s1_1, s1_2, s1_3, s1_4, s1_5, s1_6, s1_7, s1_8, s1_9, s1_10, s1_11, s1_12, s1_13⟩ : Pl).wf := ⟨fits_wf w1_0, fits_wf w1_1, fits_wf w1_2, fits_wf w1_3, f16_wf w1_4, f16_wf w1_5, fits_wf w1_6, fits_wf w1_7, fits_wf w1_8, fits_wf w1_9, fits_wf w1_10, fits_wf w1_11, fits_wf w1_12, fits_wf w1_13⟩
  have hofq := fun W => lawof_any (⟨s1_0, s1_1, s1_2, s1_3, s1_4, s1_5, s1_6, s1_7, s1_8, s1_9, s1_10, s1_11, s1_12, s1_13⟩ : Pl) W
  simp only [Pl.val] at hofq
  have HBOX := Lib.hid (Holds.alloc (Holds.new w 24 #[.int .i64 s0_0, .int .i64 s0_1, .int .i64 s0_2, .int .i64 s0_3, .int .u16 s0_4, .int .u16 s0_5, .int .i64 s0_6, .int .i64 s0_7, .int .i64 s0_8, .int .i64 s0_9, .int .i64 s0_10, .int .i64 s0_11, .int .i64 s0_12, .int .i64 s0_13]) (.cells #[.int .i64 s1_0, .int .i64 s1_1, .int .i64 s1_2, .int .i64 s1_3, .int .u16 s1_4, .int .u16 s1_5, .int .i64 s1_6, .int .i64 s1_7, .int .i64 s1_8, .int .i64 s1_9, .int .i64 s1_10, .int .i64 s1_11, .int .i64 s1_12, .int .i64 s1_13] 24))
  have HBOY := Lib.hid (show Holds ((w.alloc (.cells #[.int .i64 s0_0, .int .i64 s0_1, .int .i64 s0_2, .int .i64 s0_3, .int .u16 s0_4, .int .u16 s0_5, .int .i64 s0_6, .int .i64 s0_7, .int .i64 s0_8, .int .i64 s0_9, .int .i64 s0_10, .int .i64 s0_11, .int .i64 s0_12, .int .i64 s0_13] 24)).alloc (.cells #[.int .i64 s1_0, .int .i64 s1_1, .int .i64 s1_2, .int .i64 s1_3, .int .u16 s1_4, .int .u16 s1_5, .int .i64 s1_6, .int .i64 s1_7, .int .i64 s1_8, .int .i64 s1_9, .int .i64 s1_10, .int .i64 s1_11, .int .i64 s1_12, .int .i64 s1_13] 24)) (w.heap.size + 1) 24 #[.int .i64 s1_0, .int .i64 s1_1, .int .i64 s1_2, .int .i64 s1_3, .int .u16 s1_4, .int .u16 s1_5, .int .i64 s1_6, .int .i64 s1_7, .int .i64 s1_8, .int .i64 s1_9, .int .i64 s1_10, .int .i64 s1_11, .int .i64 s1_12, .int .i64 s1_13] by
    have h := Holds.new (w.alloc (.cells #[.int .i64 s0_0, .int .i64 s0_1, .int .i64 s0_2, .int .i64 s0_3, .int .u16 s0_4, .int .u16 s0_5, .int .i64 s0_6, .int .i64 s0_7, .int .i64 s0_8, .int .i64 s0_9, .int .i64 s0_10, .int .i64 s0_11, .int .i64 s0_12, .int .i64 s0_13] 24)) 24 #[.int .i64 s1_0, .int .i64 s1_1, .int .i64 s1_2, .int .i64 s1_3, .int .u16 s1_4, .int .u16 s1_5, .int .i64 s1_6, .int .i64 s1_7, .int .i64 s1_8, .int .i64 s1_9, .int .i64 s1_10, .int .i64 s1_11, .int .i64 s1_12, .int .i64 s1_13]
    rw [size_alloc] at h
    exact h)
  have HB0 := Lib.hid (below_on (below_alloc w (.cells #[.int .i64 s0_0, .int .i64 s0_1, .int .i64 s0_2, .int .i64 s0_3, .int .u16 s0_4, .int .u16 s0_5, .int .i64 s0_6, .int .i64 s0_7, .int .i64 s0_8, .int .i64 s0_9, .int .i64 s0_10, .int .i64 s0_11, .int .i64 s0_12, .int .i64 s0_13] 24)) (below_alloc _ (.cells #[.int .i64 s1_0, .int .i64 s1_1, .int .i64 s1_2, .int .i64 s1_3, .int .u16 s1_4, .int .u16 s1_5, .int .i64 s1_6, .int .i64 s1_7, .int .i64 s1_8, .int .i64 s1_9, .int .i64 s1_10, .int .i64 s1_11, .int .i64 s1_12, .int .i64 s1_13] 24)))
  have hgep := enc_no (⟨s0_0, s0_1, s0_2, s0_3, s0_4, s0_5, s0_6, s0_7, s0_8, s0_9, s0_10, s0_11, s0_12, s0_13⟩ : Pl) hp hfp
  have hcanp := canBe_no hfp
  obtain ⟨v, hvp⟩ : ∃ v, frVal ((⟨s0_0, s0_1, s0_2, s0_3, s0_4, s0_5, s0_6, s0_7, s0_8, s0_9, s0_10, s0_11, s0_12, s0_13⟩ : Pl)).fr = v := ⟨_, rfl⟩
  have hofv : ∀ W, Calls Try.prog 10 #[.agg #[.int .i64 s0_0, .int .i64 s0_1, .int .i64 s0_2, .int .i64 s0_3, .int .u16 s0_4, .int .u16 s0_5, .int .i64 s0_6, .int .i64 s0_7, .int .i64 s0_8, .int .i64 s0_9, .int .i64 s0_10, .int .i64 s0_11, .int .i64 s0_12, .int .i64 s0_13]] W fun e w' => e = .returned v ∧ Below W.heap.size W w' := fun W => by rw [← hvp]; exact hofp W
  rw [hvp] at hgep
  have hgeq := enc_no (⟨s1_0, s1_1, s1_2, s1_3, s1_4, s1_5, s1_6, s1_7, s1_8, s1_9, s1_10, s1_11, s1_12, s1_13⟩ : Pl) hq hfq
  have hcanq := canBe_no hfq
  obtain ⟨u, hvq⟩ : ∃ v, frVal ((⟨s1_0, s1_1, s1_2, s1_3, s1_4, s1_5, s1_6, s1_7, s1_8, s1_9, s1_10, s1_11, s1_12, s1_13⟩ : Pl)).fr = v := ⟨_, rfl⟩
  have hofu : ∀ W, Calls Try.prog 10 #[.agg #[.int .i64 s1_0, .int .i64 s1_1, .int .i64 s1_2, .int .i64 s1_3, .int .u16 s1_4, .int .u16 s1_5, .int .i64 s1_6, .int .i64 s1_7, .int .i64 s1_8, .int .i64 s1_9, .int .i64 s1_10, .int .i64 s1_11, .int .i64 s1_12, .int .i64 s1_13]] W fun e w' => e = .returned u ∧ Below W.heap.size W w' := fun W => by rw [← hvq]; exact hofq W
  rw [hvq] at hgeq
  have hgp : ∀ W, Calls Try.prog 13 #[.agg #[.int .i64 s0_0, .int .i64 s0_1, .int .i64 s0_2, .int .i64 s0_3, .int .u16 s0_4, .int .u16 s0_5, .int .i64 s0_6, .int .i64 s0_7, .int .i64 s0_8, .int .i64 s0_9, .int .i64 s0_10, .int .i64 s0_11, .int .i64 s0_12, .int .i64 s0_13]] W (Told (.bool ((⟨s0_0, s0_1, s0_2, s0_3, s0_4, s0_5, s0_6, s0_7, s0_8, s0_9, s0_10, s0_11, s0_12, s0_13⟩ : Pl)).canBe) W) := fun W => rgood_any (⟨s0_0, s0_1, s0_2, s0_3, s0_4, s0_5, s0_6, s0_7, s0_8, s0_9, s0_10, s0_11, s0_12, s0_13⟩ : Pl) W hp
  have hgq : ∀ W, Calls Try.prog 13 #[.agg #[.int .i64 s1_0, .int .i64 s1_1, .int .i64 s1_2, .int .i64 s1_3, .int .u16 s1_4, .int .u16 s1_5, .int .i64 s1_6, .int .i64 s1_7, .int .i64 s1_8, .int .i64 s1_9, .int .i64 s1_10, .int .i64 s1_11, .int .i64 s1_12, .int .i64 s1_13]] W (Told (.bool ((⟨s1_0, s1_1, s1_2, s1_3, s1_4, s1_5, s1_6, s1_7, s1_8, s1_9, s1_10, s1_11, s1_12, s1_13⟩ : Pl)).canBe) W) := fun W => rgood_any (⟨s1_0, s1_1, s1_2, s1_3, s1_4, s1_5, s1_6, s1_7, s1_8, s1_9, s1_10, s1_11, s1_12, s1_13⟩ : Pl) W hq
  simp only [hcanp] at hgp
  simp only [hcanq] at hgq
  clear w0_0 w0_1 w0_2 w0_3 w0_4 w0_5 w0_6 w0_7 w0_8 w0_9 w0_10 w0_11 w0_12 w0_13 w1_0 w1_1 w1_2 w1_3 w1_4 w1_5 w1_6 w1_7 w1_8 w1_9 w1_10 w1_11 w1_12 w1_13 hofp hofq hp hq hvp hvq hcanp hcanq
  go_enter Try.func7, Try.ntmps7
  go_wp2_with (first
    | (go_at_call 9; (with_reducible refine (alive_yes _).mono ?_); rintro e w1 ⟨rfl, hb1⟩; have HB1 := Lib.hid (below_on HB0.out hb1); have HX1 := Lib.hid (HBOX.out.below hb1 HBOX.out.lt); have HY1 := Lib.hid (HBOY.out.below hb1 HBOY.out.lt); have HC := Lib.hid (plain_cells HX1.out); obtain ⟨k0, k1, k2, k3, k4, k5, k6, k7, k8, k9, k10, k11, k12, k13⟩ := HC.out)
    | (go_at_call 10; (with_reducible refine (hofv _).mono ?_); rintro e w2 ⟨rfl, hb2⟩; have HB2 := Lib.hid (below_on HB1.out hb2); have HX2 := Lib.hid (HX1.out.below hb2 HX1.out.lt); have HY2 := Lib.hid (HY1.out.below hb2 HY1.out.lt); clear k0 k1 k2 k3 k4 k5 k6 k7 k8 k9 k10 k11 k12 k13)
    | (go_at_call 11; (with_reducible refine (hgep _).mono ?_); rintro e w3 ⟨rfl, hb3⟩; have HB3 := Lib.hid (below_on HB2.out hb3); have HX3 := Lib.hid (HX2.out.below hb3 HX2.out.lt); have HY3 := Lib.hid (HY2.out.below hb3 HY2.out.lt); obtain ⟨j0, j1, j2, j3, j4, j5, j6, j7, j8, j9, j10, j11, j12, j13⟩ := plain_cells HY3.out)
    | (go_at_call 10; (with_reducible refine (hofu _).mono ?_); rintro e w4 ⟨rfl, hb4⟩; have HB4 := Lib.hid (below_on HB3.out hb4); have HX4 := Lib.hid (HX3.out.below hb4 HX3.out.lt); have HY4 := Lib.hid (HY3.out.below hb4 HY3.out.lt); clear j0 j1 j2 j3 j4 j5 j6 j7 j8 j9 j10 j11 j12 j13)
    | (go_at_call 11; (with_reducible refine (hgeq _).mono ?_); rintro e w5 ⟨rfl, hb5⟩; have HB5 := Lib.hid (below_on HB4.out hb5); have HX5 := Lib.hid (HX4.out.below hb5 HX4.out.lt); have HY5 := Lib.hid (HY4.out.below hb5 HY4.out.lt); obtain ⟨k0, k1, k2, k3, k4, k5, k6, k7, k8, k9, k10, k11, k12, k13⟩ := plain_cells HX5.out)
    | (go_at_call 13; (with_reducible refine (hgp _).mono ?_); rintro e w6 ⟨rfl, hb6⟩; have HB6 := Lib.hid (below_on HB5.out hb6); have HX6 := Lib.hid (HX5.out.below hb6 HX5.out.lt); have HY6 := Lib.hid (HY5.out.below hb6 HY5.out.lt); obtain ⟨j0, j1, j2, j3, j4, j5, j6, j7, j8, j9, j10, j11, j12, j13⟩ := plain_cells HY6.out)
    | (go_at_call 13; (with_reducible refine (hgq _).mono ?_); rintro e w7 ⟨rfl, hb7⟩; have HB7 := Lib.hid (below_on HB6.out hb7)))
  go_ret
  exact ⟨rfl, HB6.out⟩

set_option linter.unusedSimpArgs false in
set_option maxHeartbeats 8000000 in
set_option maxRecDepth 100000 in
theorem walk (s0_0 s0_1 s0_2 s0_3 s0_4 s0_5 s0_6 s0_7 s0_8 s0_9 s0_10 s0_11 s0_12 s0_13 : Int) (s1_0 s1_1 s1_2 s1_3 s1_4 s1_5 s1_6 s1_7 s1_8 s1_9 s1_10 s1_11 s1_12 s1_13 : Int) (w : World) (w0_0 : (Lit.int .i64 s0_0).wf = true) (w0_1 : (Lit.int .i64 s0_1).wf = true) (w0_2 : (Lit.int .i64 s0_2).wf = true) (w0_3 : (Lit.int .i64 s0_3).wf = true) (w0_4 : (Lit.int .u16 s0_4).wf = true) (w0_5 : (Lit.int .u16 s0_5).wf = true) (w0_6 : (Lit.int .i64 s0_6).wf = true) (w0_7 : (Lit.int .i64 s0_7).wf = true) (w0_8 : (Lit.int .i64 s0_8).wf = true) (w0_9 : (Lit.int .i64 s0_9).wf = true) (w0_10 : (Lit.int .i64 s0_10).wf = true) (w0_11 : (Lit.int .i64 s0_11).wf = true) (w0_12 : (Lit.int .i64 s0_12).wf = true) (w0_13 : (Lit.int .i64 s0_13).wf = true) (w1_0 : (Lit.int .i64 s1_0).wf = true) (w1_1 : (Lit.int .i64 s1_1).wf = true) (w1_2 : (Lit.int .i64 s1_2).wf = true) (w1_3 : (Lit.int .i64 s1_3).wf = true) (w1_4 : (Lit.int .u16 s1_4).wf = true) (w1_5 : (Lit.int .u16 s1_5).wf = true) (w1_6 : (Lit.int .i64 s1_6).wf = true) (w1_7 : (Lit.int .i64 s1_7).wf = true) (w1_8 : (Lit.int .i64 s1_8).wf = true) (w1_9 : (Lit.int .i64 s1_9).wf = true) (w1_10 : (Lit.int .i64 s1_10).wf = true) (w1_11 : (Lit.int .i64 s1_11).wf = true) (w1_12 : (Lit.int .i64 s1_12).wf = true) (w1_13 : (Lit.int .i64 s1_13).wf = true) :
    Calls Try.prog 7 #[.agg #[.int .i64 s0_0, .int .i64 s0_1, .int .i64 s0_2, .int .i64 s0_3, .int .u16 s0_4, .int .u16 s0_5, .int .i64 s0_6, .int .i64 s0_7, .int .i64 s0_8, .int .i64 s0_9, .int .i64 s0_10, .int .i64 s0_11, .int .i64 s0_12, .int .i64 s0_13], .agg #[.int .i64 s1_0, .int .i64 s1_1, .int .i64 s1_2, .int .i64 s1_3, .int .u16 s1_4, .int .u16 s1_5, .int .i64 s1_6, .int .i64 s1_7, .int .i64 s1_8, .int .i64 s1_9, .int .i64 s1_10, .int .i64 s1_11, .int .i64 s1_12, .int .i64 s1_13]] w fun e w' => e = .returned (.bool true) ∧ Below w.heap.size w w' := by
  by_cases hfp : (∃ f, (⟨s0_0, s0_1, s0_2, s0_3, s0_4, s0_5, s0_6, s0_7, s0_8, s0_9, s0_10, s0_11, s0_12, s0_13⟩ : Pl).fr = some f ∧ f.good = true)
  · by_cases hfq : (∃ f, (⟨s1_0, s1_1, s1_2, s1_3, s1_4, s1_5, s1_6, s1_7, s1_8, s1_9, s1_10, s1_11, s1_12, s1_13⟩ : Pl).fr = some f ∧ f.good = true)
    · by_cases hs : (⟨s0_0, s0_1, s0_2, s0_3, s0_4, s0_5, s0_6, s0_7, s0_8, s0_9, s0_10, s0_11, s0_12, s0_13⟩ : Pl).fr = (⟨s1_0, s1_1, s1_2, s1_3, s1_4, s1_5, s1_6, s1_7, s1_8, s1_9, s1_10, s1_11, s1_12, s1_13⟩ : Pl).fr
      · exact both_same s0_0 s0_1 s0_2 s0_3 s0_4 s0_5 s0_6 s0_7 s0_8 s0_9 s0_10 s0_11 s0_12 s0_13 s1_0 s1_1 s1_2 s1_3 s1_4 s1_5 s1_6 s1_7 s1_8 s1_9 s1_10 s1_11 s1_12 s1_13 w w0_0 w0_1 w0_2 w0_3 w0_4 w0_5 w0_6 w0_7 w0_8 w0_9 w0_10 w0_11 w0_12 w0_13 w1_0 w1_1 w1_2 w1_3 w1_4 w1_5 w1_6 w1_7 w1_8 w1_9 w1_10 w1_11 w1_12 w1_13 hfp hfq hs
      · exact both_other s0_0 s0_1 s0_2 s0_3 s0_4 s0_5 s0_6 s0_7 s0_8 s0_9 s0_10 s0_11 s0_12 s0_13 s1_0 s1_1 s1_2 s1_3 s1_4 s1_5 s1_6 s1_7 s1_8 s1_9 s1_10 s1_11 s1_12 s1_13 w w0_0 w0_1 w0_2 w0_3 w0_4 w0_5 w0_6 w0_7 w0_8 w0_9 w0_10 w0_11 w0_12 w0_13 w1_0 w1_1 w1_2 w1_3 w1_4 w1_5 w1_6 w1_7 w1_8 w1_9 w1_10 w1_11 w1_12 w1_13 hfp hfq hs
    · exact part_10 s0_0 s0_1 s0_2 s0_3 s0_4 s0_5 s0_6 s0_7 s0_8 s0_9 s0_10 s0_11 s0_12 s0_13 s1_0 s1_1 s1_2 s1_3 s1_4 s1_5 s1_6 s1_7 s1_8 s1_9 s1_10 s1_11 s1_12 s1_13 w w0_0 w0_1 w0_2 w0_3 w0_4 w0_5 w0_6 w0_7 w0_8 w0_9 w0_10 w0_11 w0_12 w0_13 w1_0 w1_1 w1_2 w1_3 w1_4 w1_5 w1_6 w1_7 w1_8 w1_9 w1_10 w1_11 w1_12 w1_13 hfp hfq
  · by_cases hfq : (∃ f, (⟨s1_0, s1_1, s1_2, s1_3, s1_4, s1_5, s1_6, s1_7, s1_8, s1_9, s1_10, s1_11, s1_12, s1_13⟩ : Pl).fr = some f ∧ f.good = true)
    · exact part_01 s0_0 s0_1 s0_2 s0_3 s0_4 s0_5 s0_6 s0_7 s0_8 s0_9 s0_10 s0_11 s0_12 s0_13 s1_0 s1_1 s1_2 s1_3 s1_4 s1_5 s1_6 s1_7 s1_8 s1_9 s1_10 s1_11 s1_12 s1_13 w w0_0 w0_1 w0_2 w0_3 w0_4 w0_5 w0_6 w0_7 w0_8 w0_9 w0_10 w0_11 w0_12 w0_13 w1_0 w1_1 w1_2 w1_3 w1_4 w1_5 w1_6 w1_7 w1_8 w1_9 w1_10 w1_11 w1_12 w1_13 hfp hfq
    · exact part_00 s0_0 s0_1 s0_2 s0_3 s0_4 s0_5 s0_6 s0_7 s0_8 s0_9 s0_10 s0_11 s0_12 s0_13 s1_0 s1_1 s1_2 s1_3 s1_4 s1_5 s1_6 s1_7 s1_8 s1_9 s1_10 s1_11 s1_12 s1_13 w w0_0 w0_1 w0_2 w0_3 w0_4 w0_5 w0_6 w0_7 w0_8 w0_9 w0_10 w0_11 w0_12 w0_13 w1_0 w1_1 w1_2 w1_3 w1_4 w1_5 w1_6 w1_7 w1_8 w1_9 w1_10 w1_11 w1_12 w1_13 hfp hfq

set_option maxRecDepth 100000 in
theorem lifted (os : Os) (started : os.Started) (H : Type) (enc : TypeId × Value → H) :
    ReturnsInHanded {} Try.checked os 7 .any (Rows.frameUnlikeSpec.pre6 enc Try.prog Try.f7 Rows.frameUnlikeRow.domain false) (Rows.frameUnlikeSpec.post enc Try.prog Try.f7 false true false false) := by
  refine returnsInHanded_of_change (C := Try.checked) own started (by kernel_rfl) Try.func7
    (ChangeSpec.witness6 (enc := enc) (C := Try.checked) false ⟨#[], #[.agg #[.int .i64 0, .int .i64 0, .int .i64 0, .int .i64 0, .int .u16 0, .int .u16 0, .int .i64 0, .int .i64 0, .int .i64 0, .int .i64 0, .int .i64 0, .int .i64 0, .int .i64 0, .int .i64 0], .agg #[.int .i64 0, .int .i64 0, .int .i64 0, .int .i64 0, .int .u16 0, .int .u16 0, .int .i64 0, .int .i64 0, .int .i64 0, .int .i64 0, .int .i64 0, .int .i64 0, .int .i64 0, .int .i64 0]], []⟩ 8 (by kernel_rfl) (by kernel_rfl) (by kernel_rfl) (by kernel_rfl)) ?_
  intro W base args ds gs before hval0 hW hcnd _
  have hval : ∀ (j : Nat) t v, Try.f7.params[j]? = some t → args[j]? = some v → Value.okWide Try.prog W .any base t v := hval0
  have hW' := hW
  obtain ⟨p, q, hA0, hV, rfl, hfz, hnd⟩ := hW
  have hA : DataW.TrodAll enc Try.prog W 0 (fun _ => true) true Try.f7.params.toList args.toList ds p := hA0
  have hAk := hA
  rw [Try.params7] at hA hval
  obtain ⟨v0, vs0, d0, ds0, p0, q0, hargs, rfl, hp, h0, r0⟩ := trodAll_cons hA
  obtain ⟨v1, vs1, d1, ds1, p1, q1, rfl, rfl, rfl, h1, r1⟩ := trodAll_cons r0
  obtain ⟨rfl, rfl, rfl⟩ := trodAll_nil r1
  obtain rfl : args = #[v0, v1] := by cases args; simp_all
  obtain ⟨rfl, rfl⟩ := trodVars_none hV
  clear hA0 hval0 hargs
  simp only [List.append_nil] at hW'
  have hend : ∀ W' : World, Below W.heap.size W W' → Rows.frameUnlikeSpec.post enc Try.prog Try.f7 false true false false W #[v0, v1] (.bool true) W' := fun W' hb =>
    law_post (tb := 4) hW' hAk rfl (by kernel_rfl) (by kernel_rfl) (by kernel_rfl) Try.underlying4 rfl rfl rfl hb
  clear hW' hAk hp
  obtain ⟨ns0, rfl, hl0, hw0⟩ := ints_struct (ks := [.i64, .i64, .i64, .i64, .u16, .u16, .i64, .i64, .i64, .i64, .i64, .i64, .i64, .i64]) Try.underlying24 (by kernel_rfl) (by kernel_rfl) (by kernel_rfl) (hval 0 24 v0 rfl rfl) h0
  obtain ⟨s0_0, s0_1, s0_2, s0_3, s0_4, s0_5, s0_6, s0_7, s0_8, s0_9, s0_10, s0_11, s0_12, s0_13, rfl⟩ := split14 hl0
  clear hl0
  obtain ⟨ns1, rfl, hl1, hw1⟩ := ints_struct (ks := [.i64, .i64, .i64, .i64, .u16, .u16, .i64, .i64, .i64, .i64, .i64, .i64, .i64, .i64]) Try.underlying24 (by kernel_rfl) (by kernel_rfl) (by kernel_rfl) (hval 1 24 v1 rfl rfl) h1
  obtain ⟨s1_0, s1_1, s1_2, s1_3, s1_4, s1_5, s1_6, s1_7, s1_8, s1_9, s1_10, s1_11, s1_12, s1_13, rfl⟩ := split14 hl1
  clear hl1
  refine (walk s0_0 s0_1 s0_2 s0_3 s0_4 s0_5 s0_6 s0_7 s0_8 s0_9 s0_10 s0_11 s0_12 s0_13 s1_0 s1_1 s1_2 s1_3 s1_4 s1_5 s1_6 s1_7 s1_8 s1_9 s1_10 s1_11 s1_12 s1_13 W (hw0 0 _ _ rfl rfl) (hw0 1 _ _ rfl rfl) (hw0 2 _ _ rfl rfl) (hw0 3 _ _ rfl rfl) (hw0 4 _ _ rfl rfl) (hw0 5 _ _ rfl rfl) (hw0 6 _ _ rfl rfl) (hw0 7 _ _ rfl rfl) (hw0 8 _ _ rfl rfl) (hw0 9 _ _ rfl rfl) (hw0 10 _ _ rfl rfl) (hw0 11 _ _ rfl rfl) (hw0 12 _ _ rfl rfl) (hw0 13 _ _ rfl rfl) (hw1 0 _ _ rfl rfl) (hw1 1 _ _ rfl rfl) (hw1 2 _ _ rfl rfl) (hw1 3 _ _ rfl rfl) (hw1 4 _ _ rfl rfl) (hw1 5 _ _ rfl rfl) (hw1 6 _ _ rfl rfl) (hw1 7 _ _ rfl rfl) (hw1 8 _ _ rfl rfl) (hw1 9 _ _ rfl rfl) (hw1 10 _ _ rfl rfl) (hw1 11 _ _ rfl rfl) (hw1 12 _ _ rfl rfl) (hw1 13 _ _ rfl rfl)).mono fun e W' ⟨he, hg⟩ => ?_
  subst he
  exact ⟨_, rfl, hend W' hg⟩

theorem over : Rows.frameUnlikeRow.holds Try.pinned (OpenSpec.ofChange Rows.frameUnlikeSpec) :=
  OpenClaim.holds_of_wide 7 Try.f7 rfl rfl rfl rfl rfl rfl rfl ⟨rfl, rfl, rfl, rfl, rfl⟩ rfl rfl rfl rfl rfl (by kernel_rfl) Try.func7 (by kernel_rfl)
    (of_decide_eq_true (by kernel_rfl)) (by unfold Func.isWrapper; first | (rw [if_pos (by decide +kernel)]; kernel_rfl) | (rw [if_neg (by decide +kernel)]; exact ⟨rfl, rfl⟩))
    (fun os started H enc _ => lifted os started H enc)

/-- THE STATEMENT -/
theorem proved : Rows.FrameUnlikeSaid :=
  over
#print axioms proved
end Go.Proofs.Ytbdlpkkgfhknkaa.frameUnlike
