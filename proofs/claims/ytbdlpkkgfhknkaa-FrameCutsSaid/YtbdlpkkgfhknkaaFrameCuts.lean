/-
  No beginning of a frame's bytes is decoded, nor are they with bytes behind them: for all frames, all cuts, and all bytes behind; more than 60 of these, or none, the statement lets through.
  The walk is the prover's own; the frame of the row's step follows the kit's template.
-/
import Derived.Test.YtbdlpkkgfhknkaaRows
import Derived.Test.YtbdlpkkgfhknkaaLawKit
import Derived.Test.YtbdlpkkgfhknkaaStructArg
import Derived.Test.YtbdlpkkgfhknkaaFrmU
namespace Go.Proofs.Ytbdlpkkgfhknkaa.frameCuts
open Go.ChangeShapes Go.WideShapes Go.ChangeAt Go.RowKit Go.ChangeMaps Go.WideElems
set_option linter.unusedVariables false

theorem split14 {ns : List Int} (h : ns.length = 14) : ∃ s0_0 s0_1 s0_2 s0_3 s0_4 s0_5 s0_6 s0_7 s0_8 s0_9 s0_10 s0_11 s0_12 s0_13 : Int, ns = [s0_0, s0_1, s0_2, s0_3, s0_4, s0_5, s0_6, s0_7, s0_8, s0_9, s0_10, s0_11, s0_12, s0_13] := by
  match ns, h with
  | [y0, y1, y2, y3, y4, y5, y6, y7, y8, y9, y10, y11, y12, y13], _ => exact ⟨_, _, _, _, _, _, _, _, _, _, _, _, _, _, rfl⟩
theorem own : ownKnob Try.prog.godebug = none := by kernel_rfl

set_option linter.unusedSimpArgs false in
set_option maxHeartbeats 8000000 in
set_option maxRecDepth 100000 in
theorem not_one (s0_0 s0_1 s0_2 s0_3 s0_4 s0_5 s0_6 s0_7 s0_8 s0_9 s0_10 s0_11 s0_12 s0_13 : Int) (a1 : Int) (A2 : Option Addr) (n2 c2 : Nat) (z2 : List Int) (w : World) (w0_0 : (Lit.int .i64 s0_0).wf = true) (w0_1 : (Lit.int .i64 s0_1).wf = true) (w0_2 : (Lit.int .i64 s0_2).wf = true) (w0_3 : (Lit.int .i64 s0_3).wf = true) (w0_4 : (Lit.int .u16 s0_4).wf = true) (w0_5 : (Lit.int .u16 s0_5).wf = true) (w0_6 : (Lit.int .i64 s0_6).wf = true) (w0_7 : (Lit.int .i64 s0_7).wf = true) (w0_8 : (Lit.int .i64 s0_8).wf = true) (w0_9 : (Lit.int .i64 s0_9).wf = true) (w0_10 : (Lit.int .i64 s0_10).wf = true) (w0_11 : (Lit.int .i64 s0_11).wf = true) (w0_12 : (Lit.int .i64 s0_12).wf = true) (w0_13 : (Lit.int .i64 s0_13).wf = true) (w1 : (Lit.int .i64 a1).wf = true) (w2 : IntRow w .u8 A2 n2 c2 z2) (hfp : ¬ (∃ f, (⟨s0_0, s0_1, s0_2, s0_3, s0_4, s0_5, s0_6, s0_7, s0_8, s0_9, s0_10, s0_11, s0_12, s0_13⟩ : Pl).fr = some f ∧ f.good = true)) :
    Calls Try.prog 8 #[.agg #[.int .i64 s0_0, .int .i64 s0_1, .int .i64 s0_2, .int .i64 s0_3, .int .u16 s0_4, .int .u16 s0_5, .int .i64 s0_6, .int .i64 s0_7, .int .i64 s0_8, .int .i64 s0_9, .int .i64 s0_10, .int .i64 s0_11, .int .i64 s0_12, .int .i64 s0_13], .int .i64 a1, .slice A2 n2 c2] w fun e w' => e = .returned (.bool true) ∧ Below w.heap.size w w' := by
  have hp : (⟨s0_0, s0_1, s0_2, s0_3, s0_4, s0_5, s0_6, s0_7, s0_8, s0_9, s0_10, s0_11, s0_12, s0_13⟩ : Pl).wf := ⟨fits_wf w0_0, fits_wf w0_1, fits_wf w0_2, fits_wf w0_3, f16_wf w0_4, f16_wf w0_5, fits_wf w0_6, fits_wf w0_7, fits_wf w0_8, fits_wf w0_9, fits_wf w0_10, fits_wf w0_11, fits_wf w0_12, fits_wf w0_13⟩
  have hofp := fun W => lawof_any (⟨s0_0, s0_1, s0_2, s0_3, s0_4, s0_5, s0_6, s0_7, s0_8, s0_9, s0_10, s0_11, s0_12, s0_13⟩ : Pl) W
  simp only [Pl.val] at hofp
  have HBOX := Lib.hid (Holds.new w 24 #[.int .i64 s0_0, .int .i64 s0_1, .int .i64 s0_2, .int .i64 s0_3, .int .u16 s0_4, .int .u16 s0_5, .int .i64 s0_6, .int .i64 s0_7, .int .i64 s0_8, .int .i64 s0_9, .int .i64 s0_10, .int .i64 s0_11, .int .i64 s0_12, .int .i64 s0_13])
  have HB0 := Lib.hid (below_alloc w (.cells #[.int .i64 s0_0, .int .i64 s0_1, .int .i64 s0_2, .int .i64 s0_3, .int .u16 s0_4, .int .u16 s0_5, .int .i64 s0_6, .int .i64 s0_7, .int .i64 s0_8, .int .i64 s0_9, .int .i64 s0_10, .int .i64 s0_11, .int .i64 s0_12, .int .i64 s0_13] 24))
  have hnil := nil_eq
  have R2 := Lib.hid w2
  have hcap2 := w2.cap_le
  have hlen2 := w2.len_eq
  obtain ⟨a1l, a1u⟩ := fits_wf w1
  have hgep := enc_no (⟨s0_0, s0_1, s0_2, s0_3, s0_4, s0_5, s0_6, s0_7, s0_8, s0_9, s0_10, s0_11, s0_12, s0_13⟩ : Pl) hp hfp
  have hcanp := canBe_no hfp
  obtain ⟨v, hvp⟩ : ∃ v, frVal ((⟨s0_0, s0_1, s0_2, s0_3, s0_4, s0_5, s0_6, s0_7, s0_8, s0_9, s0_10, s0_11, s0_12, s0_13⟩ : Pl)).fr = v := ⟨_, rfl⟩
  have hofv : ∀ W, Calls Try.prog 10 #[.agg #[.int .i64 s0_0, .int .i64 s0_1, .int .i64 s0_2, .int .i64 s0_3, .int .u16 s0_4, .int .u16 s0_5, .int .i64 s0_6, .int .i64 s0_7, .int .i64 s0_8, .int .i64 s0_9, .int .i64 s0_10, .int .i64 s0_11, .int .i64 s0_12, .int .i64 s0_13]] W fun e w' => e = .returned v ∧ Below W.heap.size W w' := fun W => by rw [← hvp]; exact hofp W
  rw [hvp] at hgep
  clear w0_0 w0_1 w0_2 w0_3 w0_4 w0_5 w0_6 w0_7 w0_8 w0_9 w0_10 w0_11 w0_12 w0_13 hofp hp hvp hcanp hlen2
  go_enter Try.func8, Try.ntmps8
  go_wp2_with (first
    | (go_at_call 9; (with_reducible refine (alive_yes _).mono ?_); rintro e w1 ⟨rfl, hb1⟩; have HB1 := Lib.hid (below_on HB0.out hb1); have HX := Lib.hid (HBOX.out.below hb1 HBOX.out.lt); have HC := Lib.hid (plain_cells HX.out); obtain ⟨k0, k1, k2, k3, k4, k5, k6, k7, k8, k9, k10, k11, k12, k13⟩ := HC.out)
    | (go_at_call 10; (with_reducible refine (hofv _).mono ?_); rintro e w2 ⟨rfl, hb2⟩; have HB2 := Lib.hid (below_on HB1.out hb2); clear k0 k1 k2 k3 k4 k5 k6 k7 k8 k9 k10 k11 k12 k13)
    | (go_at_call 11; (with_reducible refine (hgep _).mono ?_); rintro e w3 ⟨rfl, hb3⟩; have HB3 := Lib.hid (below_on HB2.out hb3)))
  go_ret
  exact ⟨rfl, HB3.out⟩

set_option linter.unusedSimpArgs false in
set_option maxHeartbeats 8000000 in
set_option maxRecDepth 100000 in
theorem let_go (s0_0 s0_1 s0_2 s0_3 s0_4 s0_5 s0_6 s0_7 s0_8 s0_9 s0_10 s0_11 s0_12 s0_13 : Int) (a1 : Int) (A2 : Option Addr) (n2 c2 : Nat) (z2 : List Int) (w : World) (w0_0 : (Lit.int .i64 s0_0).wf = true) (w0_1 : (Lit.int .i64 s0_1).wf = true) (w0_2 : (Lit.int .i64 s0_2).wf = true) (w0_3 : (Lit.int .i64 s0_3).wf = true) (w0_4 : (Lit.int .u16 s0_4).wf = true) (w0_5 : (Lit.int .u16 s0_5).wf = true) (w0_6 : (Lit.int .i64 s0_6).wf = true) (w0_7 : (Lit.int .i64 s0_7).wf = true) (w0_8 : (Lit.int .i64 s0_8).wf = true) (w0_9 : (Lit.int .i64 s0_9).wf = true) (w0_10 : (Lit.int .i64 s0_10).wf = true) (w0_11 : (Lit.int .i64 s0_11).wf = true) (w0_12 : (Lit.int .i64 s0_12).wf = true) (w0_13 : (Lit.int .i64 s0_13).wf = true) (w1 : (Lit.int .i64 a1).wf = true) (w2 : IntRow w .u8 A2 n2 c2 z2) (hfp : (∃ f, (⟨s0_0, s0_1, s0_2, s0_3, s0_4, s0_5, s0_6, s0_7, s0_8, s0_9, s0_10, s0_11, s0_12, s0_13⟩ : Pl).fr = some f ∧ f.good = true)) (hesc : a1 < 0 ∨ (∀ f, (⟨s0_0, s0_1, s0_2, s0_3, s0_4, s0_5, s0_6, s0_7, s0_8, s0_9, s0_10, s0_11, s0_12, s0_13⟩ : Pl).fr = some f → (f.sealed.length : Int) ≤ a1) ∨ 60 < n2 ∨ n2 = 0) :
    Calls Try.prog 8 #[.agg #[.int .i64 s0_0, .int .i64 s0_1, .int .i64 s0_2, .int .i64 s0_3, .int .u16 s0_4, .int .u16 s0_5, .int .i64 s0_6, .int .i64 s0_7, .int .i64 s0_8, .int .i64 s0_9, .int .i64 s0_10, .int .i64 s0_11, .int .i64 s0_12, .int .i64 s0_13], .int .i64 a1, .slice A2 n2 c2] w fun e w' => e = .returned (.bool true) ∧ Below w.heap.size w w' := by
  have hp : (⟨s0_0, s0_1, s0_2, s0_3, s0_4, s0_5, s0_6, s0_7, s0_8, s0_9, s0_10, s0_11, s0_12, s0_13⟩ : Pl).wf := ⟨fits_wf w0_0, fits_wf w0_1, fits_wf w0_2, fits_wf w0_3, f16_wf w0_4, f16_wf w0_5, fits_wf w0_6, fits_wf w0_7, fits_wf w0_8, fits_wf w0_9, fits_wf w0_10, fits_wf w0_11, fits_wf w0_12, fits_wf w0_13⟩
  have hofp := fun W => lawof_any (⟨s0_0, s0_1, s0_2, s0_3, s0_4, s0_5, s0_6, s0_7, s0_8, s0_9, s0_10, s0_11, s0_12, s0_13⟩ : Pl) W
  simp only [Pl.val] at hofp
  have HBOX := Lib.hid (Holds.new w 24 #[.int .i64 s0_0, .int .i64 s0_1, .int .i64 s0_2, .int .i64 s0_3, .int .u16 s0_4, .int .u16 s0_5, .int .i64 s0_6, .int .i64 s0_7, .int .i64 s0_8, .int .i64 s0_9, .int .i64 s0_10, .int .i64 s0_11, .int .i64 s0_12, .int .i64 s0_13])
  have HB0 := Lib.hid (below_alloc w (.cells #[.int .i64 s0_0, .int .i64 s0_1, .int .i64 s0_2, .int .i64 s0_3, .int .u16 s0_4, .int .u16 s0_5, .int .i64 s0_6, .int .i64 s0_7, .int .i64 s0_8, .int .i64 s0_9, .int .i64 s0_10, .int .i64 s0_11, .int .i64 s0_12, .int .i64 s0_13] 24))
  have hnil := nil_eq
  have R2 := Lib.hid w2
  have hcap2 := w2.cap_le
  have hlen2 := w2.len_eq
  obtain ⟨a1l, a1u⟩ := fits_wf w1
  obtain ⟨f, hfrp, hgp⟩ := hfp
  have hgep := fun W => encode_sealed f W hgp
  have hswp := f.sealed_wf
  obtain ⟨zp, hzp⟩ : ∃ z, f.sealed = z := ⟨_, rfl⟩
  rw [hzp] at hswp
  simp only [hzp] at hgep
  obtain ⟨mp, hmp⟩ : ∃ m, zp.length = m := ⟨_, rfl⟩
  simp only [hmp] at hgep
  have HWp := Lib.hid hswp
  have HZp := Lib.hid hzp
  have hcanp := canBe_yes hfrp hgp
  have honp := fun W => only_any (⟨s0_0, s0_1, s0_2, s0_3, s0_4, s0_5, s0_6, s0_7, s0_8, s0_9, s0_10, s0_11, s0_12, s0_13⟩ : Pl) W
  rw [Pl.only_kind hfrp] at honp
  obtain ⟨v, hvp⟩ : ∃ v, f.val = v := ⟨_, rfl⟩
  rw [hfrp] at hofp
  have hofv : ∀ W, Calls Try.prog 10 #[.agg #[.int .i64 s0_0, .int .i64 s0_1, .int .i64 s0_2, .int .i64 s0_3, .int .u16 s0_4, .int .u16 s0_5, .int .i64 s0_6, .int .i64 s0_7, .int .i64 s0_8, .int .i64 s0_9, .int .i64 s0_10, .int .i64 s0_11, .int .i64 s0_12, .int .i64 s0_13]] W fun e w' => e = .returned v ∧ Below W.heap.size W w' := fun W => by rw [← hvp]; exact hofp W
  simp only [hvp] at hgep
  have hm64 : mp ≤ 64 := by rw [← hmp, ← hzp]; exact f.sealed_size.2
  have hesc2 : a1 < 0 ∨ (mp : Int) ≤ a1 ∨ 60 < n2 ∨ n2 = 0 := by
    rcases hesc with h | h | h | h
    · exact .inl h
    · refine .inr (.inl ?_)
      have := h f hfrp
      rw [hzp, hmp] at this
      exact this
    · exact .inr (.inr (.inl h))
    · exact .inr (.inr (.inr h))
  have hcase : a1 < 0 ∨ (0 ≤ a1 ∧ (mp : Int) ≤ a1) ∨ (0 ≤ a1 ∧ a1 < (mp : Int) ∧ 60 < n2) ∨ (0 ≤ a1 ∧ a1 < (mp : Int) ∧ n2 ≤ 60 ∧ n2 = 0) := by omega
  clear hesc hesc2
  clear w0_0 w0_1 w0_2 w0_3 w0_4 w0_5 w0_6 w0_7 w0_8 w0_9 w0_10 w0_11 w0_12 w0_13 hofp hp hvp hcanp hgp hfrp hmp hzp hswp honp
  clear hlen2
  rcases hcase with h0 | ⟨h0, h1⟩ | ⟨h0, h1, h2⟩ | ⟨h0, h1, h2, h3⟩
  iterate 3
    · go_enter Try.func8, Try.ntmps8
      go_wp2_with (first
        | (go_at_call 9; (with_reducible refine (alive_yes _).mono ?_); rintro e w1 ⟨rfl, hb1⟩; have HB1 := Lib.hid (below_on HB0.out hb1); have HX := Lib.hid (HBOX.out.below hb1 HBOX.out.lt); have HC := Lib.hid (plain_cells HX.out); obtain ⟨k0, k1, k2, k3, k4, k5, k6, k7, k8, k9, k10, k11, k12, k13⟩ := HC.out)
        | (go_at_call 10; (with_reducible refine (hofv _).mono ?_); rintro e w2 ⟨rfl, hb2⟩; have HB2 := Lib.hid (below_on HB1.out hb2); clear k0 k1 k2 k3 k4 k5 k6 k7 k8 k9 k10 k11 k12 k13)
        | (go_at_call 11; (with_reducible refine (hgep _).mono ?_); rintro e w3 ⟨A3, c3, rfl, ho3, hb3⟩; have HB3 := Lib.hid (below_on HB2.out hb3); have HR3 := Lib.hid (IntRow.of_own ho3 HWp.out); have hcap3 := HR3.out.cap_le; have hmx3 := HR3.out.max; unfold maxLen at hmx3; clear ho3))
      go_ret
      exact ⟨rfl, HB3.out⟩
  · subst h3
    go_enter Try.func8, Try.ntmps8
    go_wp2_with (first
      | (go_at_call 9; (with_reducible refine (alive_yes _).mono ?_); rintro e w1 ⟨rfl, hb1⟩; have HB1 := Lib.hid (below_on HB0.out hb1); have HX := Lib.hid (HBOX.out.below hb1 HBOX.out.lt); have HC := Lib.hid (plain_cells HX.out); obtain ⟨k0, k1, k2, k3, k4, k5, k6, k7, k8, k9, k10, k11, k12, k13⟩ := HC.out)
      | (go_at_call 10; (with_reducible refine (hofv _).mono ?_); rintro e w2 ⟨rfl, hb2⟩; have HB2 := Lib.hid (below_on HB1.out hb2); clear k0 k1 k2 k3 k4 k5 k6 k7 k8 k9 k10 k11 k12 k13)
      | (go_at_call 11; (with_reducible refine (hgep _).mono ?_); rintro e w3 ⟨A3, c3, rfl, ho3, hb3⟩; have HB3 := Lib.hid (below_on HB2.out hb3); have HR3 := Lib.hid (IntRow.of_own ho3 HWp.out); have hcap3 := HR3.out.cap_le; have hmx3 := HR3.out.max; unfold maxLen at hmx3; clear ho3))
    go_ret
    exact ⟨rfl, HB3.out⟩

set_option linter.unusedSimpArgs false in
set_option maxHeartbeats 8000000 in
set_option maxRecDepth 100000 in
theorem cut (s0_0 s0_1 s0_2 s0_3 s0_4 s0_5 s0_6 s0_7 s0_8 s0_9 s0_10 s0_11 s0_12 s0_13 : Int) (a1 : Int) (A2 : Option Addr) (n2 c2 : Nat) (z2 : List Int) (w : World) (w0_0 : (Lit.int .i64 s0_0).wf = true) (w0_1 : (Lit.int .i64 s0_1).wf = true) (w0_2 : (Lit.int .i64 s0_2).wf = true) (w0_3 : (Lit.int .i64 s0_3).wf = true) (w0_4 : (Lit.int .u16 s0_4).wf = true) (w0_5 : (Lit.int .u16 s0_5).wf = true) (w0_6 : (Lit.int .i64 s0_6).wf = true) (w0_7 : (Lit.int .i64 s0_7).wf = true) (w0_8 : (Lit.int .i64 s0_8).wf = true) (w0_9 : (Lit.int .i64 s0_9).wf = true) (w0_10 : (Lit.int .i64 s0_10).wf = true) (w0_11 : (Lit.int .i64 s0_11).wf = true) (w0_12 : (Lit.int .i64 s0_12).wf = true) (w0_13 : (Lit.int .i64 s0_13).wf = true) (w1 : (Lit.int .i64 a1).wf = true) (w2 : IntRow w .u8 A2 n2 c2 z2) (j : Nat) (ha : a1 = (j : Int)) (hfp : (∃ f, (⟨s0_0, s0_1, s0_2, s0_3, s0_4, s0_5, s0_6, s0_7, s0_8, s0_9, s0_10, s0_11, s0_12, s0_13⟩ : Pl).fr = some f ∧ f.good = true)) (hj : ∀ f, (⟨s0_0, s0_1, s0_2, s0_3, s0_4, s0_5, s0_6, s0_7, s0_8, s0_9, s0_10, s0_11, s0_12, s0_13⟩ : Pl).fr = some f → j < f.sealed.length) (h60 : n2 ≤ 60) (h20 : 0 < n2) :
    Calls Try.prog 8 #[.agg #[.int .i64 s0_0, .int .i64 s0_1, .int .i64 s0_2, .int .i64 s0_3, .int .u16 s0_4, .int .u16 s0_5, .int .i64 s0_6, .int .i64 s0_7, .int .i64 s0_8, .int .i64 s0_9, .int .i64 s0_10, .int .i64 s0_11, .int .i64 s0_12, .int .i64 s0_13], .int .i64 a1, .slice A2 n2 c2] w fun e w' => e = .returned (.bool true) ∧ Below w.heap.size w w' := by
  subst ha
  have hp : (⟨s0_0, s0_1, s0_2, s0_3, s0_4, s0_5, s0_6, s0_7, s0_8, s0_9, s0_10, s0_11, s0_12, s0_13⟩ : Pl).wf := ⟨fits_wf w0_0, fits_wf w0_1, fits_wf w0_2, fits_wf w0_3, f16_wf w0_4, f16_wf w0_5, fits_wf w0_6, fits_wf w0_7, fits_wf w0_8, fits_wf w0_9, fits_wf w0_10, fits_wf w0_11, fits_wf w0_12, fits_wf w0_13⟩
  have hofp := fun W => lawof_any (⟨s0_0, s0_1, s0_2, s0_3, s0_4, s0_5, s0_6, s0_7, s0_8, s0_9, s0_10, s0_11, s0_12, s0_13⟩ : Pl) W
  simp only [Pl.val] at hofp
  have HBOX := Lib.hid (Holds.new w 24 #[.int .i64 s0_0, .int .i64 s0_1, .int .i64 s0_2, .int .i64 s0_3, .int .u16 s0_4, .int .u16 s0_5, .int .i64 s0_6, .int .i64 s0_7, .int .i64 s0_8, .int .i64 s0_9, .int .i64 s0_10, .int .i64 s0_11, .int .i64 s0_12, .int .i64 s0_13])
  have HB0 := Lib.hid (below_alloc w (.cells #[.int .i64 s0_0, .int .i64 s0_1, .int .i64 s0_2, .int .i64 s0_3, .int .u16 s0_4, .int .u16 s0_5, .int .i64 s0_6, .int .i64 s0_7, .int .i64 s0_8, .int .i64 s0_9, .int .i64 s0_10, .int .i64 s0_11, .int .i64 s0_12, .int .i64 s0_13] 24))
  have hnil := nil_eq
  have R2 := Lib.hid w2
  have hcap2 := w2.cap_le
  have hlen2 := w2.len_eq
  obtain ⟨a1l, a1u⟩ := fits_wf w1
  obtain ⟨f, hfrp, hgp⟩ := hfp
  have hgep := fun W => encode_sealed f W hgp
  have hswp := f.sealed_wf
  obtain ⟨zp, hzp⟩ : ∃ z, f.sealed = z := ⟨_, rfl⟩
  rw [hzp] at hswp
  simp only [hzp] at hgep
  obtain ⟨mp, hmp⟩ : ∃ m, zp.length = m := ⟨_, rfl⟩
  simp only [hmp] at hgep
  have HWp := Lib.hid hswp
  have HZp := Lib.hid hzp
  have hcanp := canBe_yes hfrp hgp
  have honp := fun W => only_any (⟨s0_0, s0_1, s0_2, s0_3, s0_4, s0_5, s0_6, s0_7, s0_8, s0_9, s0_10, s0_11, s0_12, s0_13⟩ : Pl) W
  rw [Pl.only_kind hfrp] at honp
  obtain ⟨v, hvp⟩ : ∃ v, f.val = v := ⟨_, rfl⟩
  rw [hfrp] at hofp
  have hofv : ∀ W, Calls Try.prog 10 #[.agg #[.int .i64 s0_0, .int .i64 s0_1, .int .i64 s0_2, .int .i64 s0_3, .int .u16 s0_4, .int .u16 s0_5, .int .i64 s0_6, .int .i64 s0_7, .int .i64 s0_8, .int .i64 s0_9, .int .i64 s0_10, .int .i64 s0_11, .int .i64 s0_12, .int .i64 s0_13]] W fun e w' => e = .returned v ∧ Below W.heap.size W w' := fun W => by rw [← hvp]; exact hofp W
  simp only [hvp] at hgep
  have hm64 : mp ≤ 64 := by rw [← hmp, ← hzp]; exact f.sealed_size.2
  have hdc := dec_cut f j (hj f hfrp)
  rw [hzp] at hdc
  have hjm : j < mp := by have := hj f hfrp; rw [hzp, hmp] at this; exact this
  have hz20 : ((n2 : Int) == 0) = false := by simp; omega
  have hne : z2 ≠ [] := fun h => by rw [h] at hlen2; simp at hlen2; omega
  obtain ⟨E, hE⟩ : ∃ E : Int, ((mp + n2 ≤ 64 ∧ E = 3) ∨ (64 < mp + n2 ∧ E = 5)) ∧ dec (zp ++ z2) = (none, E) := by
    by_cases h : mp + n2 ≤ 64
    · refine ⟨3, .inl ⟨h, rfl⟩, ?_⟩
      rw [← hzp]
      exact dec_more f z2 hne (by rw [hzp, hmp, hlen2]; exact h)
    · refine ⟨5, .inr ⟨by omega, rfl⟩, ?_⟩
      rw [← hzp]
      exact dec_much f z2 (by rw [hzp, hmp, hlen2]; omega)
  obtain ⟨hE1, hE2⟩ := hE
  have hd1 := fun A c W (hr : IntRow W .u8 A j c (zp.take j)) => decode_any A j c (zp.take j) W hr
  simp only [hdc] at hd1
  have hd1' : ∀ A c W, IntRow W .u8 A j c (zp.take j) → Calls Try.prog 15 #[.slice A j c] W fun e w' => e = .returned (.tuple #[.nilIface, .int .i64 3]) ∧ Below W.heap.size W w' := hd1
  have hd2 := fun A c W (hr : IntRow W .u8 A (mp + n2) c (zp ++ z2)) => decode_any A (mp + n2) c (zp ++ z2) W hr
  simp only [hE2] at hd2
  have hd2' : ∀ A c W, IntRow W .u8 A (mp + n2) c (zp ++ z2) → Calls Try.prog 15 #[.slice A (mp + n2) c] W fun e w' => e = .returned (.tuple #[.nilIface, .int .i64 E]) ∧ Below W.heap.size W w' := hd2
  have HWA : Hid (∀ z ∈ zp ++ z2, (Lit.int .u8 z).wf = true) := Lib.hid (fun z hz => by
    rcases List.mem_append.1 hz with h | h
    · exact hswp z h
    · exact R2.out.wf z h)
  obtain ⟨i0, hi, hz0, hz1, hz2⟩ := info_parts byte_info
  have H2 := Lib.hid hz2
  have H1 := Lib.hid hz1
  have H0 := Lib.hid hz0
  have hjl := HWp
  clear hd1 hd2 hdc hE2 hne hz0 hz1 hz2 hj hlen2 hjl
  clear w0_0 w0_1 w0_2 w0_3 w0_4 w0_5 w0_6 w0_7 w0_8 w0_9 w0_10 w0_11 w0_12 w0_13 hofp hp hvp hcanp hgp hfrp hmp hzp hswp honp
  have hE2 : ((mp + n2 ≤ 64 ∧ decide ((mp : Int) + (n2 : Int) ≤ 64) = true) ∧ E = 3) ∨ ((64 < mp + n2 ∧ decide ((64 : Int) < (mp : Int) + (n2 : Int)) = true) ∧ E = 5) := by
    rcases hE1 with ⟨h5, h6⟩ | ⟨h5, h6⟩
    · exact .inl ⟨⟨h5, by simp; omega⟩, h6⟩
    · exact .inr ⟨⟨h5, by simp; omega⟩, h6⟩
  clear hE1
  rcases hE2 with ⟨⟨h5, h6⟩, rfl⟩ | ⟨⟨h5, h6⟩, rfl⟩
  all_goals
    have b1 : (0 : Int) ≤ (j : Int) := by omega
    have b2 : (j : Int) < (mp : Int) := by omega
    go_enter Try.func8, Try.ntmps8
    go_wp2_with (first
      | (go_at_call 9; (with_reducible refine (alive_yes _).mono ?_); rintro e w1 ⟨rfl, hb1⟩; have HB1 := Lib.hid (below_on HB0.out hb1); have HX := Lib.hid (HBOX.out.below hb1 HBOX.out.lt); have HC := Lib.hid (plain_cells HX.out); obtain ⟨k0, k1, k2, k3, k4, k5, k6, k7, k8, k9, k10, k11, k12, k13⟩ := HC.out)
      | (go_at_call 10; (with_reducible refine (hofv _).mono ?_); rintro e w2 ⟨rfl, hb2⟩; have HB2 := Lib.hid (below_on HB1.out hb2); clear k0 k1 k2 k3 k4 k5 k6 k7 k8 k9 k10 k11 k12 k13)
      | (go_at_call 11; (with_reducible refine (hgep _).mono ?_); rintro e w3 ⟨A3, c3, rfl, ho3, hb3⟩; have HB3 := Lib.hid (below_on HB2.out hb3); have HR3 := Lib.hid (IntRow.of_own ho3 HWp.out); have hcap3 := HR3.out.cap_le; have hmx3 := HR3.out.max; unfold maxLen at hmx3; clear ho3)
      | (go_at_call 15; (with_reducible refine (hd1' _ _ _ (HR3.out.pre (m := j) (by omega))).mono ?_); rintro e w4 ⟨rfl, hb4⟩; have HB4 := Lib.hid (below_on HB3.out hb4))
      | (at_builtin; refine wpList_append_row _ rfl (.tmp 51) (.tmp 52) _ rfl w4.heap.size 5 i0 _ 1 Try.underlying29 hi H0.out H1.out H2.out rfl _ 0 [] rfl (World.ownsRow_lit (base := w4.heap.size) (size := 1) w4 #[] 0 (Nat.le_refl _) (by simp [maxLen]) (by simp)) .u8 A3 mp c3 zp rfl ((HR3.out.below hb4).alloc _) (by unfold maxLen; omega) (by omega) (by simp) ?_; intro A5 c5 w5 hown5 hb5; simp only [Nat.zero_add, List.nil_append] at hown5; have HB5 := Lib.hid (below_on HB4.out ((below_alloc w4 _).trans hb5)); have HO5 := Lib.hid hown5; have HS5 := Lib.hid (((below_alloc w4 (.cells #[] 5)).trans hb5).size); clear hown5)
      | (at_builtin; refine wpList_append_row _ rfl (.tmp 53) (.tmp 54) _ rfl w4.heap.size 5 i0 _ 1 Try.underlying29 hi H0.out H1.out H2.out rfl _ mp (zp.map (.int .u8)) rfl HO5.out .u8 A2 n2 c2 z2 rfl (R2.out.below HB5.out) (by unfold maxLen; omega) (by omega) HS5.out ?_; intro A7 c7 w7 hown7 hb7; have HB7 := Lib.hid (HB5.out.trans (Below.mono hb7 HB4.out.size)); have HR7 : Hid (IntRow w7 .u8 A7 (mp + n2) c7 (zp ++ z2)) := Lib.hid (IntRow.of_own (by rw [List.map_append]; exact hown7) HWA.out); clear hown7)
      | (go_at_call 15; (with_reducible refine (hd2' _ _ _ HR7.out).mono ?_); rintro e w8 ⟨rfl, hb8⟩; have HB8 := Lib.hid (below_on HB7.out hb8)))
    go_ret
    exact ⟨rfl, HB8.out⟩

set_option linter.unusedSimpArgs false in
set_option maxHeartbeats 8000000 in
set_option maxRecDepth 100000 in
theorem walk (s0_0 s0_1 s0_2 s0_3 s0_4 s0_5 s0_6 s0_7 s0_8 s0_9 s0_10 s0_11 s0_12 s0_13 : Int) (a1 : Int) (A2 : Option Addr) (n2 c2 : Nat) (z2 : List Int) (w : World) (w0_0 : (Lit.int .i64 s0_0).wf = true) (w0_1 : (Lit.int .i64 s0_1).wf = true) (w0_2 : (Lit.int .i64 s0_2).wf = true) (w0_3 : (Lit.int .i64 s0_3).wf = true) (w0_4 : (Lit.int .u16 s0_4).wf = true) (w0_5 : (Lit.int .u16 s0_5).wf = true) (w0_6 : (Lit.int .i64 s0_6).wf = true) (w0_7 : (Lit.int .i64 s0_7).wf = true) (w0_8 : (Lit.int .i64 s0_8).wf = true) (w0_9 : (Lit.int .i64 s0_9).wf = true) (w0_10 : (Lit.int .i64 s0_10).wf = true) (w0_11 : (Lit.int .i64 s0_11).wf = true) (w0_12 : (Lit.int .i64 s0_12).wf = true) (w0_13 : (Lit.int .i64 s0_13).wf = true) (w1 : (Lit.int .i64 a1).wf = true) (w2 : IntRow w .u8 A2 n2 c2 z2) :
    Calls Try.prog 8 #[.agg #[.int .i64 s0_0, .int .i64 s0_1, .int .i64 s0_2, .int .i64 s0_3, .int .u16 s0_4, .int .u16 s0_5, .int .i64 s0_6, .int .i64 s0_7, .int .i64 s0_8, .int .i64 s0_9, .int .i64 s0_10, .int .i64 s0_11, .int .i64 s0_12, .int .i64 s0_13], .int .i64 a1, .slice A2 n2 c2] w fun e w' => e = .returned (.bool true) ∧ Below w.heap.size w w' := by
  by_cases hfp : (∃ f, (⟨s0_0, s0_1, s0_2, s0_3, s0_4, s0_5, s0_6, s0_7, s0_8, s0_9, s0_10, s0_11, s0_12, s0_13⟩ : Pl).fr = some f ∧ f.good = true)
  · obtain ⟨f, hfr, hg⟩ := hfp
    by_cases h0 : a1 < 0
    · exact let_go s0_0 s0_1 s0_2 s0_3 s0_4 s0_5 s0_6 s0_7 s0_8 s0_9 s0_10 s0_11 s0_12 s0_13 a1 A2 n2 c2 z2 w w0_0 w0_1 w0_2 w0_3 w0_4 w0_5 w0_6 w0_7 w0_8 w0_9 w0_10 w0_11 w0_12 w0_13 w1 w2 ⟨f, hfr, hg⟩ (.inl h0)
    by_cases h1 : (f.sealed.length : Int) ≤ a1
    · exact let_go s0_0 s0_1 s0_2 s0_3 s0_4 s0_5 s0_6 s0_7 s0_8 s0_9 s0_10 s0_11 s0_12 s0_13 a1 A2 n2 c2 z2 w w0_0 w0_1 w0_2 w0_3 w0_4 w0_5 w0_6 w0_7 w0_8 w0_9 w0_10 w0_11 w0_12 w0_13 w1 w2 ⟨f, hfr, hg⟩ (.inr (.inl fun g hg' => by rw [hfr] at hg'; simp only [Option.some.injEq] at hg'; rw [← hg']; exact h1))
    by_cases h2 : 60 < n2
    · exact let_go s0_0 s0_1 s0_2 s0_3 s0_4 s0_5 s0_6 s0_7 s0_8 s0_9 s0_10 s0_11 s0_12 s0_13 a1 A2 n2 c2 z2 w w0_0 w0_1 w0_2 w0_3 w0_4 w0_5 w0_6 w0_7 w0_8 w0_9 w0_10 w0_11 w0_12 w0_13 w1 w2 ⟨f, hfr, hg⟩ (.inr (.inr (.inl h2)))
    by_cases h3 : n2 = 0
    · exact let_go s0_0 s0_1 s0_2 s0_3 s0_4 s0_5 s0_6 s0_7 s0_8 s0_9 s0_10 s0_11 s0_12 s0_13 a1 A2 n2 c2 z2 w w0_0 w0_1 w0_2 w0_3 w0_4 w0_5 w0_6 w0_7 w0_8 w0_9 w0_10 w0_11 w0_12 w0_13 w1 w2 ⟨f, hfr, hg⟩ (.inr (.inr (.inr h3)))
    exact cut s0_0 s0_1 s0_2 s0_3 s0_4 s0_5 s0_6 s0_7 s0_8 s0_9 s0_10 s0_11 s0_12 s0_13 a1 A2 n2 c2 z2 w w0_0 w0_1 w0_2 w0_3 w0_4 w0_5 w0_6 w0_7 w0_8 w0_9 w0_10 w0_11 w0_12 w0_13 w1 w2 a1.toNat (by omega) ⟨f, hfr, hg⟩ (fun g hg' => by rw [hfr] at hg'; simp only [Option.some.injEq] at hg'; rw [← hg']; omega) (by omega) (by omega)
  · exact not_one s0_0 s0_1 s0_2 s0_3 s0_4 s0_5 s0_6 s0_7 s0_8 s0_9 s0_10 s0_11 s0_12 s0_13 a1 A2 n2 c2 z2 w w0_0 w0_1 w0_2 w0_3 w0_4 w0_5 w0_6 w0_7 w0_8 w0_9 w0_10 w0_11 w0_12 w0_13 w1 w2 hfp

set_option maxRecDepth 100000 in
theorem lifted (os : Os) (started : os.Started) (H : Type) (enc : TypeId × Value → H) :
    ReturnsInHanded {} Try.checked os 8 .any (Rows.frameCutsSpec.pre6 enc Try.prog Try.f8 Rows.frameCutsRow.domain false) (Rows.frameCutsSpec.post enc Try.prog Try.f8 false true false false) := by
  refine returnsInHanded_of_change (C := Try.checked) own started (by kernel_rfl) Try.func8
    (ChangeSpec.witness6 (enc := enc) (C := Try.checked) false ⟨#[], #[.agg #[.int .i64 0, .int .i64 0, .int .i64 0, .int .i64 0, .int .u16 0, .int .u16 0, .int .i64 0, .int .i64 0, .int .i64 0, .int .i64 0, .int .i64 0, .int .i64 0, .int .i64 0, .int .i64 0], .int .i64 0, .slice none 0 0], []⟩ 8 (by kernel_rfl) (by kernel_rfl) (by kernel_rfl) (by kernel_rfl)) ?_
  intro W base args ds gs before hval0 hW hcnd _
  have hval : ∀ (j : Nat) t v, Try.f8.params[j]? = some t → args[j]? = some v → Value.okWide Try.prog W .any base t v := hval0
  have hW' := hW
  obtain ⟨p, q, hA0, hV, rfl, hfz, hnd⟩ := hW
  have hA : DataW.TrodAll enc Try.prog W 0 (fun _ => true) true Try.f8.params.toList args.toList ds p := hA0
  have hAk := hA
  rw [Try.params8] at hA hval
  obtain ⟨v0, vs0, d0, ds0, p0, q0, hargs, rfl, hp, h0, r0⟩ := trodAll_cons hA
  obtain ⟨v1, vs1, d1, ds1, p1, q1, rfl, rfl, rfl, h1, r1⟩ := trodAll_cons r0
  obtain ⟨v2, vs2, d2, ds2, p2, q2, rfl, rfl, rfl, h2, r2⟩ := trodAll_cons r1
  obtain ⟨rfl, rfl, rfl⟩ := trodAll_nil r2
  obtain rfl : args = #[v0, v1, v2] := by cases args; simp_all
  obtain ⟨rfl, rfl⟩ := trodVars_none hV
  clear hA0 hval0 hargs
  simp only [List.append_nil] at hW'
  have hend : ∀ W' : World, Below W.heap.size W W' → Rows.frameCutsSpec.post enc Try.prog Try.f8 false true false false W #[v0, v1, v2] (.bool true) W' := fun W' hb =>
    law_post (tb := 4) hW' hAk rfl (by kernel_rfl) (by kernel_rfl) (by kernel_rfl) Try.underlying4 rfl rfl rfl hb
  clear hW' hAk hp
  obtain ⟨ns0, rfl, hl0, hw0⟩ := ints_struct (ks := [.i64, .i64, .i64, .i64, .u16, .u16, .i64, .i64, .i64, .i64, .i64, .i64, .i64, .i64]) Try.underlying24 (by kernel_rfl) (by kernel_rfl) (by kernel_rfl) (hval 0 24 v0 rfl rfl) h0
  obtain ⟨s0_0, s0_1, s0_2, s0_3, s0_4, s0_5, s0_6, s0_7, s0_8, s0_9, s0_10, s0_11, s0_12, s0_13, rfl⟩ := split14 hl0
  clear hl0
  obtain ⟨a1, rfl, rfl, rfl, w1⟩ := open_int Try.underlying3 (hval 1 3 v1 rfl rfl) h1
  obtain ⟨A2, n2, c2, z2, rfl, w2⟩ := ints_arg Try.underlying29 Try.underlying5 (by kernel_rfl) (hval 2 29 v2 rfl rfl) h2
  refine (walk s0_0 s0_1 s0_2 s0_3 s0_4 s0_5 s0_6 s0_7 s0_8 s0_9 s0_10 s0_11 s0_12 s0_13 a1 A2 n2 c2 z2 W (hw0 0 _ _ rfl rfl) (hw0 1 _ _ rfl rfl) (hw0 2 _ _ rfl rfl) (hw0 3 _ _ rfl rfl) (hw0 4 _ _ rfl rfl) (hw0 5 _ _ rfl rfl) (hw0 6 _ _ rfl rfl) (hw0 7 _ _ rfl rfl) (hw0 8 _ _ rfl rfl) (hw0 9 _ _ rfl rfl) (hw0 10 _ _ rfl rfl) (hw0 11 _ _ rfl rfl) (hw0 12 _ _ rfl rfl) (hw0 13 _ _ rfl rfl) w1 w2).mono fun e W' ⟨he, hg⟩ => ?_
  subst he
  exact ⟨_, rfl, hend W' hg⟩

theorem over : Rows.frameCutsRow.holds Try.pinned (OpenSpec.ofChange Rows.frameCutsSpec) :=
  OpenClaim.holds_of_wide 8 Try.f8 rfl rfl rfl rfl rfl rfl rfl ⟨rfl, rfl, rfl, rfl, rfl⟩ rfl rfl rfl rfl rfl (by kernel_rfl) Try.func8 (by kernel_rfl)
    (of_decide_eq_true (by kernel_rfl)) (by unfold Func.isWrapper; first | (rw [if_pos (by decide +kernel)]; kernel_rfl) | (rw [if_neg (by decide +kernel)]; exact ⟨rfl, rfl⟩))
    (fun os started H enc _ => lifted os started H enc)

/-- THE STATEMENT -/
theorem proved : Rows.FrameCutsSaid :=
  over
#print axioms proved
end Go.Proofs.Ytbdlpkkgfhknkaa.frameCuts
