/-
  Text and Parse answer what the document says, of all seconds and of all texts of at most 1000 bytes; what is told is read as it was.
  The walk is the prover's own; the frame of the row's step follows the kit's template.
-/
import Derived.Test.YtcknllkbeadmlaaDoorRows
import Derived.Test.YtcknllkbeadmlaaDoorLawKit
import Derived.Test.YtcknllkbeadmlaaDoorCards
import Derived.Test.YtcknllkbeadmlaaDoorTie
import Derived.SevenTiedAt
import Derived.Test.YtcknllkbeadmlaaDoorFlat
import Derived.Test.YtcknllkbeadmlaaDoorUtL
import Derived.Test.YtcknllkbeadmlaaDoorUtD
namespace Go.Proofs.YtcknllkbeadmlaaDoor.utcTexts
open Go.ChangeShapes Go.WideShapes Go.ChangeAt Go.RowKit Go.ChangeMaps Go.WideElems
set_option linter.unusedVariables false

theorem cells0 {W : World} {vs : List Value} (h : Fit W [.int .i64, .int .i64, .int .i64, .int .i64, .int .i64, .int .i64] vs) : ∃ (s0 : Int) (s1 : Int) (s2 : Int) (s3 : Int) (s4 : Int) (s5 : Int), vs = [.int .i64 s0, .int .i64 s1, .int .i64 s2, .int .i64 s3, .int .i64 s4, .int .i64 s5] ∧ (Lit.int .i64 s0).wf = true ∧ (Lit.int .i64 s1).wf = true ∧ (Lit.int .i64 s2).wf = true ∧ (Lit.int .i64 s3).wf = true ∧ (Lit.int .i64 s4).wf = true ∧ (Lit.int .i64 s5).wf = true := by
  match vs, h.length, h with
  | [y0, y1, y2, y3, y4, y5], _, h =>
    obtain ⟨⟨x0, rfl, h0⟩, ⟨x1, rfl, h1⟩, ⟨x2, rfl, h2⟩, ⟨x3, rfl, h3⟩, ⟨x4, rfl, h4⟩, ⟨x5, rfl, h5⟩, _⟩ := h
    exact ⟨x0, x1, x2, x3, x4, x5, rfl, h0, h1, h2, h3, h4, h5⟩
theorem own : ownKnob Tryd.prog.godebug = none := by kernel_rfl
set_option linter.unusedSimpArgs false
set_option maxRecDepth 100000 in
set_option maxHeartbeats 8000000 in
theorem walk (s0_0 : Int) (s0_1 : Int) (s0_2 : Int) (s0_3 : Int) (s0_4 : Int) (s0_5 : Int) (a1 : ByteArray) (w : World) (w0_0 : (Lit.int .i64 s0_0).wf = true) (w0_1 : (Lit.int .i64 s0_1).wf = true) (w0_2 : (Lit.int .i64 s0_2).wf = true) (w0_3 : (Lit.int .i64 s0_3).wf = true) (w0_4 : (Lit.int .i64 s0_4).wf = true) (w0_5 : (Lit.int .i64 s0_5).wf = true) (w1 : a1.size ≤ maxLen) (hT : Tab w) :
    Calls Tryd.prog 6 #[.agg #[.int .i64 s0_0, .int .i64 s0_1, .int .i64 s0_2, .int .i64 s0_3, .int .i64 s0_4, .int .i64 s0_5], .string a1] w fun e w' => e = .returned (.bool true) ∧ Below w.heap.size w w' := by
  have HT := Lib.hid hT
  have HX := Lib.hid (Box.start w 28 #[.int .i64 s0_0, .int .i64 s0_1, .int .i64 s0_2, .int .i64 s0_3, .int .i64 s0_4, .int .i64 s0_5])
  clear hT
  obtain ⟨c0, c1, c2, c3, c4, c5, _⟩ := HX.out.cells6
  by_cases h64 : 1000 < a1.size
  · have d0 : decide ((1000 : Int) < (a1.size : Int)) = true := decide_eq_true (by omega)
    go_enter Tryd.func6, Tryd.ntmps6
    go_wp2_with (first
      | (go_at_call 9; refine (alive_yes _ (HT.out.below HX.out.below)).mono ?_; rintro e w1 ⟨rfl, hb1⟩; replace HX := Lib.hid (HX.out.next hb1); clear hb1; (try clear c0 c1 c2 c3 c4 c5); obtain ⟨c0, c1, c2, c3, c4, c5, _⟩ := HX.out.cells6)
      | (go_at_call 13; refine (of_any s0_0 s0_1 s0_2 s0_3 s0_4 s0_5 _).mono ?_; rintro e w2 ⟨rfl, hbz⟩; have HQ := Lib.hid (Box.start w2 35 #[.int .i64 s0_0, .int .i64 s0_1, .int .i64 s0_2, .int .i64 s0_3, .int .i64 s0_4, .int .i64 s0_5]); have hb2 := hbz.trans (HQ.out.below.mono hbz.size); (try replace HA := Lib.hid (HA.out.below hb2 HA.out.lt)); (try replace HB := Lib.hid (HB.out.below hb2 HB.out.lt)); (try replace HC := Lib.hid (HC.out.below hb2 HC.out.lt)); (try replace HD := Lib.hid (HD.out.below hb2 HD.out.lt)); have HA := Lib.hid HQ.out.holds; clear HQ hbz; replace HX := Lib.hid (HX.out.next hb2); clear hb2; (try clear c0 c1 c2 c3 c4 c5); obtain ⟨c0, c1, c2, c3, c4, c5, _⟩ := HX.out.cells6)
      | (go_at_call 20; refine (HGP.out _).mono ?_; rintro e w3 ⟨rfl, hb3⟩; replace HX := Lib.hid (HX.out.next hb3); (try replace HA := Lib.hid (HA.out.below hb3 HA.out.lt)); (try replace HB := Lib.hid (HB.out.below hb3 HB.out.lt)); (try replace HC := Lib.hid (HC.out.below hb3 HC.out.lt)); (try replace HD := Lib.hid (HD.out.below hb3 HD.out.lt)); clear hb3; (try clear c0 c1 c2 c3 c4 c5); obtain ⟨c0, c1, c2, c3, c4, c5, _⟩ := HX.out.cells6; (try (clear x0 x1 x2 x3 x4 x5; have x0 := HA.out.cell 0; have x1 := HA.out.cell 1; have x2 := HA.out.cell 2; have x3 := HA.out.cell 3; have x4 := HA.out.cell 4; have x5 := HA.out.cell 5)))
      | (go_at_call 19; refine (HTP.out _ HX.out.below).mono ?_; rintro e w4 ⟨rfl, hb4⟩; replace HX := Lib.hid (HX.out.next hb4); (try replace HA := Lib.hid (HA.out.below hb4 HA.out.lt)); (try replace HB := Lib.hid (HB.out.below hb4 HB.out.lt)); (try replace HC := Lib.hid (HC.out.below hb4 HC.out.lt)); (try replace HD := Lib.hid (HD.out.below hb4 HD.out.lt)); clear hb4; (try clear c0 c1 c2 c3 c4 c5); obtain ⟨c0, c1, c2, c3, c4, c5, _⟩ := HX.out.cells6; (try (clear x0 x1 x2 x3 x4 x5; have x0 := HA.out.cell 0; have x1 := HA.out.cell 1; have x2 := HA.out.cell 2; have x3 := HA.out.cell 3; have x4 := HA.out.cell 4; have x5 := HA.out.cell 5)))
      | (go_at_call 23; with_reducible refine (HPB.out _ HX.out.below).mono ?_; rintro e w5 ⟨rfl, hbz⟩; have HQ := Lib.hid (Box.start w5 35 #[.int .i64 s0_0, .int .i64 s0_1, .int .i64 s0_2, .int .i64 s0_3, .int .i64 s0_4, .int .i64 s0_5]); have hb5 := hbz.trans (HQ.out.below.mono hbz.size); (try replace HA := Lib.hid (HA.out.below hb5 HA.out.lt)); (try replace HB := Lib.hid (HB.out.below hb5 HB.out.lt)); (try replace HC := Lib.hid (HC.out.below hb5 HC.out.lt)); (try replace HD := Lib.hid (HD.out.below hb5 HD.out.lt)); have HB := Lib.hid HQ.out.holds; clear HQ hbz; replace HX := Lib.hid (HX.out.next hb5); clear hb5; (try clear c0 c1 c2 c3 c4 c5); obtain ⟨c0, c1, c2, c3, c4, c5, _⟩ := HX.out.cells6; (try (clear x0 x1 x2 x3 x4 x5; have x0 := HA.out.cell 0; have x1 := HA.out.cell 1; have x2 := HA.out.cell 2; have x3 := HA.out.cell 3; have x4 := HA.out.cell 4; have x5 := HA.out.cell 5)); have z0 := HB.out.cell 0; have z1 := HB.out.cell 1; have z2 := HB.out.cell 2; have z3 := HB.out.cell 3; have z4 := HB.out.cell 4; have z5 := HB.out.cell 5; clear HPB)
      | (go_at_call 23; with_reducible refine (HPC.out _ HX.out.below).mono ?_; rintro e w6 ⟨rfl, hbz⟩; have HQ := Lib.hid (Box.start w6 35 #[.int .i64 ys, .int .i64 ms, .int .i64 ds, .int .i64 Hs, .int .i64 Ms, .int .i64 Ss]); have hb6 := hbz.trans (HQ.out.below.mono hbz.size); (try replace HA := Lib.hid (HA.out.below hb6 HA.out.lt)); (try replace HB := Lib.hid (HB.out.below hb6 HB.out.lt)); (try replace HC := Lib.hid (HC.out.below hb6 HC.out.lt)); (try replace HD := Lib.hid (HD.out.below hb6 HD.out.lt)); have HC := Lib.hid HQ.out.holds; clear HQ hbz; replace HX := Lib.hid (HX.out.next hb6); clear hb6; (try clear c0 c1 c2 c3 c4 c5); obtain ⟨c0, c1, c2, c3, c4, c5, _⟩ := HX.out.cells6)
      | (go_at_call 23; with_reducible refine (HMC.out _ HX.out.below).mono ?_; rintro e w6 ⟨rfl, hbz⟩; have HQ := Lib.hid (Box.start w6 35 #[.int .i64 0, .int .i64 0, .int .i64 0, .int .i64 0, .int .i64 0, .int .i64 0]); have hb6 := hbz.trans (HQ.out.below.mono hbz.size); (try replace HA := Lib.hid (HA.out.below hb6 HA.out.lt)); (try replace HB := Lib.hid (HB.out.below hb6 HB.out.lt)); (try replace HC := Lib.hid (HC.out.below hb6 HC.out.lt)); (try replace HD := Lib.hid (HD.out.below hb6 HD.out.lt)); have HC := Lib.hid HQ.out.holds; clear HQ hbz; replace HX := Lib.hid (HX.out.next hb6); clear hb6; (try clear c0 c1 c2 c3 c4 c5); obtain ⟨c0, c1, c2, c3, c4, c5, _⟩ := HX.out.cells6)
      | (go_at_call 24; with_reducible refine (HPD.out _).mono ?_; rintro e w7 ⟨rfl, hbz⟩; have HQ := Lib.hid (Box.start w7 28 #[.int .i64 ys, .int .i64 ms, .int .i64 ds, .int .i64 Hs, .int .i64 Ms, .int .i64 Ss]); have hb7 := hbz.trans (HQ.out.below.mono hbz.size); (try replace HA := Lib.hid (HA.out.below hb7 HA.out.lt)); (try replace HB := Lib.hid (HB.out.below hb7 HB.out.lt)); (try replace HC := Lib.hid (HC.out.below hb7 HC.out.lt)); (try replace HD := Lib.hid (HD.out.below hb7 HD.out.lt)); have HD := Lib.hid HQ.out.holds; clear HQ hbz; replace HX := Lib.hid (HX.out.next hb7); clear hb7; (try clear c0 c1 c2 c3 c4 c5); obtain ⟨c0, c1, c2, c3, c4, c5, _⟩ := HX.out.cells6)
      | (go_at_call 24; with_reducible refine (HMD.out _).mono ?_; rintro e w7 ⟨rfl, hbz⟩; have HQ := Lib.hid (Box.start w7 28 #[.int .i64 0, .int .i64 0, .int .i64 0, .int .i64 0, .int .i64 0, .int .i64 0]); have hb7 := hbz.trans (HQ.out.below.mono hbz.size); (try replace HA := Lib.hid (HA.out.below hb7 HA.out.lt)); (try replace HB := Lib.hid (HB.out.below hb7 HB.out.lt)); (try replace HC := Lib.hid (HC.out.below hb7 HC.out.lt)); (try replace HD := Lib.hid (HD.out.below hb7 HD.out.lt)); have HD := Lib.hid HQ.out.holds; clear HQ hbz; replace HX := Lib.hid (HX.out.next hb7); clear hb7; (try clear c0 c1 c2 c3 c4 c5); obtain ⟨c0, c1, c2, c3, c4, c5, _⟩ := HX.out.cells6))
    go_ret
    exact ⟨rfl, HX.out.below⟩
  have d0 : decide ((1000 : Int) < (a1.size : Int)) = false := decide_eq_false (by omega)
  have HGP := Lib.hid (fun W => ugood_any s0_0 s0_1 s0_2 s0_3 s0_4 s0_5 W)
  have HGD := Lib.hid (fun W => rugood_any s0_0 s0_1 s0_2 s0_3 s0_4 s0_5 W)
  by_cases hg : CanD s0_0 s0_1 s0_2 ∧ CanT s0_3 s0_4 s0_5
  · rw [goodU_yes hg.1 hg.2] at HGP HGD
    have HTP := Lib.hid (fun W (hW : Below w.heap.size w W) => utext_yes s0_0 s0_1 s0_2 s0_3 s0_4 s0_5 W hg.1 hg.2 (HT.out.below hW))
    have HTD := Lib.hid (fun W (hW : Below w.heap.size w W) => rutext_yes s0_0 s0_1 s0_2 s0_3 s0_4 s0_5 W hg.1 hg.2)
    have HPB := Lib.hid (fun W (hW : Below w.heap.size w W) => uparse_yes _ s0_0 s0_1 s0_2 s0_3 s0_4 s0_5 W (textU_is hg.1 hg.2) (HT.out.below hW))
    have q3 := utc_neq_same s0_0 s0_1 s0_2 s0_3 s0_4 s0_5
    obtain ⟨TX, hTX⟩ : ∃ T, textU s0_0 s0_1 s0_2 s0_3 s0_4 s0_5 = T := ⟨_, rfl⟩
    simp only [hTX] at HTP HTD HPB
    obtain ⟨q4, q5⟩ := lit_eq TX.toList
    clear hg hTX
    by_cases hs : ∃ y m d H M S, IsUtc a1 y m d H M S
    · obtain ⟨ys, ms, ds, Hs, Ms, Ss, hs⟩ := hs
      have HPC := Lib.hid (fun W (hW : Below w.heap.size w W) => uparse_yes a1 ys ms ds Hs Ms Ss W hs (HT.out.below hW))
      have HPD := Lib.hid (fun W => ruparse_yes a1 ys ms ds Hs Ms Ss W hs)
      have HTC := Lib.hid (fun W (hW : Below w.heap.size w W) => utext_yes ys ms ds Hs Ms Ss W hs.date.can hs.can (HT.out.below hW))
      rw [is_textU hs] at HTC
      have q1 := rutc_eq_same ys ms ds Hs Ms Ss
      have q2 : (a1.toList == a1.toList) = true := beq_self_eq_true _
      clear hs h64
      go_enter Tryd.func6, Tryd.ntmps6
      go_upto_region 6 with (first
        | (go_at_call 9; refine (alive_yes _ (HT.out.below HX.out.below)).mono ?_; rintro e w1 ⟨rfl, hb1⟩; replace HX := Lib.hid (HX.out.next hb1); clear hb1; (try clear c0 c1 c2 c3 c4 c5); obtain ⟨c0, c1, c2, c3, c4, c5, _⟩ := HX.out.cells6)
        | (go_at_call 13; refine (of_any s0_0 s0_1 s0_2 s0_3 s0_4 s0_5 _).mono ?_; rintro e w2 ⟨rfl, hbz⟩; have HQ := Lib.hid (Box.start w2 35 #[.int .i64 s0_0, .int .i64 s0_1, .int .i64 s0_2, .int .i64 s0_3, .int .i64 s0_4, .int .i64 s0_5]); have hb2 := hbz.trans (HQ.out.below.mono hbz.size); (try replace HA := Lib.hid (HA.out.below hb2 HA.out.lt)); (try replace HB := Lib.hid (HB.out.below hb2 HB.out.lt)); (try replace HC := Lib.hid (HC.out.below hb2 HC.out.lt)); (try replace HD := Lib.hid (HD.out.below hb2 HD.out.lt)); have HA := Lib.hid HQ.out.holds; clear HQ hbz; replace HX := Lib.hid (HX.out.next hb2); clear hb2; (try clear c0 c1 c2 c3 c4 c5); obtain ⟨c0, c1, c2, c3, c4, c5, _⟩ := HX.out.cells6)
        | (go_at_call 20; refine (HGP.out _).mono ?_; rintro e w3 ⟨rfl, hb3⟩; replace HX := Lib.hid (HX.out.next hb3); (try replace HA := Lib.hid (HA.out.below hb3 HA.out.lt)); (try replace HB := Lib.hid (HB.out.below hb3 HB.out.lt)); (try replace HC := Lib.hid (HC.out.below hb3 HC.out.lt)); (try replace HD := Lib.hid (HD.out.below hb3 HD.out.lt)); clear hb3; (try clear c0 c1 c2 c3 c4 c5); obtain ⟨c0, c1, c2, c3, c4, c5, _⟩ := HX.out.cells6; (try (clear x0 x1 x2 x3 x4 x5; have x0 := HA.out.cell 0; have x1 := HA.out.cell 1; have x2 := HA.out.cell 2; have x3 := HA.out.cell 3; have x4 := HA.out.cell 4; have x5 := HA.out.cell 5)))
        | (go_at_call 19; refine (HTP.out _ HX.out.below).mono ?_; rintro e w4 ⟨rfl, hb4⟩; replace HX := Lib.hid (HX.out.next hb4); (try replace HA := Lib.hid (HA.out.below hb4 HA.out.lt)); (try replace HB := Lib.hid (HB.out.below hb4 HB.out.lt)); (try replace HC := Lib.hid (HC.out.below hb4 HC.out.lt)); (try replace HD := Lib.hid (HD.out.below hb4 HD.out.lt)); clear hb4; (try clear c0 c1 c2 c3 c4 c5); obtain ⟨c0, c1, c2, c3, c4, c5, _⟩ := HX.out.cells6; (try (clear x0 x1 x2 x3 x4 x5; have x0 := HA.out.cell 0; have x1 := HA.out.cell 1; have x2 := HA.out.cell 2; have x3 := HA.out.cell 3; have x4 := HA.out.cell 4; have x5 := HA.out.cell 5)))
        | (go_at_call 23; with_reducible refine (HPB.out _ HX.out.below).mono ?_; rintro e w5 ⟨rfl, hbz⟩; have HQ := Lib.hid (Box.start w5 35 #[.int .i64 s0_0, .int .i64 s0_1, .int .i64 s0_2, .int .i64 s0_3, .int .i64 s0_4, .int .i64 s0_5]); have hb5 := hbz.trans (HQ.out.below.mono hbz.size); (try replace HA := Lib.hid (HA.out.below hb5 HA.out.lt)); (try replace HB := Lib.hid (HB.out.below hb5 HB.out.lt)); (try replace HC := Lib.hid (HC.out.below hb5 HC.out.lt)); (try replace HD := Lib.hid (HD.out.below hb5 HD.out.lt)); have HB := Lib.hid HQ.out.holds; clear HQ hbz; replace HX := Lib.hid (HX.out.next hb5); clear hb5; (try clear c0 c1 c2 c3 c4 c5); obtain ⟨c0, c1, c2, c3, c4, c5, _⟩ := HX.out.cells6; (try (clear x0 x1 x2 x3 x4 x5; have x0 := HA.out.cell 0; have x1 := HA.out.cell 1; have x2 := HA.out.cell 2; have x3 := HA.out.cell 3; have x4 := HA.out.cell 4; have x5 := HA.out.cell 5)); have z0 := HB.out.cell 0; have z1 := HB.out.cell 1; have z2 := HB.out.cell 2; have z3 := HB.out.cell 3; have z4 := HB.out.cell 4; have z5 := HB.out.cell 5; clear HPB)
        | (go_at_call 23; with_reducible refine (HPC.out _ HX.out.below).mono ?_; rintro e w6 ⟨rfl, hbz⟩; have HQ := Lib.hid (Box.start w6 35 #[.int .i64 ys, .int .i64 ms, .int .i64 ds, .int .i64 Hs, .int .i64 Ms, .int .i64 Ss]); have hb6 := hbz.trans (HQ.out.below.mono hbz.size); (try replace HA := Lib.hid (HA.out.below hb6 HA.out.lt)); (try replace HB := Lib.hid (HB.out.below hb6 HB.out.lt)); (try replace HC := Lib.hid (HC.out.below hb6 HC.out.lt)); (try replace HD := Lib.hid (HD.out.below hb6 HD.out.lt)); have HC := Lib.hid HQ.out.holds; clear HQ hbz; replace HX := Lib.hid (HX.out.next hb6); clear hb6; (try clear c0 c1 c2 c3 c4 c5); obtain ⟨c0, c1, c2, c3, c4, c5, _⟩ := HX.out.cells6)
        | (go_at_call 23; with_reducible refine (HMC.out _ HX.out.below).mono ?_; rintro e w6 ⟨rfl, hbz⟩; have HQ := Lib.hid (Box.start w6 35 #[.int .i64 0, .int .i64 0, .int .i64 0, .int .i64 0, .int .i64 0, .int .i64 0]); have hb6 := hbz.trans (HQ.out.below.mono hbz.size); (try replace HA := Lib.hid (HA.out.below hb6 HA.out.lt)); (try replace HB := Lib.hid (HB.out.below hb6 HB.out.lt)); (try replace HC := Lib.hid (HC.out.below hb6 HC.out.lt)); (try replace HD := Lib.hid (HD.out.below hb6 HD.out.lt)); have HC := Lib.hid HQ.out.holds; clear HQ hbz; replace HX := Lib.hid (HX.out.next hb6); clear hb6; (try clear c0 c1 c2 c3 c4 c5); obtain ⟨c0, c1, c2, c3, c4, c5, _⟩ := HX.out.cells6)
        | (go_at_call 24; with_reducible refine (HPD.out _).mono ?_; rintro e w7 ⟨rfl, hbz⟩; have HQ := Lib.hid (Box.start w7 28 #[.int .i64 ys, .int .i64 ms, .int .i64 ds, .int .i64 Hs, .int .i64 Ms, .int .i64 Ss]); have hb7 := hbz.trans (HQ.out.below.mono hbz.size); (try replace HA := Lib.hid (HA.out.below hb7 HA.out.lt)); (try replace HB := Lib.hid (HB.out.below hb7 HB.out.lt)); (try replace HC := Lib.hid (HC.out.below hb7 HC.out.lt)); (try replace HD := Lib.hid (HD.out.below hb7 HD.out.lt)); have HD := Lib.hid HQ.out.holds; clear HQ hbz; replace HX := Lib.hid (HX.out.next hb7); clear hb7; (try clear c0 c1 c2 c3 c4 c5); obtain ⟨c0, c1, c2, c3, c4, c5, _⟩ := HX.out.cells6)
        | (go_at_call 24; with_reducible refine (HMD.out _).mono ?_; rintro e w7 ⟨rfl, hbz⟩; have HQ := Lib.hid (Box.start w7 28 #[.int .i64 0, .int .i64 0, .int .i64 0, .int .i64 0, .int .i64 0, .int .i64 0]); have hb7 := hbz.trans (HQ.out.below.mono hbz.size); (try replace HA := Lib.hid (HA.out.below hb7 HA.out.lt)); (try replace HB := Lib.hid (HB.out.below hb7 HB.out.lt)); (try replace HC := Lib.hid (HC.out.below hb7 HC.out.lt)); (try replace HD := Lib.hid (HD.out.below hb7 HD.out.lt)); have HD := Lib.hid HQ.out.holds; clear HQ hbz; replace HX := Lib.hid (HX.out.next hb7); clear hb7; (try clear c0 c1 c2 c3 c4 c5); obtain ⟨c0, c1, c2, c3, c4, c5, _⟩ := HX.out.cells6))
      clear c0 c1 c2 c3 c4 c5
      obtain ⟨ba, hba⟩ : ∃ b, w2.heap.size = b := ⟨_, rfl⟩
      simp only [hba] at HA ⊢
      clear hba
      replace HX := Lib.hid HX.out.drew
      replace HA := Lib.hid (HA.out.below (Below.refl _ _).drew HA.out.lt)
      refine region_turns (fun (w' : World) => w'.cell? ⟨ba, 0, none⟩ = some (.int .i64 s0_0) ∧ w'.cell? ⟨ba, 1, none⟩ = some (.int .i64 s0_1) ∧ w'.cell? ⟨ba, 2, none⟩ = some (.int .i64 s0_2) ∧ w'.cell? ⟨ba, 3, none⟩ = some (.int .i64 s0_3) ∧ w'.cell? ⟨ba, 4, none⟩ = some (.int .i64 s0_4) ∧ w'.cell? ⟨ba, 5, none⟩ = some (.int .i64 s0_5) ∧ w'.cell? ⟨w.heap.size, 0, none⟩ = some (.int .i64 s0_0) ∧ w'.cell? ⟨w.heap.size, 1, none⟩ = some (.int .i64 s0_1) ∧ w'.cell? ⟨w.heap.size, 2, none⟩ = some (.int .i64 s0_2) ∧ w'.cell? ⟨w.heap.size, 3, none⟩ = some (.int .i64 s0_3) ∧ w'.cell? ⟨w.heap.size, 4, none⟩ = some (.int .i64 s0_4) ∧ w'.cell? ⟨w.heap.size, 5, none⟩ = some (.int .i64 s0_5)) (fun j => decide (12 ≤ j)) (by kernel_rfl) (⟨HA.out.cell 0, HA.out.cell 1, HA.out.cell 2, HA.out.cell 3, HA.out.cell 4, HA.out.cell 5, HX.out.holds.cell 0, HX.out.holds.cell 1, HX.out.holds.cell 2, HX.out.holds.cell 3, HX.out.holds.cell 4, HX.out.holds.cell 5⟩) (fun hS => ?_)
      refine Turns.take hS 0 _ rfl (by kernel_rfl) (by kernel_rfl) (by kernel_rfl) (by kernel_rfl) (fun _ _ _ h => h) (by rfl) (fun w' hS' => by (try dsimp only at hS'); go_split_ands; go_simp; (try with_reducible rfl)) ?_
      simp only [Act.put, List.getElem_toArray, List.getElem_cons_succ, List.getElem_cons_zero, List.setIfInBounds_toArray, List.set_cons_zero, List.set_cons_succ]
      refine Turns.take hS 2 _ rfl (by kernel_rfl) (by kernel_rfl) (by kernel_rfl) (by kernel_rfl) (fun _ _ _ h => h) (by rfl) (fun w' hS' => by (try dsimp only at hS'); go_split_ands; go_simp; (try with_reducible rfl)) ?_
      simp only [Act.put, List.getElem_toArray, List.getElem_cons_succ, List.getElem_cons_zero, List.setIfInBounds_toArray, List.set_cons_zero, List.set_cons_succ]
      refine Turns.next 1 rfl (by kernel_rfl) (by rfl) (fun K hK => ?_)
      go_simp
      go_at_call 20
      refine (HGP.out _).mono ?_
      rintro e v1 ⟨rfl, hbt⟩
      replace HX := Lib.hid (HX.out.next hbt)
      replace HA := Lib.hid (HA.out.below hbt HA.out.lt)
      clear hbt
      refine hK.out _ _ (show (fun (w' : World) => w'.cell? ⟨ba, 0, none⟩ = some (.int .i64 s0_0) ∧ w'.cell? ⟨ba, 1, none⟩ = some (.int .i64 s0_1) ∧ w'.cell? ⟨ba, 2, none⟩ = some (.int .i64 s0_2) ∧ w'.cell? ⟨ba, 3, none⟩ = some (.int .i64 s0_3) ∧ w'.cell? ⟨ba, 4, none⟩ = some (.int .i64 s0_4) ∧ w'.cell? ⟨ba, 5, none⟩ = some (.int .i64 s0_5) ∧ w'.cell? ⟨w.heap.size, 0, none⟩ = some (.int .i64 s0_0) ∧ w'.cell? ⟨w.heap.size, 1, none⟩ = some (.int .i64 s0_1) ∧ w'.cell? ⟨w.heap.size, 2, none⟩ = some (.int .i64 s0_2) ∧ w'.cell? ⟨w.heap.size, 3, none⟩ = some (.int .i64 s0_3) ∧ w'.cell? ⟨w.heap.size, 4, none⟩ = some (.int .i64 s0_4) ∧ w'.cell? ⟨w.heap.size, 5, none⟩ = some (.int .i64 s0_5)) _ from ⟨HA.out.cell 0, HA.out.cell 1, HA.out.cell 2, HA.out.cell 3, HA.out.cell 4, HA.out.cell 5, HX.out.holds.cell 0, HX.out.holds.cell 1, HX.out.holds.cell 2, HX.out.holds.cell 3, HX.out.holds.cell 4, HX.out.holds.cell 5⟩) ?_
      clear hK K hS
      have hS := (show (fun (w' : World) => w'.cell? ⟨ba, 0, none⟩ = some (.int .i64 s0_0) ∧ w'.cell? ⟨ba, 1, none⟩ = some (.int .i64 s0_1) ∧ w'.cell? ⟨ba, 2, none⟩ = some (.int .i64 s0_2) ∧ w'.cell? ⟨ba, 3, none⟩ = some (.int .i64 s0_3) ∧ w'.cell? ⟨ba, 4, none⟩ = some (.int .i64 s0_4) ∧ w'.cell? ⟨ba, 5, none⟩ = some (.int .i64 s0_5) ∧ w'.cell? ⟨w.heap.size, 0, none⟩ = some (.int .i64 s0_0) ∧ w'.cell? ⟨w.heap.size, 1, none⟩ = some (.int .i64 s0_1) ∧ w'.cell? ⟨w.heap.size, 2, none⟩ = some (.int .i64 s0_2) ∧ w'.cell? ⟨w.heap.size, 3, none⟩ = some (.int .i64 s0_3) ∧ w'.cell? ⟨w.heap.size, 4, none⟩ = some (.int .i64 s0_4) ∧ w'.cell? ⟨w.heap.size, 5, none⟩ = some (.int .i64 s0_5)) _ from ⟨HA.out.cell 0, HA.out.cell 1, HA.out.cell 2, HA.out.cell 3, HA.out.cell 4, HA.out.cell 5, HX.out.holds.cell 0, HX.out.holds.cell 1, HX.out.holds.cell 2, HX.out.holds.cell 3, HX.out.holds.cell 4, HX.out.holds.cell 5⟩)
      refine Turns.next 3 rfl (by kernel_rfl) (by rfl) (fun K hK => ?_)
      go_simp
      go_at_call 21
      refine (HGD.out _).mono ?_
      rintro e v3 ⟨rfl, hbt⟩
      replace HX := Lib.hid (HX.out.next hbt)
      replace HA := Lib.hid (HA.out.below hbt HA.out.lt)
      clear hbt
      refine hK.out _ _ (show (fun (w' : World) => w'.cell? ⟨ba, 0, none⟩ = some (.int .i64 s0_0) ∧ w'.cell? ⟨ba, 1, none⟩ = some (.int .i64 s0_1) ∧ w'.cell? ⟨ba, 2, none⟩ = some (.int .i64 s0_2) ∧ w'.cell? ⟨ba, 3, none⟩ = some (.int .i64 s0_3) ∧ w'.cell? ⟨ba, 4, none⟩ = some (.int .i64 s0_4) ∧ w'.cell? ⟨ba, 5, none⟩ = some (.int .i64 s0_5) ∧ w'.cell? ⟨w.heap.size, 0, none⟩ = some (.int .i64 s0_0) ∧ w'.cell? ⟨w.heap.size, 1, none⟩ = some (.int .i64 s0_1) ∧ w'.cell? ⟨w.heap.size, 2, none⟩ = some (.int .i64 s0_2) ∧ w'.cell? ⟨w.heap.size, 3, none⟩ = some (.int .i64 s0_3) ∧ w'.cell? ⟨w.heap.size, 4, none⟩ = some (.int .i64 s0_4) ∧ w'.cell? ⟨w.heap.size, 5, none⟩ = some (.int .i64 s0_5)) _ from ⟨HA.out.cell 0, HA.out.cell 1, HA.out.cell 2, HA.out.cell 3, HA.out.cell 4, HA.out.cell 5, HX.out.holds.cell 0, HX.out.holds.cell 1, HX.out.holds.cell 2, HX.out.holds.cell 3, HX.out.holds.cell 4, HX.out.holds.cell 5⟩) ?_
      clear hK K hS
      have hS := (show (fun (w' : World) => w'.cell? ⟨ba, 0, none⟩ = some (.int .i64 s0_0) ∧ w'.cell? ⟨ba, 1, none⟩ = some (.int .i64 s0_1) ∧ w'.cell? ⟨ba, 2, none⟩ = some (.int .i64 s0_2) ∧ w'.cell? ⟨ba, 3, none⟩ = some (.int .i64 s0_3) ∧ w'.cell? ⟨ba, 4, none⟩ = some (.int .i64 s0_4) ∧ w'.cell? ⟨ba, 5, none⟩ = some (.int .i64 s0_5) ∧ w'.cell? ⟨w.heap.size, 0, none⟩ = some (.int .i64 s0_0) ∧ w'.cell? ⟨w.heap.size, 1, none⟩ = some (.int .i64 s0_1) ∧ w'.cell? ⟨w.heap.size, 2, none⟩ = some (.int .i64 s0_2) ∧ w'.cell? ⟨w.heap.size, 3, none⟩ = some (.int .i64 s0_3) ∧ w'.cell? ⟨w.heap.size, 4, none⟩ = some (.int .i64 s0_4) ∧ w'.cell? ⟨w.heap.size, 5, none⟩ = some (.int .i64 s0_5)) _ from ⟨HA.out.cell 0, HA.out.cell 1, HA.out.cell 2, HA.out.cell 3, HA.out.cell 4, HA.out.cell 5, HX.out.holds.cell 0, HX.out.holds.cell 1, HX.out.holds.cell 2, HX.out.holds.cell 3, HX.out.holds.cell 4, HX.out.holds.cell 5⟩)
      refine Turns.take hS 4 _ rfl (by kernel_rfl) (by kernel_rfl) (by kernel_rfl) (by kernel_rfl) (fun _ _ _ h => h) (by rfl) (fun w' hS' => by (try dsimp only at hS'); go_split_ands; go_simp; (try with_reducible rfl)) ?_
      simp only [Act.put, List.getElem_toArray, List.getElem_cons_succ, List.getElem_cons_zero, List.setIfInBounds_toArray, List.set_cons_zero, List.set_cons_succ]
      refine Turns.take hS 5 _ rfl (by kernel_rfl) (by kernel_rfl) (by kernel_rfl) (by kernel_rfl) (fun _ _ _ h => h) (by rfl) (fun w' hS' => by (try dsimp only at hS'); go_split_ands; go_simp; (try with_reducible rfl)) ?_
      simp only [Act.put, List.getElem_toArray, List.getElem_cons_succ, List.getElem_cons_zero, List.setIfInBounds_toArray, List.set_cons_zero, List.set_cons_succ]
      refine Turns.take hS 6 _ rfl (by kernel_rfl) (by kernel_rfl) (by kernel_rfl) (by kernel_rfl) (fun _ _ _ h => h) (by rfl) (fun w' hS' => by (try dsimp only at hS'); go_split_ands; go_simp; (try with_reducible rfl)) ?_
      simp only [Act.put, List.getElem_toArray, List.getElem_cons_succ, List.getElem_cons_zero, List.setIfInBounds_toArray, List.set_cons_zero, List.set_cons_succ]
      refine Turns.take hS 8 _ rfl (by kernel_rfl) (by kernel_rfl) (by kernel_rfl) (by kernel_rfl) (fun _ _ _ h => h) (by rfl) (fun w' hS' => by (try dsimp only at hS'); go_split_ands; go_simp; (try with_reducible rfl)) ?_
      simp only [Act.put, List.getElem_toArray, List.getElem_cons_succ, List.getElem_cons_zero, List.setIfInBounds_toArray, List.set_cons_zero, List.set_cons_succ]
      refine Turns.next 7 rfl (by kernel_rfl) (by rfl) (fun K hK => ?_)
      go_simp
      go_at_call 19
      refine (HTP.out _ HX.out.below).mono ?_
      rintro e v7 ⟨rfl, hbt⟩
      replace HX := Lib.hid (HX.out.next hbt)
      replace HA := Lib.hid (HA.out.below hbt HA.out.lt)
      clear hbt
      refine hK.out _ _ (show (fun (w' : World) => w'.cell? ⟨ba, 0, none⟩ = some (.int .i64 s0_0) ∧ w'.cell? ⟨ba, 1, none⟩ = some (.int .i64 s0_1) ∧ w'.cell? ⟨ba, 2, none⟩ = some (.int .i64 s0_2) ∧ w'.cell? ⟨ba, 3, none⟩ = some (.int .i64 s0_3) ∧ w'.cell? ⟨ba, 4, none⟩ = some (.int .i64 s0_4) ∧ w'.cell? ⟨ba, 5, none⟩ = some (.int .i64 s0_5) ∧ w'.cell? ⟨w.heap.size, 0, none⟩ = some (.int .i64 s0_0) ∧ w'.cell? ⟨w.heap.size, 1, none⟩ = some (.int .i64 s0_1) ∧ w'.cell? ⟨w.heap.size, 2, none⟩ = some (.int .i64 s0_2) ∧ w'.cell? ⟨w.heap.size, 3, none⟩ = some (.int .i64 s0_3) ∧ w'.cell? ⟨w.heap.size, 4, none⟩ = some (.int .i64 s0_4) ∧ w'.cell? ⟨w.heap.size, 5, none⟩ = some (.int .i64 s0_5)) _ from ⟨HA.out.cell 0, HA.out.cell 1, HA.out.cell 2, HA.out.cell 3, HA.out.cell 4, HA.out.cell 5, HX.out.holds.cell 0, HX.out.holds.cell 1, HX.out.holds.cell 2, HX.out.holds.cell 3, HX.out.holds.cell 4, HX.out.holds.cell 5⟩) ?_
      clear hK K hS
      have hS := (show (fun (w' : World) => w'.cell? ⟨ba, 0, none⟩ = some (.int .i64 s0_0) ∧ w'.cell? ⟨ba, 1, none⟩ = some (.int .i64 s0_1) ∧ w'.cell? ⟨ba, 2, none⟩ = some (.int .i64 s0_2) ∧ w'.cell? ⟨ba, 3, none⟩ = some (.int .i64 s0_3) ∧ w'.cell? ⟨ba, 4, none⟩ = some (.int .i64 s0_4) ∧ w'.cell? ⟨ba, 5, none⟩ = some (.int .i64 s0_5) ∧ w'.cell? ⟨w.heap.size, 0, none⟩ = some (.int .i64 s0_0) ∧ w'.cell? ⟨w.heap.size, 1, none⟩ = some (.int .i64 s0_1) ∧ w'.cell? ⟨w.heap.size, 2, none⟩ = some (.int .i64 s0_2) ∧ w'.cell? ⟨w.heap.size, 3, none⟩ = some (.int .i64 s0_3) ∧ w'.cell? ⟨w.heap.size, 4, none⟩ = some (.int .i64 s0_4) ∧ w'.cell? ⟨w.heap.size, 5, none⟩ = some (.int .i64 s0_5)) _ from ⟨HA.out.cell 0, HA.out.cell 1, HA.out.cell 2, HA.out.cell 3, HA.out.cell 4, HA.out.cell 5, HX.out.holds.cell 0, HX.out.holds.cell 1, HX.out.holds.cell 2, HX.out.holds.cell 3, HX.out.holds.cell 4, HX.out.holds.cell 5⟩)
      refine Turns.next 9 rfl (by kernel_rfl) (by rfl) (fun K hK => ?_)
      go_simp
      go_at_call 22
      refine (HTD.out _ HX.out.below).mono ?_
      rintro e v9 ⟨rfl, hbt⟩
      replace HX := Lib.hid (HX.out.next hbt)
      replace HA := Lib.hid (HA.out.below hbt HA.out.lt)
      clear hbt
      refine hK.out _ _ (show (fun (w' : World) => w'.cell? ⟨ba, 0, none⟩ = some (.int .i64 s0_0) ∧ w'.cell? ⟨ba, 1, none⟩ = some (.int .i64 s0_1) ∧ w'.cell? ⟨ba, 2, none⟩ = some (.int .i64 s0_2) ∧ w'.cell? ⟨ba, 3, none⟩ = some (.int .i64 s0_3) ∧ w'.cell? ⟨ba, 4, none⟩ = some (.int .i64 s0_4) ∧ w'.cell? ⟨ba, 5, none⟩ = some (.int .i64 s0_5) ∧ w'.cell? ⟨w.heap.size, 0, none⟩ = some (.int .i64 s0_0) ∧ w'.cell? ⟨w.heap.size, 1, none⟩ = some (.int .i64 s0_1) ∧ w'.cell? ⟨w.heap.size, 2, none⟩ = some (.int .i64 s0_2) ∧ w'.cell? ⟨w.heap.size, 3, none⟩ = some (.int .i64 s0_3) ∧ w'.cell? ⟨w.heap.size, 4, none⟩ = some (.int .i64 s0_4) ∧ w'.cell? ⟨w.heap.size, 5, none⟩ = some (.int .i64 s0_5)) _ from ⟨HA.out.cell 0, HA.out.cell 1, HA.out.cell 2, HA.out.cell 3, HA.out.cell 4, HA.out.cell 5, HX.out.holds.cell 0, HX.out.holds.cell 1, HX.out.holds.cell 2, HX.out.holds.cell 3, HX.out.holds.cell 4, HX.out.holds.cell 5⟩) ?_
      clear hK K hS
      have hS := (show (fun (w' : World) => w'.cell? ⟨ba, 0, none⟩ = some (.int .i64 s0_0) ∧ w'.cell? ⟨ba, 1, none⟩ = some (.int .i64 s0_1) ∧ w'.cell? ⟨ba, 2, none⟩ = some (.int .i64 s0_2) ∧ w'.cell? ⟨ba, 3, none⟩ = some (.int .i64 s0_3) ∧ w'.cell? ⟨ba, 4, none⟩ = some (.int .i64 s0_4) ∧ w'.cell? ⟨ba, 5, none⟩ = some (.int .i64 s0_5) ∧ w'.cell? ⟨w.heap.size, 0, none⟩ = some (.int .i64 s0_0) ∧ w'.cell? ⟨w.heap.size, 1, none⟩ = some (.int .i64 s0_1) ∧ w'.cell? ⟨w.heap.size, 2, none⟩ = some (.int .i64 s0_2) ∧ w'.cell? ⟨w.heap.size, 3, none⟩ = some (.int .i64 s0_3) ∧ w'.cell? ⟨w.heap.size, 4, none⟩ = some (.int .i64 s0_4) ∧ w'.cell? ⟨w.heap.size, 5, none⟩ = some (.int .i64 s0_5)) _ from ⟨HA.out.cell 0, HA.out.cell 1, HA.out.cell 2, HA.out.cell 3, HA.out.cell 4, HA.out.cell 5, HX.out.holds.cell 0, HX.out.holds.cell 1, HX.out.holds.cell 2, HX.out.holds.cell 3, HX.out.holds.cell 4, HX.out.holds.cell 5⟩)
      refine Turns.take hS 10 _ rfl (by kernel_rfl) (by kernel_rfl) (by kernel_rfl) (by kernel_rfl) (fun _ _ _ h => h) (by rfl) (fun w' hS' => by (try dsimp only at hS'); go_split_ands; go_simp; (try with_reducible rfl)) ?_
      simp only [Act.put, List.getElem_toArray, List.getElem_cons_succ, List.getElem_cons_zero, List.setIfInBounds_toArray, List.set_cons_zero, List.set_cons_succ]
      refine Turns.take hS 11 _ rfl (by kernel_rfl) (by kernel_rfl) (by kernel_rfl) (by kernel_rfl) (fun _ _ _ h => h) (by rfl) (fun w' hS' => by (try dsimp only at hS'); go_split_ands; go_simp; (try with_reducible rfl)) ?_
      simp only [Act.put, List.getElem_toArray, List.getElem_cons_succ, List.getElem_cons_zero, List.setIfInBounds_toArray, List.set_cons_zero, List.set_cons_succ]
      refine Turns.rest (late_done (by kernel_rfl)) ?_
      refine any_tail 12 (by rfl) (by kernel_rfl) ?_
      simp only [List.drop_succ_cons, List.drop_zero]
      clear hS
      have x0 := HA.out.cell 0
      have x1 := HA.out.cell 1
      have x2 := HA.out.cell 2
      have x3 := HA.out.cell 3
      have x4 := HA.out.cell 4
      have x5 := HA.out.cell 5
      obtain ⟨c0, c1, c2, c3, c4, c5, _⟩ := HX.out.cells6
      go_upto_region 14 with (first
        | (go_at_call 9; refine (alive_yes _ (HT.out.below HX.out.below)).mono ?_; rintro e w1 ⟨rfl, hb1⟩; replace HX := Lib.hid (HX.out.next hb1); clear hb1; (try clear c0 c1 c2 c3 c4 c5); obtain ⟨c0, c1, c2, c3, c4, c5, _⟩ := HX.out.cells6)
        | (go_at_call 13; refine (of_any s0_0 s0_1 s0_2 s0_3 s0_4 s0_5 _).mono ?_; rintro e w2 ⟨rfl, hbz⟩; have HQ := Lib.hid (Box.start w2 35 #[.int .i64 s0_0, .int .i64 s0_1, .int .i64 s0_2, .int .i64 s0_3, .int .i64 s0_4, .int .i64 s0_5]); have hb2 := hbz.trans (HQ.out.below.mono hbz.size); (try replace HA := Lib.hid (HA.out.below hb2 HA.out.lt)); (try replace HB := Lib.hid (HB.out.below hb2 HB.out.lt)); (try replace HC := Lib.hid (HC.out.below hb2 HC.out.lt)); (try replace HD := Lib.hid (HD.out.below hb2 HD.out.lt)); have HA := Lib.hid HQ.out.holds; clear HQ hbz; replace HX := Lib.hid (HX.out.next hb2); clear hb2; (try clear c0 c1 c2 c3 c4 c5); obtain ⟨c0, c1, c2, c3, c4, c5, _⟩ := HX.out.cells6)
        | (go_at_call 20; refine (HGP.out _).mono ?_; rintro e w3 ⟨rfl, hb3⟩; replace HX := Lib.hid (HX.out.next hb3); (try replace HA := Lib.hid (HA.out.below hb3 HA.out.lt)); (try replace HB := Lib.hid (HB.out.below hb3 HB.out.lt)); (try replace HC := Lib.hid (HC.out.below hb3 HC.out.lt)); (try replace HD := Lib.hid (HD.out.below hb3 HD.out.lt)); clear hb3; (try clear c0 c1 c2 c3 c4 c5); obtain ⟨c0, c1, c2, c3, c4, c5, _⟩ := HX.out.cells6; (try (clear x0 x1 x2 x3 x4 x5; have x0 := HA.out.cell 0; have x1 := HA.out.cell 1; have x2 := HA.out.cell 2; have x3 := HA.out.cell 3; have x4 := HA.out.cell 4; have x5 := HA.out.cell 5)))
        | (go_at_call 19; refine (HTP.out _ HX.out.below).mono ?_; rintro e w4 ⟨rfl, hb4⟩; replace HX := Lib.hid (HX.out.next hb4); (try replace HA := Lib.hid (HA.out.below hb4 HA.out.lt)); (try replace HB := Lib.hid (HB.out.below hb4 HB.out.lt)); (try replace HC := Lib.hid (HC.out.below hb4 HC.out.lt)); (try replace HD := Lib.hid (HD.out.below hb4 HD.out.lt)); clear hb4; (try clear c0 c1 c2 c3 c4 c5); obtain ⟨c0, c1, c2, c3, c4, c5, _⟩ := HX.out.cells6; (try (clear x0 x1 x2 x3 x4 x5; have x0 := HA.out.cell 0; have x1 := HA.out.cell 1; have x2 := HA.out.cell 2; have x3 := HA.out.cell 3; have x4 := HA.out.cell 4; have x5 := HA.out.cell 5)))
        | (go_at_call 23; with_reducible refine (HPB.out _ HX.out.below).mono ?_; rintro e w5 ⟨rfl, hbz⟩; have HQ := Lib.hid (Box.start w5 35 #[.int .i64 s0_0, .int .i64 s0_1, .int .i64 s0_2, .int .i64 s0_3, .int .i64 s0_4, .int .i64 s0_5]); have hb5 := hbz.trans (HQ.out.below.mono hbz.size); (try replace HA := Lib.hid (HA.out.below hb5 HA.out.lt)); (try replace HB := Lib.hid (HB.out.below hb5 HB.out.lt)); (try replace HC := Lib.hid (HC.out.below hb5 HC.out.lt)); (try replace HD := Lib.hid (HD.out.below hb5 HD.out.lt)); have HB := Lib.hid HQ.out.holds; clear HQ hbz; replace HX := Lib.hid (HX.out.next hb5); clear hb5; (try clear c0 c1 c2 c3 c4 c5); obtain ⟨c0, c1, c2, c3, c4, c5, _⟩ := HX.out.cells6; (try (clear x0 x1 x2 x3 x4 x5; have x0 := HA.out.cell 0; have x1 := HA.out.cell 1; have x2 := HA.out.cell 2; have x3 := HA.out.cell 3; have x4 := HA.out.cell 4; have x5 := HA.out.cell 5)); have z0 := HB.out.cell 0; have z1 := HB.out.cell 1; have z2 := HB.out.cell 2; have z3 := HB.out.cell 3; have z4 := HB.out.cell 4; have z5 := HB.out.cell 5; clear HPB)
        | (go_at_call 23; with_reducible refine (HPC.out _ HX.out.below).mono ?_; rintro e w6 ⟨rfl, hbz⟩; have HQ := Lib.hid (Box.start w6 35 #[.int .i64 ys, .int .i64 ms, .int .i64 ds, .int .i64 Hs, .int .i64 Ms, .int .i64 Ss]); have hb6 := hbz.trans (HQ.out.below.mono hbz.size); (try replace HA := Lib.hid (HA.out.below hb6 HA.out.lt)); (try replace HB := Lib.hid (HB.out.below hb6 HB.out.lt)); (try replace HC := Lib.hid (HC.out.below hb6 HC.out.lt)); (try replace HD := Lib.hid (HD.out.below hb6 HD.out.lt)); have HC := Lib.hid HQ.out.holds; clear HQ hbz; replace HX := Lib.hid (HX.out.next hb6); clear hb6; (try clear c0 c1 c2 c3 c4 c5); obtain ⟨c0, c1, c2, c3, c4, c5, _⟩ := HX.out.cells6)
        | (go_at_call 23; with_reducible refine (HMC.out _ HX.out.below).mono ?_; rintro e w6 ⟨rfl, hbz⟩; have HQ := Lib.hid (Box.start w6 35 #[.int .i64 0, .int .i64 0, .int .i64 0, .int .i64 0, .int .i64 0, .int .i64 0]); have hb6 := hbz.trans (HQ.out.below.mono hbz.size); (try replace HA := Lib.hid (HA.out.below hb6 HA.out.lt)); (try replace HB := Lib.hid (HB.out.below hb6 HB.out.lt)); (try replace HC := Lib.hid (HC.out.below hb6 HC.out.lt)); (try replace HD := Lib.hid (HD.out.below hb6 HD.out.lt)); have HC := Lib.hid HQ.out.holds; clear HQ hbz; replace HX := Lib.hid (HX.out.next hb6); clear hb6; (try clear c0 c1 c2 c3 c4 c5); obtain ⟨c0, c1, c2, c3, c4, c5, _⟩ := HX.out.cells6)
        | (go_at_call 24; with_reducible refine (HPD.out _).mono ?_; rintro e w7 ⟨rfl, hbz⟩; have HQ := Lib.hid (Box.start w7 28 #[.int .i64 ys, .int .i64 ms, .int .i64 ds, .int .i64 Hs, .int .i64 Ms, .int .i64 Ss]); have hb7 := hbz.trans (HQ.out.below.mono hbz.size); (try replace HA := Lib.hid (HA.out.below hb7 HA.out.lt)); (try replace HB := Lib.hid (HB.out.below hb7 HB.out.lt)); (try replace HC := Lib.hid (HC.out.below hb7 HC.out.lt)); (try replace HD := Lib.hid (HD.out.below hb7 HD.out.lt)); have HD := Lib.hid HQ.out.holds; clear HQ hbz; replace HX := Lib.hid (HX.out.next hb7); clear hb7; (try clear c0 c1 c2 c3 c4 c5); obtain ⟨c0, c1, c2, c3, c4, c5, _⟩ := HX.out.cells6)
        | (go_at_call 24; with_reducible refine (HMD.out _).mono ?_; rintro e w7 ⟨rfl, hbz⟩; have HQ := Lib.hid (Box.start w7 28 #[.int .i64 0, .int .i64 0, .int .i64 0, .int .i64 0, .int .i64 0, .int .i64 0]); have hb7 := hbz.trans (HQ.out.below.mono hbz.size); (try replace HA := Lib.hid (HA.out.below hb7 HA.out.lt)); (try replace HB := Lib.hid (HB.out.below hb7 HB.out.lt)); (try replace HC := Lib.hid (HC.out.below hb7 HC.out.lt)); (try replace HD := Lib.hid (HD.out.below hb7 HD.out.lt)); have HD := Lib.hid HQ.out.holds; clear HQ hbz; replace HX := Lib.hid (HX.out.next hb7); clear hb7; (try clear c0 c1 c2 c3 c4 c5); obtain ⟨c0, c1, c2, c3, c4, c5, _⟩ := HX.out.cells6))
      obtain ⟨bc, hbc⟩ : ∃ b, w6.heap.size = b := ⟨_, rfl⟩
      simp only [hbc] at HC ⊢
      obtain ⟨bd, hbd⟩ : ∃ b, w7.heap.size = b := ⟨_, rfl⟩
      simp only [hbd] at HD ⊢
      clear hbc hbd
      (try clear c0 c1 c2 c3 c4 c5)
      (try clear x0 x1 x2 x3 x4 x5)
      replace HX := Lib.hid HX.out.drew
      replace HC := Lib.hid (HC.out.below (Below.refl _ _).drew HC.out.lt)
      replace HD := Lib.hid (HD.out.below (Below.refl _ _).drew HD.out.lt)
      refine region_turns (fun (w' : World) => w'.cell? ⟨bc, 0, none⟩ = some (.int .i64 ys) ∧ w'.cell? ⟨bc, 1, none⟩ = some (.int .i64 ms) ∧ w'.cell? ⟨bc, 2, none⟩ = some (.int .i64 ds) ∧ w'.cell? ⟨bc, 3, none⟩ = some (.int .i64 Hs) ∧ w'.cell? ⟨bc, 4, none⟩ = some (.int .i64 Ms) ∧ w'.cell? ⟨bc, 5, none⟩ = some (.int .i64 Ss) ∧ w'.cell? ⟨bd, 0, none⟩ = some (.int .i64 ys) ∧ w'.cell? ⟨bd, 1, none⟩ = some (.int .i64 ms) ∧ w'.cell? ⟨bd, 2, none⟩ = some (.int .i64 ds) ∧ w'.cell? ⟨bd, 3, none⟩ = some (.int .i64 Hs) ∧ w'.cell? ⟨bd, 4, none⟩ = some (.int .i64 Ms) ∧ w'.cell? ⟨bd, 5, none⟩ = some (.int .i64 Ss)) (fun j => decide (20 ≤ j)) (by kernel_rfl) (⟨HC.out.cell 0, HC.out.cell 1, HC.out.cell 2, HC.out.cell 3, HC.out.cell 4, HC.out.cell 5, HD.out.cell 0, HD.out.cell 1, HD.out.cell 2, HD.out.cell 3, HD.out.cell 4, HD.out.cell 5⟩) (fun hS => ?_)
      refine Turns.take hS 0 _ rfl (by kernel_rfl) (by kernel_rfl) (by kernel_rfl) (by kernel_rfl) (fun _ _ _ h => h) (by rfl) (fun w' hS' => by (try dsimp only at hS'); go_split_ands; go_simp; (try with_reducible rfl)) ?_
      simp only [Act.put, List.getElem_toArray, List.getElem_cons_succ, List.getElem_cons_zero, List.setIfInBounds_toArray, List.set_cons_zero, List.set_cons_succ]
      refine Turns.take hS 2 _ rfl (by kernel_rfl) (by kernel_rfl) (by kernel_rfl) (by kernel_rfl) (fun _ _ _ h => h) (by rfl) (fun w' hS' => by (try dsimp only at hS'); go_split_ands; go_simp; (try with_reducible rfl)) ?_
      simp only [Act.put, List.getElem_toArray, List.getElem_cons_succ, List.getElem_cons_zero, List.setIfInBounds_toArray, List.set_cons_zero, List.set_cons_succ]
      refine Turns.next 1 rfl (by kernel_rfl) (by rfl) (fun K hK => ?_)
      go_simp
      go_at_call 15
      refine (plain_any ys ms ds Hs Ms Ss _).mono ?_
      rintro e v1 ⟨rfl, hbt⟩
      replace HX := Lib.hid (HX.out.next hbt)
      replace HC := Lib.hid (HC.out.below hbt HC.out.lt)
      replace HD := Lib.hid (HD.out.below hbt HD.out.lt)
      clear hbt
      refine hK.out _ _ (show (fun (w' : World) => w'.cell? ⟨bc, 0, none⟩ = some (.int .i64 ys) ∧ w'.cell? ⟨bc, 1, none⟩ = some (.int .i64 ms) ∧ w'.cell? ⟨bc, 2, none⟩ = some (.int .i64 ds) ∧ w'.cell? ⟨bc, 3, none⟩ = some (.int .i64 Hs) ∧ w'.cell? ⟨bc, 4, none⟩ = some (.int .i64 Ms) ∧ w'.cell? ⟨bc, 5, none⟩ = some (.int .i64 Ss) ∧ w'.cell? ⟨bd, 0, none⟩ = some (.int .i64 ys) ∧ w'.cell? ⟨bd, 1, none⟩ = some (.int .i64 ms) ∧ w'.cell? ⟨bd, 2, none⟩ = some (.int .i64 ds) ∧ w'.cell? ⟨bd, 3, none⟩ = some (.int .i64 Hs) ∧ w'.cell? ⟨bd, 4, none⟩ = some (.int .i64 Ms) ∧ w'.cell? ⟨bd, 5, none⟩ = some (.int .i64 Ss)) _ from ⟨HC.out.cell 0, HC.out.cell 1, HC.out.cell 2, HC.out.cell 3, HC.out.cell 4, HC.out.cell 5, HD.out.cell 0, HD.out.cell 1, HD.out.cell 2, HD.out.cell 3, HD.out.cell 4, HD.out.cell 5⟩) ?_
      clear hK K hS
      have hS := (show (fun (w' : World) => w'.cell? ⟨bc, 0, none⟩ = some (.int .i64 ys) ∧ w'.cell? ⟨bc, 1, none⟩ = some (.int .i64 ms) ∧ w'.cell? ⟨bc, 2, none⟩ = some (.int .i64 ds) ∧ w'.cell? ⟨bc, 3, none⟩ = some (.int .i64 Hs) ∧ w'.cell? ⟨bc, 4, none⟩ = some (.int .i64 Ms) ∧ w'.cell? ⟨bc, 5, none⟩ = some (.int .i64 Ss) ∧ w'.cell? ⟨bd, 0, none⟩ = some (.int .i64 ys) ∧ w'.cell? ⟨bd, 1, none⟩ = some (.int .i64 ms) ∧ w'.cell? ⟨bd, 2, none⟩ = some (.int .i64 ds) ∧ w'.cell? ⟨bd, 3, none⟩ = some (.int .i64 Hs) ∧ w'.cell? ⟨bd, 4, none⟩ = some (.int .i64 Ms) ∧ w'.cell? ⟨bd, 5, none⟩ = some (.int .i64 Ss)) _ from ⟨HC.out.cell 0, HC.out.cell 1, HC.out.cell 2, HC.out.cell 3, HC.out.cell 4, HC.out.cell 5, HD.out.cell 0, HD.out.cell 1, HD.out.cell 2, HD.out.cell 3, HD.out.cell 4, HD.out.cell 5⟩)
      refine Turns.take hS 3 _ rfl (by kernel_rfl) (by kernel_rfl) (by kernel_rfl) (by kernel_rfl) (fun _ _ _ h => h) (by rfl) (fun w' hS' => by (try dsimp only at hS'); go_split_ands; go_simp; (try with_reducible rfl)) ?_
      simp only [Act.put, List.getElem_toArray, List.getElem_cons_succ, List.getElem_cons_zero, List.setIfInBounds_toArray, List.set_cons_zero, List.set_cons_succ]
      refine Turns.take hS 4 _ rfl (by kernel_rfl) (by kernel_rfl) (by kernel_rfl) (by kernel_rfl) (fun _ _ _ h => h) (by rfl) (fun w' hS' => by (try dsimp only at hS'); go_split_ands; go_simp; (try with_reducible rfl)) ?_
      simp only [Act.put, List.getElem_toArray, List.getElem_cons_succ, List.getElem_cons_zero, List.setIfInBounds_toArray, List.set_cons_zero, List.set_cons_succ]
      refine Turns.take hS 5 _ rfl (by kernel_rfl) (by kernel_rfl) (by kernel_rfl) (by kernel_rfl) (fun _ _ _ h => h) (by rfl) (fun w' hS' => by (try dsimp only at hS'); go_split_ands; go_simp; (try with_reducible rfl)) ?_
      simp only [Act.put, List.getElem_toArray, List.getElem_cons_succ, List.getElem_cons_zero, List.setIfInBounds_toArray, List.set_cons_zero, List.set_cons_succ]
      refine Turns.take hS 6 _ rfl (by kernel_rfl) (by kernel_rfl) (by kernel_rfl) (by kernel_rfl) (fun _ _ _ h => h) (by rfl) (fun w' hS' => by (try dsimp only at hS'); go_split_ands; go_simp; (try with_reducible rfl)) ?_
      simp only [Act.put, List.getElem_toArray, List.getElem_cons_succ, List.getElem_cons_zero, List.setIfInBounds_toArray, List.set_cons_zero, List.set_cons_succ]
      refine Turns.take hS 7 _ rfl (by kernel_rfl) (by kernel_rfl) (by kernel_rfl) (by kernel_rfl) (fun _ _ _ h => h) (by rfl) (fun w' hS' => by (try dsimp only at hS'); go_split_ands; go_simp; (try with_reducible rfl)) ?_
      simp only [Act.put, List.getElem_toArray, List.getElem_cons_succ, List.getElem_cons_zero, List.setIfInBounds_toArray, List.set_cons_zero, List.set_cons_succ]
      refine Turns.take hS 8 _ rfl (by kernel_rfl) (by kernel_rfl) (by kernel_rfl) (by kernel_rfl) (fun _ _ _ h => h) (by rfl) (fun w' hS' => by (try dsimp only at hS'); go_split_ands; go_simp; (try with_reducible rfl)) ?_
      simp only [Act.put, List.getElem_toArray, List.getElem_cons_succ, List.getElem_cons_zero, List.setIfInBounds_toArray, List.set_cons_zero, List.set_cons_succ]
      refine Turns.take hS 9 _ rfl (by kernel_rfl) (by kernel_rfl) (by kernel_rfl) (by kernel_rfl) (fun _ _ _ h => h) (by rfl) (fun w' hS' => by (try dsimp only at hS'); go_split_ands; go_simp; (try with_reducible rfl)) ?_
      simp only [Act.put, List.getElem_toArray, List.getElem_cons_succ, List.getElem_cons_zero, List.setIfInBounds_toArray, List.set_cons_zero, List.set_cons_succ]
      refine Turns.take hS 10 _ rfl (by kernel_rfl) (by kernel_rfl) (by kernel_rfl) (by kernel_rfl) (fun _ _ _ h => h) (by rfl) (fun w' hS' => by (try dsimp only at hS'); go_split_ands; go_simp; (try with_reducible rfl)) ?_
      simp only [Act.put, List.getElem_toArray, List.getElem_cons_succ, List.getElem_cons_zero, List.setIfInBounds_toArray, List.set_cons_zero, List.set_cons_succ]
      refine Turns.take hS 11 _ rfl (by kernel_rfl) (by kernel_rfl) (by kernel_rfl) (by kernel_rfl) (fun _ _ _ h => h) (by rfl) (fun w' hS' => by (try dsimp only at hS'); go_split_ands; go_simp; (try with_reducible rfl)) ?_
      simp only [Act.put, List.getElem_toArray, List.getElem_cons_succ, List.getElem_cons_zero, List.setIfInBounds_toArray, List.set_cons_zero, List.set_cons_succ]
      refine Turns.take hS 12 _ rfl (by kernel_rfl) (by kernel_rfl) (by kernel_rfl) (by kernel_rfl) (fun _ _ _ h => h) (by rfl) (fun w' hS' => by (try dsimp only at hS'); go_split_ands; go_simp; (try with_reducible rfl)) ?_
      simp only [Act.put, List.getElem_toArray, List.getElem_cons_succ, List.getElem_cons_zero, List.setIfInBounds_toArray, List.set_cons_zero, List.set_cons_succ]
      refine Turns.take hS 13 _ rfl (by kernel_rfl) (by kernel_rfl) (by kernel_rfl) (by kernel_rfl) (fun _ _ _ h => h) (by rfl) (fun w' hS' => by (try dsimp only at hS'); go_split_ands; go_simp; (try with_reducible rfl)) ?_
      simp only [Act.put, List.getElem_toArray, List.getElem_cons_succ, List.getElem_cons_zero, List.setIfInBounds_toArray, List.set_cons_zero, List.set_cons_succ]
      refine Turns.take hS 15 _ rfl (by kernel_rfl) (by kernel_rfl) (by kernel_rfl) (by kernel_rfl) (fun _ _ _ h => h) (by rfl) (fun w' hS' => by (try dsimp only at hS'); go_split_ands; go_simp; (try with_reducible rfl)) ?_
      simp only [Act.put, List.getElem_toArray, List.getElem_cons_succ, List.getElem_cons_zero, List.setIfInBounds_toArray, List.set_cons_zero, List.set_cons_succ]
      refine Turns.next 14 rfl (by kernel_rfl) (by rfl) (fun K hK => ?_)
      go_simp
      go_at_call 19
      refine (HTC.out _ HX.out.below).mono ?_
      rintro e v14 ⟨rfl, hbt⟩
      replace HX := Lib.hid (HX.out.next hbt)
      replace HC := Lib.hid (HC.out.below hbt HC.out.lt)
      replace HD := Lib.hid (HD.out.below hbt HD.out.lt)
      clear hbt
      refine hK.out _ _ (show (fun (w' : World) => w'.cell? ⟨bc, 0, none⟩ = some (.int .i64 ys) ∧ w'.cell? ⟨bc, 1, none⟩ = some (.int .i64 ms) ∧ w'.cell? ⟨bc, 2, none⟩ = some (.int .i64 ds) ∧ w'.cell? ⟨bc, 3, none⟩ = some (.int .i64 Hs) ∧ w'.cell? ⟨bc, 4, none⟩ = some (.int .i64 Ms) ∧ w'.cell? ⟨bc, 5, none⟩ = some (.int .i64 Ss) ∧ w'.cell? ⟨bd, 0, none⟩ = some (.int .i64 ys) ∧ w'.cell? ⟨bd, 1, none⟩ = some (.int .i64 ms) ∧ w'.cell? ⟨bd, 2, none⟩ = some (.int .i64 ds) ∧ w'.cell? ⟨bd, 3, none⟩ = some (.int .i64 Hs) ∧ w'.cell? ⟨bd, 4, none⟩ = some (.int .i64 Ms) ∧ w'.cell? ⟨bd, 5, none⟩ = some (.int .i64 Ss)) _ from ⟨HC.out.cell 0, HC.out.cell 1, HC.out.cell 2, HC.out.cell 3, HC.out.cell 4, HC.out.cell 5, HD.out.cell 0, HD.out.cell 1, HD.out.cell 2, HD.out.cell 3, HD.out.cell 4, HD.out.cell 5⟩) ?_
      clear hK K hS
      have hS := (show (fun (w' : World) => w'.cell? ⟨bc, 0, none⟩ = some (.int .i64 ys) ∧ w'.cell? ⟨bc, 1, none⟩ = some (.int .i64 ms) ∧ w'.cell? ⟨bc, 2, none⟩ = some (.int .i64 ds) ∧ w'.cell? ⟨bc, 3, none⟩ = some (.int .i64 Hs) ∧ w'.cell? ⟨bc, 4, none⟩ = some (.int .i64 Ms) ∧ w'.cell? ⟨bc, 5, none⟩ = some (.int .i64 Ss) ∧ w'.cell? ⟨bd, 0, none⟩ = some (.int .i64 ys) ∧ w'.cell? ⟨bd, 1, none⟩ = some (.int .i64 ms) ∧ w'.cell? ⟨bd, 2, none⟩ = some (.int .i64 ds) ∧ w'.cell? ⟨bd, 3, none⟩ = some (.int .i64 Hs) ∧ w'.cell? ⟨bd, 4, none⟩ = some (.int .i64 Ms) ∧ w'.cell? ⟨bd, 5, none⟩ = some (.int .i64 Ss)) _ from ⟨HC.out.cell 0, HC.out.cell 1, HC.out.cell 2, HC.out.cell 3, HC.out.cell 4, HC.out.cell 5, HD.out.cell 0, HD.out.cell 1, HD.out.cell 2, HD.out.cell 3, HD.out.cell 4, HD.out.cell 5⟩)
      refine Turns.take hS 16 _ rfl (by kernel_rfl) (by kernel_rfl) (by kernel_rfl) (by kernel_rfl) (fun _ _ _ h => h) (by rfl) (fun w' hS' => by (try dsimp only at hS'); go_split_ands; go_simp; (try with_reducible rfl)) ?_
      simp only [Act.put, List.getElem_toArray, List.getElem_cons_succ, List.getElem_cons_zero, List.setIfInBounds_toArray, List.set_cons_zero, List.set_cons_succ]
      refine Turns.take hS 17 _ rfl (by kernel_rfl) (by kernel_rfl) (by kernel_rfl) (by kernel_rfl) (fun _ _ _ h => h) (by rfl) (fun w' hS' => by (try dsimp only at hS'); go_split_ands; go_simp; (try with_reducible rfl)) ?_
      simp only [Act.put, List.getElem_toArray, List.getElem_cons_succ, List.getElem_cons_zero, List.setIfInBounds_toArray, List.set_cons_zero, List.set_cons_succ]
      refine Turns.take hS 18 _ rfl (by kernel_rfl) (by kernel_rfl) (by kernel_rfl) (by kernel_rfl) (fun _ _ _ h => h) (by rfl) (fun w' hS' => by (try dsimp only at hS'); go_split_ands; go_simp; (try with_reducible rfl)) ?_
      simp only [Act.put, List.getElem_toArray, List.getElem_cons_succ, List.getElem_cons_zero, List.setIfInBounds_toArray, List.set_cons_zero, List.set_cons_succ]
      refine Turns.take hS 19 _ rfl (by kernel_rfl) (by kernel_rfl) (by kernel_rfl) (by kernel_rfl) (fun _ _ _ h => h) (by rfl) (fun w' hS' => by (try dsimp only at hS'); go_split_ands; go_simp; (try with_reducible rfl)) ?_
      simp only [Act.put, List.getElem_toArray, List.getElem_cons_succ, List.getElem_cons_zero, List.setIfInBounds_toArray, List.set_cons_zero, List.set_cons_succ]
      refine Turns.rest (late_done (by kernel_rfl)) ?_
      refine any_tail 20 (by rfl) (by kernel_rfl) ?_
      simp only [List.drop_succ_cons, List.drop_zero]
      clear hS
      go_wp2
      go_ret
      exact ⟨rfl, HX.out.below⟩
    · have HMC := Lib.hid (fun W (hW : Below w.heap.size w W) => uparse_no a1 W hs (HT.out.below hW))
      have HMD := Lib.hid (fun W => ruparse_no a1 W hs)
      have q1 := rutc_eq_same 0 0 0 0 0 0
      clear hs h64
      go_enter Tryd.func6, Tryd.ntmps6
      go_upto_region 6 with (first
        | (go_at_call 9; refine (alive_yes _ (HT.out.below HX.out.below)).mono ?_; rintro e w1 ⟨rfl, hb1⟩; replace HX := Lib.hid (HX.out.next hb1); clear hb1; (try clear c0 c1 c2 c3 c4 c5); obtain ⟨c0, c1, c2, c3, c4, c5, _⟩ := HX.out.cells6)
        | (go_at_call 13; refine (of_any s0_0 s0_1 s0_2 s0_3 s0_4 s0_5 _).mono ?_; rintro e w2 ⟨rfl, hbz⟩; have HQ := Lib.hid (Box.start w2 35 #[.int .i64 s0_0, .int .i64 s0_1, .int .i64 s0_2, .int .i64 s0_3, .int .i64 s0_4, .int .i64 s0_5]); have hb2 := hbz.trans (HQ.out.below.mono hbz.size); (try replace HA := Lib.hid (HA.out.below hb2 HA.out.lt)); (try replace HB := Lib.hid (HB.out.below hb2 HB.out.lt)); (try replace HC := Lib.hid (HC.out.below hb2 HC.out.lt)); (try replace HD := Lib.hid (HD.out.below hb2 HD.out.lt)); have HA := Lib.hid HQ.out.holds; clear HQ hbz; replace HX := Lib.hid (HX.out.next hb2); clear hb2; (try clear c0 c1 c2 c3 c4 c5); obtain ⟨c0, c1, c2, c3, c4, c5, _⟩ := HX.out.cells6)
        | (go_at_call 20; refine (HGP.out _).mono ?_; rintro e w3 ⟨rfl, hb3⟩; replace HX := Lib.hid (HX.out.next hb3); (try replace HA := Lib.hid (HA.out.below hb3 HA.out.lt)); (try replace HB := Lib.hid (HB.out.below hb3 HB.out.lt)); (try replace HC := Lib.hid (HC.out.below hb3 HC.out.lt)); (try replace HD := Lib.hid (HD.out.below hb3 HD.out.lt)); clear hb3; (try clear c0 c1 c2 c3 c4 c5); obtain ⟨c0, c1, c2, c3, c4, c5, _⟩ := HX.out.cells6; (try (clear x0 x1 x2 x3 x4 x5; have x0 := HA.out.cell 0; have x1 := HA.out.cell 1; have x2 := HA.out.cell 2; have x3 := HA.out.cell 3; have x4 := HA.out.cell 4; have x5 := HA.out.cell 5)))
        | (go_at_call 19; refine (HTP.out _ HX.out.below).mono ?_; rintro e w4 ⟨rfl, hb4⟩; replace HX := Lib.hid (HX.out.next hb4); (try replace HA := Lib.hid (HA.out.below hb4 HA.out.lt)); (try replace HB := Lib.hid (HB.out.below hb4 HB.out.lt)); (try replace HC := Lib.hid (HC.out.below hb4 HC.out.lt)); (try replace HD := Lib.hid (HD.out.below hb4 HD.out.lt)); clear hb4; (try clear c0 c1 c2 c3 c4 c5); obtain ⟨c0, c1, c2, c3, c4, c5, _⟩ := HX.out.cells6; (try (clear x0 x1 x2 x3 x4 x5; have x0 := HA.out.cell 0; have x1 := HA.out.cell 1; have x2 := HA.out.cell 2; have x3 := HA.out.cell 3; have x4 := HA.out.cell 4; have x5 := HA.out.cell 5)))
        | (go_at_call 23; with_reducible refine (HPB.out _ HX.out.below).mono ?_; rintro e w5 ⟨rfl, hbz⟩; have HQ := Lib.hid (Box.start w5 35 #[.int .i64 s0_0, .int .i64 s0_1, .int .i64 s0_2, .int .i64 s0_3, .int .i64 s0_4, .int .i64 s0_5]); have hb5 := hbz.trans (HQ.out.below.mono hbz.size); (try replace HA := Lib.hid (HA.out.below hb5 HA.out.lt)); (try replace HB := Lib.hid (HB.out.below hb5 HB.out.lt)); (try replace HC := Lib.hid (HC.out.below hb5 HC.out.lt)); (try replace HD := Lib.hid (HD.out.below hb5 HD.out.lt)); have HB := Lib.hid HQ.out.holds; clear HQ hbz; replace HX := Lib.hid (HX.out.next hb5); clear hb5; (try clear c0 c1 c2 c3 c4 c5); obtain ⟨c0, c1, c2, c3, c4, c5, _⟩ := HX.out.cells6; (try (clear x0 x1 x2 x3 x4 x5; have x0 := HA.out.cell 0; have x1 := HA.out.cell 1; have x2 := HA.out.cell 2; have x3 := HA.out.cell 3; have x4 := HA.out.cell 4; have x5 := HA.out.cell 5)); have z0 := HB.out.cell 0; have z1 := HB.out.cell 1; have z2 := HB.out.cell 2; have z3 := HB.out.cell 3; have z4 := HB.out.cell 4; have z5 := HB.out.cell 5; clear HPB)
        | (go_at_call 23; with_reducible refine (HPC.out _ HX.out.below).mono ?_; rintro e w6 ⟨rfl, hbz⟩; have HQ := Lib.hid (Box.start w6 35 #[.int .i64 ys, .int .i64 ms, .int .i64 ds, .int .i64 Hs, .int .i64 Ms, .int .i64 Ss]); have hb6 := hbz.trans (HQ.out.below.mono hbz.size); (try replace HA := Lib.hid (HA.out.below hb6 HA.out.lt)); (try replace HB := Lib.hid (HB.out.below hb6 HB.out.lt)); (try replace HC := Lib.hid (HC.out.below hb6 HC.out.lt)); (try replace HD := Lib.hid (HD.out.below hb6 HD.out.lt)); have HC := Lib.hid HQ.out.holds; clear HQ hbz; replace HX := Lib.hid (HX.out.next hb6); clear hb6; (try clear c0 c1 c2 c3 c4 c5); obtain ⟨c0, c1, c2, c3, c4, c5, _⟩ := HX.out.cells6)
        | (go_at_call 23; with_reducible refine (HMC.out _ HX.out.below).mono ?_; rintro e w6 ⟨rfl, hbz⟩; have HQ := Lib.hid (Box.start w6 35 #[.int .i64 0, .int .i64 0, .int .i64 0, .int .i64 0, .int .i64 0, .int .i64 0]); have hb6 := hbz.trans (HQ.out.below.mono hbz.size); (try replace HA := Lib.hid (HA.out.below hb6 HA.out.lt)); (try replace HB := Lib.hid (HB.out.below hb6 HB.out.lt)); (try replace HC := Lib.hid (HC.out.below hb6 HC.out.lt)); (try replace HD := Lib.hid (HD.out.below hb6 HD.out.lt)); have HC := Lib.hid HQ.out.holds; clear HQ hbz; replace HX := Lib.hid (HX.out.next hb6); clear hb6; (try clear c0 c1 c2 c3 c4 c5); obtain ⟨c0, c1, c2, c3, c4, c5, _⟩ := HX.out.cells6)
        | (go_at_call 24; with_reducible refine (HPD.out _).mono ?_; rintro e w7 ⟨rfl, hbz⟩; have HQ := Lib.hid (Box.start w7 28 #[.int .i64 ys, .int .i64 ms, .int .i64 ds, .int .i64 Hs, .int .i64 Ms, .int .i64 Ss]); have hb7 := hbz.trans (HQ.out.below.mono hbz.size); (try replace HA := Lib.hid (HA.out.below hb7 HA.out.lt)); (try replace HB := Lib.hid (HB.out.below hb7 HB.out.lt)); (try replace HC := Lib.hid (HC.out.below hb7 HC.out.lt)); (try replace HD := Lib.hid (HD.out.below hb7 HD.out.lt)); have HD := Lib.hid HQ.out.holds; clear HQ hbz; replace HX := Lib.hid (HX.out.next hb7); clear hb7; (try clear c0 c1 c2 c3 c4 c5); obtain ⟨c0, c1, c2, c3, c4, c5, _⟩ := HX.out.cells6)
        | (go_at_call 24; with_reducible refine (HMD.out _).mono ?_; rintro e w7 ⟨rfl, hbz⟩; have HQ := Lib.hid (Box.start w7 28 #[.int .i64 0, .int .i64 0, .int .i64 0, .int .i64 0, .int .i64 0, .int .i64 0]); have hb7 := hbz.trans (HQ.out.below.mono hbz.size); (try replace HA := Lib.hid (HA.out.below hb7 HA.out.lt)); (try replace HB := Lib.hid (HB.out.below hb7 HB.out.lt)); (try replace HC := Lib.hid (HC.out.below hb7 HC.out.lt)); (try replace HD := Lib.hid (HD.out.below hb7 HD.out.lt)); have HD := Lib.hid HQ.out.holds; clear HQ hbz; replace HX := Lib.hid (HX.out.next hb7); clear hb7; (try clear c0 c1 c2 c3 c4 c5); obtain ⟨c0, c1, c2, c3, c4, c5, _⟩ := HX.out.cells6))
      clear c0 c1 c2 c3 c4 c5
      obtain ⟨ba, hba⟩ : ∃ b, w2.heap.size = b := ⟨_, rfl⟩
      simp only [hba] at HA ⊢
      clear hba
      replace HX := Lib.hid HX.out.drew
      replace HA := Lib.hid (HA.out.below (Below.refl _ _).drew HA.out.lt)
      refine region_turns (fun (w' : World) => w'.cell? ⟨ba, 0, none⟩ = some (.int .i64 s0_0) ∧ w'.cell? ⟨ba, 1, none⟩ = some (.int .i64 s0_1) ∧ w'.cell? ⟨ba, 2, none⟩ = some (.int .i64 s0_2) ∧ w'.cell? ⟨ba, 3, none⟩ = some (.int .i64 s0_3) ∧ w'.cell? ⟨ba, 4, none⟩ = some (.int .i64 s0_4) ∧ w'.cell? ⟨ba, 5, none⟩ = some (.int .i64 s0_5) ∧ w'.cell? ⟨w.heap.size, 0, none⟩ = some (.int .i64 s0_0) ∧ w'.cell? ⟨w.heap.size, 1, none⟩ = some (.int .i64 s0_1) ∧ w'.cell? ⟨w.heap.size, 2, none⟩ = some (.int .i64 s0_2) ∧ w'.cell? ⟨w.heap.size, 3, none⟩ = some (.int .i64 s0_3) ∧ w'.cell? ⟨w.heap.size, 4, none⟩ = some (.int .i64 s0_4) ∧ w'.cell? ⟨w.heap.size, 5, none⟩ = some (.int .i64 s0_5)) (fun j => decide (12 ≤ j)) (by kernel_rfl) (⟨HA.out.cell 0, HA.out.cell 1, HA.out.cell 2, HA.out.cell 3, HA.out.cell 4, HA.out.cell 5, HX.out.holds.cell 0, HX.out.holds.cell 1, HX.out.holds.cell 2, HX.out.holds.cell 3, HX.out.holds.cell 4, HX.out.holds.cell 5⟩) (fun hS => ?_)
      refine Turns.take hS 0 _ rfl (by kernel_rfl) (by kernel_rfl) (by kernel_rfl) (by kernel_rfl) (fun _ _ _ h => h) (by rfl) (fun w' hS' => by (try dsimp only at hS'); go_split_ands; go_simp; (try with_reducible rfl)) ?_
      simp only [Act.put, List.getElem_toArray, List.getElem_cons_succ, List.getElem_cons_zero, List.setIfInBounds_toArray, List.set_cons_zero, List.set_cons_succ]
      refine Turns.take hS 2 _ rfl (by kernel_rfl) (by kernel_rfl) (by kernel_rfl) (by kernel_rfl) (fun _ _ _ h => h) (by rfl) (fun w' hS' => by (try dsimp only at hS'); go_split_ands; go_simp; (try with_reducible rfl)) ?_
      simp only [Act.put, List.getElem_toArray, List.getElem_cons_succ, List.getElem_cons_zero, List.setIfInBounds_toArray, List.set_cons_zero, List.set_cons_succ]
      refine Turns.next 1 rfl (by kernel_rfl) (by rfl) (fun K hK => ?_)
      go_simp
      go_at_call 20
      refine (HGP.out _).mono ?_
      rintro e v1 ⟨rfl, hbt⟩
      replace HX := Lib.hid (HX.out.next hbt)
      replace HA := Lib.hid (HA.out.below hbt HA.out.lt)
      clear hbt
      refine hK.out _ _ (show (fun (w' : World) => w'.cell? ⟨ba, 0, none⟩ = some (.int .i64 s0_0) ∧ w'.cell? ⟨ba, 1, none⟩ = some (.int .i64 s0_1) ∧ w'.cell? ⟨ba, 2, none⟩ = some (.int .i64 s0_2) ∧ w'.cell? ⟨ba, 3, none⟩ = some (.int .i64 s0_3) ∧ w'.cell? ⟨ba, 4, none⟩ = some (.int .i64 s0_4) ∧ w'.cell? ⟨ba, 5, none⟩ = some (.int .i64 s0_5) ∧ w'.cell? ⟨w.heap.size, 0, none⟩ = some (.int .i64 s0_0) ∧ w'.cell? ⟨w.heap.size, 1, none⟩ = some (.int .i64 s0_1) ∧ w'.cell? ⟨w.heap.size, 2, none⟩ = some (.int .i64 s0_2) ∧ w'.cell? ⟨w.heap.size, 3, none⟩ = some (.int .i64 s0_3) ∧ w'.cell? ⟨w.heap.size, 4, none⟩ = some (.int .i64 s0_4) ∧ w'.cell? ⟨w.heap.size, 5, none⟩ = some (.int .i64 s0_5)) _ from ⟨HA.out.cell 0, HA.out.cell 1, HA.out.cell 2, HA.out.cell 3, HA.out.cell 4, HA.out.cell 5, HX.out.holds.cell 0, HX.out.holds.cell 1, HX.out.holds.cell 2, HX.out.holds.cell 3, HX.out.holds.cell 4, HX.out.holds.cell 5⟩) ?_
      clear hK K hS
      have hS := (show (fun (w' : World) => w'.cell? ⟨ba, 0, none⟩ = some (.int .i64 s0_0) ∧ w'.cell? ⟨ba, 1, none⟩ = some (.int .i64 s0_1) ∧ w'.cell? ⟨ba, 2, none⟩ = some (.int .i64 s0_2) ∧ w'.cell? ⟨ba, 3, none⟩ = some (.int .i64 s0_3) ∧ w'.cell? ⟨ba, 4, none⟩ = some (.int .i64 s0_4) ∧ w'.cell? ⟨ba, 5, none⟩ = some (.int .i64 s0_5) ∧ w'.cell? ⟨w.heap.size, 0, none⟩ = some (.int .i64 s0_0) ∧ w'.cell? ⟨w.heap.size, 1, none⟩ = some (.int .i64 s0_1) ∧ w'.cell? ⟨w.heap.size, 2, none⟩ = some (.int .i64 s0_2) ∧ w'.cell? ⟨w.heap.size, 3, none⟩ = some (.int .i64 s0_3) ∧ w'.cell? ⟨w.heap.size, 4, none⟩ = some (.int .i64 s0_4) ∧ w'.cell? ⟨w.heap.size, 5, none⟩ = some (.int .i64 s0_5)) _ from ⟨HA.out.cell 0, HA.out.cell 1, HA.out.cell 2, HA.out.cell 3, HA.out.cell 4, HA.out.cell 5, HX.out.holds.cell 0, HX.out.holds.cell 1, HX.out.holds.cell 2, HX.out.holds.cell 3, HX.out.holds.cell 4, HX.out.holds.cell 5⟩)
      refine Turns.next 3 rfl (by kernel_rfl) (by rfl) (fun K hK => ?_)
      go_simp
      go_at_call 21
      refine (HGD.out _).mono ?_
      rintro e v3 ⟨rfl, hbt⟩
      replace HX := Lib.hid (HX.out.next hbt)
      replace HA := Lib.hid (HA.out.below hbt HA.out.lt)
      clear hbt
      refine hK.out _ _ (show (fun (w' : World) => w'.cell? ⟨ba, 0, none⟩ = some (.int .i64 s0_0) ∧ w'.cell? ⟨ba, 1, none⟩ = some (.int .i64 s0_1) ∧ w'.cell? ⟨ba, 2, none⟩ = some (.int .i64 s0_2) ∧ w'.cell? ⟨ba, 3, none⟩ = some (.int .i64 s0_3) ∧ w'.cell? ⟨ba, 4, none⟩ = some (.int .i64 s0_4) ∧ w'.cell? ⟨ba, 5, none⟩ = some (.int .i64 s0_5) ∧ w'.cell? ⟨w.heap.size, 0, none⟩ = some (.int .i64 s0_0) ∧ w'.cell? ⟨w.heap.size, 1, none⟩ = some (.int .i64 s0_1) ∧ w'.cell? ⟨w.heap.size, 2, none⟩ = some (.int .i64 s0_2) ∧ w'.cell? ⟨w.heap.size, 3, none⟩ = some (.int .i64 s0_3) ∧ w'.cell? ⟨w.heap.size, 4, none⟩ = some (.int .i64 s0_4) ∧ w'.cell? ⟨w.heap.size, 5, none⟩ = some (.int .i64 s0_5)) _ from ⟨HA.out.cell 0, HA.out.cell 1, HA.out.cell 2, HA.out.cell 3, HA.out.cell 4, HA.out.cell 5, HX.out.holds.cell 0, HX.out.holds.cell 1, HX.out.holds.cell 2, HX.out.holds.cell 3, HX.out.holds.cell 4, HX.out.holds.cell 5⟩) ?_
      clear hK K hS
      have hS := (show (fun (w' : World) => w'.cell? ⟨ba, 0, none⟩ = some (.int .i64 s0_0) ∧ w'.cell? ⟨ba, 1, none⟩ = some (.int .i64 s0_1) ∧ w'.cell? ⟨ba, 2, none⟩ = some (.int .i64 s0_2) ∧ w'.cell? ⟨ba, 3, none⟩ = some (.int .i64 s0_3) ∧ w'.cell? ⟨ba, 4, none⟩ = some (.int .i64 s0_4) ∧ w'.cell? ⟨ba, 5, none⟩ = some (.int .i64 s0_5) ∧ w'.cell? ⟨w.heap.size, 0, none⟩ = some (.int .i64 s0_0) ∧ w'.cell? ⟨w.heap.size, 1, none⟩ = some (.int .i64 s0_1) ∧ w'.cell? ⟨w.heap.size, 2, none⟩ = some (.int .i64 s0_2) ∧ w'.cell? ⟨w.heap.size, 3, none⟩ = some (.int .i64 s0_3) ∧ w'.cell? ⟨w.heap.size, 4, none⟩ = some (.int .i64 s0_4) ∧ w'.cell? ⟨w.heap.size, 5, none⟩ = some (.int .i64 s0_5)) _ from ⟨HA.out.cell 0, HA.out.cell 1, HA.out.cell 2, HA.out.cell 3, HA.out.cell 4, HA.out.cell 5, HX.out.holds.cell 0, HX.out.holds.cell 1, HX.out.holds.cell 2, HX.out.holds.cell 3, HX.out.holds.cell 4, HX.out.holds.cell 5⟩)
      refine Turns.take hS 4 _ rfl (by kernel_rfl) (by kernel_rfl) (by kernel_rfl) (by kernel_rfl) (fun _ _ _ h => h) (by rfl) (fun w' hS' => by (try dsimp only at hS'); go_split_ands; go_simp; (try with_reducible rfl)) ?_
      simp only [Act.put, List.getElem_toArray, List.getElem_cons_succ, List.getElem_cons_zero, List.setIfInBounds_toArray, List.set_cons_zero, List.set_cons_succ]
      refine Turns.take hS 5 _ rfl (by kernel_rfl) (by kernel_rfl) (by kernel_rfl) (by kernel_rfl) (fun _ _ _ h => h) (by rfl) (fun w' hS' => by (try dsimp only at hS'); go_split_ands; go_simp; (try with_reducible rfl)) ?_
      simp only [Act.put, List.getElem_toArray, List.getElem_cons_succ, List.getElem_cons_zero, List.setIfInBounds_toArray, List.set_cons_zero, List.set_cons_succ]
      refine Turns.take hS 6 _ rfl (by kernel_rfl) (by kernel_rfl) (by kernel_rfl) (by kernel_rfl) (fun _ _ _ h => h) (by rfl) (fun w' hS' => by (try dsimp only at hS'); go_split_ands; go_simp; (try with_reducible rfl)) ?_
      simp only [Act.put, List.getElem_toArray, List.getElem_cons_succ, List.getElem_cons_zero, List.setIfInBounds_toArray, List.set_cons_zero, List.set_cons_succ]
      refine Turns.take hS 8 _ rfl (by kernel_rfl) (by kernel_rfl) (by kernel_rfl) (by kernel_rfl) (fun _ _ _ h => h) (by rfl) (fun w' hS' => by (try dsimp only at hS'); go_split_ands; go_simp; (try with_reducible rfl)) ?_
      simp only [Act.put, List.getElem_toArray, List.getElem_cons_succ, List.getElem_cons_zero, List.setIfInBounds_toArray, List.set_cons_zero, List.set_cons_succ]
      refine Turns.next 7 rfl (by kernel_rfl) (by rfl) (fun K hK => ?_)
      go_simp
      go_at_call 19
      refine (HTP.out _ HX.out.below).mono ?_
      rintro e v7 ⟨rfl, hbt⟩
      replace HX := Lib.hid (HX.out.next hbt)
      replace HA := Lib.hid (HA.out.below hbt HA.out.lt)
      clear hbt
      refine hK.out _ _ (show (fun (w' : World) => w'.cell? ⟨ba, 0, none⟩ = some (.int .i64 s0_0) ∧ w'.cell? ⟨ba, 1, none⟩ = some (.int .i64 s0_1) ∧ w'.cell? ⟨ba, 2, none⟩ = some (.int .i64 s0_2) ∧ w'.cell? ⟨ba, 3, none⟩ = some (.int .i64 s0_3) ∧ w'.cell? ⟨ba, 4, none⟩ = some (.int .i64 s0_4) ∧ w'.cell? ⟨ba, 5, none⟩ = some (.int .i64 s0_5) ∧ w'.cell? ⟨w.heap.size, 0, none⟩ = some (.int .i64 s0_0) ∧ w'.cell? ⟨w.heap.size, 1, none⟩ = some (.int .i64 s0_1) ∧ w'.cell? ⟨w.heap.size, 2, none⟩ = some (.int .i64 s0_2) ∧ w'.cell? ⟨w.heap.size, 3, none⟩ = some (.int .i64 s0_3) ∧ w'.cell? ⟨w.heap.size, 4, none⟩ = some (.int .i64 s0_4) ∧ w'.cell? ⟨w.heap.size, 5, none⟩ = some (.int .i64 s0_5)) _ from ⟨HA.out.cell 0, HA.out.cell 1, HA.out.cell 2, HA.out.cell 3, HA.out.cell 4, HA.out.cell 5, HX.out.holds.cell 0, HX.out.holds.cell 1, HX.out.holds.cell 2, HX.out.holds.cell 3, HX.out.holds.cell 4, HX.out.holds.cell 5⟩) ?_
      clear hK K hS
      have hS := (show (fun (w' : World) => w'.cell? ⟨ba, 0, none⟩ = some (.int .i64 s0_0) ∧ w'.cell? ⟨ba, 1, none⟩ = some (.int .i64 s0_1) ∧ w'.cell? ⟨ba, 2, none⟩ = some (.int .i64 s0_2) ∧ w'.cell? ⟨ba, 3, none⟩ = some (.int .i64 s0_3) ∧ w'.cell? ⟨ba, 4, none⟩ = some (.int .i64 s0_4) ∧ w'.cell? ⟨ba, 5, none⟩ = some (.int .i64 s0_5) ∧ w'.cell? ⟨w.heap.size, 0, none⟩ = some (.int .i64 s0_0) ∧ w'.cell? ⟨w.heap.size, 1, none⟩ = some (.int .i64 s0_1) ∧ w'.cell? ⟨w.heap.size, 2, none⟩ = some (.int .i64 s0_2) ∧ w'.cell? ⟨w.heap.size, 3, none⟩ = some (.int .i64 s0_3) ∧ w'.cell? ⟨w.heap.size, 4, none⟩ = some (.int .i64 s0_4) ∧ w'.cell? ⟨w.heap.size, 5, none⟩ = some (.int .i64 s0_5)) _ from ⟨HA.out.cell 0, HA.out.cell 1, HA.out.cell 2, HA.out.cell 3, HA.out.cell 4, HA.out.cell 5, HX.out.holds.cell 0, HX.out.holds.cell 1, HX.out.holds.cell 2, HX.out.holds.cell 3, HX.out.holds.cell 4, HX.out.holds.cell 5⟩)
      refine Turns.next 9 rfl (by kernel_rfl) (by rfl) (fun K hK => ?_)
      go_simp
      go_at_call 22
      refine (HTD.out _ HX.out.below).mono ?_
      rintro e v9 ⟨rfl, hbt⟩
      replace HX := Lib.hid (HX.out.next hbt)
      replace HA := Lib.hid (HA.out.below hbt HA.out.lt)
      clear hbt
      refine hK.out _ _ (show (fun (w' : World) => w'.cell? ⟨ba, 0, none⟩ = some (.int .i64 s0_0) ∧ w'.cell? ⟨ba, 1, none⟩ = some (.int .i64 s0_1) ∧ w'.cell? ⟨ba, 2, none⟩ = some (.int .i64 s0_2) ∧ w'.cell? ⟨ba, 3, none⟩ = some (.int .i64 s0_3) ∧ w'.cell? ⟨ba, 4, none⟩ = some (.int .i64 s0_4) ∧ w'.cell? ⟨ba, 5, none⟩ = some (.int .i64 s0_5) ∧ w'.cell? ⟨w.heap.size, 0, none⟩ = some (.int .i64 s0_0) ∧ w'.cell? ⟨w.heap.size, 1, none⟩ = some (.int .i64 s0_1) ∧ w'.cell? ⟨w.heap.size, 2, none⟩ = some (.int .i64 s0_2) ∧ w'.cell? ⟨w.heap.size, 3, none⟩ = some (.int .i64 s0_3) ∧ w'.cell? ⟨w.heap.size, 4, none⟩ = some (.int .i64 s0_4) ∧ w'.cell? ⟨w.heap.size, 5, none⟩ = some (.int .i64 s0_5)) _ from ⟨HA.out.cell 0, HA.out.cell 1, HA.out.cell 2, HA.out.cell 3, HA.out.cell 4, HA.out.cell 5, HX.out.holds.cell 0, HX.out.holds.cell 1, HX.out.holds.cell 2, HX.out.holds.cell 3, HX.out.holds.cell 4, HX.out.holds.cell 5⟩) ?_
      clear hK K hS
      have hS := (show (fun (w' : World) => w'.cell? ⟨ba, 0, none⟩ = some (.int .i64 s0_0) ∧ w'.cell? ⟨ba, 1, none⟩ = some (.int .i64 s0_1) ∧ w'.cell? ⟨ba, 2, none⟩ = some (.int .i64 s0_2) ∧ w'.cell? ⟨ba, 3, none⟩ = some (.int .i64 s0_3) ∧ w'.cell? ⟨ba, 4, none⟩ = some (.int .i64 s0_4) ∧ w'.cell? ⟨ba, 5, none⟩ = some (.int .i64 s0_5) ∧ w'.cell? ⟨w.heap.size, 0, none⟩ = some (.int .i64 s0_0) ∧ w'.cell? ⟨w.heap.size, 1, none⟩ = some (.int .i64 s0_1) ∧ w'.cell? ⟨w.heap.size, 2, none⟩ = some (.int .i64 s0_2) ∧ w'.cell? ⟨w.heap.size, 3, none⟩ = some (.int .i64 s0_3) ∧ w'.cell? ⟨w.heap.size, 4, none⟩ = some (.int .i64 s0_4) ∧ w'.cell? ⟨w.heap.size, 5, none⟩ = some (.int .i64 s0_5)) _ from ⟨HA.out.cell 0, HA.out.cell 1, HA.out.cell 2, HA.out.cell 3, HA.out.cell 4, HA.out.cell 5, HX.out.holds.cell 0, HX.out.holds.cell 1, HX.out.holds.cell 2, HX.out.holds.cell 3, HX.out.holds.cell 4, HX.out.holds.cell 5⟩)
      refine Turns.take hS 10 _ rfl (by kernel_rfl) (by kernel_rfl) (by kernel_rfl) (by kernel_rfl) (fun _ _ _ h => h) (by rfl) (fun w' hS' => by (try dsimp only at hS'); go_split_ands; go_simp; (try with_reducible rfl)) ?_
      simp only [Act.put, List.getElem_toArray, List.getElem_cons_succ, List.getElem_cons_zero, List.setIfInBounds_toArray, List.set_cons_zero, List.set_cons_succ]
      refine Turns.take hS 11 _ rfl (by kernel_rfl) (by kernel_rfl) (by kernel_rfl) (by kernel_rfl) (fun _ _ _ h => h) (by rfl) (fun w' hS' => by (try dsimp only at hS'); go_split_ands; go_simp; (try with_reducible rfl)) ?_
      simp only [Act.put, List.getElem_toArray, List.getElem_cons_succ, List.getElem_cons_zero, List.setIfInBounds_toArray, List.set_cons_zero, List.set_cons_succ]
      refine Turns.rest (late_done (by kernel_rfl)) ?_
      refine any_tail 12 (by rfl) (by kernel_rfl) ?_
      simp only [List.drop_succ_cons, List.drop_zero]
      clear hS
      have x0 := HA.out.cell 0
      have x1 := HA.out.cell 1
      have x2 := HA.out.cell 2
      have x3 := HA.out.cell 3
      have x4 := HA.out.cell 4
      have x5 := HA.out.cell 5
      obtain ⟨c0, c1, c2, c3, c4, c5, _⟩ := HX.out.cells6
      go_upto_region 14 with (first
        | (go_at_call 9; refine (alive_yes _ (HT.out.below HX.out.below)).mono ?_; rintro e w1 ⟨rfl, hb1⟩; replace HX := Lib.hid (HX.out.next hb1); clear hb1; (try clear c0 c1 c2 c3 c4 c5); obtain ⟨c0, c1, c2, c3, c4, c5, _⟩ := HX.out.cells6)
        | (go_at_call 13; refine (of_any s0_0 s0_1 s0_2 s0_3 s0_4 s0_5 _).mono ?_; rintro e w2 ⟨rfl, hbz⟩; have HQ := Lib.hid (Box.start w2 35 #[.int .i64 s0_0, .int .i64 s0_1, .int .i64 s0_2, .int .i64 s0_3, .int .i64 s0_4, .int .i64 s0_5]); have hb2 := hbz.trans (HQ.out.below.mono hbz.size); (try replace HA := Lib.hid (HA.out.below hb2 HA.out.lt)); (try replace HB := Lib.hid (HB.out.below hb2 HB.out.lt)); (try replace HC := Lib.hid (HC.out.below hb2 HC.out.lt)); (try replace HD := Lib.hid (HD.out.below hb2 HD.out.lt)); have HA := Lib.hid HQ.out.holds; clear HQ hbz; replace HX := Lib.hid (HX.out.next hb2); clear hb2; (try clear c0 c1 c2 c3 c4 c5); obtain ⟨c0, c1, c2, c3, c4, c5, _⟩ := HX.out.cells6)
        | (go_at_call 20; refine (HGP.out _).mono ?_; rintro e w3 ⟨rfl, hb3⟩; replace HX := Lib.hid (HX.out.next hb3); (try replace HA := Lib.hid (HA.out.below hb3 HA.out.lt)); (try replace HB := Lib.hid (HB.out.below hb3 HB.out.lt)); (try replace HC := Lib.hid (HC.out.below hb3 HC.out.lt)); (try replace HD := Lib.hid (HD.out.below hb3 HD.out.lt)); clear hb3; (try clear c0 c1 c2 c3 c4 c5); obtain ⟨c0, c1, c2, c3, c4, c5, _⟩ := HX.out.cells6; (try (clear x0 x1 x2 x3 x4 x5; have x0 := HA.out.cell 0; have x1 := HA.out.cell 1; have x2 := HA.out.cell 2; have x3 := HA.out.cell 3; have x4 := HA.out.cell 4; have x5 := HA.out.cell 5)))
        | (go_at_call 19; refine (HTP.out _ HX.out.below).mono ?_; rintro e w4 ⟨rfl, hb4⟩; replace HX := Lib.hid (HX.out.next hb4); (try replace HA := Lib.hid (HA.out.below hb4 HA.out.lt)); (try replace HB := Lib.hid (HB.out.below hb4 HB.out.lt)); (try replace HC := Lib.hid (HC.out.below hb4 HC.out.lt)); (try replace HD := Lib.hid (HD.out.below hb4 HD.out.lt)); clear hb4; (try clear c0 c1 c2 c3 c4 c5); obtain ⟨c0, c1, c2, c3, c4, c5, _⟩ := HX.out.cells6; (try (clear x0 x1 x2 x3 x4 x5; have x0 := HA.out.cell 0; have x1 := HA.out.cell 1; have x2 := HA.out.cell 2; have x3 := HA.out.cell 3; have x4 := HA.out.cell 4; have x5 := HA.out.cell 5)))
        | (go_at_call 23; with_reducible refine (HPB.out _ HX.out.below).mono ?_; rintro e w5 ⟨rfl, hbz⟩; have HQ := Lib.hid (Box.start w5 35 #[.int .i64 s0_0, .int .i64 s0_1, .int .i64 s0_2, .int .i64 s0_3, .int .i64 s0_4, .int .i64 s0_5]); have hb5 := hbz.trans (HQ.out.below.mono hbz.size); (try replace HA := Lib.hid (HA.out.below hb5 HA.out.lt)); (try replace HB := Lib.hid (HB.out.below hb5 HB.out.lt)); (try replace HC := Lib.hid (HC.out.below hb5 HC.out.lt)); (try replace HD := Lib.hid (HD.out.below hb5 HD.out.lt)); have HB := Lib.hid HQ.out.holds; clear HQ hbz; replace HX := Lib.hid (HX.out.next hb5); clear hb5; (try clear c0 c1 c2 c3 c4 c5); obtain ⟨c0, c1, c2, c3, c4, c5, _⟩ := HX.out.cells6; (try (clear x0 x1 x2 x3 x4 x5; have x0 := HA.out.cell 0; have x1 := HA.out.cell 1; have x2 := HA.out.cell 2; have x3 := HA.out.cell 3; have x4 := HA.out.cell 4; have x5 := HA.out.cell 5)); have z0 := HB.out.cell 0; have z1 := HB.out.cell 1; have z2 := HB.out.cell 2; have z3 := HB.out.cell 3; have z4 := HB.out.cell 4; have z5 := HB.out.cell 5; clear HPB)
        | (go_at_call 23; with_reducible refine (HPC.out _ HX.out.below).mono ?_; rintro e w6 ⟨rfl, hbz⟩; have HQ := Lib.hid (Box.start w6 35 #[.int .i64 ys, .int .i64 ms, .int .i64 ds, .int .i64 Hs, .int .i64 Ms, .int .i64 Ss]); have hb6 := hbz.trans (HQ.out.below.mono hbz.size); (try replace HA := Lib.hid (HA.out.below hb6 HA.out.lt)); (try replace HB := Lib.hid (HB.out.below hb6 HB.out.lt)); (try replace HC := Lib.hid (HC.out.below hb6 HC.out.lt)); (try replace HD := Lib.hid (HD.out.below hb6 HD.out.lt)); have HC := Lib.hid HQ.out.holds; clear HQ hbz; replace HX := Lib.hid (HX.out.next hb6); clear hb6; (try clear c0 c1 c2 c3 c4 c5); obtain ⟨c0, c1, c2, c3, c4, c5, _⟩ := HX.out.cells6)
        | (go_at_call 23; with_reducible refine (HMC.out _ HX.out.below).mono ?_; rintro e w6 ⟨rfl, hbz⟩; have HQ := Lib.hid (Box.start w6 35 #[.int .i64 0, .int .i64 0, .int .i64 0, .int .i64 0, .int .i64 0, .int .i64 0]); have hb6 := hbz.trans (HQ.out.below.mono hbz.size); (try replace HA := Lib.hid (HA.out.below hb6 HA.out.lt)); (try replace HB := Lib.hid (HB.out.below hb6 HB.out.lt)); (try replace HC := Lib.hid (HC.out.below hb6 HC.out.lt)); (try replace HD := Lib.hid (HD.out.below hb6 HD.out.lt)); have HC := Lib.hid HQ.out.holds; clear HQ hbz; replace HX := Lib.hid (HX.out.next hb6); clear hb6; (try clear c0 c1 c2 c3 c4 c5); obtain ⟨c0, c1, c2, c3, c4, c5, _⟩ := HX.out.cells6)
        | (go_at_call 24; with_reducible refine (HPD.out _).mono ?_; rintro e w7 ⟨rfl, hbz⟩; have HQ := Lib.hid (Box.start w7 28 #[.int .i64 ys, .int .i64 ms, .int .i64 ds, .int .i64 Hs, .int .i64 Ms, .int .i64 Ss]); have hb7 := hbz.trans (HQ.out.below.mono hbz.size); (try replace HA := Lib.hid (HA.out.below hb7 HA.out.lt)); (try replace HB := Lib.hid (HB.out.below hb7 HB.out.lt)); (try replace HC := Lib.hid (HC.out.below hb7 HC.out.lt)); (try replace HD := Lib.hid (HD.out.below hb7 HD.out.lt)); have HD := Lib.hid HQ.out.holds; clear HQ hbz; replace HX := Lib.hid (HX.out.next hb7); clear hb7; (try clear c0 c1 c2 c3 c4 c5); obtain ⟨c0, c1, c2, c3, c4, c5, _⟩ := HX.out.cells6)
        | (go_at_call 24; with_reducible refine (HMD.out _).mono ?_; rintro e w7 ⟨rfl, hbz⟩; have HQ := Lib.hid (Box.start w7 28 #[.int .i64 0, .int .i64 0, .int .i64 0, .int .i64 0, .int .i64 0, .int .i64 0]); have hb7 := hbz.trans (HQ.out.below.mono hbz.size); (try replace HA := Lib.hid (HA.out.below hb7 HA.out.lt)); (try replace HB := Lib.hid (HB.out.below hb7 HB.out.lt)); (try replace HC := Lib.hid (HC.out.below hb7 HC.out.lt)); (try replace HD := Lib.hid (HD.out.below hb7 HD.out.lt)); have HD := Lib.hid HQ.out.holds; clear HQ hbz; replace HX := Lib.hid (HX.out.next hb7); clear hb7; (try clear c0 c1 c2 c3 c4 c5); obtain ⟨c0, c1, c2, c3, c4, c5, _⟩ := HX.out.cells6))
      obtain ⟨bc, hbc⟩ : ∃ b, w6.heap.size = b := ⟨_, rfl⟩
      simp only [hbc] at HC ⊢
      obtain ⟨bd, hbd⟩ : ∃ b, w7.heap.size = b := ⟨_, rfl⟩
      simp only [hbd] at HD ⊢
      clear hbc hbd
      (try clear c0 c1 c2 c3 c4 c5)
      (try clear x0 x1 x2 x3 x4 x5)
      replace HX := Lib.hid HX.out.drew
      replace HC := Lib.hid (HC.out.below (Below.refl _ _).drew HC.out.lt)
      replace HD := Lib.hid (HD.out.below (Below.refl _ _).drew HD.out.lt)
      refine region_turns (fun (w' : World) => w'.cell? ⟨bc, 0, none⟩ = some (.int .i64 0) ∧ w'.cell? ⟨bc, 1, none⟩ = some (.int .i64 0) ∧ w'.cell? ⟨bc, 2, none⟩ = some (.int .i64 0) ∧ w'.cell? ⟨bc, 3, none⟩ = some (.int .i64 0) ∧ w'.cell? ⟨bc, 4, none⟩ = some (.int .i64 0) ∧ w'.cell? ⟨bc, 5, none⟩ = some (.int .i64 0) ∧ w'.cell? ⟨bd, 0, none⟩ = some (.int .i64 0) ∧ w'.cell? ⟨bd, 1, none⟩ = some (.int .i64 0) ∧ w'.cell? ⟨bd, 2, none⟩ = some (.int .i64 0) ∧ w'.cell? ⟨bd, 3, none⟩ = some (.int .i64 0) ∧ w'.cell? ⟨bd, 4, none⟩ = some (.int .i64 0) ∧ w'.cell? ⟨bd, 5, none⟩ = some (.int .i64 0)) (fun j => decide (20 ≤ j)) (by kernel_rfl) (⟨HC.out.cell 0, HC.out.cell 1, HC.out.cell 2, HC.out.cell 3, HC.out.cell 4, HC.out.cell 5, HD.out.cell 0, HD.out.cell 1, HD.out.cell 2, HD.out.cell 3, HD.out.cell 4, HD.out.cell 5⟩) (fun hS => ?_)
      refine Turns.take hS 0 _ rfl (by kernel_rfl) (by kernel_rfl) (by kernel_rfl) (by kernel_rfl) (fun _ _ _ h => h) (by rfl) (fun w' hS' => by (try dsimp only at hS'); go_split_ands; go_simp; (try with_reducible rfl)) ?_
      simp only [Act.put, List.getElem_toArray, List.getElem_cons_succ, List.getElem_cons_zero, List.setIfInBounds_toArray, List.set_cons_zero, List.set_cons_succ]
      refine Turns.take hS 2 _ rfl (by kernel_rfl) (by kernel_rfl) (by kernel_rfl) (by kernel_rfl) (fun _ _ _ h => h) (by rfl) (fun w' hS' => by (try dsimp only at hS'); go_split_ands; go_simp; (try with_reducible rfl)) ?_
      simp only [Act.put, List.getElem_toArray, List.getElem_cons_succ, List.getElem_cons_zero, List.setIfInBounds_toArray, List.set_cons_zero, List.set_cons_succ]
      refine Turns.next 1 rfl (by kernel_rfl) (by rfl) (fun K hK => ?_)
      go_simp
      go_at_call 15
      refine (plain_any 0 0 0 0 0 0 _).mono ?_
      rintro e v1 ⟨rfl, hbt⟩
      replace HX := Lib.hid (HX.out.next hbt)
      replace HC := Lib.hid (HC.out.below hbt HC.out.lt)
      replace HD := Lib.hid (HD.out.below hbt HD.out.lt)
      clear hbt
      refine hK.out _ _ (show (fun (w' : World) => w'.cell? ⟨bc, 0, none⟩ = some (.int .i64 0) ∧ w'.cell? ⟨bc, 1, none⟩ = some (.int .i64 0) ∧ w'.cell? ⟨bc, 2, none⟩ = some (.int .i64 0) ∧ w'.cell? ⟨bc, 3, none⟩ = some (.int .i64 0) ∧ w'.cell? ⟨bc, 4, none⟩ = some (.int .i64 0) ∧ w'.cell? ⟨bc, 5, none⟩ = some (.int .i64 0) ∧ w'.cell? ⟨bd, 0, none⟩ = some (.int .i64 0) ∧ w'.cell? ⟨bd, 1, none⟩ = some (.int .i64 0) ∧ w'.cell? ⟨bd, 2, none⟩ = some (.int .i64 0) ∧ w'.cell? ⟨bd, 3, none⟩ = some (.int .i64 0) ∧ w'.cell? ⟨bd, 4, none⟩ = some (.int .i64 0) ∧ w'.cell? ⟨bd, 5, none⟩ = some (.int .i64 0)) _ from ⟨HC.out.cell 0, HC.out.cell 1, HC.out.cell 2, HC.out.cell 3, HC.out.cell 4, HC.out.cell 5, HD.out.cell 0, HD.out.cell 1, HD.out.cell 2, HD.out.cell 3, HD.out.cell 4, HD.out.cell 5⟩) ?_
      clear hK K hS
      have hS := (show (fun (w' : World) => w'.cell? ⟨bc, 0, none⟩ = some (.int .i64 0) ∧ w'.cell? ⟨bc, 1, none⟩ = some (.int .i64 0) ∧ w'.cell? ⟨bc, 2, none⟩ = some (.int .i64 0) ∧ w'.cell? ⟨bc, 3, none⟩ = some (.int .i64 0) ∧ w'.cell? ⟨bc, 4, none⟩ = some (.int .i64 0) ∧ w'.cell? ⟨bc, 5, none⟩ = some (.int .i64 0) ∧ w'.cell? ⟨bd, 0, none⟩ = some (.int .i64 0) ∧ w'.cell? ⟨bd, 1, none⟩ = some (.int .i64 0) ∧ w'.cell? ⟨bd, 2, none⟩ = some (.int .i64 0) ∧ w'.cell? ⟨bd, 3, none⟩ = some (.int .i64 0) ∧ w'.cell? ⟨bd, 4, none⟩ = some (.int .i64 0) ∧ w'.cell? ⟨bd, 5, none⟩ = some (.int .i64 0)) _ from ⟨HC.out.cell 0, HC.out.cell 1, HC.out.cell 2, HC.out.cell 3, HC.out.cell 4, HC.out.cell 5, HD.out.cell 0, HD.out.cell 1, HD.out.cell 2, HD.out.cell 3, HD.out.cell 4, HD.out.cell 5⟩)
      refine Turns.take hS 3 _ rfl (by kernel_rfl) (by kernel_rfl) (by kernel_rfl) (by kernel_rfl) (fun _ _ _ h => h) (by rfl) (fun w' hS' => by (try dsimp only at hS'); go_split_ands; go_simp; (try with_reducible rfl)) ?_
      simp only [Act.put, List.getElem_toArray, List.getElem_cons_succ, List.getElem_cons_zero, List.setIfInBounds_toArray, List.set_cons_zero, List.set_cons_succ]
      refine Turns.take hS 4 _ rfl (by kernel_rfl) (by kernel_rfl) (by kernel_rfl) (by kernel_rfl) (fun _ _ _ h => h) (by rfl) (fun w' hS' => by (try dsimp only at hS'); go_split_ands; go_simp; (try with_reducible rfl)) ?_
      simp only [Act.put, List.getElem_toArray, List.getElem_cons_succ, List.getElem_cons_zero, List.setIfInBounds_toArray, List.set_cons_zero, List.set_cons_succ]
      refine Turns.take hS 5 _ rfl (by kernel_rfl) (by kernel_rfl) (by kernel_rfl) (by kernel_rfl) (fun _ _ _ h => h) (by rfl) (fun w' hS' => by (try dsimp only at hS'); go_split_ands; go_simp; (try with_reducible rfl)) ?_
      simp only [Act.put, List.getElem_toArray, List.getElem_cons_succ, List.getElem_cons_zero, List.setIfInBounds_toArray, List.set_cons_zero, List.set_cons_succ]
      refine Turns.take hS 6 _ rfl (by kernel_rfl) (by kernel_rfl) (by kernel_rfl) (by kernel_rfl) (fun _ _ _ h => h) (by rfl) (fun w' hS' => by (try dsimp only at hS'); go_split_ands; go_simp; (try with_reducible rfl)) ?_
      simp only [Act.put, List.getElem_toArray, List.getElem_cons_succ, List.getElem_cons_zero, List.setIfInBounds_toArray, List.set_cons_zero, List.set_cons_succ]
      refine Turns.take hS 7 _ rfl (by kernel_rfl) (by kernel_rfl) (by kernel_rfl) (by kernel_rfl) (fun _ _ _ h => h) (by rfl) (fun w' hS' => by (try dsimp only at hS'); go_split_ands; go_simp; (try with_reducible rfl)) ?_
      simp only [Act.put, List.getElem_toArray, List.getElem_cons_succ, List.getElem_cons_zero, List.setIfInBounds_toArray, List.set_cons_zero, List.set_cons_succ]
      refine Turns.take hS 8 _ rfl (by kernel_rfl) (by kernel_rfl) (by kernel_rfl) (by kernel_rfl) (fun _ _ _ h => h) (by rfl) (fun w' hS' => by (try dsimp only at hS'); go_split_ands; go_simp; (try with_reducible rfl)) ?_
      simp only [Act.put, List.getElem_toArray, List.getElem_cons_succ, List.getElem_cons_zero, List.setIfInBounds_toArray, List.set_cons_zero, List.set_cons_succ]
      refine Turns.take hS 9 _ rfl (by kernel_rfl) (by kernel_rfl) (by kernel_rfl) (by kernel_rfl) (fun _ _ _ h => h) (by rfl) (fun w' hS' => by (try dsimp only at hS'); go_split_ands; go_simp; (try with_reducible rfl)) ?_
      simp only [Act.put, List.getElem_toArray, List.getElem_cons_succ, List.getElem_cons_zero, List.setIfInBounds_toArray, List.set_cons_zero, List.set_cons_succ]
      refine Turns.take hS 10 _ rfl (by kernel_rfl) (by kernel_rfl) (by kernel_rfl) (by kernel_rfl) (fun _ _ _ h => h) (by rfl) (fun w' hS' => by (try dsimp only at hS'); go_split_ands; go_simp; (try with_reducible rfl)) ?_
      simp only [Act.put, List.getElem_toArray, List.getElem_cons_succ, List.getElem_cons_zero, List.setIfInBounds_toArray, List.set_cons_zero, List.set_cons_succ]
      refine Turns.take hS 11 _ rfl (by kernel_rfl) (by kernel_rfl) (by kernel_rfl) (by kernel_rfl) (fun _ _ _ h => h) (by rfl) (fun w' hS' => by (try dsimp only at hS'); go_split_ands; go_simp; (try with_reducible rfl)) ?_
      simp only [Act.put, List.getElem_toArray, List.getElem_cons_succ, List.getElem_cons_zero, List.setIfInBounds_toArray, List.set_cons_zero, List.set_cons_succ]
      refine Turns.take hS 12 _ rfl (by kernel_rfl) (by kernel_rfl) (by kernel_rfl) (by kernel_rfl) (fun _ _ _ h => h) (by rfl) (fun w' hS' => by (try dsimp only at hS'); go_split_ands; go_simp; (try with_reducible rfl)) ?_
      simp only [Act.put, List.getElem_toArray, List.getElem_cons_succ, List.getElem_cons_zero, List.setIfInBounds_toArray, List.set_cons_zero, List.set_cons_succ]
      refine Turns.skip hS 13 rfl (by kernel_rfl) (by kernel_rfl) (by kernel_rfl) (by kernel_rfl) (fun _ _ _ h => h) (by rfl) ?_
      simp only [Act.put, List.getElem_toArray, List.getElem_cons_succ, List.getElem_cons_zero, List.setIfInBounds_toArray, List.set_cons_zero, List.set_cons_succ]
      refine Turns.skip hS 14 rfl (by kernel_rfl) (by kernel_rfl) (by kernel_rfl) (by kernel_rfl) (fun _ _ _ h => h) (by rfl) ?_
      simp only [Act.put, List.getElem_toArray, List.getElem_cons_succ, List.getElem_cons_zero, List.setIfInBounds_toArray, List.set_cons_zero, List.set_cons_succ]
      refine Turns.skip hS 15 rfl (by kernel_rfl) (by kernel_rfl) (by kernel_rfl) (by kernel_rfl) (fun _ _ _ h => h) (by rfl) ?_
      simp only [Act.put, List.getElem_toArray, List.getElem_cons_succ, List.getElem_cons_zero, List.setIfInBounds_toArray, List.set_cons_zero, List.set_cons_succ]
      refine Turns.skip hS 16 rfl (by kernel_rfl) (by kernel_rfl) (by kernel_rfl) (by kernel_rfl) (fun _ _ _ h => h) (by rfl) ?_
      simp only [Act.put, List.getElem_toArray, List.getElem_cons_succ, List.getElem_cons_zero, List.setIfInBounds_toArray, List.set_cons_zero, List.set_cons_succ]
      refine Turns.take hS 17 _ rfl (by kernel_rfl) (by kernel_rfl) (by kernel_rfl) (by kernel_rfl) (fun _ _ _ h => h) (by rfl) (fun w' hS' => by (try dsimp only at hS'); go_split_ands; go_simp; (try with_reducible rfl)) ?_
      simp only [Act.put, List.getElem_toArray, List.getElem_cons_succ, List.getElem_cons_zero, List.setIfInBounds_toArray, List.set_cons_zero, List.set_cons_succ]
      refine Turns.take hS 18 _ rfl (by kernel_rfl) (by kernel_rfl) (by kernel_rfl) (by kernel_rfl) (fun _ _ _ h => h) (by rfl) (fun w' hS' => by (try dsimp only at hS'); go_split_ands; go_simp; (try with_reducible rfl)) ?_
      simp only [Act.put, List.getElem_toArray, List.getElem_cons_succ, List.getElem_cons_zero, List.setIfInBounds_toArray, List.set_cons_zero, List.set_cons_succ]
      refine Turns.take hS 19 _ rfl (by kernel_rfl) (by kernel_rfl) (by kernel_rfl) (by kernel_rfl) (fun _ _ _ h => h) (by rfl) (fun w' hS' => by (try dsimp only at hS'); go_split_ands; go_simp; (try with_reducible rfl)) ?_
      simp only [Act.put, List.getElem_toArray, List.getElem_cons_succ, List.getElem_cons_zero, List.setIfInBounds_toArray, List.set_cons_zero, List.set_cons_succ]
      refine Turns.rest (late_done (by kernel_rfl)) ?_
      refine any_tail 20 (by rfl) (by kernel_rfl) ?_
      simp only [List.drop_succ_cons, List.drop_zero]
      clear hS
      go_wp2
      go_ret
      exact ⟨rfl, HX.out.below⟩
  · rw [goodU_no hg] at HGP HGD
    have HTP := Lib.hid (fun W (hW : Below w.heap.size w W) => utext_no s0_0 s0_1 s0_2 s0_3 s0_4 s0_5 W hg)
    have HTD := Lib.hid (fun W (hW : Below w.heap.size w W) => rutext_no s0_0 s0_1 s0_2 s0_3 s0_4 s0_5 W hg)
    obtain ⟨q4, q5⟩ := lit_eq (⟨#[]⟩ : ByteArray).toList
    clear hg
    by_cases hs : ∃ y m d H M S, IsUtc a1 y m d H M S
    · obtain ⟨ys, ms, ds, Hs, Ms, Ss, hs⟩ := hs
      have HPC := Lib.hid (fun W (hW : Below w.heap.size w W) => uparse_yes a1 ys ms ds Hs Ms Ss W hs (HT.out.below hW))
      have HPD := Lib.hid (fun W => ruparse_yes a1 ys ms ds Hs Ms Ss W hs)
      have HTC := Lib.hid (fun W (hW : Below w.heap.size w W) => utext_yes ys ms ds Hs Ms Ss W hs.date.can hs.can (HT.out.below hW))
      rw [is_textU hs] at HTC
      have q1 := rutc_eq_same ys ms ds Hs Ms Ss
      have q2 : (a1.toList == a1.toList) = true := beq_self_eq_true _
      clear hs h64
      go_enter Tryd.func6, Tryd.ntmps6
      go_upto_region 6 with (first
        | (go_at_call 9; refine (alive_yes _ (HT.out.below HX.out.below)).mono ?_; rintro e w1 ⟨rfl, hb1⟩; replace HX := Lib.hid (HX.out.next hb1); clear hb1; (try clear c0 c1 c2 c3 c4 c5); obtain ⟨c0, c1, c2, c3, c4, c5, _⟩ := HX.out.cells6)
        | (go_at_call 13; refine (of_any s0_0 s0_1 s0_2 s0_3 s0_4 s0_5 _).mono ?_; rintro e w2 ⟨rfl, hbz⟩; have HQ := Lib.hid (Box.start w2 35 #[.int .i64 s0_0, .int .i64 s0_1, .int .i64 s0_2, .int .i64 s0_3, .int .i64 s0_4, .int .i64 s0_5]); have hb2 := hbz.trans (HQ.out.below.mono hbz.size); (try replace HA := Lib.hid (HA.out.below hb2 HA.out.lt)); (try replace HB := Lib.hid (HB.out.below hb2 HB.out.lt)); (try replace HC := Lib.hid (HC.out.below hb2 HC.out.lt)); (try replace HD := Lib.hid (HD.out.below hb2 HD.out.lt)); have HA := Lib.hid HQ.out.holds; clear HQ hbz; replace HX := Lib.hid (HX.out.next hb2); clear hb2; (try clear c0 c1 c2 c3 c4 c5); obtain ⟨c0, c1, c2, c3, c4, c5, _⟩ := HX.out.cells6)
        | (go_at_call 20; refine (HGP.out _).mono ?_; rintro e w3 ⟨rfl, hb3⟩; replace HX := Lib.hid (HX.out.next hb3); (try replace HA := Lib.hid (HA.out.below hb3 HA.out.lt)); (try replace HB := Lib.hid (HB.out.below hb3 HB.out.lt)); (try replace HC := Lib.hid (HC.out.below hb3 HC.out.lt)); (try replace HD := Lib.hid (HD.out.below hb3 HD.out.lt)); clear hb3; (try clear c0 c1 c2 c3 c4 c5); obtain ⟨c0, c1, c2, c3, c4, c5, _⟩ := HX.out.cells6; (try (clear x0 x1 x2 x3 x4 x5; have x0 := HA.out.cell 0; have x1 := HA.out.cell 1; have x2 := HA.out.cell 2; have x3 := HA.out.cell 3; have x4 := HA.out.cell 4; have x5 := HA.out.cell 5)))
        | (go_at_call 19; refine (HTP.out _ HX.out.below).mono ?_; rintro e w4 ⟨rfl, hb4⟩; replace HX := Lib.hid (HX.out.next hb4); (try replace HA := Lib.hid (HA.out.below hb4 HA.out.lt)); (try replace HB := Lib.hid (HB.out.below hb4 HB.out.lt)); (try replace HC := Lib.hid (HC.out.below hb4 HC.out.lt)); (try replace HD := Lib.hid (HD.out.below hb4 HD.out.lt)); clear hb4; (try clear c0 c1 c2 c3 c4 c5); obtain ⟨c0, c1, c2, c3, c4, c5, _⟩ := HX.out.cells6; (try (clear x0 x1 x2 x3 x4 x5; have x0 := HA.out.cell 0; have x1 := HA.out.cell 1; have x2 := HA.out.cell 2; have x3 := HA.out.cell 3; have x4 := HA.out.cell 4; have x5 := HA.out.cell 5)))
        | (go_at_call 23; with_reducible refine (HPB.out _ HX.out.below).mono ?_; rintro e w5 ⟨rfl, hbz⟩; have HQ := Lib.hid (Box.start w5 35 #[.int .i64 s0_0, .int .i64 s0_1, .int .i64 s0_2, .int .i64 s0_3, .int .i64 s0_4, .int .i64 s0_5]); have hb5 := hbz.trans (HQ.out.below.mono hbz.size); (try replace HA := Lib.hid (HA.out.below hb5 HA.out.lt)); (try replace HB := Lib.hid (HB.out.below hb5 HB.out.lt)); (try replace HC := Lib.hid (HC.out.below hb5 HC.out.lt)); (try replace HD := Lib.hid (HD.out.below hb5 HD.out.lt)); have HB := Lib.hid HQ.out.holds; clear HQ hbz; replace HX := Lib.hid (HX.out.next hb5); clear hb5; (try clear c0 c1 c2 c3 c4 c5); obtain ⟨c0, c1, c2, c3, c4, c5, _⟩ := HX.out.cells6; (try (clear x0 x1 x2 x3 x4 x5; have x0 := HA.out.cell 0; have x1 := HA.out.cell 1; have x2 := HA.out.cell 2; have x3 := HA.out.cell 3; have x4 := HA.out.cell 4; have x5 := HA.out.cell 5)); have z0 := HB.out.cell 0; have z1 := HB.out.cell 1; have z2 := HB.out.cell 2; have z3 := HB.out.cell 3; have z4 := HB.out.cell 4; have z5 := HB.out.cell 5; clear HPB)
        | (go_at_call 23; with_reducible refine (HPC.out _ HX.out.below).mono ?_; rintro e w6 ⟨rfl, hbz⟩; have HQ := Lib.hid (Box.start w6 35 #[.int .i64 ys, .int .i64 ms, .int .i64 ds, .int .i64 Hs, .int .i64 Ms, .int .i64 Ss]); have hb6 := hbz.trans (HQ.out.below.mono hbz.size); (try replace HA := Lib.hid (HA.out.below hb6 HA.out.lt)); (try replace HB := Lib.hid (HB.out.below hb6 HB.out.lt)); (try replace HC := Lib.hid (HC.out.below hb6 HC.out.lt)); (try replace HD := Lib.hid (HD.out.below hb6 HD.out.lt)); have HC := Lib.hid HQ.out.holds; clear HQ hbz; replace HX := Lib.hid (HX.out.next hb6); clear hb6; (try clear c0 c1 c2 c3 c4 c5); obtain ⟨c0, c1, c2, c3, c4, c5, _⟩ := HX.out.cells6)
        | (go_at_call 23; with_reducible refine (HMC.out _ HX.out.below).mono ?_; rintro e w6 ⟨rfl, hbz⟩; have HQ := Lib.hid (Box.start w6 35 #[.int .i64 0, .int .i64 0, .int .i64 0, .int .i64 0, .int .i64 0, .int .i64 0]); have hb6 := hbz.trans (HQ.out.below.mono hbz.size); (try replace HA := Lib.hid (HA.out.below hb6 HA.out.lt)); (try replace HB := Lib.hid (HB.out.below hb6 HB.out.lt)); (try replace HC := Lib.hid (HC.out.below hb6 HC.out.lt)); (try replace HD := Lib.hid (HD.out.below hb6 HD.out.lt)); have HC := Lib.hid HQ.out.holds; clear HQ hbz; replace HX := Lib.hid (HX.out.next hb6); clear hb6; (try clear c0 c1 c2 c3 c4 c5); obtain ⟨c0, c1, c2, c3, c4, c5, _⟩ := HX.out.cells6)
        | (go_at_call 24; with_reducible refine (HPD.out _).mono ?_; rintro e w7 ⟨rfl, hbz⟩; have HQ := Lib.hid (Box.start w7 28 #[.int .i64 ys, .int .i64 ms, .int .i64 ds, .int .i64 Hs, .int .i64 Ms, .int .i64 Ss]); have hb7 := hbz.trans (HQ.out.below.mono hbz.size); (try replace HA := Lib.hid (HA.out.below hb7 HA.out.lt)); (try replace HB := Lib.hid (HB.out.below hb7 HB.out.lt)); (try replace HC := Lib.hid (HC.out.below hb7 HC.out.lt)); (try replace HD := Lib.hid (HD.out.below hb7 HD.out.lt)); have HD := Lib.hid HQ.out.holds; clear HQ hbz; replace HX := Lib.hid (HX.out.next hb7); clear hb7; (try clear c0 c1 c2 c3 c4 c5); obtain ⟨c0, c1, c2, c3, c4, c5, _⟩ := HX.out.cells6)
        | (go_at_call 24; with_reducible refine (HMD.out _).mono ?_; rintro e w7 ⟨rfl, hbz⟩; have HQ := Lib.hid (Box.start w7 28 #[.int .i64 0, .int .i64 0, .int .i64 0, .int .i64 0, .int .i64 0, .int .i64 0]); have hb7 := hbz.trans (HQ.out.below.mono hbz.size); (try replace HA := Lib.hid (HA.out.below hb7 HA.out.lt)); (try replace HB := Lib.hid (HB.out.below hb7 HB.out.lt)); (try replace HC := Lib.hid (HC.out.below hb7 HC.out.lt)); (try replace HD := Lib.hid (HD.out.below hb7 HD.out.lt)); have HD := Lib.hid HQ.out.holds; clear HQ hbz; replace HX := Lib.hid (HX.out.next hb7); clear hb7; (try clear c0 c1 c2 c3 c4 c5); obtain ⟨c0, c1, c2, c3, c4, c5, _⟩ := HX.out.cells6))
      clear c0 c1 c2 c3 c4 c5
      obtain ⟨ba, hba⟩ : ∃ b, w2.heap.size = b := ⟨_, rfl⟩
      simp only [hba] at HA ⊢
      clear hba
      replace HX := Lib.hid HX.out.drew
      replace HA := Lib.hid (HA.out.below (Below.refl _ _).drew HA.out.lt)
      refine region_turns (fun (w' : World) => w'.cell? ⟨ba, 0, none⟩ = some (.int .i64 s0_0) ∧ w'.cell? ⟨ba, 1, none⟩ = some (.int .i64 s0_1) ∧ w'.cell? ⟨ba, 2, none⟩ = some (.int .i64 s0_2) ∧ w'.cell? ⟨ba, 3, none⟩ = some (.int .i64 s0_3) ∧ w'.cell? ⟨ba, 4, none⟩ = some (.int .i64 s0_4) ∧ w'.cell? ⟨ba, 5, none⟩ = some (.int .i64 s0_5) ∧ w'.cell? ⟨w.heap.size, 0, none⟩ = some (.int .i64 s0_0) ∧ w'.cell? ⟨w.heap.size, 1, none⟩ = some (.int .i64 s0_1) ∧ w'.cell? ⟨w.heap.size, 2, none⟩ = some (.int .i64 s0_2) ∧ w'.cell? ⟨w.heap.size, 3, none⟩ = some (.int .i64 s0_3) ∧ w'.cell? ⟨w.heap.size, 4, none⟩ = some (.int .i64 s0_4) ∧ w'.cell? ⟨w.heap.size, 5, none⟩ = some (.int .i64 s0_5)) (fun j => decide (12 ≤ j)) (by kernel_rfl) (⟨HA.out.cell 0, HA.out.cell 1, HA.out.cell 2, HA.out.cell 3, HA.out.cell 4, HA.out.cell 5, HX.out.holds.cell 0, HX.out.holds.cell 1, HX.out.holds.cell 2, HX.out.holds.cell 3, HX.out.holds.cell 4, HX.out.holds.cell 5⟩) (fun hS => ?_)
      refine Turns.take hS 0 _ rfl (by kernel_rfl) (by kernel_rfl) (by kernel_rfl) (by kernel_rfl) (fun _ _ _ h => h) (by rfl) (fun w' hS' => by (try dsimp only at hS'); go_split_ands; go_simp; (try with_reducible rfl)) ?_
      simp only [Act.put, List.getElem_toArray, List.getElem_cons_succ, List.getElem_cons_zero, List.setIfInBounds_toArray, List.set_cons_zero, List.set_cons_succ]
      refine Turns.take hS 2 _ rfl (by kernel_rfl) (by kernel_rfl) (by kernel_rfl) (by kernel_rfl) (fun _ _ _ h => h) (by rfl) (fun w' hS' => by (try dsimp only at hS'); go_split_ands; go_simp; (try with_reducible rfl)) ?_
      simp only [Act.put, List.getElem_toArray, List.getElem_cons_succ, List.getElem_cons_zero, List.setIfInBounds_toArray, List.set_cons_zero, List.set_cons_succ]
      refine Turns.next 1 rfl (by kernel_rfl) (by rfl) (fun K hK => ?_)
      go_simp
      go_at_call 20
      refine (HGP.out _).mono ?_
      rintro e v1 ⟨rfl, hbt⟩
      replace HX := Lib.hid (HX.out.next hbt)
      replace HA := Lib.hid (HA.out.below hbt HA.out.lt)
      clear hbt
      refine hK.out _ _ (show (fun (w' : World) => w'.cell? ⟨ba, 0, none⟩ = some (.int .i64 s0_0) ∧ w'.cell? ⟨ba, 1, none⟩ = some (.int .i64 s0_1) ∧ w'.cell? ⟨ba, 2, none⟩ = some (.int .i64 s0_2) ∧ w'.cell? ⟨ba, 3, none⟩ = some (.int .i64 s0_3) ∧ w'.cell? ⟨ba, 4, none⟩ = some (.int .i64 s0_4) ∧ w'.cell? ⟨ba, 5, none⟩ = some (.int .i64 s0_5) ∧ w'.cell? ⟨w.heap.size, 0, none⟩ = some (.int .i64 s0_0) ∧ w'.cell? ⟨w.heap.size, 1, none⟩ = some (.int .i64 s0_1) ∧ w'.cell? ⟨w.heap.size, 2, none⟩ = some (.int .i64 s0_2) ∧ w'.cell? ⟨w.heap.size, 3, none⟩ = some (.int .i64 s0_3) ∧ w'.cell? ⟨w.heap.size, 4, none⟩ = some (.int .i64 s0_4) ∧ w'.cell? ⟨w.heap.size, 5, none⟩ = some (.int .i64 s0_5)) _ from ⟨HA.out.cell 0, HA.out.cell 1, HA.out.cell 2, HA.out.cell 3, HA.out.cell 4, HA.out.cell 5, HX.out.holds.cell 0, HX.out.holds.cell 1, HX.out.holds.cell 2, HX.out.holds.cell 3, HX.out.holds.cell 4, HX.out.holds.cell 5⟩) ?_
      clear hK K hS
      have hS := (show (fun (w' : World) => w'.cell? ⟨ba, 0, none⟩ = some (.int .i64 s0_0) ∧ w'.cell? ⟨ba, 1, none⟩ = some (.int .i64 s0_1) ∧ w'.cell? ⟨ba, 2, none⟩ = some (.int .i64 s0_2) ∧ w'.cell? ⟨ba, 3, none⟩ = some (.int .i64 s0_3) ∧ w'.cell? ⟨ba, 4, none⟩ = some (.int .i64 s0_4) ∧ w'.cell? ⟨ba, 5, none⟩ = some (.int .i64 s0_5) ∧ w'.cell? ⟨w.heap.size, 0, none⟩ = some (.int .i64 s0_0) ∧ w'.cell? ⟨w.heap.size, 1, none⟩ = some (.int .i64 s0_1) ∧ w'.cell? ⟨w.heap.size, 2, none⟩ = some (.int .i64 s0_2) ∧ w'.cell? ⟨w.heap.size, 3, none⟩ = some (.int .i64 s0_3) ∧ w'.cell? ⟨w.heap.size, 4, none⟩ = some (.int .i64 s0_4) ∧ w'.cell? ⟨w.heap.size, 5, none⟩ = some (.int .i64 s0_5)) _ from ⟨HA.out.cell 0, HA.out.cell 1, HA.out.cell 2, HA.out.cell 3, HA.out.cell 4, HA.out.cell 5, HX.out.holds.cell 0, HX.out.holds.cell 1, HX.out.holds.cell 2, HX.out.holds.cell 3, HX.out.holds.cell 4, HX.out.holds.cell 5⟩)
      refine Turns.next 3 rfl (by kernel_rfl) (by rfl) (fun K hK => ?_)
      go_simp
      go_at_call 21
      refine (HGD.out _).mono ?_
      rintro e v3 ⟨rfl, hbt⟩
      replace HX := Lib.hid (HX.out.next hbt)
      replace HA := Lib.hid (HA.out.below hbt HA.out.lt)
      clear hbt
      refine hK.out _ _ (show (fun (w' : World) => w'.cell? ⟨ba, 0, none⟩ = some (.int .i64 s0_0) ∧ w'.cell? ⟨ba, 1, none⟩ = some (.int .i64 s0_1) ∧ w'.cell? ⟨ba, 2, none⟩ = some (.int .i64 s0_2) ∧ w'.cell? ⟨ba, 3, none⟩ = some (.int .i64 s0_3) ∧ w'.cell? ⟨ba, 4, none⟩ = some (.int .i64 s0_4) ∧ w'.cell? ⟨ba, 5, none⟩ = some (.int .i64 s0_5) ∧ w'.cell? ⟨w.heap.size, 0, none⟩ = some (.int .i64 s0_0) ∧ w'.cell? ⟨w.heap.size, 1, none⟩ = some (.int .i64 s0_1) ∧ w'.cell? ⟨w.heap.size, 2, none⟩ = some (.int .i64 s0_2) ∧ w'.cell? ⟨w.heap.size, 3, none⟩ = some (.int .i64 s0_3) ∧ w'.cell? ⟨w.heap.size, 4, none⟩ = some (.int .i64 s0_4) ∧ w'.cell? ⟨w.heap.size, 5, none⟩ = some (.int .i64 s0_5)) _ from ⟨HA.out.cell 0, HA.out.cell 1, HA.out.cell 2, HA.out.cell 3, HA.out.cell 4, HA.out.cell 5, HX.out.holds.cell 0, HX.out.holds.cell 1, HX.out.holds.cell 2, HX.out.holds.cell 3, HX.out.holds.cell 4, HX.out.holds.cell 5⟩) ?_
      clear hK K hS
      have hS := (show (fun (w' : World) => w'.cell? ⟨ba, 0, none⟩ = some (.int .i64 s0_0) ∧ w'.cell? ⟨ba, 1, none⟩ = some (.int .i64 s0_1) ∧ w'.cell? ⟨ba, 2, none⟩ = some (.int .i64 s0_2) ∧ w'.cell? ⟨ba, 3, none⟩ = some (.int .i64 s0_3) ∧ w'.cell? ⟨ba, 4, none⟩ = some (.int .i64 s0_4) ∧ w'.cell? ⟨ba, 5, none⟩ = some (.int .i64 s0_5) ∧ w'.cell? ⟨w.heap.size, 0, none⟩ = some (.int .i64 s0_0) ∧ w'.cell? ⟨w.heap.size, 1, none⟩ = some (.int .i64 s0_1) ∧ w'.cell? ⟨w.heap.size, 2, none⟩ = some (.int .i64 s0_2) ∧ w'.cell? ⟨w.heap.size, 3, none⟩ = some (.int .i64 s0_3) ∧ w'.cell? ⟨w.heap.size, 4, none⟩ = some (.int .i64 s0_4) ∧ w'.cell? ⟨w.heap.size, 5, none⟩ = some (.int .i64 s0_5)) _ from ⟨HA.out.cell 0, HA.out.cell 1, HA.out.cell 2, HA.out.cell 3, HA.out.cell 4, HA.out.cell 5, HX.out.holds.cell 0, HX.out.holds.cell 1, HX.out.holds.cell 2, HX.out.holds.cell 3, HX.out.holds.cell 4, HX.out.holds.cell 5⟩)
      refine Turns.take hS 4 _ rfl (by kernel_rfl) (by kernel_rfl) (by kernel_rfl) (by kernel_rfl) (fun _ _ _ h => h) (by rfl) (fun w' hS' => by (try dsimp only at hS'); go_split_ands; go_simp; (try with_reducible rfl)) ?_
      simp only [Act.put, List.getElem_toArray, List.getElem_cons_succ, List.getElem_cons_zero, List.setIfInBounds_toArray, List.set_cons_zero, List.set_cons_succ]
      refine Turns.take hS 5 _ rfl (by kernel_rfl) (by kernel_rfl) (by kernel_rfl) (by kernel_rfl) (fun _ _ _ h => h) (by rfl) (fun w' hS' => by (try dsimp only at hS'); go_split_ands; go_simp; (try with_reducible rfl)) ?_
      simp only [Act.put, List.getElem_toArray, List.getElem_cons_succ, List.getElem_cons_zero, List.setIfInBounds_toArray, List.set_cons_zero, List.set_cons_succ]
      refine Turns.take hS 6 _ rfl (by kernel_rfl) (by kernel_rfl) (by kernel_rfl) (by kernel_rfl) (fun _ _ _ h => h) (by rfl) (fun w' hS' => by (try dsimp only at hS'); go_split_ands; go_simp; (try with_reducible rfl)) ?_
      simp only [Act.put, List.getElem_toArray, List.getElem_cons_succ, List.getElem_cons_zero, List.setIfInBounds_toArray, List.set_cons_zero, List.set_cons_succ]
      refine Turns.take hS 8 _ rfl (by kernel_rfl) (by kernel_rfl) (by kernel_rfl) (by kernel_rfl) (fun _ _ _ h => h) (by rfl) (fun w' hS' => by (try dsimp only at hS'); go_split_ands; go_simp; (try with_reducible rfl)) ?_
      simp only [Act.put, List.getElem_toArray, List.getElem_cons_succ, List.getElem_cons_zero, List.setIfInBounds_toArray, List.set_cons_zero, List.set_cons_succ]
      refine Turns.next 7 rfl (by kernel_rfl) (by rfl) (fun K hK => ?_)
      go_simp
      go_at_call 19
      refine (HTP.out _ HX.out.below).mono ?_
      rintro e v7 ⟨rfl, hbt⟩
      replace HX := Lib.hid (HX.out.next hbt)
      replace HA := Lib.hid (HA.out.below hbt HA.out.lt)
      clear hbt
      refine hK.out _ _ (show (fun (w' : World) => w'.cell? ⟨ba, 0, none⟩ = some (.int .i64 s0_0) ∧ w'.cell? ⟨ba, 1, none⟩ = some (.int .i64 s0_1) ∧ w'.cell? ⟨ba, 2, none⟩ = some (.int .i64 s0_2) ∧ w'.cell? ⟨ba, 3, none⟩ = some (.int .i64 s0_3) ∧ w'.cell? ⟨ba, 4, none⟩ = some (.int .i64 s0_4) ∧ w'.cell? ⟨ba, 5, none⟩ = some (.int .i64 s0_5) ∧ w'.cell? ⟨w.heap.size, 0, none⟩ = some (.int .i64 s0_0) ∧ w'.cell? ⟨w.heap.size, 1, none⟩ = some (.int .i64 s0_1) ∧ w'.cell? ⟨w.heap.size, 2, none⟩ = some (.int .i64 s0_2) ∧ w'.cell? ⟨w.heap.size, 3, none⟩ = some (.int .i64 s0_3) ∧ w'.cell? ⟨w.heap.size, 4, none⟩ = some (.int .i64 s0_4) ∧ w'.cell? ⟨w.heap.size, 5, none⟩ = some (.int .i64 s0_5)) _ from ⟨HA.out.cell 0, HA.out.cell 1, HA.out.cell 2, HA.out.cell 3, HA.out.cell 4, HA.out.cell 5, HX.out.holds.cell 0, HX.out.holds.cell 1, HX.out.holds.cell 2, HX.out.holds.cell 3, HX.out.holds.cell 4, HX.out.holds.cell 5⟩) ?_
      clear hK K hS
      have hS := (show (fun (w' : World) => w'.cell? ⟨ba, 0, none⟩ = some (.int .i64 s0_0) ∧ w'.cell? ⟨ba, 1, none⟩ = some (.int .i64 s0_1) ∧ w'.cell? ⟨ba, 2, none⟩ = some (.int .i64 s0_2) ∧ w'.cell? ⟨ba, 3, none⟩ = some (.int .i64 s0_3) ∧ w'.cell? ⟨ba, 4, none⟩ = some (.int .i64 s0_4) ∧ w'.cell? ⟨ba, 5, none⟩ = some (.int .i64 s0_5) ∧ w'.cell? ⟨w.heap.size, 0, none⟩ = some (.int .i64 s0_0) ∧ w'.cell? ⟨w.heap.size, 1, none⟩ = some (.int .i64 s0_1) ∧ w'.cell? ⟨w.heap.size, 2, none⟩ = some (.int .i64 s0_2) ∧ w'.cell? ⟨w.heap.size, 3, none⟩ = some (.int .i64 s0_3) ∧ w'.cell? ⟨w.heap.size, 4, none⟩ = some (.int .i64 s0_4) ∧ w'.cell? ⟨w.heap.size, 5, none⟩ = some (.int .i64 s0_5)) _ from ⟨HA.out.cell 0, HA.out.cell 1, HA.out.cell 2, HA.out.cell 3, HA.out.cell 4, HA.out.cell 5, HX.out.holds.cell 0, HX.out.holds.cell 1, HX.out.holds.cell 2, HX.out.holds.cell 3, HX.out.holds.cell 4, HX.out.holds.cell 5⟩)
      refine Turns.next 9 rfl (by kernel_rfl) (by rfl) (fun K hK => ?_)
      go_simp
      go_at_call 22
      refine (HTD.out _ HX.out.below).mono ?_
      rintro e v9 ⟨rfl, hbt⟩
      replace HX := Lib.hid (HX.out.next hbt)
      replace HA := Lib.hid (HA.out.below hbt HA.out.lt)
      clear hbt
      refine hK.out _ _ (show (fun (w' : World) => w'.cell? ⟨ba, 0, none⟩ = some (.int .i64 s0_0) ∧ w'.cell? ⟨ba, 1, none⟩ = some (.int .i64 s0_1) ∧ w'.cell? ⟨ba, 2, none⟩ = some (.int .i64 s0_2) ∧ w'.cell? ⟨ba, 3, none⟩ = some (.int .i64 s0_3) ∧ w'.cell? ⟨ba, 4, none⟩ = some (.int .i64 s0_4) ∧ w'.cell? ⟨ba, 5, none⟩ = some (.int .i64 s0_5) ∧ w'.cell? ⟨w.heap.size, 0, none⟩ = some (.int .i64 s0_0) ∧ w'.cell? ⟨w.heap.size, 1, none⟩ = some (.int .i64 s0_1) ∧ w'.cell? ⟨w.heap.size, 2, none⟩ = some (.int .i64 s0_2) ∧ w'.cell? ⟨w.heap.size, 3, none⟩ = some (.int .i64 s0_3) ∧ w'.cell? ⟨w.heap.size, 4, none⟩ = some (.int .i64 s0_4) ∧ w'.cell? ⟨w.heap.size, 5, none⟩ = some (.int .i64 s0_5)) _ from ⟨HA.out.cell 0, HA.out.cell 1, HA.out.cell 2, HA.out.cell 3, HA.out.cell 4, HA.out.cell 5, HX.out.holds.cell 0, HX.out.holds.cell 1, HX.out.holds.cell 2, HX.out.holds.cell 3, HX.out.holds.cell 4, HX.out.holds.cell 5⟩) ?_
      clear hK K hS
      have hS := (show (fun (w' : World) => w'.cell? ⟨ba, 0, none⟩ = some (.int .i64 s0_0) ∧ w'.cell? ⟨ba, 1, none⟩ = some (.int .i64 s0_1) ∧ w'.cell? ⟨ba, 2, none⟩ = some (.int .i64 s0_2) ∧ w'.cell? ⟨ba, 3, none⟩ = some (.int .i64 s0_3) ∧ w'.cell? ⟨ba, 4, none⟩ = some (.int .i64 s0_4) ∧ w'.cell? ⟨ba, 5, none⟩ = some (.int .i64 s0_5) ∧ w'.cell? ⟨w.heap.size, 0, none⟩ = some (.int .i64 s0_0) ∧ w'.cell? ⟨w.heap.size, 1, none⟩ = some (.int .i64 s0_1) ∧ w'.cell? ⟨w.heap.size, 2, none⟩ = some (.int .i64 s0_2) ∧ w'.cell? ⟨w.heap.size, 3, none⟩ = some (.int .i64 s0_3) ∧ w'.cell? ⟨w.heap.size, 4, none⟩ = some (.int .i64 s0_4) ∧ w'.cell? ⟨w.heap.size, 5, none⟩ = some (.int .i64 s0_5)) _ from ⟨HA.out.cell 0, HA.out.cell 1, HA.out.cell 2, HA.out.cell 3, HA.out.cell 4, HA.out.cell 5, HX.out.holds.cell 0, HX.out.holds.cell 1, HX.out.holds.cell 2, HX.out.holds.cell 3, HX.out.holds.cell 4, HX.out.holds.cell 5⟩)
      refine Turns.take hS 10 _ rfl (by kernel_rfl) (by kernel_rfl) (by kernel_rfl) (by kernel_rfl) (fun _ _ _ h => h) (by rfl) (fun w' hS' => by (try dsimp only at hS'); go_split_ands; go_simp; (try with_reducible rfl)) ?_
      simp only [Act.put, List.getElem_toArray, List.getElem_cons_succ, List.getElem_cons_zero, List.setIfInBounds_toArray, List.set_cons_zero, List.set_cons_succ]
      refine Turns.take hS 11 _ rfl (by kernel_rfl) (by kernel_rfl) (by kernel_rfl) (by kernel_rfl) (fun _ _ _ h => h) (by rfl) (fun w' hS' => by (try dsimp only at hS'); go_split_ands; go_simp; (try with_reducible rfl)) ?_
      simp only [Act.put, List.getElem_toArray, List.getElem_cons_succ, List.getElem_cons_zero, List.setIfInBounds_toArray, List.set_cons_zero, List.set_cons_succ]
      refine Turns.rest (late_done (by kernel_rfl)) ?_
      refine any_tail 12 (by rfl) (by kernel_rfl) ?_
      simp only [List.drop_succ_cons, List.drop_zero]
      clear hS
      have x0 := HA.out.cell 0
      have x1 := HA.out.cell 1
      have x2 := HA.out.cell 2
      have x3 := HA.out.cell 3
      have x4 := HA.out.cell 4
      have x5 := HA.out.cell 5
      obtain ⟨c0, c1, c2, c3, c4, c5, _⟩ := HX.out.cells6
      go_upto_region 14 with (first
        | (go_at_call 9; refine (alive_yes _ (HT.out.below HX.out.below)).mono ?_; rintro e w1 ⟨rfl, hb1⟩; replace HX := Lib.hid (HX.out.next hb1); clear hb1; (try clear c0 c1 c2 c3 c4 c5); obtain ⟨c0, c1, c2, c3, c4, c5, _⟩ := HX.out.cells6)
        | (go_at_call 13; refine (of_any s0_0 s0_1 s0_2 s0_3 s0_4 s0_5 _).mono ?_; rintro e w2 ⟨rfl, hbz⟩; have HQ := Lib.hid (Box.start w2 35 #[.int .i64 s0_0, .int .i64 s0_1, .int .i64 s0_2, .int .i64 s0_3, .int .i64 s0_4, .int .i64 s0_5]); have hb2 := hbz.trans (HQ.out.below.mono hbz.size); (try replace HA := Lib.hid (HA.out.below hb2 HA.out.lt)); (try replace HB := Lib.hid (HB.out.below hb2 HB.out.lt)); (try replace HC := Lib.hid (HC.out.below hb2 HC.out.lt)); (try replace HD := Lib.hid (HD.out.below hb2 HD.out.lt)); have HA := Lib.hid HQ.out.holds; clear HQ hbz; replace HX := Lib.hid (HX.out.next hb2); clear hb2; (try clear c0 c1 c2 c3 c4 c5); obtain ⟨c0, c1, c2, c3, c4, c5, _⟩ := HX.out.cells6)
        | (go_at_call 20; refine (HGP.out _).mono ?_; rintro e w3 ⟨rfl, hb3⟩; replace HX := Lib.hid (HX.out.next hb3); (try replace HA := Lib.hid (HA.out.below hb3 HA.out.lt)); (try replace HB := Lib.hid (HB.out.below hb3 HB.out.lt)); (try replace HC := Lib.hid (HC.out.below hb3 HC.out.lt)); (try replace HD := Lib.hid (HD.out.below hb3 HD.out.lt)); clear hb3; (try clear c0 c1 c2 c3 c4 c5); obtain ⟨c0, c1, c2, c3, c4, c5, _⟩ := HX.out.cells6; (try (clear x0 x1 x2 x3 x4 x5; have x0 := HA.out.cell 0; have x1 := HA.out.cell 1; have x2 := HA.out.cell 2; have x3 := HA.out.cell 3; have x4 := HA.out.cell 4; have x5 := HA.out.cell 5)))
        | (go_at_call 19; refine (HTP.out _ HX.out.below).mono ?_; rintro e w4 ⟨rfl, hb4⟩; replace HX := Lib.hid (HX.out.next hb4); (try replace HA := Lib.hid (HA.out.below hb4 HA.out.lt)); (try replace HB := Lib.hid (HB.out.below hb4 HB.out.lt)); (try replace HC := Lib.hid (HC.out.below hb4 HC.out.lt)); (try replace HD := Lib.hid (HD.out.below hb4 HD.out.lt)); clear hb4; (try clear c0 c1 c2 c3 c4 c5); obtain ⟨c0, c1, c2, c3, c4, c5, _⟩ := HX.out.cells6; (try (clear x0 x1 x2 x3 x4 x5; have x0 := HA.out.cell 0; have x1 := HA.out.cell 1; have x2 := HA.out.cell 2; have x3 := HA.out.cell 3; have x4 := HA.out.cell 4; have x5 := HA.out.cell 5)))
        | (go_at_call 23; with_reducible refine (HPB.out _ HX.out.below).mono ?_; rintro e w5 ⟨rfl, hbz⟩; have HQ := Lib.hid (Box.start w5 35 #[.int .i64 s0_0, .int .i64 s0_1, .int .i64 s0_2, .int .i64 s0_3, .int .i64 s0_4, .int .i64 s0_5]); have hb5 := hbz.trans (HQ.out.below.mono hbz.size); (try replace HA := Lib.hid (HA.out.below hb5 HA.out.lt)); (try replace HB := Lib.hid (HB.out.below hb5 HB.out.lt)); (try replace HC := Lib.hid (HC.out.below hb5 HC.out.lt)); (try replace HD := Lib.hid (HD.out.below hb5 HD.out.lt)); have HB := Lib.hid HQ.out.holds; clear HQ hbz; replace HX := Lib.hid (HX.out.next hb5); clear hb5; (try clear c0 c1 c2 c3 c4 c5); obtain ⟨c0, c1, c2, c3, c4, c5, _⟩ := HX.out.cells6; (try (clear x0 x1 x2 x3 x4 x5; have x0 := HA.out.cell 0; have x1 := HA.out.cell 1; have x2 := HA.out.cell 2; have x3 := HA.out.cell 3; have x4 := HA.out.cell 4; have x5 := HA.out.cell 5)); have z0 := HB.out.cell 0; have z1 := HB.out.cell 1; have z2 := HB.out.cell 2; have z3 := HB.out.cell 3; have z4 := HB.out.cell 4; have z5 := HB.out.cell 5; clear HPB)
        | (go_at_call 23; with_reducible refine (HPC.out _ HX.out.below).mono ?_; rintro e w6 ⟨rfl, hbz⟩; have HQ := Lib.hid (Box.start w6 35 #[.int .i64 ys, .int .i64 ms, .int .i64 ds, .int .i64 Hs, .int .i64 Ms, .int .i64 Ss]); have hb6 := hbz.trans (HQ.out.below.mono hbz.size); (try replace HA := Lib.hid (HA.out.below hb6 HA.out.lt)); (try replace HB := Lib.hid (HB.out.below hb6 HB.out.lt)); (try replace HC := Lib.hid (HC.out.below hb6 HC.out.lt)); (try replace HD := Lib.hid (HD.out.below hb6 HD.out.lt)); have HC := Lib.hid HQ.out.holds; clear HQ hbz; replace HX := Lib.hid (HX.out.next hb6); clear hb6; (try clear c0 c1 c2 c3 c4 c5); obtain ⟨c0, c1, c2, c3, c4, c5, _⟩ := HX.out.cells6)
        | (go_at_call 23; with_reducible refine (HMC.out _ HX.out.below).mono ?_; rintro e w6 ⟨rfl, hbz⟩; have HQ := Lib.hid (Box.start w6 35 #[.int .i64 0, .int .i64 0, .int .i64 0, .int .i64 0, .int .i64 0, .int .i64 0]); have hb6 := hbz.trans (HQ.out.below.mono hbz.size); (try replace HA := Lib.hid (HA.out.below hb6 HA.out.lt)); (try replace HB := Lib.hid (HB.out.below hb6 HB.out.lt)); (try replace HC := Lib.hid (HC.out.below hb6 HC.out.lt)); (try replace HD := Lib.hid (HD.out.below hb6 HD.out.lt)); have HC := Lib.hid HQ.out.holds; clear HQ hbz; replace HX := Lib.hid (HX.out.next hb6); clear hb6; (try clear c0 c1 c2 c3 c4 c5); obtain ⟨c0, c1, c2, c3, c4, c5, _⟩ := HX.out.cells6)
        | (go_at_call 24; with_reducible refine (HPD.out _).mono ?_; rintro e w7 ⟨rfl, hbz⟩; have HQ := Lib.hid (Box.start w7 28 #[.int .i64 ys, .int .i64 ms, .int .i64 ds, .int .i64 Hs, .int .i64 Ms, .int .i64 Ss]); have hb7 := hbz.trans (HQ.out.below.mono hbz.size); (try replace HA := Lib.hid (HA.out.below hb7 HA.out.lt)); (try replace HB := Lib.hid (HB.out.below hb7 HB.out.lt)); (try replace HC := Lib.hid (HC.out.below hb7 HC.out.lt)); (try replace HD := Lib.hid (HD.out.below hb7 HD.out.lt)); have HD := Lib.hid HQ.out.holds; clear HQ hbz; replace HX := Lib.hid (HX.out.next hb7); clear hb7; (try clear c0 c1 c2 c3 c4 c5); obtain ⟨c0, c1, c2, c3, c4, c5, _⟩ := HX.out.cells6)
        | (go_at_call 24; with_reducible refine (HMD.out _).mono ?_; rintro e w7 ⟨rfl, hbz⟩; have HQ := Lib.hid (Box.start w7 28 #[.int .i64 0, .int .i64 0, .int .i64 0, .int .i64 0, .int .i64 0, .int .i64 0]); have hb7 := hbz.trans (HQ.out.below.mono hbz.size); (try replace HA := Lib.hid (HA.out.below hb7 HA.out.lt)); (try replace HB := Lib.hid (HB.out.below hb7 HB.out.lt)); (try replace HC := Lib.hid (HC.out.below hb7 HC.out.lt)); (try replace HD := Lib.hid (HD.out.below hb7 HD.out.lt)); have HD := Lib.hid HQ.out.holds; clear HQ hbz; replace HX := Lib.hid (HX.out.next hb7); clear hb7; (try clear c0 c1 c2 c3 c4 c5); obtain ⟨c0, c1, c2, c3, c4, c5, _⟩ := HX.out.cells6))
      obtain ⟨bc, hbc⟩ : ∃ b, w6.heap.size = b := ⟨_, rfl⟩
      simp only [hbc] at HC ⊢
      obtain ⟨bd, hbd⟩ : ∃ b, w7.heap.size = b := ⟨_, rfl⟩
      simp only [hbd] at HD ⊢
      clear hbc hbd
      (try clear c0 c1 c2 c3 c4 c5)
      (try clear x0 x1 x2 x3 x4 x5)
      replace HX := Lib.hid HX.out.drew
      replace HC := Lib.hid (HC.out.below (Below.refl _ _).drew HC.out.lt)
      replace HD := Lib.hid (HD.out.below (Below.refl _ _).drew HD.out.lt)
      refine region_turns (fun (w' : World) => w'.cell? ⟨bc, 0, none⟩ = some (.int .i64 ys) ∧ w'.cell? ⟨bc, 1, none⟩ = some (.int .i64 ms) ∧ w'.cell? ⟨bc, 2, none⟩ = some (.int .i64 ds) ∧ w'.cell? ⟨bc, 3, none⟩ = some (.int .i64 Hs) ∧ w'.cell? ⟨bc, 4, none⟩ = some (.int .i64 Ms) ∧ w'.cell? ⟨bc, 5, none⟩ = some (.int .i64 Ss) ∧ w'.cell? ⟨bd, 0, none⟩ = some (.int .i64 ys) ∧ w'.cell? ⟨bd, 1, none⟩ = some (.int .i64 ms) ∧ w'.cell? ⟨bd, 2, none⟩ = some (.int .i64 ds) ∧ w'.cell? ⟨bd, 3, none⟩ = some (.int .i64 Hs) ∧ w'.cell? ⟨bd, 4, none⟩ = some (.int .i64 Ms) ∧ w'.cell? ⟨bd, 5, none⟩ = some (.int .i64 Ss)) (fun j => decide (20 ≤ j)) (by kernel_rfl) (⟨HC.out.cell 0, HC.out.cell 1, HC.out.cell 2, HC.out.cell 3, HC.out.cell 4, HC.out.cell 5, HD.out.cell 0, HD.out.cell 1, HD.out.cell 2, HD.out.cell 3, HD.out.cell 4, HD.out.cell 5⟩) (fun hS => ?_)
      refine Turns.take hS 0 _ rfl (by kernel_rfl) (by kernel_rfl) (by kernel_rfl) (by kernel_rfl) (fun _ _ _ h => h) (by rfl) (fun w' hS' => by (try dsimp only at hS'); go_split_ands; go_simp; (try with_reducible rfl)) ?_
      simp only [Act.put, List.getElem_toArray, List.getElem_cons_succ, List.getElem_cons_zero, List.setIfInBounds_toArray, List.set_cons_zero, List.set_cons_succ]
      refine Turns.take hS 2 _ rfl (by kernel_rfl) (by kernel_rfl) (by kernel_rfl) (by kernel_rfl) (fun _ _ _ h => h) (by rfl) (fun w' hS' => by (try dsimp only at hS'); go_split_ands; go_simp; (try with_reducible rfl)) ?_
      simp only [Act.put, List.getElem_toArray, List.getElem_cons_succ, List.getElem_cons_zero, List.setIfInBounds_toArray, List.set_cons_zero, List.set_cons_succ]
      refine Turns.next 1 rfl (by kernel_rfl) (by rfl) (fun K hK => ?_)
      go_simp
      go_at_call 15
      refine (plain_any ys ms ds Hs Ms Ss _).mono ?_
      rintro e v1 ⟨rfl, hbt⟩
      replace HX := Lib.hid (HX.out.next hbt)
      replace HC := Lib.hid (HC.out.below hbt HC.out.lt)
      replace HD := Lib.hid (HD.out.below hbt HD.out.lt)
      clear hbt
      refine hK.out _ _ (show (fun (w' : World) => w'.cell? ⟨bc, 0, none⟩ = some (.int .i64 ys) ∧ w'.cell? ⟨bc, 1, none⟩ = some (.int .i64 ms) ∧ w'.cell? ⟨bc, 2, none⟩ = some (.int .i64 ds) ∧ w'.cell? ⟨bc, 3, none⟩ = some (.int .i64 Hs) ∧ w'.cell? ⟨bc, 4, none⟩ = some (.int .i64 Ms) ∧ w'.cell? ⟨bc, 5, none⟩ = some (.int .i64 Ss) ∧ w'.cell? ⟨bd, 0, none⟩ = some (.int .i64 ys) ∧ w'.cell? ⟨bd, 1, none⟩ = some (.int .i64 ms) ∧ w'.cell? ⟨bd, 2, none⟩ = some (.int .i64 ds) ∧ w'.cell? ⟨bd, 3, none⟩ = some (.int .i64 Hs) ∧ w'.cell? ⟨bd, 4, none⟩ = some (.int .i64 Ms) ∧ w'.cell? ⟨bd, 5, none⟩ = some (.int .i64 Ss)) _ from ⟨HC.out.cell 0, HC.out.cell 1, HC.out.cell 2, HC.out.cell 3, HC.out.cell 4, HC.out.cell 5, HD.out.cell 0, HD.out.cell 1, HD.out.cell 2, HD.out.cell 3, HD.out.cell 4, HD.out.cell 5⟩) ?_
      clear hK K hS
      have hS := (show (fun (w' : World) => w'.cell? ⟨bc, 0, none⟩ = some (.int .i64 ys) ∧ w'.cell? ⟨bc, 1, none⟩ = some (.int .i64 ms) ∧ w'.cell? ⟨bc, 2, none⟩ = some (.int .i64 ds) ∧ w'.cell? ⟨bc, 3, none⟩ = some (.int .i64 Hs) ∧ w'.cell? ⟨bc, 4, none⟩ = some (.int .i64 Ms) ∧ w'.cell? ⟨bc, 5, none⟩ = some (.int .i64 Ss) ∧ w'.cell? ⟨bd, 0, none⟩ = some (.int .i64 ys) ∧ w'.cell? ⟨bd, 1, none⟩ = some (.int .i64 ms) ∧ w'.cell? ⟨bd, 2, none⟩ = some (.int .i64 ds) ∧ w'.cell? ⟨bd, 3, none⟩ = some (.int .i64 Hs) ∧ w'.cell? ⟨bd, 4, none⟩ = some (.int .i64 Ms) ∧ w'.cell? ⟨bd, 5, none⟩ = some (.int .i64 Ss)) _ from ⟨HC.out.cell 0, HC.out.cell 1, HC.out.cell 2, HC.out.cell 3, HC.out.cell 4, HC.out.cell 5, HD.out.cell 0, HD.out.cell 1, HD.out.cell 2, HD.out.cell 3, HD.out.cell 4, HD.out.cell 5⟩)
      refine Turns.take hS 3 _ rfl (by kernel_rfl) (by kernel_rfl) (by kernel_rfl) (by kernel_rfl) (fun _ _ _ h => h) (by rfl) (fun w' hS' => by (try dsimp only at hS'); go_split_ands; go_simp; (try with_reducible rfl)) ?_
      simp only [Act.put, List.getElem_toArray, List.getElem_cons_succ, List.getElem_cons_zero, List.setIfInBounds_toArray, List.set_cons_zero, List.set_cons_succ]
      refine Turns.take hS 4 _ rfl (by kernel_rfl) (by kernel_rfl) (by kernel_rfl) (by kernel_rfl) (fun _ _ _ h => h) (by rfl) (fun w' hS' => by (try dsimp only at hS'); go_split_ands; go_simp; (try with_reducible rfl)) ?_
      simp only [Act.put, List.getElem_toArray, List.getElem_cons_succ, List.getElem_cons_zero, List.setIfInBounds_toArray, List.set_cons_zero, List.set_cons_succ]
      refine Turns.take hS 5 _ rfl (by kernel_rfl) (by kernel_rfl) (by kernel_rfl) (by kernel_rfl) (fun _ _ _ h => h) (by rfl) (fun w' hS' => by (try dsimp only at hS'); go_split_ands; go_simp; (try with_reducible rfl)) ?_
      simp only [Act.put, List.getElem_toArray, List.getElem_cons_succ, List.getElem_cons_zero, List.setIfInBounds_toArray, List.set_cons_zero, List.set_cons_succ]
      refine Turns.take hS 6 _ rfl (by kernel_rfl) (by kernel_rfl) (by kernel_rfl) (by kernel_rfl) (fun _ _ _ h => h) (by rfl) (fun w' hS' => by (try dsimp only at hS'); go_split_ands; go_simp; (try with_reducible rfl)) ?_
      simp only [Act.put, List.getElem_toArray, List.getElem_cons_succ, List.getElem_cons_zero, List.setIfInBounds_toArray, List.set_cons_zero, List.set_cons_succ]
      refine Turns.take hS 7 _ rfl (by kernel_rfl) (by kernel_rfl) (by kernel_rfl) (by kernel_rfl) (fun _ _ _ h => h) (by rfl) (fun w' hS' => by (try dsimp only at hS'); go_split_ands; go_simp; (try with_reducible rfl)) ?_
      simp only [Act.put, List.getElem_toArray, List.getElem_cons_succ, List.getElem_cons_zero, List.setIfInBounds_toArray, List.set_cons_zero, List.set_cons_succ]
      refine Turns.take hS 8 _ rfl (by kernel_rfl) (by kernel_rfl) (by kernel_rfl) (by kernel_rfl) (fun _ _ _ h => h) (by rfl) (fun w' hS' => by (try dsimp only at hS'); go_split_ands; go_simp; (try with_reducible rfl)) ?_
      simp only [Act.put, List.getElem_toArray, List.getElem_cons_succ, List.getElem_cons_zero, List.setIfInBounds_toArray, List.set_cons_zero, List.set_cons_succ]
      refine Turns.take hS 9 _ rfl (by kernel_rfl) (by kernel_rfl) (by kernel_rfl) (by kernel_rfl) (fun _ _ _ h => h) (by rfl) (fun w' hS' => by (try dsimp only at hS'); go_split_ands; go_simp; (try with_reducible rfl)) ?_
      simp only [Act.put, List.getElem_toArray, List.getElem_cons_succ, List.getElem_cons_zero, List.setIfInBounds_toArray, List.set_cons_zero, List.set_cons_succ]
      refine Turns.take hS 10 _ rfl (by kernel_rfl) (by kernel_rfl) (by kernel_rfl) (by kernel_rfl) (fun _ _ _ h => h) (by rfl) (fun w' hS' => by (try dsimp only at hS'); go_split_ands; go_simp; (try with_reducible rfl)) ?_
      simp only [Act.put, List.getElem_toArray, List.getElem_cons_succ, List.getElem_cons_zero, List.setIfInBounds_toArray, List.set_cons_zero, List.set_cons_succ]
      refine Turns.take hS 11 _ rfl (by kernel_rfl) (by kernel_rfl) (by kernel_rfl) (by kernel_rfl) (fun _ _ _ h => h) (by rfl) (fun w' hS' => by (try dsimp only at hS'); go_split_ands; go_simp; (try with_reducible rfl)) ?_
      simp only [Act.put, List.getElem_toArray, List.getElem_cons_succ, List.getElem_cons_zero, List.setIfInBounds_toArray, List.set_cons_zero, List.set_cons_succ]
      refine Turns.take hS 12 _ rfl (by kernel_rfl) (by kernel_rfl) (by kernel_rfl) (by kernel_rfl) (fun _ _ _ h => h) (by rfl) (fun w' hS' => by (try dsimp only at hS'); go_split_ands; go_simp; (try with_reducible rfl)) ?_
      simp only [Act.put, List.getElem_toArray, List.getElem_cons_succ, List.getElem_cons_zero, List.setIfInBounds_toArray, List.set_cons_zero, List.set_cons_succ]
      refine Turns.take hS 13 _ rfl (by kernel_rfl) (by kernel_rfl) (by kernel_rfl) (by kernel_rfl) (fun _ _ _ h => h) (by rfl) (fun w' hS' => by (try dsimp only at hS'); go_split_ands; go_simp; (try with_reducible rfl)) ?_
      simp only [Act.put, List.getElem_toArray, List.getElem_cons_succ, List.getElem_cons_zero, List.setIfInBounds_toArray, List.set_cons_zero, List.set_cons_succ]
      refine Turns.take hS 15 _ rfl (by kernel_rfl) (by kernel_rfl) (by kernel_rfl) (by kernel_rfl) (fun _ _ _ h => h) (by rfl) (fun w' hS' => by (try dsimp only at hS'); go_split_ands; go_simp; (try with_reducible rfl)) ?_
      simp only [Act.put, List.getElem_toArray, List.getElem_cons_succ, List.getElem_cons_zero, List.setIfInBounds_toArray, List.set_cons_zero, List.set_cons_succ]
      refine Turns.next 14 rfl (by kernel_rfl) (by rfl) (fun K hK => ?_)
      go_simp
      go_at_call 19
      refine (HTC.out _ HX.out.below).mono ?_
      rintro e v14 ⟨rfl, hbt⟩
      replace HX := Lib.hid (HX.out.next hbt)
      replace HC := Lib.hid (HC.out.below hbt HC.out.lt)
      replace HD := Lib.hid (HD.out.below hbt HD.out.lt)
      clear hbt
      refine hK.out _ _ (show (fun (w' : World) => w'.cell? ⟨bc, 0, none⟩ = some (.int .i64 ys) ∧ w'.cell? ⟨bc, 1, none⟩ = some (.int .i64 ms) ∧ w'.cell? ⟨bc, 2, none⟩ = some (.int .i64 ds) ∧ w'.cell? ⟨bc, 3, none⟩ = some (.int .i64 Hs) ∧ w'.cell? ⟨bc, 4, none⟩ = some (.int .i64 Ms) ∧ w'.cell? ⟨bc, 5, none⟩ = some (.int .i64 Ss) ∧ w'.cell? ⟨bd, 0, none⟩ = some (.int .i64 ys) ∧ w'.cell? ⟨bd, 1, none⟩ = some (.int .i64 ms) ∧ w'.cell? ⟨bd, 2, none⟩ = some (.int .i64 ds) ∧ w'.cell? ⟨bd, 3, none⟩ = some (.int .i64 Hs) ∧ w'.cell? ⟨bd, 4, none⟩ = some (.int .i64 Ms) ∧ w'.cell? ⟨bd, 5, none⟩ = some (.int .i64 Ss)) _ from ⟨HC.out.cell 0, HC.out.cell 1, HC.out.cell 2, HC.out.cell 3, HC.out.cell 4, HC.out.cell 5, HD.out.cell 0, HD.out.cell 1, HD.out.cell 2, HD.out.cell 3, HD.out.cell 4, HD.out.cell 5⟩) ?_
      clear hK K hS
      have hS := (show (fun (w' : World) => w'.cell? ⟨bc, 0, none⟩ = some (.int .i64 ys) ∧ w'.cell? ⟨bc, 1, none⟩ = some (.int .i64 ms) ∧ w'.cell? ⟨bc, 2, none⟩ = some (.int .i64 ds) ∧ w'.cell? ⟨bc, 3, none⟩ = some (.int .i64 Hs) ∧ w'.cell? ⟨bc, 4, none⟩ = some (.int .i64 Ms) ∧ w'.cell? ⟨bc, 5, none⟩ = some (.int .i64 Ss) ∧ w'.cell? ⟨bd, 0, none⟩ = some (.int .i64 ys) ∧ w'.cell? ⟨bd, 1, none⟩ = some (.int .i64 ms) ∧ w'.cell? ⟨bd, 2, none⟩ = some (.int .i64 ds) ∧ w'.cell? ⟨bd, 3, none⟩ = some (.int .i64 Hs) ∧ w'.cell? ⟨bd, 4, none⟩ = some (.int .i64 Ms) ∧ w'.cell? ⟨bd, 5, none⟩ = some (.int .i64 Ss)) _ from ⟨HC.out.cell 0, HC.out.cell 1, HC.out.cell 2, HC.out.cell 3, HC.out.cell 4, HC.out.cell 5, HD.out.cell 0, HD.out.cell 1, HD.out.cell 2, HD.out.cell 3, HD.out.cell 4, HD.out.cell 5⟩)
      refine Turns.take hS 16 _ rfl (by kernel_rfl) (by kernel_rfl) (by kernel_rfl) (by kernel_rfl) (fun _ _ _ h => h) (by rfl) (fun w' hS' => by (try dsimp only at hS'); go_split_ands; go_simp; (try with_reducible rfl)) ?_
      simp only [Act.put, List.getElem_toArray, List.getElem_cons_succ, List.getElem_cons_zero, List.setIfInBounds_toArray, List.set_cons_zero, List.set_cons_succ]
      refine Turns.take hS 17 _ rfl (by kernel_rfl) (by kernel_rfl) (by kernel_rfl) (by kernel_rfl) (fun _ _ _ h => h) (by rfl) (fun w' hS' => by (try dsimp only at hS'); go_split_ands; go_simp; (try with_reducible rfl)) ?_
      simp only [Act.put, List.getElem_toArray, List.getElem_cons_succ, List.getElem_cons_zero, List.setIfInBounds_toArray, List.set_cons_zero, List.set_cons_succ]
      refine Turns.take hS 18 _ rfl (by kernel_rfl) (by kernel_rfl) (by kernel_rfl) (by kernel_rfl) (fun _ _ _ h => h) (by rfl) (fun w' hS' => by (try dsimp only at hS'); go_split_ands; go_simp; (try with_reducible rfl)) ?_
      simp only [Act.put, List.getElem_toArray, List.getElem_cons_succ, List.getElem_cons_zero, List.setIfInBounds_toArray, List.set_cons_zero, List.set_cons_succ]
      refine Turns.take hS 19 _ rfl (by kernel_rfl) (by kernel_rfl) (by kernel_rfl) (by kernel_rfl) (fun _ _ _ h => h) (by rfl) (fun w' hS' => by (try dsimp only at hS'); go_split_ands; go_simp; (try with_reducible rfl)) ?_
      simp only [Act.put, List.getElem_toArray, List.getElem_cons_succ, List.getElem_cons_zero, List.setIfInBounds_toArray, List.set_cons_zero, List.set_cons_succ]
      refine Turns.rest (late_done (by kernel_rfl)) ?_
      refine any_tail 20 (by rfl) (by kernel_rfl) ?_
      simp only [List.drop_succ_cons, List.drop_zero]
      clear hS
      go_wp2
      go_ret
      exact ⟨rfl, HX.out.below⟩
    · have HMC := Lib.hid (fun W (hW : Below w.heap.size w W) => uparse_no a1 W hs (HT.out.below hW))
      have HMD := Lib.hid (fun W => ruparse_no a1 W hs)
      have q1 := rutc_eq_same 0 0 0 0 0 0
      clear hs h64
      go_enter Tryd.func6, Tryd.ntmps6
      go_upto_region 6 with (first
        | (go_at_call 9; refine (alive_yes _ (HT.out.below HX.out.below)).mono ?_; rintro e w1 ⟨rfl, hb1⟩; replace HX := Lib.hid (HX.out.next hb1); clear hb1; (try clear c0 c1 c2 c3 c4 c5); obtain ⟨c0, c1, c2, c3, c4, c5, _⟩ := HX.out.cells6)
        | (go_at_call 13; refine (of_any s0_0 s0_1 s0_2 s0_3 s0_4 s0_5 _).mono ?_; rintro e w2 ⟨rfl, hbz⟩; have HQ := Lib.hid (Box.start w2 35 #[.int .i64 s0_0, .int .i64 s0_1, .int .i64 s0_2, .int .i64 s0_3, .int .i64 s0_4, .int .i64 s0_5]); have hb2 := hbz.trans (HQ.out.below.mono hbz.size); (try replace HA := Lib.hid (HA.out.below hb2 HA.out.lt)); (try replace HB := Lib.hid (HB.out.below hb2 HB.out.lt)); (try replace HC := Lib.hid (HC.out.below hb2 HC.out.lt)); (try replace HD := Lib.hid (HD.out.below hb2 HD.out.lt)); have HA := Lib.hid HQ.out.holds; clear HQ hbz; replace HX := Lib.hid (HX.out.next hb2); clear hb2; (try clear c0 c1 c2 c3 c4 c5); obtain ⟨c0, c1, c2, c3, c4, c5, _⟩ := HX.out.cells6)
        | (go_at_call 20; refine (HGP.out _).mono ?_; rintro e w3 ⟨rfl, hb3⟩; replace HX := Lib.hid (HX.out.next hb3); (try replace HA := Lib.hid (HA.out.below hb3 HA.out.lt)); (try replace HB := Lib.hid (HB.out.below hb3 HB.out.lt)); (try replace HC := Lib.hid (HC.out.below hb3 HC.out.lt)); (try replace HD := Lib.hid (HD.out.below hb3 HD.out.lt)); clear hb3; (try clear c0 c1 c2 c3 c4 c5); obtain ⟨c0, c1, c2, c3, c4, c5, _⟩ := HX.out.cells6; (try (clear x0 x1 x2 x3 x4 x5; have x0 := HA.out.cell 0; have x1 := HA.out.cell 1; have x2 := HA.out.cell 2; have x3 := HA.out.cell 3; have x4 := HA.out.cell 4; have x5 := HA.out.cell 5)))
        | (go_at_call 19; refine (HTP.out _ HX.out.below).mono ?_; rintro e w4 ⟨rfl, hb4⟩; replace HX := Lib.hid (HX.out.next hb4); (try replace HA := Lib.hid (HA.out.below hb4 HA.out.lt)); (try replace HB := Lib.hid (HB.out.below hb4 HB.out.lt)); (try replace HC := Lib.hid (HC.out.below hb4 HC.out.lt)); (try replace HD := Lib.hid (HD.out.below hb4 HD.out.lt)); clear hb4; (try clear c0 c1 c2 c3 c4 c5); obtain ⟨c0, c1, c2, c3, c4, c5, _⟩ := HX.out.cells6; (try (clear x0 x1 x2 x3 x4 x5; have x0 := HA.out.cell 0; have x1 := HA.out.cell 1; have x2 := HA.out.cell 2; have x3 := HA.out.cell 3; have x4 := HA.out.cell 4; have x5 := HA.out.cell 5)))
        | (go_at_call 23; with_reducible refine (HPB.out _ HX.out.below).mono ?_; rintro e w5 ⟨rfl, hbz⟩; have HQ := Lib.hid (Box.start w5 35 #[.int .i64 s0_0, .int .i64 s0_1, .int .i64 s0_2, .int .i64 s0_3, .int .i64 s0_4, .int .i64 s0_5]); have hb5 := hbz.trans (HQ.out.below.mono hbz.size); (try replace HA := Lib.hid (HA.out.below hb5 HA.out.lt)); (try replace HB := Lib.hid (HB.out.below hb5 HB.out.lt)); (try replace HC := Lib.hid (HC.out.below hb5 HC.out.lt)); (try replace HD := Lib.hid (HD.out.below hb5 HD.out.lt)); have HB := Lib.hid HQ.out.holds; clear HQ hbz; replace HX := Lib.hid (HX.out.next hb5); clear hb5; (try clear c0 c1 c2 c3 c4 c5); obtain ⟨c0, c1, c2, c3, c4, c5, _⟩ := HX.out.cells6; (try (clear x0 x1 x2 x3 x4 x5; have x0 := HA.out.cell 0; have x1 := HA.out.cell 1; have x2 := HA.out.cell 2; have x3 := HA.out.cell 3; have x4 := HA.out.cell 4; have x5 := HA.out.cell 5)); have z0 := HB.out.cell 0; have z1 := HB.out.cell 1; have z2 := HB.out.cell 2; have z3 := HB.out.cell 3; have z4 := HB.out.cell 4; have z5 := HB.out.cell 5; clear HPB)
        | (go_at_call 23; with_reducible refine (HPC.out _ HX.out.below).mono ?_; rintro e w6 ⟨rfl, hbz⟩; have HQ := Lib.hid (Box.start w6 35 #[.int .i64 ys, .int .i64 ms, .int .i64 ds, .int .i64 Hs, .int .i64 Ms, .int .i64 Ss]); have hb6 := hbz.trans (HQ.out.below.mono hbz.size); (try replace HA := Lib.hid (HA.out.below hb6 HA.out.lt)); (try replace HB := Lib.hid (HB.out.below hb6 HB.out.lt)); (try replace HC := Lib.hid (HC.out.below hb6 HC.out.lt)); (try replace HD := Lib.hid (HD.out.below hb6 HD.out.lt)); have HC := Lib.hid HQ.out.holds; clear HQ hbz; replace HX := Lib.hid (HX.out.next hb6); clear hb6; (try clear c0 c1 c2 c3 c4 c5); obtain ⟨c0, c1, c2, c3, c4, c5, _⟩ := HX.out.cells6)
        | (go_at_call 23; with_reducible refine (HMC.out _ HX.out.below).mono ?_; rintro e w6 ⟨rfl, hbz⟩; have HQ := Lib.hid (Box.start w6 35 #[.int .i64 0, .int .i64 0, .int .i64 0, .int .i64 0, .int .i64 0, .int .i64 0]); have hb6 := hbz.trans (HQ.out.below.mono hbz.size); (try replace HA := Lib.hid (HA.out.below hb6 HA.out.lt)); (try replace HB := Lib.hid (HB.out.below hb6 HB.out.lt)); (try replace HC := Lib.hid (HC.out.below hb6 HC.out.lt)); (try replace HD := Lib.hid (HD.out.below hb6 HD.out.lt)); have HC := Lib.hid HQ.out.holds; clear HQ hbz; replace HX := Lib.hid (HX.out.next hb6); clear hb6; (try clear c0 c1 c2 c3 c4 c5); obtain ⟨c0, c1, c2, c3, c4, c5, _⟩ := HX.out.cells6)
        | (go_at_call 24; with_reducible refine (HPD.out _).mono ?_; rintro e w7 ⟨rfl, hbz⟩; have HQ := Lib.hid (Box.start w7 28 #[.int .i64 ys, .int .i64 ms, .int .i64 ds, .int .i64 Hs, .int .i64 Ms, .int .i64 Ss]); have hb7 := hbz.trans (HQ.out.below.mono hbz.size); (try replace HA := Lib.hid (HA.out.below hb7 HA.out.lt)); (try replace HB := Lib.hid (HB.out.below hb7 HB.out.lt)); (try replace HC := Lib.hid (HC.out.below hb7 HC.out.lt)); (try replace HD := Lib.hid (HD.out.below hb7 HD.out.lt)); have HD := Lib.hid HQ.out.holds; clear HQ hbz; replace HX := Lib.hid (HX.out.next hb7); clear hb7; (try clear c0 c1 c2 c3 c4 c5); obtain ⟨c0, c1, c2, c3, c4, c5, _⟩ := HX.out.cells6)
        | (go_at_call 24; with_reducible refine (HMD.out _).mono ?_; rintro e w7 ⟨rfl, hbz⟩; have HQ := Lib.hid (Box.start w7 28 #[.int .i64 0, .int .i64 0, .int .i64 0, .int .i64 0, .int .i64 0, .int .i64 0]); have hb7 := hbz.trans (HQ.out.below.mono hbz.size); (try replace HA := Lib.hid (HA.out.below hb7 HA.out.lt)); (try replace HB := Lib.hid (HB.out.below hb7 HB.out.lt)); (try replace HC := Lib.hid (HC.out.below hb7 HC.out.lt)); (try replace HD := Lib.hid (HD.out.below hb7 HD.out.lt)); have HD := Lib.hid HQ.out.holds; clear HQ hbz; replace HX := Lib.hid (HX.out.next hb7); clear hb7; (try clear c0 c1 c2 c3 c4 c5); obtain ⟨c0, c1, c2, c3, c4, c5, _⟩ := HX.out.cells6))
      clear c0 c1 c2 c3 c4 c5
      obtain ⟨ba, hba⟩ : ∃ b, w2.heap.size = b := ⟨_, rfl⟩
      simp only [hba] at HA ⊢
      clear hba
      replace HX := Lib.hid HX.out.drew
      replace HA := Lib.hid (HA.out.below (Below.refl _ _).drew HA.out.lt)
      refine region_turns (fun (w' : World) => w'.cell? ⟨ba, 0, none⟩ = some (.int .i64 s0_0) ∧ w'.cell? ⟨ba, 1, none⟩ = some (.int .i64 s0_1) ∧ w'.cell? ⟨ba, 2, none⟩ = some (.int .i64 s0_2) ∧ w'.cell? ⟨ba, 3, none⟩ = some (.int .i64 s0_3) ∧ w'.cell? ⟨ba, 4, none⟩ = some (.int .i64 s0_4) ∧ w'.cell? ⟨ba, 5, none⟩ = some (.int .i64 s0_5) ∧ w'.cell? ⟨w.heap.size, 0, none⟩ = some (.int .i64 s0_0) ∧ w'.cell? ⟨w.heap.size, 1, none⟩ = some (.int .i64 s0_1) ∧ w'.cell? ⟨w.heap.size, 2, none⟩ = some (.int .i64 s0_2) ∧ w'.cell? ⟨w.heap.size, 3, none⟩ = some (.int .i64 s0_3) ∧ w'.cell? ⟨w.heap.size, 4, none⟩ = some (.int .i64 s0_4) ∧ w'.cell? ⟨w.heap.size, 5, none⟩ = some (.int .i64 s0_5)) (fun j => decide (12 ≤ j)) (by kernel_rfl) (⟨HA.out.cell 0, HA.out.cell 1, HA.out.cell 2, HA.out.cell 3, HA.out.cell 4, HA.out.cell 5, HX.out.holds.cell 0, HX.out.holds.cell 1, HX.out.holds.cell 2, HX.out.holds.cell 3, HX.out.holds.cell 4, HX.out.holds.cell 5⟩) (fun hS => ?_)
      refine Turns.take hS 0 _ rfl (by kernel_rfl) (by kernel_rfl) (by kernel_rfl) (by kernel_rfl) (fun _ _ _ h => h) (by rfl) (fun w' hS' => by (try dsimp only at hS'); go_split_ands; go_simp; (try with_reducible rfl)) ?_
      simp only [Act.put, List.getElem_toArray, List.getElem_cons_succ, List.getElem_cons_zero, List.setIfInBounds_toArray, List.set_cons_zero, List.set_cons_succ]
      refine Turns.take hS 2 _ rfl (by kernel_rfl) (by kernel_rfl) (by kernel_rfl) (by kernel_rfl) (fun _ _ _ h => h) (by rfl) (fun w' hS' => by (try dsimp only at hS'); go_split_ands; go_simp; (try with_reducible rfl)) ?_
      simp only [Act.put, List.getElem_toArray, List.getElem_cons_succ, List.getElem_cons_zero, List.setIfInBounds_toArray, List.set_cons_zero, List.set_cons_succ]
      refine Turns.next 1 rfl (by kernel_rfl) (by rfl) (fun K hK => ?_)
      go_simp
      go_at_call 20
      refine (HGP.out _).mono ?_
      rintro e v1 ⟨rfl, hbt⟩
      replace HX := Lib.hid (HX.out.next hbt)
      replace HA := Lib.hid (HA.out.below hbt HA.out.lt)
      clear hbt
      refine hK.out _ _ (show (fun (w' : World) => w'.cell? ⟨ba, 0, none⟩ = some (.int .i64 s0_0) ∧ w'.cell? ⟨ba, 1, none⟩ = some (.int .i64 s0_1) ∧ w'.cell? ⟨ba, 2, none⟩ = some (.int .i64 s0_2) ∧ w'.cell? ⟨ba, 3, none⟩ = some (.int .i64 s0_3) ∧ w'.cell? ⟨ba, 4, none⟩ = some (.int .i64 s0_4) ∧ w'.cell? ⟨ba, 5, none⟩ = some (.int .i64 s0_5) ∧ w'.cell? ⟨w.heap.size, 0, none⟩ = some (.int .i64 s0_0) ∧ w'.cell? ⟨w.heap.size, 1, none⟩ = some (.int .i64 s0_1) ∧ w'.cell? ⟨w.heap.size, 2, none⟩ = some (.int .i64 s0_2) ∧ w'.cell? ⟨w.heap.size, 3, none⟩ = some (.int .i64 s0_3) ∧ w'.cell? ⟨w.heap.size, 4, none⟩ = some (.int .i64 s0_4) ∧ w'.cell? ⟨w.heap.size, 5, none⟩ = some (.int .i64 s0_5)) _ from ⟨HA.out.cell 0, HA.out.cell 1, HA.out.cell 2, HA.out.cell 3, HA.out.cell 4, HA.out.cell 5, HX.out.holds.cell 0, HX.out.holds.cell 1, HX.out.holds.cell 2, HX.out.holds.cell 3, HX.out.holds.cell 4, HX.out.holds.cell 5⟩) ?_
      clear hK K hS
      have hS := (show (fun (w' : World) => w'.cell? ⟨ba, 0, none⟩ = some (.int .i64 s0_0) ∧ w'.cell? ⟨ba, 1, none⟩ = some (.int .i64 s0_1) ∧ w'.cell? ⟨ba, 2, none⟩ = some (.int .i64 s0_2) ∧ w'.cell? ⟨ba, 3, none⟩ = some (.int .i64 s0_3) ∧ w'.cell? ⟨ba, 4, none⟩ = some (.int .i64 s0_4) ∧ w'.cell? ⟨ba, 5, none⟩ = some (.int .i64 s0_5) ∧ w'.cell? ⟨w.heap.size, 0, none⟩ = some (.int .i64 s0_0) ∧ w'.cell? ⟨w.heap.size, 1, none⟩ = some (.int .i64 s0_1) ∧ w'.cell? ⟨w.heap.size, 2, none⟩ = some (.int .i64 s0_2) ∧ w'.cell? ⟨w.heap.size, 3, none⟩ = some (.int .i64 s0_3) ∧ w'.cell? ⟨w.heap.size, 4, none⟩ = some (.int .i64 s0_4) ∧ w'.cell? ⟨w.heap.size, 5, none⟩ = some (.int .i64 s0_5)) _ from ⟨HA.out.cell 0, HA.out.cell 1, HA.out.cell 2, HA.out.cell 3, HA.out.cell 4, HA.out.cell 5, HX.out.holds.cell 0, HX.out.holds.cell 1, HX.out.holds.cell 2, HX.out.holds.cell 3, HX.out.holds.cell 4, HX.out.holds.cell 5⟩)
      refine Turns.next 3 rfl (by kernel_rfl) (by rfl) (fun K hK => ?_)
      go_simp
      go_at_call 21
      refine (HGD.out _).mono ?_
      rintro e v3 ⟨rfl, hbt⟩
      replace HX := Lib.hid (HX.out.next hbt)
      replace HA := Lib.hid (HA.out.below hbt HA.out.lt)
      clear hbt
      refine hK.out _ _ (show (fun (w' : World) => w'.cell? ⟨ba, 0, none⟩ = some (.int .i64 s0_0) ∧ w'.cell? ⟨ba, 1, none⟩ = some (.int .i64 s0_1) ∧ w'.cell? ⟨ba, 2, none⟩ = some (.int .i64 s0_2) ∧ w'.cell? ⟨ba, 3, none⟩ = some (.int .i64 s0_3) ∧ w'.cell? ⟨ba, 4, none⟩ = some (.int .i64 s0_4) ∧ w'.cell? ⟨ba, 5, none⟩ = some (.int .i64 s0_5) ∧ w'.cell? ⟨w.heap.size, 0, none⟩ = some (.int .i64 s0_0) ∧ w'.cell? ⟨w.heap.size, 1, none⟩ = some (.int .i64 s0_1) ∧ w'.cell? ⟨w.heap.size, 2, none⟩ = some (.int .i64 s0_2) ∧ w'.cell? ⟨w.heap.size, 3, none⟩ = some (.int .i64 s0_3) ∧ w'.cell? ⟨w.heap.size, 4, none⟩ = some (.int .i64 s0_4) ∧ w'.cell? ⟨w.heap.size, 5, none⟩ = some (.int .i64 s0_5)) _ from ⟨HA.out.cell 0, HA.out.cell 1, HA.out.cell 2, HA.out.cell 3, HA.out.cell 4, HA.out.cell 5, HX.out.holds.cell 0, HX.out.holds.cell 1, HX.out.holds.cell 2, HX.out.holds.cell 3, HX.out.holds.cell 4, HX.out.holds.cell 5⟩) ?_
      clear hK K hS
      have hS := (show (fun (w' : World) => w'.cell? ⟨ba, 0, none⟩ = some (.int .i64 s0_0) ∧ w'.cell? ⟨ba, 1, none⟩ = some (.int .i64 s0_1) ∧ w'.cell? ⟨ba, 2, none⟩ = some (.int .i64 s0_2) ∧ w'.cell? ⟨ba, 3, none⟩ = some (.int .i64 s0_3) ∧ w'.cell? ⟨ba, 4, none⟩ = some (.int .i64 s0_4) ∧ w'.cell? ⟨ba, 5, none⟩ = some (.int .i64 s0_5) ∧ w'.cell? ⟨w.heap.size, 0, none⟩ = some (.int .i64 s0_0) ∧ w'.cell? ⟨w.heap.size, 1, none⟩ = some (.int .i64 s0_1) ∧ w'.cell? ⟨w.heap.size, 2, none⟩ = some (.int .i64 s0_2) ∧ w'.cell? ⟨w.heap.size, 3, none⟩ = some (.int .i64 s0_3) ∧ w'.cell? ⟨w.heap.size, 4, none⟩ = some (.int .i64 s0_4) ∧ w'.cell? ⟨w.heap.size, 5, none⟩ = some (.int .i64 s0_5)) _ from ⟨HA.out.cell 0, HA.out.cell 1, HA.out.cell 2, HA.out.cell 3, HA.out.cell 4, HA.out.cell 5, HX.out.holds.cell 0, HX.out.holds.cell 1, HX.out.holds.cell 2, HX.out.holds.cell 3, HX.out.holds.cell 4, HX.out.holds.cell 5⟩)
      refine Turns.take hS 4 _ rfl (by kernel_rfl) (by kernel_rfl) (by kernel_rfl) (by kernel_rfl) (fun _ _ _ h => h) (by rfl) (fun w' hS' => by (try dsimp only at hS'); go_split_ands; go_simp; (try with_reducible rfl)) ?_
      simp only [Act.put, List.getElem_toArray, List.getElem_cons_succ, List.getElem_cons_zero, List.setIfInBounds_toArray, List.set_cons_zero, List.set_cons_succ]
      refine Turns.take hS 5 _ rfl (by kernel_rfl) (by kernel_rfl) (by kernel_rfl) (by kernel_rfl) (fun _ _ _ h => h) (by rfl) (fun w' hS' => by (try dsimp only at hS'); go_split_ands; go_simp; (try with_reducible rfl)) ?_
      simp only [Act.put, List.getElem_toArray, List.getElem_cons_succ, List.getElem_cons_zero, List.setIfInBounds_toArray, List.set_cons_zero, List.set_cons_succ]
      refine Turns.take hS 6 _ rfl (by kernel_rfl) (by kernel_rfl) (by kernel_rfl) (by kernel_rfl) (fun _ _ _ h => h) (by rfl) (fun w' hS' => by (try dsimp only at hS'); go_split_ands; go_simp; (try with_reducible rfl)) ?_
      simp only [Act.put, List.getElem_toArray, List.getElem_cons_succ, List.getElem_cons_zero, List.setIfInBounds_toArray, List.set_cons_zero, List.set_cons_succ]
      refine Turns.take hS 8 _ rfl (by kernel_rfl) (by kernel_rfl) (by kernel_rfl) (by kernel_rfl) (fun _ _ _ h => h) (by rfl) (fun w' hS' => by (try dsimp only at hS'); go_split_ands; go_simp; (try with_reducible rfl)) ?_
      simp only [Act.put, List.getElem_toArray, List.getElem_cons_succ, List.getElem_cons_zero, List.setIfInBounds_toArray, List.set_cons_zero, List.set_cons_succ]
      refine Turns.next 7 rfl (by kernel_rfl) (by rfl) (fun K hK => ?_)
      go_simp
      go_at_call 19
      refine (HTP.out _ HX.out.below).mono ?_
      rintro e v7 ⟨rfl, hbt⟩
      replace HX := Lib.hid (HX.out.next hbt)
      replace HA := Lib.hid (HA.out.below hbt HA.out.lt)
      clear hbt
      refine hK.out _ _ (show (fun (w' : World) => w'.cell? ⟨ba, 0, none⟩ = some (.int .i64 s0_0) ∧ w'.cell? ⟨ba, 1, none⟩ = some (.int .i64 s0_1) ∧ w'.cell? ⟨ba, 2, none⟩ = some (.int .i64 s0_2) ∧ w'.cell? ⟨ba, 3, none⟩ = some (.int .i64 s0_3) ∧ w'.cell? ⟨ba, 4, none⟩ = some (.int .i64 s0_4) ∧ w'.cell? ⟨ba, 5, none⟩ = some (.int .i64 s0_5) ∧ w'.cell? ⟨w.heap.size, 0, none⟩ = some (.int .i64 s0_0) ∧ w'.cell? ⟨w.heap.size, 1, none⟩ = some (.int .i64 s0_1) ∧ w'.cell? ⟨w.heap.size, 2, none⟩ = some (.int .i64 s0_2) ∧ w'.cell? ⟨w.heap.size, 3, none⟩ = some (.int .i64 s0_3) ∧ w'.cell? ⟨w.heap.size, 4, none⟩ = some (.int .i64 s0_4) ∧ w'.cell? ⟨w.heap.size, 5, none⟩ = some (.int .i64 s0_5)) _ from ⟨HA.out.cell 0, HA.out.cell 1, HA.out.cell 2, HA.out.cell 3, HA.out.cell 4, HA.out.cell 5, HX.out.holds.cell 0, HX.out.holds.cell 1, HX.out.holds.cell 2, HX.out.holds.cell 3, HX.out.holds.cell 4, HX.out.holds.cell 5⟩) ?_
      clear hK K hS
      have hS := (show (fun (w' : World) => w'.cell? ⟨ba, 0, none⟩ = some (.int .i64 s0_0) ∧ w'.cell? ⟨ba, 1, none⟩ = some (.int .i64 s0_1) ∧ w'.cell? ⟨ba, 2, none⟩ = some (.int .i64 s0_2) ∧ w'.cell? ⟨ba, 3, none⟩ = some (.int .i64 s0_3) ∧ w'.cell? ⟨ba, 4, none⟩ = some (.int .i64 s0_4) ∧ w'.cell? ⟨ba, 5, none⟩ = some (.int .i64 s0_5) ∧ w'.cell? ⟨w.heap.size, 0, none⟩ = some (.int .i64 s0_0) ∧ w'.cell? ⟨w.heap.size, 1, none⟩ = some (.int .i64 s0_1) ∧ w'.cell? ⟨w.heap.size, 2, none⟩ = some (.int .i64 s0_2) ∧ w'.cell? ⟨w.heap.size, 3, none⟩ = some (.int .i64 s0_3) ∧ w'.cell? ⟨w.heap.size, 4, none⟩ = some (.int .i64 s0_4) ∧ w'.cell? ⟨w.heap.size, 5, none⟩ = some (.int .i64 s0_5)) _ from ⟨HA.out.cell 0, HA.out.cell 1, HA.out.cell 2, HA.out.cell 3, HA.out.cell 4, HA.out.cell 5, HX.out.holds.cell 0, HX.out.holds.cell 1, HX.out.holds.cell 2, HX.out.holds.cell 3, HX.out.holds.cell 4, HX.out.holds.cell 5⟩)
      refine Turns.next 9 rfl (by kernel_rfl) (by rfl) (fun K hK => ?_)
      go_simp
      go_at_call 22
      refine (HTD.out _ HX.out.below).mono ?_
      rintro e v9 ⟨rfl, hbt⟩
      replace HX := Lib.hid (HX.out.next hbt)
      replace HA := Lib.hid (HA.out.below hbt HA.out.lt)
      clear hbt
      refine hK.out _ _ (show (fun (w' : World) => w'.cell? ⟨ba, 0, none⟩ = some (.int .i64 s0_0) ∧ w'.cell? ⟨ba, 1, none⟩ = some (.int .i64 s0_1) ∧ w'.cell? ⟨ba, 2, none⟩ = some (.int .i64 s0_2) ∧ w'.cell? ⟨ba, 3, none⟩ = some (.int .i64 s0_3) ∧ w'.cell? ⟨ba, 4, none⟩ = some (.int .i64 s0_4) ∧ w'.cell? ⟨ba, 5, none⟩ = some (.int .i64 s0_5) ∧ w'.cell? ⟨w.heap.size, 0, none⟩ = some (.int .i64 s0_0) ∧ w'.cell? ⟨w.heap.size, 1, none⟩ = some (.int .i64 s0_1) ∧ w'.cell? ⟨w.heap.size, 2, none⟩ = some (.int .i64 s0_2) ∧ w'.cell? ⟨w.heap.size, 3, none⟩ = some (.int .i64 s0_3) ∧ w'.cell? ⟨w.heap.size, 4, none⟩ = some (.int .i64 s0_4) ∧ w'.cell? ⟨w.heap.size, 5, none⟩ = some (.int .i64 s0_5)) _ from ⟨HA.out.cell 0, HA.out.cell 1, HA.out.cell 2, HA.out.cell 3, HA.out.cell 4, HA.out.cell 5, HX.out.holds.cell 0, HX.out.holds.cell 1, HX.out.holds.cell 2, HX.out.holds.cell 3, HX.out.holds.cell 4, HX.out.holds.cell 5⟩) ?_
      clear hK K hS
      have hS := (show (fun (w' : World) => w'.cell? ⟨ba, 0, none⟩ = some (.int .i64 s0_0) ∧ w'.cell? ⟨ba, 1, none⟩ = some (.int .i64 s0_1) ∧ w'.cell? ⟨ba, 2, none⟩ = some (.int .i64 s0_2) ∧ w'.cell? ⟨ba, 3, none⟩ = some (.int .i64 s0_3) ∧ w'.cell? ⟨ba, 4, none⟩ = some (.int .i64 s0_4) ∧ w'.cell? ⟨ba, 5, none⟩ = some (.int .i64 s0_5) ∧ w'.cell? ⟨w.heap.size, 0, none⟩ = some (.int .i64 s0_0) ∧ w'.cell? ⟨w.heap.size, 1, none⟩ = some (.int .i64 s0_1) ∧ w'.cell? ⟨w.heap.size, 2, none⟩ = some (.int .i64 s0_2) ∧ w'.cell? ⟨w.heap.size, 3, none⟩ = some (.int .i64 s0_3) ∧ w'.cell? ⟨w.heap.size, 4, none⟩ = some (.int .i64 s0_4) ∧ w'.cell? ⟨w.heap.size, 5, none⟩ = some (.int .i64 s0_5)) _ from ⟨HA.out.cell 0, HA.out.cell 1, HA.out.cell 2, HA.out.cell 3, HA.out.cell 4, HA.out.cell 5, HX.out.holds.cell 0, HX.out.holds.cell 1, HX.out.holds.cell 2, HX.out.holds.cell 3, HX.out.holds.cell 4, HX.out.holds.cell 5⟩)
      refine Turns.take hS 10 _ rfl (by kernel_rfl) (by kernel_rfl) (by kernel_rfl) (by kernel_rfl) (fun _ _ _ h => h) (by rfl) (fun w' hS' => by (try dsimp only at hS'); go_split_ands; go_simp; (try with_reducible rfl)) ?_
      simp only [Act.put, List.getElem_toArray, List.getElem_cons_succ, List.getElem_cons_zero, List.setIfInBounds_toArray, List.set_cons_zero, List.set_cons_succ]
      refine Turns.take hS 11 _ rfl (by kernel_rfl) (by kernel_rfl) (by kernel_rfl) (by kernel_rfl) (fun _ _ _ h => h) (by rfl) (fun w' hS' => by (try dsimp only at hS'); go_split_ands; go_simp; (try with_reducible rfl)) ?_
      simp only [Act.put, List.getElem_toArray, List.getElem_cons_succ, List.getElem_cons_zero, List.setIfInBounds_toArray, List.set_cons_zero, List.set_cons_succ]
      refine Turns.rest (late_done (by kernel_rfl)) ?_
      refine any_tail 12 (by rfl) (by kernel_rfl) ?_
      simp only [List.drop_succ_cons, List.drop_zero]
      clear hS
      have x0 := HA.out.cell 0
      have x1 := HA.out.cell 1
      have x2 := HA.out.cell 2
      have x3 := HA.out.cell 3
      have x4 := HA.out.cell 4
      have x5 := HA.out.cell 5
      obtain ⟨c0, c1, c2, c3, c4, c5, _⟩ := HX.out.cells6
      go_upto_region 14 with (first
        | (go_at_call 9; refine (alive_yes _ (HT.out.below HX.out.below)).mono ?_; rintro e w1 ⟨rfl, hb1⟩; replace HX := Lib.hid (HX.out.next hb1); clear hb1; (try clear c0 c1 c2 c3 c4 c5); obtain ⟨c0, c1, c2, c3, c4, c5, _⟩ := HX.out.cells6)
        | (go_at_call 13; refine (of_any s0_0 s0_1 s0_2 s0_3 s0_4 s0_5 _).mono ?_; rintro e w2 ⟨rfl, hbz⟩; have HQ := Lib.hid (Box.start w2 35 #[.int .i64 s0_0, .int .i64 s0_1, .int .i64 s0_2, .int .i64 s0_3, .int .i64 s0_4, .int .i64 s0_5]); have hb2 := hbz.trans (HQ.out.below.mono hbz.size); (try replace HA := Lib.hid (HA.out.below hb2 HA.out.lt)); (try replace HB := Lib.hid (HB.out.below hb2 HB.out.lt)); (try replace HC := Lib.hid (HC.out.below hb2 HC.out.lt)); (try replace HD := Lib.hid (HD.out.below hb2 HD.out.lt)); have HA := Lib.hid HQ.out.holds; clear HQ hbz; replace HX := Lib.hid (HX.out.next hb2); clear hb2; (try clear c0 c1 c2 c3 c4 c5); obtain ⟨c0, c1, c2, c3, c4, c5, _⟩ := HX.out.cells6)
        | (go_at_call 20; refine (HGP.out _).mono ?_; rintro e w3 ⟨rfl, hb3⟩; replace HX := Lib.hid (HX.out.next hb3); (try replace HA := Lib.hid (HA.out.below hb3 HA.out.lt)); (try replace HB := Lib.hid (HB.out.below hb3 HB.out.lt)); (try replace HC := Lib.hid (HC.out.below hb3 HC.out.lt)); (try replace HD := Lib.hid (HD.out.below hb3 HD.out.lt)); clear hb3; (try clear c0 c1 c2 c3 c4 c5); obtain ⟨c0, c1, c2, c3, c4, c5, _⟩ := HX.out.cells6; (try (clear x0 x1 x2 x3 x4 x5; have x0 := HA.out.cell 0; have x1 := HA.out.cell 1; have x2 := HA.out.cell 2; have x3 := HA.out.cell 3; have x4 := HA.out.cell 4; have x5 := HA.out.cell 5)))
        | (go_at_call 19; refine (HTP.out _ HX.out.below).mono ?_; rintro e w4 ⟨rfl, hb4⟩; replace HX := Lib.hid (HX.out.next hb4); (try replace HA := Lib.hid (HA.out.below hb4 HA.out.lt)); (try replace HB := Lib.hid (HB.out.below hb4 HB.out.lt)); (try replace HC := Lib.hid (HC.out.below hb4 HC.out.lt)); (try replace HD := Lib.hid (HD.out.below hb4 HD.out.lt)); clear hb4; (try clear c0 c1 c2 c3 c4 c5); obtain ⟨c0, c1, c2, c3, c4, c5, _⟩ := HX.out.cells6; (try (clear x0 x1 x2 x3 x4 x5; have x0 := HA.out.cell 0; have x1 := HA.out.cell 1; have x2 := HA.out.cell 2; have x3 := HA.out.cell 3; have x4 := HA.out.cell 4; have x5 := HA.out.cell 5)))
        | (go_at_call 23; with_reducible refine (HPB.out _ HX.out.below).mono ?_; rintro e w5 ⟨rfl, hbz⟩; have HQ := Lib.hid (Box.start w5 35 #[.int .i64 s0_0, .int .i64 s0_1, .int .i64 s0_2, .int .i64 s0_3, .int .i64 s0_4, .int .i64 s0_5]); have hb5 := hbz.trans (HQ.out.below.mono hbz.size); (try replace HA := Lib.hid (HA.out.below hb5 HA.out.lt)); (try replace HB := Lib.hid (HB.out.below hb5 HB.out.lt)); (try replace HC := Lib.hid (HC.out.below hb5 HC.out.lt)); (try replace HD := Lib.hid (HD.out.below hb5 HD.out.lt)); have HB := Lib.hid HQ.out.holds; clear HQ hbz; replace HX := Lib.hid (HX.out.next hb5); clear hb5; (try clear c0 c1 c2 c3 c4 c5); obtain ⟨c0, c1, c2, c3, c4, c5, _⟩ := HX.out.cells6; (try (clear x0 x1 x2 x3 x4 x5; have x0 := HA.out.cell 0; have x1 := HA.out.cell 1; have x2 := HA.out.cell 2; have x3 := HA.out.cell 3; have x4 := HA.out.cell 4; have x5 := HA.out.cell 5)); have z0 := HB.out.cell 0; have z1 := HB.out.cell 1; have z2 := HB.out.cell 2; have z3 := HB.out.cell 3; have z4 := HB.out.cell 4; have z5 := HB.out.cell 5; clear HPB)
        | (go_at_call 23; with_reducible refine (HPC.out _ HX.out.below).mono ?_; rintro e w6 ⟨rfl, hbz⟩; have HQ := Lib.hid (Box.start w6 35 #[.int .i64 ys, .int .i64 ms, .int .i64 ds, .int .i64 Hs, .int .i64 Ms, .int .i64 Ss]); have hb6 := hbz.trans (HQ.out.below.mono hbz.size); (try replace HA := Lib.hid (HA.out.below hb6 HA.out.lt)); (try replace HB := Lib.hid (HB.out.below hb6 HB.out.lt)); (try replace HC := Lib.hid (HC.out.below hb6 HC.out.lt)); (try replace HD := Lib.hid (HD.out.below hb6 HD.out.lt)); have HC := Lib.hid HQ.out.holds; clear HQ hbz; replace HX := Lib.hid (HX.out.next hb6); clear hb6; (try clear c0 c1 c2 c3 c4 c5); obtain ⟨c0, c1, c2, c3, c4, c5, _⟩ := HX.out.cells6)
        | (go_at_call 23; with_reducible refine (HMC.out _ HX.out.below).mono ?_; rintro e w6 ⟨rfl, hbz⟩; have HQ := Lib.hid (Box.start w6 35 #[.int .i64 0, .int .i64 0, .int .i64 0, .int .i64 0, .int .i64 0, .int .i64 0]); have hb6 := hbz.trans (HQ.out.below.mono hbz.size); (try replace HA := Lib.hid (HA.out.below hb6 HA.out.lt)); (try replace HB := Lib.hid (HB.out.below hb6 HB.out.lt)); (try replace HC := Lib.hid (HC.out.below hb6 HC.out.lt)); (try replace HD := Lib.hid (HD.out.below hb6 HD.out.lt)); have HC := Lib.hid HQ.out.holds; clear HQ hbz; replace HX := Lib.hid (HX.out.next hb6); clear hb6; (try clear c0 c1 c2 c3 c4 c5); obtain ⟨c0, c1, c2, c3, c4, c5, _⟩ := HX.out.cells6)
        | (go_at_call 24; with_reducible refine (HPD.out _).mono ?_; rintro e w7 ⟨rfl, hbz⟩; have HQ := Lib.hid (Box.start w7 28 #[.int .i64 ys, .int .i64 ms, .int .i64 ds, .int .i64 Hs, .int .i64 Ms, .int .i64 Ss]); have hb7 := hbz.trans (HQ.out.below.mono hbz.size); (try replace HA := Lib.hid (HA.out.below hb7 HA.out.lt)); (try replace HB := Lib.hid (HB.out.below hb7 HB.out.lt)); (try replace HC := Lib.hid (HC.out.below hb7 HC.out.lt)); (try replace HD := Lib.hid (HD.out.below hb7 HD.out.lt)); have HD := Lib.hid HQ.out.holds; clear HQ hbz; replace HX := Lib.hid (HX.out.next hb7); clear hb7; (try clear c0 c1 c2 c3 c4 c5); obtain ⟨c0, c1, c2, c3, c4, c5, _⟩ := HX.out.cells6)
        | (go_at_call 24; with_reducible refine (HMD.out _).mono ?_; rintro e w7 ⟨rfl, hbz⟩; have HQ := Lib.hid (Box.start w7 28 #[.int .i64 0, .int .i64 0, .int .i64 0, .int .i64 0, .int .i64 0, .int .i64 0]); have hb7 := hbz.trans (HQ.out.below.mono hbz.size); (try replace HA := Lib.hid (HA.out.below hb7 HA.out.lt)); (try replace HB := Lib.hid (HB.out.below hb7 HB.out.lt)); (try replace HC := Lib.hid (HC.out.below hb7 HC.out.lt)); (try replace HD := Lib.hid (HD.out.below hb7 HD.out.lt)); have HD := Lib.hid HQ.out.holds; clear HQ hbz; replace HX := Lib.hid (HX.out.next hb7); clear hb7; (try clear c0 c1 c2 c3 c4 c5); obtain ⟨c0, c1, c2, c3, c4, c5, _⟩ := HX.out.cells6))
      obtain ⟨bc, hbc⟩ : ∃ b, w6.heap.size = b := ⟨_, rfl⟩
      simp only [hbc] at HC ⊢
      obtain ⟨bd, hbd⟩ : ∃ b, w7.heap.size = b := ⟨_, rfl⟩
      simp only [hbd] at HD ⊢
      clear hbc hbd
      (try clear c0 c1 c2 c3 c4 c5)
      (try clear x0 x1 x2 x3 x4 x5)
      replace HX := Lib.hid HX.out.drew
      replace HC := Lib.hid (HC.out.below (Below.refl _ _).drew HC.out.lt)
      replace HD := Lib.hid (HD.out.below (Below.refl _ _).drew HD.out.lt)
      refine region_turns (fun (w' : World) => w'.cell? ⟨bc, 0, none⟩ = some (.int .i64 0) ∧ w'.cell? ⟨bc, 1, none⟩ = some (.int .i64 0) ∧ w'.cell? ⟨bc, 2, none⟩ = some (.int .i64 0) ∧ w'.cell? ⟨bc, 3, none⟩ = some (.int .i64 0) ∧ w'.cell? ⟨bc, 4, none⟩ = some (.int .i64 0) ∧ w'.cell? ⟨bc, 5, none⟩ = some (.int .i64 0) ∧ w'.cell? ⟨bd, 0, none⟩ = some (.int .i64 0) ∧ w'.cell? ⟨bd, 1, none⟩ = some (.int .i64 0) ∧ w'.cell? ⟨bd, 2, none⟩ = some (.int .i64 0) ∧ w'.cell? ⟨bd, 3, none⟩ = some (.int .i64 0) ∧ w'.cell? ⟨bd, 4, none⟩ = some (.int .i64 0) ∧ w'.cell? ⟨bd, 5, none⟩ = some (.int .i64 0)) (fun j => decide (20 ≤ j)) (by kernel_rfl) (⟨HC.out.cell 0, HC.out.cell 1, HC.out.cell 2, HC.out.cell 3, HC.out.cell 4, HC.out.cell 5, HD.out.cell 0, HD.out.cell 1, HD.out.cell 2, HD.out.cell 3, HD.out.cell 4, HD.out.cell 5⟩) (fun hS => ?_)
      refine Turns.take hS 0 _ rfl (by kernel_rfl) (by kernel_rfl) (by kernel_rfl) (by kernel_rfl) (fun _ _ _ h => h) (by rfl) (fun w' hS' => by (try dsimp only at hS'); go_split_ands; go_simp; (try with_reducible rfl)) ?_
      simp only [Act.put, List.getElem_toArray, List.getElem_cons_succ, List.getElem_cons_zero, List.setIfInBounds_toArray, List.set_cons_zero, List.set_cons_succ]
      refine Turns.take hS 2 _ rfl (by kernel_rfl) (by kernel_rfl) (by kernel_rfl) (by kernel_rfl) (fun _ _ _ h => h) (by rfl) (fun w' hS' => by (try dsimp only at hS'); go_split_ands; go_simp; (try with_reducible rfl)) ?_
      simp only [Act.put, List.getElem_toArray, List.getElem_cons_succ, List.getElem_cons_zero, List.setIfInBounds_toArray, List.set_cons_zero, List.set_cons_succ]
      refine Turns.next 1 rfl (by kernel_rfl) (by rfl) (fun K hK => ?_)
      go_simp
      go_at_call 15
      refine (plain_any 0 0 0 0 0 0 _).mono ?_
      rintro e v1 ⟨rfl, hbt⟩
      replace HX := Lib.hid (HX.out.next hbt)
      replace HC := Lib.hid (HC.out.below hbt HC.out.lt)
      replace HD := Lib.hid (HD.out.below hbt HD.out.lt)
      clear hbt
      refine hK.out _ _ (show (fun (w' : World) => w'.cell? ⟨bc, 0, none⟩ = some (.int .i64 0) ∧ w'.cell? ⟨bc, 1, none⟩ = some (.int .i64 0) ∧ w'.cell? ⟨bc, 2, none⟩ = some (.int .i64 0) ∧ w'.cell? ⟨bc, 3, none⟩ = some (.int .i64 0) ∧ w'.cell? ⟨bc, 4, none⟩ = some (.int .i64 0) ∧ w'.cell? ⟨bc, 5, none⟩ = some (.int .i64 0) ∧ w'.cell? ⟨bd, 0, none⟩ = some (.int .i64 0) ∧ w'.cell? ⟨bd, 1, none⟩ = some (.int .i64 0) ∧ w'.cell? ⟨bd, 2, none⟩ = some (.int .i64 0) ∧ w'.cell? ⟨bd, 3, none⟩ = some (.int .i64 0) ∧ w'.cell? ⟨bd, 4, none⟩ = some (.int .i64 0) ∧ w'.cell? ⟨bd, 5, none⟩ = some (.int .i64 0)) _ from ⟨HC.out.cell 0, HC.out.cell 1, HC.out.cell 2, HC.out.cell 3, HC.out.cell 4, HC.out.cell 5, HD.out.cell 0, HD.out.cell 1, HD.out.cell 2, HD.out.cell 3, HD.out.cell 4, HD.out.cell 5⟩) ?_
      clear hK K hS
      have hS := (show (fun (w' : World) => w'.cell? ⟨bc, 0, none⟩ = some (.int .i64 0) ∧ w'.cell? ⟨bc, 1, none⟩ = some (.int .i64 0) ∧ w'.cell? ⟨bc, 2, none⟩ = some (.int .i64 0) ∧ w'.cell? ⟨bc, 3, none⟩ = some (.int .i64 0) ∧ w'.cell? ⟨bc, 4, none⟩ = some (.int .i64 0) ∧ w'.cell? ⟨bc, 5, none⟩ = some (.int .i64 0) ∧ w'.cell? ⟨bd, 0, none⟩ = some (.int .i64 0) ∧ w'.cell? ⟨bd, 1, none⟩ = some (.int .i64 0) ∧ w'.cell? ⟨bd, 2, none⟩ = some (.int .i64 0) ∧ w'.cell? ⟨bd, 3, none⟩ = some (.int .i64 0) ∧ w'.cell? ⟨bd, 4, none⟩ = some (.int .i64 0) ∧ w'.cell? ⟨bd, 5, none⟩ = some (.int .i64 0)) _ from ⟨HC.out.cell 0, HC.out.cell 1, HC.out.cell 2, HC.out.cell 3, HC.out.cell 4, HC.out.cell 5, HD.out.cell 0, HD.out.cell 1, HD.out.cell 2, HD.out.cell 3, HD.out.cell 4, HD.out.cell 5⟩)
      refine Turns.take hS 3 _ rfl (by kernel_rfl) (by kernel_rfl) (by kernel_rfl) (by kernel_rfl) (fun _ _ _ h => h) (by rfl) (fun w' hS' => by (try dsimp only at hS'); go_split_ands; go_simp; (try with_reducible rfl)) ?_
      simp only [Act.put, List.getElem_toArray, List.getElem_cons_succ, List.getElem_cons_zero, List.setIfInBounds_toArray, List.set_cons_zero, List.set_cons_succ]
      refine Turns.take hS 4 _ rfl (by kernel_rfl) (by kernel_rfl) (by kernel_rfl) (by kernel_rfl) (fun _ _ _ h => h) (by rfl) (fun w' hS' => by (try dsimp only at hS'); go_split_ands; go_simp; (try with_reducible rfl)) ?_
      simp only [Act.put, List.getElem_toArray, List.getElem_cons_succ, List.getElem_cons_zero, List.setIfInBounds_toArray, List.set_cons_zero, List.set_cons_succ]
      refine Turns.take hS 5 _ rfl (by kernel_rfl) (by kernel_rfl) (by kernel_rfl) (by kernel_rfl) (fun _ _ _ h => h) (by rfl) (fun w' hS' => by (try dsimp only at hS'); go_split_ands; go_simp; (try with_reducible rfl)) ?_
      simp only [Act.put, List.getElem_toArray, List.getElem_cons_succ, List.getElem_cons_zero, List.setIfInBounds_toArray, List.set_cons_zero, List.set_cons_succ]
      refine Turns.take hS 6 _ rfl (by kernel_rfl) (by kernel_rfl) (by kernel_rfl) (by kernel_rfl) (fun _ _ _ h => h) (by rfl) (fun w' hS' => by (try dsimp only at hS'); go_split_ands; go_simp; (try with_reducible rfl)) ?_
      simp only [Act.put, List.getElem_toArray, List.getElem_cons_succ, List.getElem_cons_zero, List.setIfInBounds_toArray, List.set_cons_zero, List.set_cons_succ]
      refine Turns.take hS 7 _ rfl (by kernel_rfl) (by kernel_rfl) (by kernel_rfl) (by kernel_rfl) (fun _ _ _ h => h) (by rfl) (fun w' hS' => by (try dsimp only at hS'); go_split_ands; go_simp; (try with_reducible rfl)) ?_
      simp only [Act.put, List.getElem_toArray, List.getElem_cons_succ, List.getElem_cons_zero, List.setIfInBounds_toArray, List.set_cons_zero, List.set_cons_succ]
      refine Turns.take hS 8 _ rfl (by kernel_rfl) (by kernel_rfl) (by kernel_rfl) (by kernel_rfl) (fun _ _ _ h => h) (by rfl) (fun w' hS' => by (try dsimp only at hS'); go_split_ands; go_simp; (try with_reducible rfl)) ?_
      simp only [Act.put, List.getElem_toArray, List.getElem_cons_succ, List.getElem_cons_zero, List.setIfInBounds_toArray, List.set_cons_zero, List.set_cons_succ]
      refine Turns.take hS 9 _ rfl (by kernel_rfl) (by kernel_rfl) (by kernel_rfl) (by kernel_rfl) (fun _ _ _ h => h) (by rfl) (fun w' hS' => by (try dsimp only at hS'); go_split_ands; go_simp; (try with_reducible rfl)) ?_
      simp only [Act.put, List.getElem_toArray, List.getElem_cons_succ, List.getElem_cons_zero, List.setIfInBounds_toArray, List.set_cons_zero, List.set_cons_succ]
      refine Turns.take hS 10 _ rfl (by kernel_rfl) (by kernel_rfl) (by kernel_rfl) (by kernel_rfl) (fun _ _ _ h => h) (by rfl) (fun w' hS' => by (try dsimp only at hS'); go_split_ands; go_simp; (try with_reducible rfl)) ?_
      simp only [Act.put, List.getElem_toArray, List.getElem_cons_succ, List.getElem_cons_zero, List.setIfInBounds_toArray, List.set_cons_zero, List.set_cons_succ]
      refine Turns.take hS 11 _ rfl (by kernel_rfl) (by kernel_rfl) (by kernel_rfl) (by kernel_rfl) (fun _ _ _ h => h) (by rfl) (fun w' hS' => by (try dsimp only at hS'); go_split_ands; go_simp; (try with_reducible rfl)) ?_
      simp only [Act.put, List.getElem_toArray, List.getElem_cons_succ, List.getElem_cons_zero, List.setIfInBounds_toArray, List.set_cons_zero, List.set_cons_succ]
      refine Turns.take hS 12 _ rfl (by kernel_rfl) (by kernel_rfl) (by kernel_rfl) (by kernel_rfl) (fun _ _ _ h => h) (by rfl) (fun w' hS' => by (try dsimp only at hS'); go_split_ands; go_simp; (try with_reducible rfl)) ?_
      simp only [Act.put, List.getElem_toArray, List.getElem_cons_succ, List.getElem_cons_zero, List.setIfInBounds_toArray, List.set_cons_zero, List.set_cons_succ]
      refine Turns.skip hS 13 rfl (by kernel_rfl) (by kernel_rfl) (by kernel_rfl) (by kernel_rfl) (fun _ _ _ h => h) (by rfl) ?_
      simp only [Act.put, List.getElem_toArray, List.getElem_cons_succ, List.getElem_cons_zero, List.setIfInBounds_toArray, List.set_cons_zero, List.set_cons_succ]
      refine Turns.skip hS 14 rfl (by kernel_rfl) (by kernel_rfl) (by kernel_rfl) (by kernel_rfl) (fun _ _ _ h => h) (by rfl) ?_
      simp only [Act.put, List.getElem_toArray, List.getElem_cons_succ, List.getElem_cons_zero, List.setIfInBounds_toArray, List.set_cons_zero, List.set_cons_succ]
      refine Turns.skip hS 15 rfl (by kernel_rfl) (by kernel_rfl) (by kernel_rfl) (by kernel_rfl) (fun _ _ _ h => h) (by rfl) ?_
      simp only [Act.put, List.getElem_toArray, List.getElem_cons_succ, List.getElem_cons_zero, List.setIfInBounds_toArray, List.set_cons_zero, List.set_cons_succ]
      refine Turns.skip hS 16 rfl (by kernel_rfl) (by kernel_rfl) (by kernel_rfl) (by kernel_rfl) (fun _ _ _ h => h) (by rfl) ?_
      simp only [Act.put, List.getElem_toArray, List.getElem_cons_succ, List.getElem_cons_zero, List.setIfInBounds_toArray, List.set_cons_zero, List.set_cons_succ]
      refine Turns.take hS 17 _ rfl (by kernel_rfl) (by kernel_rfl) (by kernel_rfl) (by kernel_rfl) (fun _ _ _ h => h) (by rfl) (fun w' hS' => by (try dsimp only at hS'); go_split_ands; go_simp; (try with_reducible rfl)) ?_
      simp only [Act.put, List.getElem_toArray, List.getElem_cons_succ, List.getElem_cons_zero, List.setIfInBounds_toArray, List.set_cons_zero, List.set_cons_succ]
      refine Turns.take hS 18 _ rfl (by kernel_rfl) (by kernel_rfl) (by kernel_rfl) (by kernel_rfl) (fun _ _ _ h => h) (by rfl) (fun w' hS' => by (try dsimp only at hS'); go_split_ands; go_simp; (try with_reducible rfl)) ?_
      simp only [Act.put, List.getElem_toArray, List.getElem_cons_succ, List.getElem_cons_zero, List.setIfInBounds_toArray, List.set_cons_zero, List.set_cons_succ]
      refine Turns.take hS 19 _ rfl (by kernel_rfl) (by kernel_rfl) (by kernel_rfl) (by kernel_rfl) (fun _ _ _ h => h) (by rfl) (fun w' hS' => by (try dsimp only at hS'); go_split_ands; go_simp; (try with_reducible rfl)) ?_
      simp only [Act.put, List.getElem_toArray, List.getElem_cons_succ, List.getElem_cons_zero, List.setIfInBounds_toArray, List.set_cons_zero, List.set_cons_succ]
      refine Turns.rest (late_done (by kernel_rfl)) ?_
      refine any_tail 20 (by rfl) (by kernel_rfl) ?_
      simp only [List.drop_succ_cons, List.drop_zero]
      clear hS
      go_wp2
      go_ret
      exact ⟨rfl, HX.out.below⟩

set_option maxRecDepth 100000 in
theorem lifted (os : Os) (started : os.Started) (H : Type) (enc : TypeId × Value → H) :
    ReturnsInHanded {} Tryd.checked os 6 .any (fun w args => (Rows.utcTextsSpec.pre enc Tryd.prog Tryd.f6 [] false w args ∧ laidMetH Tryd.prog laidTab w) ∧ sizedMet enc Tryd.prog Tryd.f6 (OpenSpec.ofChange Rows.utcTextsSpec) false w args) (Rows.utcTextsSpec.post enc Tryd.prog Tryd.f6 false true false false) := by
  refine returnsInHanded_of_change_and (C := Tryd.checked) (X := fun w _ => laidMetH Tryd.prog laidTab w) (fun _ _ _ hh h => h.of_heap hh) own started (by kernel_rfl) Tryd.func6
    (ChangeSpec.witness_shaped (enc := enc) (C := Tryd.checked) (os := os) (X := fun w _ => laidMetH Tryd.prog laidTab w) false (World.doorLaid Tryd.prog 14 os) #[.agg #[.int .i64 0, .int .i64 0, .int .i64 0, .int .i64 0, .int .i64 0, .int .i64 0], .string ⟨#[]⟩] 8 rfl (World.shaped_of_RefB (by kernel_rfl) (by kernel_rfl)) (by kernel_rfl) (by kernel_rfl) (by kernel_rfl) (door_met os _)) ?_
  intro W base args ds gs before hval0 hW _ _ hL _
  have hval : ∀ (j : Nat) t v, Tryd.f6.params[j]? = some t → args[j]? = some v → Value.okWide Tryd.prog W .any base t v := hval0
  have hW' := hW
  obtain ⟨p, q, hA0, hV, rfl, hfz, hnd⟩ := hW
  have hA : DataW.TrodAll enc Tryd.prog W 0 (fun _ => true) true Tryd.f6.params.toList args.toList ds p := hA0
  have hAk := hA
  rw [Tryd.params6] at hA hval
  obtain ⟨v0, vs0, d0, ds0, p0, q0, hargs, rfl, hp, h0, r0⟩ := trodAll_cons hA
  obtain ⟨v1, vs1, d1, ds1, p1, q1, rfl, rfl, rfl, h1, r1⟩ := trodAll_cons r0
  obtain ⟨rfl, rfl, rfl⟩ := trodAll_nil r1
  obtain rfl : args = #[v0, v1] := by cases args; simp_all
  obtain ⟨rfl, rfl⟩ := trodVars_none hV
  clear hA0 hval0 hargs
  simp only [List.append_nil] at hW'
  have hend : ∀ W' : World, Below W.heap.size W W' → Rows.utcTextsSpec.post enc Tryd.prog Tryd.f6 false true false false W #[v0, v1] (.bool true) W' := fun W' hb =>
    law_post (tb := 4) hW' hAk rfl (by kernel_rfl) (by kernel_rfl) (by kernel_rfl) Tryd.underlying4 rfl rfl rfl hb
  clear hW' hAk hp
  obtain ⟨vs0', rfl, hfit0⟩ := flat_arg (ks := [.int .i64, .int .i64, .int .i64, .int .i64, .int .i64, .int .i64]) 9 Tryd.underlying28 (by kernel_rfl) (hval 0 28 v0 rfl rfl) h0
  obtain ⟨s0_0, s0_1, s0_2, s0_3, s0_4, s0_5, rfl, w0_0, w0_1, w0_2, w0_3, w0_4, w0_5⟩ := cells0 hfit0
  obtain ⟨a1, rfl, rfl, rfl, w1⟩ := open_string Tryd.underlying9 (hval 1 9 v1 rfl rfl) h1
  refine (walk s0_0 s0_1 s0_2 s0_3 s0_4 s0_5 a1 W w0_0 w0_1 w0_2 w0_3 w0_4 w0_5 w1 (tab_of_laid hL)).mono fun e W' ⟨he, hg⟩ => ?_
  subst he
  exact ⟨_, rfl, hend W' hg⟩

theorem over : Rows.utcTextsRow.holds Tryd.pinned (OpenSpec.ofChange Rows.utcTextsSpec) :=
  OpenClaim.holds_of_wide 6 Tryd.f6 rfl rfl rfl rfl rfl rfl rfl ⟨rfl, rfl, rfl, rfl, rfl⟩ rfl rfl rfl rfl rfl (by kernel_rfl) Tryd.func6 (by kernel_rfl)
    (of_decide_eq_true (by kernel_rfl)) (by unfold Func.isWrapper; first | (rw [if_pos (by decide +kernel)]; kernel_rfl) | (rw [if_neg (by decide +kernel)]; exact ⟨rfl, rfl⟩))
    (fun os started H enc _ => lifted os started H enc)

/-- THE STATEMENT: the tied card -/
theorem proved : Rows.UtcTextsCardSaid :=
  Claim7.holds_tied_plain_at .later [] [.data, .data, .data] true (true, "4adff61b54aac8345feb7c502e14ef75a75b01c7aacf952f94604b724cf580c8") false
    over (fun _ h => by cases h) (by kernel_rfl) (fun _ h => by cases h) utcTexts_row_tie rfl ⟨rfl, rfl⟩ (by kernel_rfl) rfl
    (fun f fn hf hfn => by
      obtain rfl : f = 6 := Option.some.inj ((show Tryd.prog.funcNamed "angelus/angeluslaw22.UtcTexts" = some 6 by kernel_rfl).symm.trans hf) |>.symm
      obtain rfl : fn = Tryd.f6 := (Option.some.inj (Tryd.func6.symm.trans hfn)).symm
      exact ⟨by kernel_rfl, fun j t ht => by
        rw [Tryd.params6] at ht
        have hm : t ∈ [28, 9] := by simpa using Array.mem_of_getElem? ht
        have hall : ([28, 9].all fun u => !Tryd.prog.wantsStandIn u) = true := by kernel_rfl
        exact (show Tryd.prog.wantsStandIn t = false by simpa using List.all_eq_true.1 hall t hm)⟩)
    (by kernel_rfl)
#print axioms proved
end Go.Proofs.YtcknllkbeadmlaaDoor.utcTexts
