/-
  What is encoded is decoded to the frame that it was, and what is decoded has just these bytes: for every frame, and every row of bytes, nil too; rows longer than 200 bytes the statement lets through.
  The walk is the prover's own; the frame of the row's step follows the kit's template.
-/
import Derived.Test.YtbdlpkkgfhknkaaRows
import Derived.Test.YtbdlpkkgfhknkaaLawKit
import Derived.Test.YtbdlpkkgfhknkaaStructArg
import Derived.Test.YtbdlpkkgfhknkaaFrmU
import Derived.Deep.RegionHeld3
namespace Go.Proofs.Ytbdlpkkgfhknkaa.frameBack
open Go.ChangeShapes Go.WideShapes Go.ChangeAt Go.RowKit Go.ChangeMaps Go.WideElems
set_option linter.unusedVariables false

theorem split14 {ns : List Int} (h : ns.length = 14) : ∃ s0_0 s0_1 s0_2 s0_3 s0_4 s0_5 s0_6 s0_7 s0_8 s0_9 s0_10 s0_11 s0_12 s0_13 : Int, ns = [s0_0, s0_1, s0_2, s0_3, s0_4, s0_5, s0_6, s0_7, s0_8, s0_9, s0_10, s0_11, s0_12, s0_13] := by
  match ns, h with
  | [y0, y1, y2, y3, y4, y5, y6, y7, y8, y9, y10, y11, y12, y13], _ => exact ⟨_, _, _, _, _, _, _, _, _, _, _, _, _, _, rfl⟩
theorem own : ownKnob Try.prog.godebug = none := by kernel_rfl
set_option maxHeartbeats 8000000 in
set_option maxRecDepth 100000 in
theorem walk (s0_0 s0_1 s0_2 s0_3 s0_4 s0_5 s0_6 s0_7 s0_8 s0_9 s0_10 s0_11 s0_12 s0_13 : Int) (A1 : Option Addr) (n1 c1 : Nat) (z1 : List Int) (w : World) (w0_0 : (Lit.int .i64 s0_0).wf = true) (w0_1 : (Lit.int .i64 s0_1).wf = true) (w0_2 : (Lit.int .i64 s0_2).wf = true) (w0_3 : (Lit.int .i64 s0_3).wf = true) (w0_4 : (Lit.int .u16 s0_4).wf = true) (w0_5 : (Lit.int .u16 s0_5).wf = true) (w0_6 : (Lit.int .i64 s0_6).wf = true) (w0_7 : (Lit.int .i64 s0_7).wf = true) (w0_8 : (Lit.int .i64 s0_8).wf = true) (w0_9 : (Lit.int .i64 s0_9).wf = true) (w0_10 : (Lit.int .i64 s0_10).wf = true) (w0_11 : (Lit.int .i64 s0_11).wf = true) (w0_12 : (Lit.int .i64 s0_12).wf = true) (w0_13 : (Lit.int .i64 s0_13).wf = true) (w1 : IntRow w .u8 A1 n1 c1 z1) :
    Calls Try.prog 5 #[.agg #[.int .i64 s0_0, .int .i64 s0_1, .int .i64 s0_2, .int .i64 s0_3, .int .u16 s0_4, .int .u16 s0_5, .int .i64 s0_6, .int .i64 s0_7, .int .i64 s0_8, .int .i64 s0_9, .int .i64 s0_10, .int .i64 s0_11, .int .i64 s0_12, .int .i64 s0_13], .slice A1 n1 c1] w fun e w' => e = .returned (.bool true) ∧ Below w.heap.size w w' := by
  by_cases h200 : 200 < n1
  · have hbx := below_alloc w (.cells #[.int .i64 s0_0, .int .i64 s0_1, .int .i64 s0_2, .int .i64 s0_3, .int .u16 s0_4, .int .u16 s0_5, .int .i64 s0_6, .int .i64 s0_7, .int .i64 s0_8, .int .i64 s0_9, .int .i64 s0_10, .int .i64 s0_11, .int .i64 s0_12, .int .i64 s0_13] 24)
    go_enter Try.func5, Try.ntmps5
    go_wp2_with (first
      | ((go_at_call 9; (with_reducible refine (alive_yes _).mono ?_); rintro e w1 ⟨rfl, hb1⟩)))
    go_ret
    exact ⟨rfl, below_on hbx hb1⟩
  have hp : (⟨s0_0, s0_1, s0_2, s0_3, s0_4, s0_5, s0_6, s0_7, s0_8, s0_9, s0_10, s0_11, s0_12, s0_13⟩ : Pl).wf := ⟨fits_wf w0_0, fits_wf w0_1, fits_wf w0_2, fits_wf w0_3, f16_wf w0_4, f16_wf w0_5, fits_wf w0_6, fits_wf w0_7, fits_wf w0_8, fits_wf w0_9, fits_wf w0_10, fits_wf w0_11, fits_wf w0_12, fits_wf w0_13⟩
  have hofp := fun W => lawof_any (⟨s0_0, s0_1, s0_2, s0_3, s0_4, s0_5, s0_6, s0_7, s0_8, s0_9, s0_10, s0_11, s0_12, s0_13⟩ : Pl) W
  simp only [Pl.val] at hofp
  have HBOX := Lib.hid (Holds.new w 24 #[.int .i64 s0_0, .int .i64 s0_1, .int .i64 s0_2, .int .i64 s0_3, .int .u16 s0_4, .int .u16 s0_5, .int .i64 s0_6, .int .i64 s0_7, .int .i64 s0_8, .int .i64 s0_9, .int .i64 s0_10, .int .i64 s0_11, .int .i64 s0_12, .int .i64 s0_13])
  have HB0 := Lib.hid (below_alloc w (.cells #[.int .i64 s0_0, .int .i64 s0_1, .int .i64 s0_2, .int .i64 s0_3, .int .u16 s0_4, .int .u16 s0_5, .int .i64 s0_6, .int .i64 s0_7, .int .i64 s0_8, .int .i64 s0_9, .int .i64 s0_10, .int .i64 s0_11, .int .i64 s0_12, .int .i64 s0_13] 24))
  have R1 := Lib.hid w1
  have hnil := nil_eq
  have hlen := w1.len_eq
  have hdec := fun W (hb : Below w.heap.size w W) => decode_any A1 n1 c1 z1 W (w1.below hb)
  have HSTR : ∃ S, strOfNums z1 = S := ⟨_, rfl⟩
  obtain ⟨STR, hstr⟩ := HSTR
  have HS := Lib.hid hstr
  clear hstr
  rcases dec_cases z1 with ⟨f2, hf2⟩ | h3
  · have hbk := dec_back w1.wf hf2
    obtain ⟨_, hg2, hs2⟩ := hbk
    simp only [hf2] at hdec
    have he2 := fun W => encode_sealed f2 W hg2
    rw [hs2] at he2
    simp only [hlen] at he2
    have hd2 : ∀ W, Below w.heap.size w W → Calls Try.prog 15 #[.slice A1 n1 c1] W fun e w' => e = .returned (.tuple #[f2.val, .int .i64 0]) ∧ Below W.heap.size W w' := hdec
    obtain ⟨v2, hv2⟩ : ∃ v, f2.val = v := ⟨_, rfl⟩
    simp only [hv2] at he2 hd2
    clear hdec hv2 hs2 hg2 hf2 hlen w1
    by_cases hfg : ∃ f, (⟨s0_0, s0_1, s0_2, s0_3, s0_4, s0_5, s0_6, s0_7, s0_8, s0_9, s0_10, s0_11, s0_12, s0_13⟩ : Pl).fr = some f ∧ f.good = true
    · obtain ⟨f, hfr, hg⟩ := hfg
      have hge := fun W => encode_sealed f W hg
      have hsw := f.sealed_wf
      have hds := dec_sealed f hg
      obtain ⟨z, hz⟩ : ∃ z, f.sealed = z := ⟨_, rfl⟩
      rw [hz] at hsw hds
      simp only [hz] at hge
      obtain ⟨m, hm⟩ : ∃ m, z.length = m := ⟨_, rfl⟩
      simp only [hm] at hge
      have hd1 := fun A c W (hr : IntRow W .u8 A m c z) => decode_any A m c z W hr
      simp only [hds] at hd1
      have hd1' : ∀ A c W, IntRow W .u8 A m c z → Calls Try.prog 15 #[.slice A m c] W fun e w' => e = .returned (.tuple #[f.val, .int .i64 0]) ∧ Below W.heap.size W w' := hd1
      have hpl := fun W => plain_any f W
      have hon := fun W => only_any (⟨s0_0, s0_1, s0_2, s0_3, s0_4, s0_5, s0_6, s0_7, s0_8, s0_9, s0_10, s0_11, s0_12, s0_13⟩ : Pl) W
      rw [Pl.only_kind hfr] at hon
      obtain ⟨q, hq⟩ : ∃ q, f.plain = q := ⟨_, rfl⟩
      obtain ⟨v, hv⟩ : ∃ v, f.val = v := ⟨_, rfl⟩
      rw [hfr] at hofp
      have hof : ∀ W, Calls Try.prog 10 #[.agg #[.int .i64 s0_0, .int .i64 s0_1, .int .i64 s0_2, .int .i64 s0_3, .int .u16 s0_4, .int .u16 s0_5, .int .i64 s0_6, .int .i64 s0_7, .int .i64 s0_8, .int .i64 s0_9, .int .i64 s0_10, .int .i64 s0_11, .int .i64 s0_12, .int .i64 s0_13]] W fun e w' => e = .returned v ∧ Below W.heap.size W w' := fun W => by rw [← hv]; exact hofp W
      simp only [hq, hv] at hpl hon hge hd1'
      have hne := fun W => neq_same q W
      obtain ⟨b0, b1, b2, b3, b4, b5, b6, b7, b8, b9, b10, b11, b12, b13⟩ := q
      simp only [Pl.val] at hpl hon hne
      have HW := Lib.hid hsw
      clear hofp hd1 hds hsw hm hz hq hv hp hg hfr
      go_enter Try.func5, Try.ntmps5
      go_wp2_with (first
        | (go_at_call 9; (with_reducible refine (alive_yes _).mono ?_); rintro e w1 ⟨rfl, hb1⟩; have HB1 := Lib.hid (below_on HB0.out hb1); have HX := Lib.hid (HBOX.out.below hb1 HBOX.out.lt); have HC := Lib.hid (plain_cells HX.out); obtain ⟨k0, k1, k2, k3, k4, k5, k6, k7, k8, k9, k10, k11, k12, k13⟩ := HC.out)
        | (go_at_call 10; (with_reducible refine (hof _).mono ?_); rintro e w2 ⟨rfl, hb2⟩; have HB2 := Lib.hid (below_on HB1.out hb2); have HX2 := Lib.hid (HX.out.below hb2 HX.out.lt); clear k0 k1 k2 k3 k4 k5 k6 k7 k8 k9 k10 k11 k12 k13)
        | (go_at_call 11; (with_reducible refine (hge _).mono ?_); rintro e w3 ⟨A3, c3, rfl, ho3, hb3⟩; have HB3 := Lib.hid (below_on HB2.out hb3); have HX3 := Lib.hid (HX2.out.below hb3 HX2.out.lt); have HR3 := Lib.hid (IntRow.of_own ho3 HW.out); have HO3 := Lib.hid ho3; clear ho3)
        | (go_at_call 15; (with_reducible refine (hd1' _ _ _ HR3.out).mono ?_); rintro e w4 ⟨rfl, hb4⟩; have HB4 := Lib.hid (below_on HB3.out hb4); have HX4 := Lib.hid (HX3.out.below hb4 HX3.out.lt); obtain ⟨k0, k1, k2, k3, k4, k5, k6, k7, k8, k9, k10, k11, k12, k13⟩ := plain_cells HX4.out))
      clear k0 k1 k2 k3 k4 k5 k6 k7 k8 k9 k10 k11 k12 k13
      go_region_held3 (fun w' => w'.cell? ⟨w.heap.size, 0, none⟩ = some (.int .i64 s0_0) ∧ w'.cell? ⟨w.heap.size, 1, none⟩ = some (.int .i64 s0_1) ∧ w'.cell? ⟨w.heap.size, 2, none⟩ = some (.int .i64 s0_2) ∧ w'.cell? ⟨w.heap.size, 3, none⟩ = some (.int .i64 s0_3) ∧ w'.cell? ⟨w.heap.size, 4, none⟩ = some (.int .u16 s0_4) ∧ w'.cell? ⟨w.heap.size, 5, none⟩ = some (.int .u16 s0_5) ∧ w'.cell? ⟨w.heap.size, 6, none⟩ = some (.int .i64 s0_6) ∧ w'.cell? ⟨w.heap.size, 7, none⟩ = some (.int .i64 s0_7) ∧ w'.cell? ⟨w.heap.size, 8, none⟩ = some (.int .i64 s0_8) ∧ w'.cell? ⟨w.heap.size, 9, none⟩ = some (.int .i64 s0_9) ∧ w'.cell? ⟨w.heap.size, 10, none⟩ = some (.int .i64 s0_10) ∧ w'.cell? ⟨w.heap.size, 11, none⟩ = some (.int .i64 s0_11) ∧ w'.cell? ⟨w.heap.size, 12, none⟩ = some (.int .i64 s0_12) ∧ w'.cell? ⟨w.heap.size, 13, none⟩ = some (.int .i64 s0_13)) (first | exact plain_cells HX6.out | exact plain_cells HX5.out | exact plain_cells (HX4.out.drewN 1)) (first
        | (go_at_call 17; (with_reducible refine (hpl _).mono ?_); rintro e w5 ⟨rfl, hb5⟩; have HB5 := Lib.hid (below_on HB4.out.drew hb5); have HX5 := Lib.hid ((HX4.out.drewN 1).below hb5 HX4.out.lt))
        | (go_at_call 18; (with_reducible refine (hon _).mono ?_); rintro e w6 ⟨rfl, hb6⟩; have HB6 := Lib.hid (below_on HB5.out hb6); have HX6 := Lib.hid (HX5.out.below hb6 HX5.out.lt)))
      go_wp2_with (first
        | (go_at_call 15; (with_reducible refine (hd2 _ HB6.out).mono ?_); rintro e w7 ⟨rfl, hb7⟩; have HB7 := Lib.hid (below_on HB6.out hb7))
        | (go_at_call 11; (with_reducible refine (he2 _).mono ?_); rintro e w8 ⟨A8, c8, rfl, ho8, hb8⟩; have HB8 := Lib.hid (below_on HB7.out hb8); have cb := run_convert_row (P := Try.prog) w8 29 5 9 Try.underlying29 Try.underlying5 Try.underlying9 A8 n1 c8 z1 (IntRow.of_own ho8 R1.out.wf); have cx := run_convert_row (P := Try.prog) w8 29 5 9 Try.underlying29 Try.underlying5 Try.underlying9 A1 n1 c1 z1 (R1.out.below HB8.out); rw [HS.out] at cb cx; clear ho8))
      go_ret
      exact ⟨rfl, HB8.out⟩
    · have hge := enc_no (⟨s0_0, s0_1, s0_2, s0_3, s0_4, s0_5, s0_6, s0_7, s0_8, s0_9, s0_10, s0_11, s0_12, s0_13⟩ : Pl) hp hfg
      obtain ⟨v, hv⟩ : ∃ v, frVal ((⟨s0_0, s0_1, s0_2, s0_3, s0_4, s0_5, s0_6, s0_7, s0_8, s0_9, s0_10, s0_11, s0_12, s0_13⟩ : Pl)).fr = v := ⟨_, rfl⟩
      have hof : ∀ W, Calls Try.prog 10 #[.agg #[.int .i64 s0_0, .int .i64 s0_1, .int .i64 s0_2, .int .i64 s0_3, .int .u16 s0_4, .int .u16 s0_5, .int .i64 s0_6, .int .i64 s0_7, .int .i64 s0_8, .int .i64 s0_9, .int .i64 s0_10, .int .i64 s0_11, .int .i64 s0_12, .int .i64 s0_13]] W fun e w' => e = .returned v ∧ Below W.heap.size W w' := fun W => by rw [← hv]; exact hofp W
      rw [hv] at hge
      clear hofp hv hp hfg
      go_enter Try.func5, Try.ntmps5
      go_wp2_with (first
        | (go_at_call 9; (with_reducible refine (alive_yes _).mono ?_); rintro e w1 ⟨rfl, hb1⟩; have HB1 := Lib.hid (below_on HB0.out hb1); have HX := Lib.hid (HBOX.out.below hb1 HBOX.out.lt); have HC := Lib.hid (plain_cells HX.out); obtain ⟨k0, k1, k2, k3, k4, k5, k6, k7, k8, k9, k10, k11, k12, k13⟩ := HC.out)
        | (go_at_call 10; (with_reducible refine (hof _).mono ?_); rintro e w2 ⟨rfl, hb2⟩; have HB2 := Lib.hid (below_on HB1.out hb2); have HX2 := Lib.hid (HX.out.below hb2 HX.out.lt); clear k0 k1 k2 k3 k4 k5 k6 k7 k8 k9 k10 k11 k12 k13)
        | (go_at_call 11; (with_reducible refine (hge _).mono ?_); rintro e w3 ⟨rfl, hb3⟩; have HB3 := Lib.hid (below_on HB2.out hb3); have HX3 := Lib.hid (HX2.out.below hb3 HX2.out.lt))
        | (go_at_call 15; (with_reducible refine (hd2 _ HB3.out).mono ?_); rintro e w7 ⟨rfl, hb7⟩; have HB7 := Lib.hid (below_on HB3.out hb7))
        | (go_at_call 11; (with_reducible refine (he2 _).mono ?_); rintro e w8 ⟨A8, c8, rfl, ho8, hb8⟩; have HB8 := Lib.hid (below_on HB7.out hb8); have cb := run_convert_row (P := Try.prog) w8 29 5 9 Try.underlying29 Try.underlying5 Try.underlying9 A8 n1 c8 z1 (IntRow.of_own ho8 R1.out.wf); have cx := run_convert_row (P := Try.prog) w8 29 5 9 Try.underlying29 Try.underlying5 Try.underlying9 A1 n1 c1 z1 (R1.out.below HB8.out); rw [HS.out] at cb cx; clear ho8))
      go_ret
      exact ⟨rfl, HB8.out⟩
  · obtain ⟨E, hE, e1, e2⟩ := dec_none h3
    simp only [hE] at hdec
    have hd2 : ∀ W, Below w.heap.size w W → Calls Try.prog 15 #[.slice A1 n1 c1] W fun e w' => e = .returned (.tuple #[.nilIface, .int .i64 E]) ∧ Below W.heap.size W w' := hdec
    have e3 : (E == 0) = false := by simp; omega
    have e4 : (E != 0) = true := by simp; omega
    clear hdec h3 hE hlen w1
    by_cases hfg : ∃ f, (⟨s0_0, s0_1, s0_2, s0_3, s0_4, s0_5, s0_6, s0_7, s0_8, s0_9, s0_10, s0_11, s0_12, s0_13⟩ : Pl).fr = some f ∧ f.good = true
    · obtain ⟨f, hfr, hg⟩ := hfg
      have hge := fun W => encode_sealed f W hg
      have hsw := f.sealed_wf
      have hds := dec_sealed f hg
      obtain ⟨z, hz⟩ : ∃ z, f.sealed = z := ⟨_, rfl⟩
      rw [hz] at hsw hds
      simp only [hz] at hge
      obtain ⟨m, hm⟩ : ∃ m, z.length = m := ⟨_, rfl⟩
      simp only [hm] at hge
      have hd1 := fun A c W (hr : IntRow W .u8 A m c z) => decode_any A m c z W hr
      simp only [hds] at hd1
      have hd1' : ∀ A c W, IntRow W .u8 A m c z → Calls Try.prog 15 #[.slice A m c] W fun e w' => e = .returned (.tuple #[f.val, .int .i64 0]) ∧ Below W.heap.size W w' := hd1
      have hpl := fun W => plain_any f W
      have hon := fun W => only_any (⟨s0_0, s0_1, s0_2, s0_3, s0_4, s0_5, s0_6, s0_7, s0_8, s0_9, s0_10, s0_11, s0_12, s0_13⟩ : Pl) W
      rw [Pl.only_kind hfr] at hon
      obtain ⟨q, hq⟩ : ∃ q, f.plain = q := ⟨_, rfl⟩
      obtain ⟨v, hv⟩ : ∃ v, f.val = v := ⟨_, rfl⟩
      rw [hfr] at hofp
      have hof : ∀ W, Calls Try.prog 10 #[.agg #[.int .i64 s0_0, .int .i64 s0_1, .int .i64 s0_2, .int .i64 s0_3, .int .u16 s0_4, .int .u16 s0_5, .int .i64 s0_6, .int .i64 s0_7, .int .i64 s0_8, .int .i64 s0_9, .int .i64 s0_10, .int .i64 s0_11, .int .i64 s0_12, .int .i64 s0_13]] W fun e w' => e = .returned v ∧ Below W.heap.size W w' := fun W => by rw [← hv]; exact hofp W
      simp only [hq, hv] at hpl hon hge hd1'
      have hne := fun W => neq_same q W
      obtain ⟨b0, b1, b2, b3, b4, b5, b6, b7, b8, b9, b10, b11, b12, b13⟩ := q
      simp only [Pl.val] at hpl hon hne
      have HW := Lib.hid hsw
      clear hofp hd1 hds hsw hm hz hq hv hp hg hfr
      go_enter Try.func5, Try.ntmps5
      go_wp2_with (first
        | (go_at_call 9; (with_reducible refine (alive_yes _).mono ?_); rintro e w1 ⟨rfl, hb1⟩; have HB1 := Lib.hid (below_on HB0.out hb1); have HX := Lib.hid (HBOX.out.below hb1 HBOX.out.lt); have HC := Lib.hid (plain_cells HX.out); obtain ⟨k0, k1, k2, k3, k4, k5, k6, k7, k8, k9, k10, k11, k12, k13⟩ := HC.out)
        | (go_at_call 10; (with_reducible refine (hof _).mono ?_); rintro e w2 ⟨rfl, hb2⟩; have HB2 := Lib.hid (below_on HB1.out hb2); have HX2 := Lib.hid (HX.out.below hb2 HX.out.lt); clear k0 k1 k2 k3 k4 k5 k6 k7 k8 k9 k10 k11 k12 k13)
        | (go_at_call 11; (with_reducible refine (hge _).mono ?_); rintro e w3 ⟨A3, c3, rfl, ho3, hb3⟩; have HB3 := Lib.hid (below_on HB2.out hb3); have HX3 := Lib.hid (HX2.out.below hb3 HX2.out.lt); have HR3 := Lib.hid (IntRow.of_own ho3 HW.out); have HO3 := Lib.hid ho3; clear ho3)
        | (go_at_call 15; (with_reducible refine (hd1' _ _ _ HR3.out).mono ?_); rintro e w4 ⟨rfl, hb4⟩; have HB4 := Lib.hid (below_on HB3.out hb4); have HX4 := Lib.hid (HX3.out.below hb4 HX3.out.lt); obtain ⟨k0, k1, k2, k3, k4, k5, k6, k7, k8, k9, k10, k11, k12, k13⟩ := plain_cells HX4.out))
      clear k0 k1 k2 k3 k4 k5 k6 k7 k8 k9 k10 k11 k12 k13
      go_region_held3 (fun w' => w'.cell? ⟨w.heap.size, 0, none⟩ = some (.int .i64 s0_0) ∧ w'.cell? ⟨w.heap.size, 1, none⟩ = some (.int .i64 s0_1) ∧ w'.cell? ⟨w.heap.size, 2, none⟩ = some (.int .i64 s0_2) ∧ w'.cell? ⟨w.heap.size, 3, none⟩ = some (.int .i64 s0_3) ∧ w'.cell? ⟨w.heap.size, 4, none⟩ = some (.int .u16 s0_4) ∧ w'.cell? ⟨w.heap.size, 5, none⟩ = some (.int .u16 s0_5) ∧ w'.cell? ⟨w.heap.size, 6, none⟩ = some (.int .i64 s0_6) ∧ w'.cell? ⟨w.heap.size, 7, none⟩ = some (.int .i64 s0_7) ∧ w'.cell? ⟨w.heap.size, 8, none⟩ = some (.int .i64 s0_8) ∧ w'.cell? ⟨w.heap.size, 9, none⟩ = some (.int .i64 s0_9) ∧ w'.cell? ⟨w.heap.size, 10, none⟩ = some (.int .i64 s0_10) ∧ w'.cell? ⟨w.heap.size, 11, none⟩ = some (.int .i64 s0_11) ∧ w'.cell? ⟨w.heap.size, 12, none⟩ = some (.int .i64 s0_12) ∧ w'.cell? ⟨w.heap.size, 13, none⟩ = some (.int .i64 s0_13)) (first | exact plain_cells HX6.out | exact plain_cells HX5.out | exact plain_cells (HX4.out.drewN 1)) (first
        | (go_at_call 17; (with_reducible refine (hpl _).mono ?_); rintro e w5 ⟨rfl, hb5⟩; have HB5 := Lib.hid (below_on HB4.out.drew hb5); have HX5 := Lib.hid ((HX4.out.drewN 1).below hb5 HX4.out.lt))
        | (go_at_call 18; (with_reducible refine (hon _).mono ?_); rintro e w6 ⟨rfl, hb6⟩; have HB6 := Lib.hid (below_on HB5.out hb6); have HX6 := Lib.hid (HX5.out.below hb6 HX5.out.lt)))
      go_wp2_with (first
        | (go_at_call 15; (with_reducible refine (hd2 _ HB6.out).mono ?_); rintro e w7 ⟨rfl, hb7⟩; have HB7 := Lib.hid (below_on HB6.out hb7)))
      go_ret
      exact ⟨rfl, HB7.out⟩
    · have hge := enc_no (⟨s0_0, s0_1, s0_2, s0_3, s0_4, s0_5, s0_6, s0_7, s0_8, s0_9, s0_10, s0_11, s0_12, s0_13⟩ : Pl) hp hfg
      obtain ⟨v, hv⟩ : ∃ v, frVal ((⟨s0_0, s0_1, s0_2, s0_3, s0_4, s0_5, s0_6, s0_7, s0_8, s0_9, s0_10, s0_11, s0_12, s0_13⟩ : Pl)).fr = v := ⟨_, rfl⟩
      have hof : ∀ W, Calls Try.prog 10 #[.agg #[.int .i64 s0_0, .int .i64 s0_1, .int .i64 s0_2, .int .i64 s0_3, .int .u16 s0_4, .int .u16 s0_5, .int .i64 s0_6, .int .i64 s0_7, .int .i64 s0_8, .int .i64 s0_9, .int .i64 s0_10, .int .i64 s0_11, .int .i64 s0_12, .int .i64 s0_13]] W fun e w' => e = .returned v ∧ Below W.heap.size W w' := fun W => by rw [← hv]; exact hofp W
      rw [hv] at hge
      clear hofp hv hp hfg
      go_enter Try.func5, Try.ntmps5
      go_wp2_with (first
        | (go_at_call 9; (with_reducible refine (alive_yes _).mono ?_); rintro e w1 ⟨rfl, hb1⟩; have HB1 := Lib.hid (below_on HB0.out hb1); have HX := Lib.hid (HBOX.out.below hb1 HBOX.out.lt); have HC := Lib.hid (plain_cells HX.out); obtain ⟨k0, k1, k2, k3, k4, k5, k6, k7, k8, k9, k10, k11, k12, k13⟩ := HC.out)
        | (go_at_call 10; (with_reducible refine (hof _).mono ?_); rintro e w2 ⟨rfl, hb2⟩; have HB2 := Lib.hid (below_on HB1.out hb2); have HX2 := Lib.hid (HX.out.below hb2 HX.out.lt); clear k0 k1 k2 k3 k4 k5 k6 k7 k8 k9 k10 k11 k12 k13)
        | (go_at_call 11; (with_reducible refine (hge _).mono ?_); rintro e w3 ⟨rfl, hb3⟩; have HB3 := Lib.hid (below_on HB2.out hb3); have HX3 := Lib.hid (HX2.out.below hb3 HX2.out.lt))
        | (go_at_call 15; (with_reducible refine (hd2 _ HB3.out).mono ?_); rintro e w7 ⟨rfl, hb7⟩; have HB7 := Lib.hid (below_on HB3.out hb7)))
      go_ret
      exact ⟨rfl, HB7.out⟩

set_option maxRecDepth 100000 in
theorem lifted (os : Os) (started : os.Started) (H : Type) (enc : TypeId × Value → H) :
    ReturnsInHanded {} Try.checked os 5 .any (Rows.frameBackSpec.pre6 enc Try.prog Try.f5 Rows.frameBackRow.domain false) (Rows.frameBackSpec.post enc Try.prog Try.f5 false true false false) := by
  refine returnsInHanded_of_change (C := Try.checked) own started (by kernel_rfl) Try.func5
    (ChangeSpec.witness6 (enc := enc) (C := Try.checked) false ⟨#[], #[.agg #[.int .i64 0, .int .i64 0, .int .i64 0, .int .i64 0, .int .u16 0, .int .u16 0, .int .i64 0, .int .i64 0, .int .i64 0, .int .i64 0, .int .i64 0, .int .i64 0, .int .i64 0, .int .i64 0], .slice none 0 0], []⟩ 8 (by kernel_rfl) (by kernel_rfl) (by kernel_rfl) (by kernel_rfl)) ?_
  intro W base args ds gs before hval0 hW hcnd _
  have hval : ∀ (j : Nat) t v, Try.f5.params[j]? = some t → args[j]? = some v → Value.okWide Try.prog W .any base t v := hval0
  have hW' := hW
  obtain ⟨p, q, hA0, hV, rfl, hfz, hnd⟩ := hW
  have hA : DataW.TrodAll enc Try.prog W 0 (fun _ => true) true Try.f5.params.toList args.toList ds p := hA0
  have hAk := hA
  rw [Try.params5] at hA hval
  obtain ⟨v0, vs0, d0, ds0, p0, q0, hargs, rfl, hp, h0, r0⟩ := trodAll_cons hA
  obtain ⟨v1, vs1, d1, ds1, p1, q1, rfl, rfl, rfl, h1, r1⟩ := trodAll_cons r0
  obtain ⟨rfl, rfl, rfl⟩ := trodAll_nil r1
  obtain rfl : args = #[v0, v1] := by cases args; simp_all
  obtain ⟨rfl, rfl⟩ := trodVars_none hV
  clear hA0 hval0 hargs
  simp only [List.append_nil] at hW'
  have hend : ∀ W' : World, Below W.heap.size W W' → Rows.frameBackSpec.post enc Try.prog Try.f5 false true false false W #[v0, v1] (.bool true) W' := fun W' hb =>
    law_post (tb := 4) hW' hAk rfl (by kernel_rfl) (by kernel_rfl) (by kernel_rfl) Try.underlying4 rfl rfl rfl hb
  clear hW' hAk hp
  obtain ⟨ns0, rfl, hl0, hw0⟩ := ints_struct (ks := [.i64, .i64, .i64, .i64, .u16, .u16, .i64, .i64, .i64, .i64, .i64, .i64, .i64, .i64]) Try.underlying24 (by kernel_rfl) (by kernel_rfl) (by kernel_rfl) (hval 0 24 v0 rfl rfl) h0
  obtain ⟨s0_0, s0_1, s0_2, s0_3, s0_4, s0_5, s0_6, s0_7, s0_8, s0_9, s0_10, s0_11, s0_12, s0_13, rfl⟩ := split14 hl0
  clear hl0
  obtain ⟨A1, n1, c1, z1, rfl, w1⟩ := ints_arg Try.underlying29 Try.underlying5 (by kernel_rfl) (hval 1 29 v1 rfl rfl) h1
  refine (walk s0_0 s0_1 s0_2 s0_3 s0_4 s0_5 s0_6 s0_7 s0_8 s0_9 s0_10 s0_11 s0_12 s0_13 A1 n1 c1 z1 W (hw0 0 _ _ rfl rfl) (hw0 1 _ _ rfl rfl) (hw0 2 _ _ rfl rfl) (hw0 3 _ _ rfl rfl) (hw0 4 _ _ rfl rfl) (hw0 5 _ _ rfl rfl) (hw0 6 _ _ rfl rfl) (hw0 7 _ _ rfl rfl) (hw0 8 _ _ rfl rfl) (hw0 9 _ _ rfl rfl) (hw0 10 _ _ rfl rfl) (hw0 11 _ _ rfl rfl) (hw0 12 _ _ rfl rfl) (hw0 13 _ _ rfl rfl) w1).mono fun e W' ⟨he, hg⟩ => ?_
  subst he
  exact ⟨_, rfl, hend W' hg⟩

theorem over : Rows.frameBackRow.holds Try.pinned (OpenSpec.ofChange Rows.frameBackSpec) :=
  OpenClaim.holds_of_wide 5 Try.f5 rfl rfl rfl rfl rfl rfl rfl ⟨rfl, rfl, rfl, rfl, rfl⟩ rfl rfl rfl rfl rfl (by kernel_rfl) Try.func5 (by kernel_rfl)
    (of_decide_eq_true (by kernel_rfl)) (by unfold Func.isWrapper; first | (rw [if_pos (by decide +kernel)]; kernel_rfl) | (rw [if_neg (by decide +kernel)]; exact ⟨rfl, rfl⟩))
    (fun os started H enc _ => lifted os started H enc)

/-- THE STATEMENT -/
theorem proved : Rows.FrameBackSaid :=
  over
#print axioms proved
end Go.Proofs.Ytbdlpkkgfhknkaa.frameBack
