/-
  A frame's bytes of which up to sixteen in a row have their bits turned are not decoded, by the sum or by the form, and their sum is not nothing: for all frames, places and bits.
  The walk is the prover's own; the frame of the row's step follows the kit's template.
-/
import Derived.Test.YtbdlpkkgfhknkaaRows
import Derived.Test.YtbdlpkkgfhknkaaLawKit
import Derived.Test.YtbdlpkkgfhknkaaStructArg
import Derived.Test.YtbdlpkkgfhknkaaFrmU
import Derived.Test.YtbdlpkkgfhknkaaCrcN
namespace Go.Proofs.Ytbdlpkkgfhknkaa.frameTurned
open Go.ChangeShapes Go.WideShapes Go.ChangeAt Go.RowKit Go.ChangeMaps Go.WideElems
set_option linter.unusedVariables false

theorem split14 {ns : List Int} (h : ns.length = 14) : ∃ s0_0 s0_1 s0_2 s0_3 s0_4 s0_5 s0_6 s0_7 s0_8 s0_9 s0_10 s0_11 s0_12 s0_13 : Int, ns = [s0_0, s0_1, s0_2, s0_3, s0_4, s0_5, s0_6, s0_7, s0_8, s0_9, s0_10, s0_11, s0_12, s0_13] := by
  match ns, h with
  | [y0, y1, y2, y3, y4, y5, y6, y7, y8, y9, y10, y11, y12, y13], _ => exact ⟨_, _, _, _, _, _, _, _, _, _, _, _, _, _, rfl⟩
theorem own : ownKnob Try.prog.godebug = none := by kernel_rfl
/-- The row behind k rounds. -/
def SoTurned (b : BitVec 16) (p g n c k : Nat) (zs : List Int) (W wr : World) : Prop :=
  Below W.heap.size W wr ∧ wr.ownsRow W.heap.size 5 1 (.slice (some ⟨g, 0, none⟩) n c) n (zs.map (.int .u8)) ∧ (∀ n ∈ zs, (Lit.int .u8 n).wf = true) ∧ Turned b n p k zs
theorem so_turn {b : BitVec 16} {p g n c k : Nat} {zs : List Int} {W wr : World} {X : Int} (h1 : Below W.heap.size W wr) (h2 : wr.ownsRow W.heap.size 5 1 (.slice (some ⟨g, 0, none⟩) n c) n (zs.map (.int .u8))) (h3 : ∀ n ∈ zs, (Lit.int .u8 n).wf = true)
    (h4 : Turned b n p k zs) (hX : zs[(p + k) / 8]?.getD 0 = X) (hb : b.getLsbD (15 - k) = true) (hk : k < 16) (hp : p + 16 ≤ 8 * n) (hg : W.heap.size ≤ g) :
    SoTurned b p g n c (k + 1) (zs.set ((p + k) / 8) (bits .xor .u8 X ((128 : Int) / 2 ^ ((p + k) % 8)))) W (wr.setCell ⟨g, (p + k) / 8, none⟩ (.int .u8 (bits .xor .u8 X ((128 : Int) / 2 ^ ((p + k) % 8))))) := by
  obtain ⟨t1, t2⟩ := turn_byte ((p + k) % 8)
  have hl : zs.length = n := by have := h2.1; simpa using this
  have fX : F8 X := by rw [← hX]; exact range_u8 h3 _
  refine ⟨h1.setCell (p := ⟨g, (p + k) / 8, none⟩) hg _, own_set h2 _ _, wf_set h3 (WalkArith.wf_u8 (f8_xor fX t1)) _, turned_turn h4 hb hk hp hl _ ?_⟩
  rw [bz_xor fX t1, t2, hX]
theorem as_sum {x : Int} (h : F16 x) : ∃ s : BitVec 16, x = (s.toNat : Int) := by
  obtain ⟨h1, h2⟩ := h
  obtain ⟨X, rfl⟩ := Int.eq_ofNat_of_zero_le h1
  exact ⟨BitVec.ofNat 16 X, by rw [BitVec.toNat_ofNat]; omega⟩
/-- What is not opened is not decoded. -/
theorem dec_shut {zs : List Int} (hl : zs.length ≤ 64) (ho : opens zs = false) : dec zs = (none, 3) ∨ dec zs = (none, 4) := by
  unfold dec
  rw [if_neg (by omega)]
  match zs, ho with
  | [], _ => exact .inl rfl
  | k :: zs, ho =>
    show (if 1 ≤ k ∧ k ≤ 6 then decK k (k :: zs) else (none, 3)) = _ ∨ (if 1 ≤ k ∧ k ≤ 6 then decK k (k :: zs) else (none, 3)) = _
    split
    · unfold decK
      rw [ho]
      split
      · exact .inr rfl
      · exact .inl rfl
    · exact .inl rfl
set_option linter.unusedSimpArgs false in
set_option maxHeartbeats 8000000 in
set_option maxRecDepth 100000 in
theorem not_one (s0_0 s0_1 s0_2 s0_3 s0_4 s0_5 s0_6 s0_7 s0_8 s0_9 s0_10 s0_11 s0_12 s0_13 : Int) (a1 : Int) (a2 : Int) (w : World) (w0_0 : (Lit.int .i64 s0_0).wf = true) (w0_1 : (Lit.int .i64 s0_1).wf = true) (w0_2 : (Lit.int .i64 s0_2).wf = true) (w0_3 : (Lit.int .i64 s0_3).wf = true) (w0_4 : (Lit.int .u16 s0_4).wf = true) (w0_5 : (Lit.int .u16 s0_5).wf = true) (w0_6 : (Lit.int .i64 s0_6).wf = true) (w0_7 : (Lit.int .i64 s0_7).wf = true) (w0_8 : (Lit.int .i64 s0_8).wf = true) (w0_9 : (Lit.int .i64 s0_9).wf = true) (w0_10 : (Lit.int .i64 s0_10).wf = true) (w0_11 : (Lit.int .i64 s0_11).wf = true) (w0_12 : (Lit.int .i64 s0_12).wf = true) (w0_13 : (Lit.int .i64 s0_13).wf = true) (w1 : (Lit.int .i64 a1).wf = true) (w2 : (Lit.int .u16 a2).wf = true) (hfp : ¬ (∃ f, (⟨s0_0, s0_1, s0_2, s0_3, s0_4, s0_5, s0_6, s0_7, s0_8, s0_9, s0_10, s0_11, s0_12, s0_13⟩ : Pl).fr = some f ∧ f.good = true)) :
    Calls Try.prog 6 #[.agg #[.int .i64 s0_0, .int .i64 s0_1, .int .i64 s0_2, .int .i64 s0_3, .int .u16 s0_4, .int .u16 s0_5, .int .i64 s0_6, .int .i64 s0_7, .int .i64 s0_8, .int .i64 s0_9, .int .i64 s0_10, .int .i64 s0_11, .int .i64 s0_12, .int .i64 s0_13], .int .i64 a1, .int .u16 a2] w fun e w' => e = .returned (.bool true) ∧ Below w.heap.size w w' := by
  have hp : (⟨s0_0, s0_1, s0_2, s0_3, s0_4, s0_5, s0_6, s0_7, s0_8, s0_9, s0_10, s0_11, s0_12, s0_13⟩ : Pl).wf := ⟨fits_wf w0_0, fits_wf w0_1, fits_wf w0_2, fits_wf w0_3, f16_wf w0_4, f16_wf w0_5, fits_wf w0_6, fits_wf w0_7, fits_wf w0_8, fits_wf w0_9, fits_wf w0_10, fits_wf w0_11, fits_wf w0_12, fits_wf w0_13⟩
  have hofp := fun W => lawof_any (⟨s0_0, s0_1, s0_2, s0_3, s0_4, s0_5, s0_6, s0_7, s0_8, s0_9, s0_10, s0_11, s0_12, s0_13⟩ : Pl) W
  simp only [Pl.val] at hofp
  have HBOX := Lib.hid (Holds.new w 24 #[.int .i64 s0_0, .int .i64 s0_1, .int .i64 s0_2, .int .i64 s0_3, .int .u16 s0_4, .int .u16 s0_5, .int .i64 s0_6, .int .i64 s0_7, .int .i64 s0_8, .int .i64 s0_9, .int .i64 s0_10, .int .i64 s0_11, .int .i64 s0_12, .int .i64 s0_13])
  have HB0 := Lib.hid (below_alloc w (.cells #[.int .i64 s0_0, .int .i64 s0_1, .int .i64 s0_2, .int .i64 s0_3, .int .u16 s0_4, .int .u16 s0_5, .int .i64 s0_6, .int .i64 s0_7, .int .i64 s0_8, .int .i64 s0_9, .int .i64 s0_10, .int .i64 s0_11, .int .i64 s0_12, .int .i64 s0_13] 24))
  have hnil := nil_eq
  obtain ⟨a1l, a1u⟩ := fits_wf w1
  have hgep := enc_no (⟨s0_0, s0_1, s0_2, s0_3, s0_4, s0_5, s0_6, s0_7, s0_8, s0_9, s0_10, s0_11, s0_12, s0_13⟩ : Pl) hp hfp
  have hcanp := canBe_no hfp
  obtain ⟨v, hvp⟩ : ∃ v, frVal ((⟨s0_0, s0_1, s0_2, s0_3, s0_4, s0_5, s0_6, s0_7, s0_8, s0_9, s0_10, s0_11, s0_12, s0_13⟩ : Pl)).fr = v := ⟨_, rfl⟩
  have hofv : ∀ W, Calls Try.prog 10 #[.agg #[.int .i64 s0_0, .int .i64 s0_1, .int .i64 s0_2, .int .i64 s0_3, .int .u16 s0_4, .int .u16 s0_5, .int .i64 s0_6, .int .i64 s0_7, .int .i64 s0_8, .int .i64 s0_9, .int .i64 s0_10, .int .i64 s0_11, .int .i64 s0_12, .int .i64 s0_13]] W fun e w' => e = .returned v ∧ Below W.heap.size W w' := fun W => by rw [← hvp]; exact hofp W
  rw [hvp] at hgep
  clear w0_0 w0_1 w0_2 w0_3 w0_4 w0_5 w0_6 w0_7 w0_8 w0_9 w0_10 w0_11 w0_12 w0_13 hofp hp hvp hcanp
  go_enter Try.func6, Try.ntmps6
  go_wp2_with (first
    | (go_at_call 9; (with_reducible refine (alive_yes _).mono ?_); rintro e w1 ⟨rfl, hb1⟩; have HB1 := Lib.hid (below_on HB0.out hb1); have HX := Lib.hid (HBOX.out.below hb1 HBOX.out.lt); have HC := Lib.hid (plain_cells HX.out); obtain ⟨k0, k1, k2, k3, k4, k5, k6, k7, k8, k9, k10, k11, k12, k13⟩ := HC.out)
    | (go_at_call 10; (with_reducible refine (hofv _).mono ?_); rintro e w2 ⟨rfl, hb2⟩; have HB2 := Lib.hid (below_on HB1.out hb2); clear k0 k1 k2 k3 k4 k5 k6 k7 k8 k9 k10 k11 k12 k13)
    | (go_at_call 11; (with_reducible refine (hgep _).mono ?_); rintro e w3 ⟨rfl, hb3⟩; have HB3 := Lib.hid (below_on HB2.out hb3)))
  go_ret
  exact ⟨rfl, HB3.out⟩

set_option linter.unusedSimpArgs false in
set_option maxHeartbeats 8000000 in
set_option maxRecDepth 100000 in
theorem let_go (s0_0 s0_1 s0_2 s0_3 s0_4 s0_5 s0_6 s0_7 s0_8 s0_9 s0_10 s0_11 s0_12 s0_13 : Int) (a1 : Int) (a2 : Int) (w : World) (w0_0 : (Lit.int .i64 s0_0).wf = true) (w0_1 : (Lit.int .i64 s0_1).wf = true) (w0_2 : (Lit.int .i64 s0_2).wf = true) (w0_3 : (Lit.int .i64 s0_3).wf = true) (w0_4 : (Lit.int .u16 s0_4).wf = true) (w0_5 : (Lit.int .u16 s0_5).wf = true) (w0_6 : (Lit.int .i64 s0_6).wf = true) (w0_7 : (Lit.int .i64 s0_7).wf = true) (w0_8 : (Lit.int .i64 s0_8).wf = true) (w0_9 : (Lit.int .i64 s0_9).wf = true) (w0_10 : (Lit.int .i64 s0_10).wf = true) (w0_11 : (Lit.int .i64 s0_11).wf = true) (w0_12 : (Lit.int .i64 s0_12).wf = true) (w0_13 : (Lit.int .i64 s0_13).wf = true) (w1 : (Lit.int .i64 a1).wf = true) (w2 : (Lit.int .u16 a2).wf = true) (hfp : (∃ f, (⟨s0_0, s0_1, s0_2, s0_3, s0_4, s0_5, s0_6, s0_7, s0_8, s0_9, s0_10, s0_11, s0_12, s0_13⟩ : Pl).fr = some f ∧ f.good = true)) (hesc : a2 = 0 ∨ a1 < 0 ∨ (∀ f, (⟨s0_0, s0_1, s0_2, s0_3, s0_4, s0_5, s0_6, s0_7, s0_8, s0_9, s0_10, s0_11, s0_12, s0_13⟩ : Pl).fr = some f → 8 * ((f.sealed.length : Int) - 2) < a1)) :
    Calls Try.prog 6 #[.agg #[.int .i64 s0_0, .int .i64 s0_1, .int .i64 s0_2, .int .i64 s0_3, .int .u16 s0_4, .int .u16 s0_5, .int .i64 s0_6, .int .i64 s0_7, .int .i64 s0_8, .int .i64 s0_9, .int .i64 s0_10, .int .i64 s0_11, .int .i64 s0_12, .int .i64 s0_13], .int .i64 a1, .int .u16 a2] w fun e w' => e = .returned (.bool true) ∧ Below w.heap.size w w' := by
  have hp : (⟨s0_0, s0_1, s0_2, s0_3, s0_4, s0_5, s0_6, s0_7, s0_8, s0_9, s0_10, s0_11, s0_12, s0_13⟩ : Pl).wf := ⟨fits_wf w0_0, fits_wf w0_1, fits_wf w0_2, fits_wf w0_3, f16_wf w0_4, f16_wf w0_5, fits_wf w0_6, fits_wf w0_7, fits_wf w0_8, fits_wf w0_9, fits_wf w0_10, fits_wf w0_11, fits_wf w0_12, fits_wf w0_13⟩
  have hofp := fun W => lawof_any (⟨s0_0, s0_1, s0_2, s0_3, s0_4, s0_5, s0_6, s0_7, s0_8, s0_9, s0_10, s0_11, s0_12, s0_13⟩ : Pl) W
  simp only [Pl.val] at hofp
  have HBOX := Lib.hid (Holds.new w 24 #[.int .i64 s0_0, .int .i64 s0_1, .int .i64 s0_2, .int .i64 s0_3, .int .u16 s0_4, .int .u16 s0_5, .int .i64 s0_6, .int .i64 s0_7, .int .i64 s0_8, .int .i64 s0_9, .int .i64 s0_10, .int .i64 s0_11, .int .i64 s0_12, .int .i64 s0_13])
  have HB0 := Lib.hid (below_alloc w (.cells #[.int .i64 s0_0, .int .i64 s0_1, .int .i64 s0_2, .int .i64 s0_3, .int .u16 s0_4, .int .u16 s0_5, .int .i64 s0_6, .int .i64 s0_7, .int .i64 s0_8, .int .i64 s0_9, .int .i64 s0_10, .int .i64 s0_11, .int .i64 s0_12, .int .i64 s0_13] 24))
  have hnil := nil_eq
  obtain ⟨a1l, a1u⟩ := fits_wf w1
  obtain ⟨f, hfrp, hgp⟩ := hfp
  have hgep := fun W => encode_sealed f W hgp
  have hswp := f.sealed_wf
  obtain ⟨zp, hzp⟩ : ∃ z, f.sealed = z := ⟨_, rfl⟩
  rw [hzp] at hswp
  simp only [hzp] at hgep
  obtain ⟨mp, hmp⟩ : ∃ m, zp.length = m := ⟨_, rfl⟩
  simp only [hmp] at hgep
  have HWp := Lib.hid hswp
  have HZp := Lib.hid hzp
  have hcanp := canBe_yes hfrp hgp
  have honp := fun W => only_any (⟨s0_0, s0_1, s0_2, s0_3, s0_4, s0_5, s0_6, s0_7, s0_8, s0_9, s0_10, s0_11, s0_12, s0_13⟩ : Pl) W
  rw [Pl.only_kind hfrp] at honp
  obtain ⟨v, hvp⟩ : ∃ v, f.val = v := ⟨_, rfl⟩
  rw [hfrp] at hofp
  have hofv : ∀ W, Calls Try.prog 10 #[.agg #[.int .i64 s0_0, .int .i64 s0_1, .int .i64 s0_2, .int .i64 s0_3, .int .u16 s0_4, .int .u16 s0_5, .int .i64 s0_6, .int .i64 s0_7, .int .i64 s0_8, .int .i64 s0_9, .int .i64 s0_10, .int .i64 s0_11, .int .i64 s0_12, .int .i64 s0_13]] W fun e w' => e = .returned v ∧ Below W.heap.size W w' := fun W => by rw [← hvp]; exact hofp W
  simp only [hvp] at hgep
  have hm64 : mp ≤ 64 := by rw [← hmp, ← hzp]; exact f.sealed_size.2
  have hm3 : 3 ≤ mp := by rw [← hmp, ← hzp, f.sealed_size.1]; omega
  have hesc2 : a2 = 0 ∨ a1 < 0 ∨ 8 * ((mp : Int) - 2) < a1 := by
    rcases hesc with h | h | h
    · exact .inl h
    · exact .inr (.inl h)
    · refine .inr (.inr ?_)
      have := h f hfrp
      rw [hzp, hmp] at this
      exact this
  have hcase : a2 = 0 ∨ ((a2 == 0) = false ∧ a1 < 0) ∨ ((a2 == 0) = false ∧ 0 ≤ a1 ∧ 8 * ((mp : Int) - 2) < a1) := by
    by_cases h : a2 = 0
    · exact .inl h
    · have h' : (a2 == 0) = false := by simpa using h
      rcases hesc2 with h0 | h0 | h0
      · exact absurd h0 h
      · exact .inr (.inl ⟨h', h0⟩)
      · by_cases h1 : a1 < 0
        · exact .inr (.inl ⟨h', h1⟩)
        · exact .inr (.inr ⟨h', by omega, h0⟩)
  clear hesc hesc2
  clear w0_0 w0_1 w0_2 w0_3 w0_4 w0_5 w0_6 w0_7 w0_8 w0_9 w0_10 w0_11 w0_12 w0_13 hofp hp hvp hcanp hgp hfrp hmp hzp hswp honp
  rcases hcase with rfl | ⟨h0, h1⟩ | ⟨h0, h1, h2⟩
  all_goals
    go_enter Try.func6, Try.ntmps6
    go_wp2_with (first
      | (go_at_call 9; (with_reducible refine (alive_yes _).mono ?_); rintro e w1 ⟨rfl, hb1⟩; have HB1 := Lib.hid (below_on HB0.out hb1); have HX := Lib.hid (HBOX.out.below hb1 HBOX.out.lt); have HC := Lib.hid (plain_cells HX.out); obtain ⟨k0, k1, k2, k3, k4, k5, k6, k7, k8, k9, k10, k11, k12, k13⟩ := HC.out)
      | (go_at_call 10; (with_reducible refine (hofv _).mono ?_); rintro e w2 ⟨rfl, hb2⟩; have HB2 := Lib.hid (below_on HB1.out hb2); clear k0 k1 k2 k3 k4 k5 k6 k7 k8 k9 k10 k11 k12 k13)
      | (go_at_call 11; (with_reducible refine (hgep _).mono ?_); rintro e w3 ⟨A3, c3, rfl, ho3, hb3⟩; have HB3 := Lib.hid (below_on HB2.out hb3); have HR3 := Lib.hid (IntRow.of_own ho3 HWp.out); have hcap3 := HR3.out.cap_le; have hmx3 := HR3.out.max; unfold maxLen at hmx3; clear ho3))
    go_ret
    exact ⟨rfl, HB3.out⟩

set_option linter.unusedSimpArgs false in
set_option maxHeartbeats 8000000 in
set_option maxRecDepth 100000 in
theorem turned (s0_0 s0_1 s0_2 s0_3 s0_4 s0_5 s0_6 s0_7 s0_8 s0_9 s0_10 s0_11 s0_12 s0_13 : Int) (a1 : Int) (a2 : Int) (w : World) (w0_0 : (Lit.int .i64 s0_0).wf = true) (w0_1 : (Lit.int .i64 s0_1).wf = true) (w0_2 : (Lit.int .i64 s0_2).wf = true) (w0_3 : (Lit.int .i64 s0_3).wf = true) (w0_4 : (Lit.int .u16 s0_4).wf = true) (w0_5 : (Lit.int .u16 s0_5).wf = true) (w0_6 : (Lit.int .i64 s0_6).wf = true) (w0_7 : (Lit.int .i64 s0_7).wf = true) (w0_8 : (Lit.int .i64 s0_8).wf = true) (w0_9 : (Lit.int .i64 s0_9).wf = true) (w0_10 : (Lit.int .i64 s0_10).wf = true) (w0_11 : (Lit.int .i64 s0_11).wf = true) (w0_12 : (Lit.int .i64 s0_12).wf = true) (w0_13 : (Lit.int .i64 s0_13).wf = true) (w1 : (Lit.int .i64 a1).wf = true) (w2 : (Lit.int .u16 a2).wf = true) (p : Nat) (ha : a1 = (p : Int)) (hfp : (∃ f, (⟨s0_0, s0_1, s0_2, s0_3, s0_4, s0_5, s0_6, s0_7, s0_8, s0_9, s0_10, s0_11, s0_12, s0_13⟩ : Pl).fr = some f ∧ f.good = true)) (h0 : a2 ≠ 0) (hj : ∀ f, (⟨s0_0, s0_1, s0_2, s0_3, s0_4, s0_5, s0_6, s0_7, s0_8, s0_9, s0_10, s0_11, s0_12, s0_13⟩ : Pl).fr = some f → (p : Int) ≤ 8 * ((f.sealed.length : Int) - 2)) :
    Calls Try.prog 6 #[.agg #[.int .i64 s0_0, .int .i64 s0_1, .int .i64 s0_2, .int .i64 s0_3, .int .u16 s0_4, .int .u16 s0_5, .int .i64 s0_6, .int .i64 s0_7, .int .i64 s0_8, .int .i64 s0_9, .int .i64 s0_10, .int .i64 s0_11, .int .i64 s0_12, .int .i64 s0_13], .int .i64 a1, .int .u16 a2] w fun e w' => e = .returned (.bool true) ∧ Below w.heap.size w w' := by
  subst ha
  have hp : (⟨s0_0, s0_1, s0_2, s0_3, s0_4, s0_5, s0_6, s0_7, s0_8, s0_9, s0_10, s0_11, s0_12, s0_13⟩ : Pl).wf := ⟨fits_wf w0_0, fits_wf w0_1, fits_wf w0_2, fits_wf w0_3, f16_wf w0_4, f16_wf w0_5, fits_wf w0_6, fits_wf w0_7, fits_wf w0_8, fits_wf w0_9, fits_wf w0_10, fits_wf w0_11, fits_wf w0_12, fits_wf w0_13⟩
  have hofp := fun W => lawof_any (⟨s0_0, s0_1, s0_2, s0_3, s0_4, s0_5, s0_6, s0_7, s0_8, s0_9, s0_10, s0_11, s0_12, s0_13⟩ : Pl) W
  simp only [Pl.val] at hofp
  have HBOX := Lib.hid (Holds.new w 24 #[.int .i64 s0_0, .int .i64 s0_1, .int .i64 s0_2, .int .i64 s0_3, .int .u16 s0_4, .int .u16 s0_5, .int .i64 s0_6, .int .i64 s0_7, .int .i64 s0_8, .int .i64 s0_9, .int .i64 s0_10, .int .i64 s0_11, .int .i64 s0_12, .int .i64 s0_13])
  have HB0 := Lib.hid (below_alloc w (.cells #[.int .i64 s0_0, .int .i64 s0_1, .int .i64 s0_2, .int .i64 s0_3, .int .u16 s0_4, .int .u16 s0_5, .int .i64 s0_6, .int .i64 s0_7, .int .i64 s0_8, .int .i64 s0_9, .int .i64 s0_10, .int .i64 s0_11, .int .i64 s0_12, .int .i64 s0_13] 24))
  have hnil := nil_eq
  obtain ⟨a1l, a1u⟩ := fits_wf w1
  obtain ⟨f, hfrp, hgp⟩ := hfp
  have hgep := fun W => encode_sealed f W hgp
  have hswp := f.sealed_wf
  obtain ⟨zp, hzp⟩ : ∃ z, f.sealed = z := ⟨_, rfl⟩
  rw [hzp] at hswp
  simp only [hzp] at hgep
  obtain ⟨mp, hmp⟩ : ∃ m, zp.length = m := ⟨_, rfl⟩
  simp only [hmp] at hgep
  have HWp := Lib.hid hswp
  have HZp := Lib.hid hzp
  have hcanp := canBe_yes hfrp hgp
  have honp := fun W => only_any (⟨s0_0, s0_1, s0_2, s0_3, s0_4, s0_5, s0_6, s0_7, s0_8, s0_9, s0_10, s0_11, s0_12, s0_13⟩ : Pl) W
  rw [Pl.only_kind hfrp] at honp
  obtain ⟨v, hvp⟩ : ∃ v, f.val = v := ⟨_, rfl⟩
  rw [hfrp] at hofp
  have hofv : ∀ W, Calls Try.prog 10 #[.agg #[.int .i64 s0_0, .int .i64 s0_1, .int .i64 s0_2, .int .i64 s0_3, .int .u16 s0_4, .int .u16 s0_5, .int .i64 s0_6, .int .i64 s0_7, .int .i64 s0_8, .int .i64 s0_9, .int .i64 s0_10, .int .i64 s0_11, .int .i64 s0_12, .int .i64 s0_13]] W fun e w' => e = .returned v ∧ Below W.heap.size W w' := fun W => by rw [← hvp]; exact hofp W
  simp only [hvp] at hgep
  have hm64 : mp ≤ 64 := by rw [← hmp, ← hzp]; exact f.sealed_size.2
  have hm3 : 3 ≤ mp := by rw [← hmp, ← hzp, f.sealed_size.1]; omega
  obtain ⟨s, rfl⟩ := as_sum (f16_wf w2)
  have h1 : s ≠ 0#16 := fun h => h0 (by rw [h]; rfl)
  have h1' : ((s.toNat : Int) == 0) = false := by rw [beq_eq_false_iff_ne]; exact h0
  have hp8 : (p : Int) ≤ 8 * ((mp : Int) - 2) := by have := hj f hfrp; rw [hzp, hmp] at this; exact this
  have hpp : p + 16 ≤ 8 * mp := by omega
  have K2 := Lib.hid (turned_none f.bytes_wf s mp p)
  have hz' : Go.Proofs.Ytbdlpkkgfhknkaa.sealed f.bytes = zp := hzp
  rw [hz'] at K2
  have hs := s.isLt
  clear hz' h0 hj
  clear w0_0 w0_1 w0_2 w0_3 w0_4 w0_5 w0_6 w0_7 w0_8 w0_9 w0_10 w0_11 w0_12 w0_13 hofp hp hvp hcanp hgp hfrp hmp hzp hswp honp
  go_enter Try.func6, Try.ntmps6
  go_wp2_with (first
    | (go_at_call 9; (with_reducible refine (alive_yes _).mono ?_); rintro e w1 ⟨rfl, hb1⟩; have HB1 := Lib.hid (below_on HB0.out hb1); have HX := Lib.hid (HBOX.out.below hb1 HBOX.out.lt); have HC := Lib.hid (plain_cells HX.out); obtain ⟨k0, k1, k2, k3, k4, k5, k6, k7, k8, k9, k10, k11, k12, k13⟩ := HC.out)
    | (go_at_call 10; (with_reducible refine (hofv _).mono ?_); rintro e w2 ⟨rfl, hb2⟩; have HB2 := Lib.hid (below_on HB1.out hb2); clear k0 k1 k2 k3 k4 k5 k6 k7 k8 k9 k10 k11 k12 k13)
    | (go_at_call 11; (with_reducible refine (hgep _).mono ?_); rintro e w3 ⟨A3, c3, rfl, ho3, hb3⟩; obtain ⟨g, rfl, hg1, hg2⟩ := own_form ho3 (by omega); have HB3 := Lib.hid (below_on HB2.out hb3); have HO3 := Lib.hid ho3; clear ho3))
  have hgw : w.heap.size ≤ g := Nat.le_trans HB2.out.size hg1
  have HB2s := HB2.out.size
  go_loopw [9] (fun i wr => ∃ (k : Nat) (zs : List Int), k ≤ 16 ∧ i = .int .i64 k ∧ SoTurned s p g mp c3 k zs w wr) (fun i _ => 16 - (intOf i).toNat)
  case atStart => exact ⟨0, _, Nat.zero_le _, rfl, HB3.out, own_mono HO3.out HB2s, HWp.out, K2.out⟩
  case round =>
    obtain ⟨k, zs, hk, rfl, hbr, hownr, hwz, htu⟩ := hrel
    have HW := Lib.hid hwz
    have HT := Lib.hid htu
    have HO := Lib.hid hownr
    have HBR := Lib.hid hbr
    clear hwz htu hownr hbr
    by_cases hlt : k < 16
    · have hbit := bit_of s (15 - k)
      cases hb : s.getLsbD (15 - k) with
      | false =>
        rw [hb] at hbit
        have HB := Lib.hid hb
        clear hb
        go_wp2
        go_roundw
        case rel => exact ⟨k + 1, zs, by omega, by go_num, HBR.out, HO.out, HW.out, turned_keep HT.out HB.out⟩
        case measure => simp [intOf]; omega
      | true =>
        rw [hb] at hbit
        have HB := Lib.hid hb
        have q3 := own_cell HO.out (j := (p + k) / 8) (by omega)
        have q4 := HO.out.frozenAt ((p + k) / 8)
        obtain ⟨X, hX⟩ : ∃ X, zs[(p + k) / 8]?.getD 0 = X := ⟨_, rfl⟩
        rw [hX] at q3
        have HX := Lib.hid hX
        clear hb hX
        go_wp2
        go_roundw
        case rel => exact ⟨k + 1, _, by omega, by go_num, so_turn HBR.out HO.out HW.out HT.out HX.out HB.out hlt hpp hgw⟩
        case measure => simp [intOf]; omega
    · obtain rfl : k = 16 := by omega
      have hop := turned_shut HT.out HW.out h1
      have hlz : zs.length = mp := by have := HO.out.1; simpa using this
      have hrz : IntRow wr .u8 (some ⟨g, 0, none⟩) mp c3 zs := IntRow.of_own HO.out HW.out
      have HRZ := Lib.hid hrz
      have hsum := fun W (hb : Below wr.heap.size wr W) => rsum_any (some ⟨g, 0, none⟩) mp c3 zs W (hrz.below hb)
      have hint := opens_int HW.out (by omega)
      rw [hop] at hint
      have hsl := (sumOf zs).isLt
      obtain ⟨S, hS⟩ : ∃ S : Int, ((sumOf zs).toNat : Int) = S := ⟨_, rfl⟩
      rw [hS] at hint
      simp only [hS] at hsum
      have hs1 : (S != 0) = true := hint
      have hdec := decode_any (some ⟨g, 0, none⟩) mp c3 zs wr hrz
      have hde := dec_shut (by omega) hop
      obtain ⟨E, hE, hE2⟩ : ∃ E : Int, (E = 3 ∨ E = 4) ∧ dec zs = (none, E) := by
        rcases hde with h | h
        · exact ⟨3, .inl rfl, h⟩
        · exact ⟨4, .inr rfl, h⟩
      simp only [hE2] at hdec
      have hd : Calls Try.prog 15 #[.slice (some ⟨g, 0, none⟩) mp c3] wr fun e w' => e = .returned (.tuple #[.nilIface, .int .i64 E]) ∧ Below wr.heap.size wr w' := hdec
      clear hdec hde hE2 hop hint hrz hS
      rcases hE with rfl | rfl
      all_goals
        go_wp2_with (first
          | (go_at_call 15; (with_reducible refine hd.mono ?_); rintro e w5 ⟨rfl, hb5⟩; have HB5 := Lib.hid hb5)
          | (go_at_call 19; (with_reducible refine (hsum _ HB5.out).mono ?_); rintro e w6 ⟨rfl, rfl⟩))
        go_ret
        exact ⟨rfl, below_on HBR.out HB5.out⟩

set_option linter.unusedSimpArgs false in
set_option maxHeartbeats 8000000 in
set_option maxRecDepth 100000 in
theorem walk (s0_0 s0_1 s0_2 s0_3 s0_4 s0_5 s0_6 s0_7 s0_8 s0_9 s0_10 s0_11 s0_12 s0_13 : Int) (a1 : Int) (a2 : Int) (w : World) (w0_0 : (Lit.int .i64 s0_0).wf = true) (w0_1 : (Lit.int .i64 s0_1).wf = true) (w0_2 : (Lit.int .i64 s0_2).wf = true) (w0_3 : (Lit.int .i64 s0_3).wf = true) (w0_4 : (Lit.int .u16 s0_4).wf = true) (w0_5 : (Lit.int .u16 s0_5).wf = true) (w0_6 : (Lit.int .i64 s0_6).wf = true) (w0_7 : (Lit.int .i64 s0_7).wf = true) (w0_8 : (Lit.int .i64 s0_8).wf = true) (w0_9 : (Lit.int .i64 s0_9).wf = true) (w0_10 : (Lit.int .i64 s0_10).wf = true) (w0_11 : (Lit.int .i64 s0_11).wf = true) (w0_12 : (Lit.int .i64 s0_12).wf = true) (w0_13 : (Lit.int .i64 s0_13).wf = true) (w1 : (Lit.int .i64 a1).wf = true) (w2 : (Lit.int .u16 a2).wf = true) :
    Calls Try.prog 6 #[.agg #[.int .i64 s0_0, .int .i64 s0_1, .int .i64 s0_2, .int .i64 s0_3, .int .u16 s0_4, .int .u16 s0_5, .int .i64 s0_6, .int .i64 s0_7, .int .i64 s0_8, .int .i64 s0_9, .int .i64 s0_10, .int .i64 s0_11, .int .i64 s0_12, .int .i64 s0_13], .int .i64 a1, .int .u16 a2] w fun e w' => e = .returned (.bool true) ∧ Below w.heap.size w w' := by
  by_cases hfp : (∃ f, (⟨s0_0, s0_1, s0_2, s0_3, s0_4, s0_5, s0_6, s0_7, s0_8, s0_9, s0_10, s0_11, s0_12, s0_13⟩ : Pl).fr = some f ∧ f.good = true)
  · obtain ⟨f, hfr, hg⟩ := hfp
    by_cases h0 : a2 = 0
    · exact let_go s0_0 s0_1 s0_2 s0_3 s0_4 s0_5 s0_6 s0_7 s0_8 s0_9 s0_10 s0_11 s0_12 s0_13 a1 a2 w w0_0 w0_1 w0_2 w0_3 w0_4 w0_5 w0_6 w0_7 w0_8 w0_9 w0_10 w0_11 w0_12 w0_13 w1 w2 ⟨f, hfr, hg⟩ (.inl h0)
    by_cases h1 : a1 < 0
    · exact let_go s0_0 s0_1 s0_2 s0_3 s0_4 s0_5 s0_6 s0_7 s0_8 s0_9 s0_10 s0_11 s0_12 s0_13 a1 a2 w w0_0 w0_1 w0_2 w0_3 w0_4 w0_5 w0_6 w0_7 w0_8 w0_9 w0_10 w0_11 w0_12 w0_13 w1 w2 ⟨f, hfr, hg⟩ (.inr (.inl h1))
    by_cases h2 : 8 * ((f.sealed.length : Int) - 2) < a1
    · exact let_go s0_0 s0_1 s0_2 s0_3 s0_4 s0_5 s0_6 s0_7 s0_8 s0_9 s0_10 s0_11 s0_12 s0_13 a1 a2 w w0_0 w0_1 w0_2 w0_3 w0_4 w0_5 w0_6 w0_7 w0_8 w0_9 w0_10 w0_11 w0_12 w0_13 w1 w2 ⟨f, hfr, hg⟩ (.inr (.inr fun g hg' => by rw [hfr] at hg'; simp only [Option.some.injEq] at hg'; rw [← hg']; exact h2))
    exact turned s0_0 s0_1 s0_2 s0_3 s0_4 s0_5 s0_6 s0_7 s0_8 s0_9 s0_10 s0_11 s0_12 s0_13 a1 a2 w w0_0 w0_1 w0_2 w0_3 w0_4 w0_5 w0_6 w0_7 w0_8 w0_9 w0_10 w0_11 w0_12 w0_13 w1 w2 a1.toNat (by omega) ⟨f, hfr, hg⟩ h0 (fun g hg' => by rw [hfr] at hg'; simp only [Option.some.injEq] at hg'; rw [← hg']; omega)
  · exact not_one s0_0 s0_1 s0_2 s0_3 s0_4 s0_5 s0_6 s0_7 s0_8 s0_9 s0_10 s0_11 s0_12 s0_13 a1 a2 w w0_0 w0_1 w0_2 w0_3 w0_4 w0_5 w0_6 w0_7 w0_8 w0_9 w0_10 w0_11 w0_12 w0_13 w1 w2 hfp

set_option maxRecDepth 100000 in
theorem lifted (os : Os) (started : os.Started) (H : Type) (enc : TypeId × Value → H) :
    ReturnsInHanded {} Try.checked os 6 .any (Rows.frameTurnedSpec.pre6 enc Try.prog Try.f6 Rows.frameTurnedRow.domain false) (Rows.frameTurnedSpec.post enc Try.prog Try.f6 false true false false) := by
  refine returnsInHanded_of_change (C := Try.checked) own started (by kernel_rfl) Try.func6
    (ChangeSpec.witness6 (enc := enc) (C := Try.checked) false ⟨#[], #[.agg #[.int .i64 0, .int .i64 0, .int .i64 0, .int .i64 0, .int .u16 0, .int .u16 0, .int .i64 0, .int .i64 0, .int .i64 0, .int .i64 0, .int .i64 0, .int .i64 0, .int .i64 0, .int .i64 0], .int .i64 0, .int .u16 0], []⟩ 8 (by kernel_rfl) (by kernel_rfl) (by kernel_rfl) (by kernel_rfl)) ?_
  intro W base args ds gs before hval0 hW hcnd _
  have hval : ∀ (j : Nat) t v, Try.f6.params[j]? = some t → args[j]? = some v → Value.okWide Try.prog W .any base t v := hval0
  have hW' := hW
  obtain ⟨p, q, hA0, hV, rfl, hfz, hnd⟩ := hW
  have hA : DataW.TrodAll enc Try.prog W 0 (fun _ => true) true Try.f6.params.toList args.toList ds p := hA0
  have hAk := hA
  rw [Try.params6] at hA hval
  obtain ⟨v0, vs0, d0, ds0, p0, q0, hargs, rfl, hp, h0, r0⟩ := trodAll_cons hA
  obtain ⟨v1, vs1, d1, ds1, p1, q1, rfl, rfl, rfl, h1, r1⟩ := trodAll_cons r0
  obtain ⟨v2, vs2, d2, ds2, p2, q2, rfl, rfl, rfl, h2, r2⟩ := trodAll_cons r1
  obtain ⟨rfl, rfl, rfl⟩ := trodAll_nil r2
  obtain rfl : args = #[v0, v1, v2] := by cases args; simp_all
  obtain ⟨rfl, rfl⟩ := trodVars_none hV
  clear hA0 hval0 hargs
  simp only [List.append_nil] at hW'
  have hend : ∀ W' : World, Below W.heap.size W W' → Rows.frameTurnedSpec.post enc Try.prog Try.f6 false true false false W #[v0, v1, v2] (.bool true) W' := fun W' hb =>
    law_post (tb := 4) hW' hAk rfl (by kernel_rfl) (by kernel_rfl) (by kernel_rfl) Try.underlying4 rfl rfl rfl hb
  clear hW' hAk hp
  obtain ⟨ns0, rfl, hl0, hw0⟩ := ints_struct (ks := [.i64, .i64, .i64, .i64, .u16, .u16, .i64, .i64, .i64, .i64, .i64, .i64, .i64, .i64]) Try.underlying24 (by kernel_rfl) (by kernel_rfl) (by kernel_rfl) (hval 0 24 v0 rfl rfl) h0
  obtain ⟨s0_0, s0_1, s0_2, s0_3, s0_4, s0_5, s0_6, s0_7, s0_8, s0_9, s0_10, s0_11, s0_12, s0_13, rfl⟩ := split14 hl0
  clear hl0
  obtain ⟨a1, rfl, rfl, rfl, w1⟩ := open_int Try.underlying3 (hval 1 3 v1 rfl rfl) h1
  obtain ⟨a2, rfl, rfl, rfl, w2⟩ := open_int Try.underlying22 (hval 2 22 v2 rfl rfl) h2
  refine (walk s0_0 s0_1 s0_2 s0_3 s0_4 s0_5 s0_6 s0_7 s0_8 s0_9 s0_10 s0_11 s0_12 s0_13 a1 a2 W (hw0 0 _ _ rfl rfl) (hw0 1 _ _ rfl rfl) (hw0 2 _ _ rfl rfl) (hw0 3 _ _ rfl rfl) (hw0 4 _ _ rfl rfl) (hw0 5 _ _ rfl rfl) (hw0 6 _ _ rfl rfl) (hw0 7 _ _ rfl rfl) (hw0 8 _ _ rfl rfl) (hw0 9 _ _ rfl rfl) (hw0 10 _ _ rfl rfl) (hw0 11 _ _ rfl rfl) (hw0 12 _ _ rfl rfl) (hw0 13 _ _ rfl rfl) w1 w2).mono fun e W' ⟨he, hg⟩ => ?_
  subst he
  exact ⟨_, rfl, hend W' hg⟩

theorem over : Rows.frameTurnedRow.holds Try.pinned (OpenSpec.ofChange Rows.frameTurnedSpec) :=
  OpenClaim.holds_of_wide 6 Try.f6 rfl rfl rfl rfl rfl rfl rfl ⟨rfl, rfl, rfl, rfl, rfl⟩ rfl rfl rfl rfl rfl (by kernel_rfl) Try.func6 (by kernel_rfl)
    (of_decide_eq_true (by kernel_rfl)) (by unfold Func.isWrapper; first | (rw [if_pos (by decide +kernel)]; kernel_rfl) | (rw [if_neg (by decide +kernel)]; exact ⟨rfl, rfl⟩))
    (fun os started H enc _ => lifted os started H enc)

/-- THE STATEMENT -/
theorem proved : Rows.FrameTurnedSaid :=
  over
#print axioms proved
end Go.Proofs.Ytbdlpkkgfhknkaa.frameTurned
