/-
  In every script each answer, whether it waits, and how long it rests, are the document's, what can't be is refused, and a nil node does nothing: for every number and script the law answers true; without conditions.
  The walk is the prover's own; the frame of the row's step follows the kit's template.
-/
import Derived.Test.YtoggpdfkklombaaRows
import Derived.Test.YtoggpdfkklombaaLawKit
import Derived.Test.YtoggpdfkklombaaFlat
import Derived.Test.YtoggpdfkklombaaPrL
import Derived.LoopTactic
import Derived.Deep.CutBlock
import Derived.Deep.CutRange
import Derived.BigQuiet
namespace Go.Proofs.Ytoggpdfkklombaa.pairDoes
open Go.ChangeShapes Go.WideShapes Go.ChangeAt Go.RowKit Go.ChangeMaps Go.WideElems
set_option linter.unusedVariables false

theorem cells1 {W : World} {vs : List Value} (h : Fit W [.int .i64, .int .i64, .int .i64, .int .i64, .int .i64, .int .i64, .int .i64, .int .u16, .int .u16, .int .i64, .int .i64, .int .i64, .int .i64, .int .i64, .int .i64, .int .i64, .int .i64] vs) : ∃ (s0 : Int) (s1 : Int) (s2 : Int) (s3 : Int) (s4 : Int) (s5 : Int) (s6 : Int) (s7 : Int) (s8 : Int) (s9 : Int) (s10 : Int) (s11 : Int) (s12 : Int) (s13 : Int) (s14 : Int) (s15 : Int) (s16 : Int), vs = [.int .i64 s0, .int .i64 s1, .int .i64 s2, .int .i64 s3, .int .i64 s4, .int .i64 s5, .int .i64 s6, .int .u16 s7, .int .u16 s8, .int .i64 s9, .int .i64 s10, .int .i64 s11, .int .i64 s12, .int .i64 s13, .int .i64 s14, .int .i64 s15, .int .i64 s16] ∧ (Lit.int .i64 s0).wf = true ∧ (Lit.int .i64 s1).wf = true ∧ (Lit.int .i64 s2).wf = true ∧ (Lit.int .i64 s3).wf = true ∧ (Lit.int .i64 s4).wf = true ∧ (Lit.int .i64 s5).wf = true ∧ (Lit.int .i64 s6).wf = true ∧ (Lit.int .u16 s7).wf = true ∧ (Lit.int .u16 s8).wf = true ∧ (Lit.int .i64 s9).wf = true ∧ (Lit.int .i64 s10).wf = true ∧ (Lit.int .i64 s11).wf = true ∧ (Lit.int .i64 s12).wf = true ∧ (Lit.int .i64 s13).wf = true ∧ (Lit.int .i64 s14).wf = true ∧ (Lit.int .i64 s15).wf = true ∧ (Lit.int .i64 s16).wf = true := by
  match vs, h.length, h with
  | [y0, y1, y2, y3, y4, y5, y6, y7, y8, y9, y10, y11, y12, y13, y14, y15, y16], _, h =>
    obtain ⟨⟨x0, rfl, h0⟩, ⟨x1, rfl, h1⟩, ⟨x2, rfl, h2⟩, ⟨x3, rfl, h3⟩, ⟨x4, rfl, h4⟩, ⟨x5, rfl, h5⟩, ⟨x6, rfl, h6⟩, ⟨x7, rfl, h7⟩, ⟨x8, rfl, h8⟩, ⟨x9, rfl, h9⟩, ⟨x10, rfl, h10⟩, ⟨x11, rfl, h11⟩, ⟨x12, rfl, h12⟩, ⟨x13, rfl, h13⟩, ⟨x14, rfl, h14⟩, ⟨x15, rfl, h15⟩, ⟨x16, rfl, h16⟩, _⟩ := h
    exact ⟨x0, x1, x2, x3, x4, x5, x6, x7, x8, x9, x10, x11, x12, x13, x14, x15, x16, rfl, h0, h1, h2, h3, h4, h5, h6, h7, h8, h9, h10, h11, h12, h13, h14, h15, h16⟩
theorem own : ownKnob Try.prog.godebug = none := by kernel_rfl
set_option linter.unusedSimpArgs false in
set_option maxHeartbeats 8000000 in
set_option maxRecDepth 100000 in
theorem walk (a0 : Int) (A1 : Option Addr) (n1 c1 : Nat) (f1 : Nat → List Value) (w : World) (w0 : (Lit.int .i64 a0).wf = true) (w1 : FlatRow w [.int .i64, .int .i64, .int .i64, .int .i64, .int .i64, .int .i64, .int .i64, .int .u16, .int .u16, .int .i64, .int .i64, .int .i64, .int .i64, .int .i64, .int .i64, .int .i64, .int .i64] A1 n1 c1 f1) :
    Calls Try.prog 5 #[.int .i64 a0, .slice A1 n1 c1] w fun e w' => e = .returned (.bool true) ∧ Below w.heap.size w w' := by
  by_cases h200 : 200 < n1
  · have d3 : decide ((200 : Int) < (n1 : Int)) = true := decide_eq_true (by omega)
    go_enter Try.func5, Try.ntmps5
    go_wp2_with (go_at_call 8; refine (alive_yes _).mono ?_; rintro e wx ⟨rfl, hb⟩; have HB := Lib.hid hb; clear hb)
    go_ret
    exact ⟨rfl, HB.out⟩
  have d3 : decide ((200 : Int) < (n1 : Int)) = false := decide_eq_false (by omega)
  have hcap := w1.cap_le
  have hmx := w1.max
  unfold maxLen at hmx
  have R := Lib.hid w1
  clear w1
  have fa0 := fits_wf w0
  have hh0 := fun W => phear_nil W 0 0 0 0 0 0 0 0 1
  by_cases hbad : a0 < 0 ∨ 63 < a0
  · have hnew := fun W => pnew_no W a0 hbad
    have hcase : decide (a0 < 0) = true ∨ decide (a0 < 0) = false ∧ decide (63 < a0) = true := by
      by_cases e : a0 < 0
      · exact .inl (decide_eq_true e)
      · exact .inr ⟨decide_eq_false e, decide_eq_true (by omega)⟩
    clear hbad w0 fa0
    rcases hcase with k1 | ⟨k1, k2⟩ <;>
    · as_aux_lemma =>
        go_enter Try.func5, Try.ntmps5
        go_wp2_with (first
          | (go_at_call 8; refine (alive_yes _).mono ?_; rintro e wx ⟨rfl, hb⟩; have HB := Lib.hid hb; clear hb)
          | (go_at_call 15; refine (hnew _).mono ?_; rintro e wy ⟨rfl, hwy⟩; subst wy)
          | (go_at_call 16; refine (pboot_nil _).mono ?_; rintro e wy ⟨rfl, hwy⟩; subst wy)
          | (go_at_call 17; refine (pask_nil _ _ _).mono ?_; rintro e w2 ⟨rfl, hb2⟩; replace HB := Lib.hid ((HB.out.trans (hb2.mono HB.out.size)).alloc (HB.out.trans (hb2.mono HB.out.size)).size (.cells #[.int .i64 0, .int .i64 0, .int .i64 0] 36)); clear hb2)
          | (go_at_call 18; (with_reducible refine (hh0 _).mono ?_); rintro e w3 ⟨rfl, hb3⟩; replace HB := Lib.hid ((HB.out.trans (hb3.mono HB.out.size)).alloc (HB.out.trans (hb3.mono HB.out.size)).size (.cells #[.int .i64 0, .int .i64 0, .int .i64 0] 40)); clear hb3)
          | (go_at_call 19; refine (pbeat_nil _).mono ?_; rintro e wy ⟨rfl, hwy⟩; subst wy)
          | (go_at_call 20; refine (pwaits_nil _).mono ?_; rintro e wy ⟨rfl, hwy⟩; subst wy)
          | (go_at_call 21; refine (prests_nil _).mono ?_; rintro e wy ⟨rfl, hwy⟩; subst wy))
        go_ret
        exact ⟨rfl, HB.out⟩
  have hme : 0 ≤ a0 ∧ a0 ≤ 63 := by omega
  have k1 : decide (a0 < 0) = false := decide_eq_false (by omega)
  have k2 : decide (63 < a0) = false := decide_eq_false (by omega)
  have hnew := fun W => pnew_yes W a0 hme
  have HI0 := Lib.hid (PInv.new hme)
  have FM := Lib.hid fa0
  have HME := Lib.hid hme
  clear hbad w0 fa0 hme
  go_enter Try.func5, Try.ntmps5
  go_upto_region 14 with (first
    | (go_at_call 8; refine (alive_yes _).mono ?_; rintro e wx ⟨rfl, hb⟩; have HB := Lib.hid hb; clear hb)
    | (go_at_call 15; refine (hnew _).mono ?_; rintro e w1 ⟨rfl, hN, hb⟩; have HN := Lib.hid (⟨hN, HB.out.trans (hb.mono HB.out.size), HB.out.size⟩ : N1 w w1 wx.heap.size (newP a0)); clear hb hN hnew)
    | (go_at_call 16; refine (pboot_nil _).mono ?_; rintro e wy ⟨rfl, hwy⟩; subst wy)
    | (go_at_call 17; refine (pask_nil _ _ _).mono ?_; rintro e w2 ⟨rfl, hb2⟩; replace HN := Lib.hid ((HN.out.more hb2).alloc (.cells #[.int .i64 0, .int .i64 0, .int .i64 0] 36)); clear hb2)
    | (go_at_call 18; (with_reducible refine (hh0 _).mono ?_); rintro e w3 ⟨rfl, hb3⟩; replace HN := Lib.hid ((HN.out.more hb3).alloc (.cells #[.int .i64 0, .int .i64 0, .int .i64 0] 40)); clear hb3)
    | (go_at_call 19; refine (pbeat_nil _).mono ?_; rintro e wy ⟨rfl, hwy⟩; subst wy)
    | (go_at_call 20; refine (pwaits_nil _).mono ?_; rintro e wy ⟨rfl, hwy⟩; subst wy)
    | (go_at_call 21; refine (prests_nil _).mono ?_; rintro e wy ⟨rfl, hwy⟩; subst wy))
  obtain ⟨g, hg⟩ : ∃ g, wx.heap.size = g := ⟨_, rfl⟩
  rw [hg] at HN
  simp only [hg]
  obtain ⟨W3, hW3⟩ : ∃ U, U = w3.alloc (.cells #[.int .i64 0, .int .i64 0, .int .i64 0] 40) := ⟨_, rfl⟩
  rw [← hW3] at HN ⊢
  clear hg HB hW3 hh0
  go_wp2
  have HN2 := Lib.hid (N2.fresh HN.out a0)
  obtain ⟨gm0, hgm⟩ : ∃ x, W3.heap.size = x := ⟨_, rfl⟩
  rw [hgm] at HN2
  simp only [hgm]
  clear hgm HN
  go_loopw [12, 79] (fun mp i wr => ∃ (k gm : Nat) (p : PS), k ≤ n1 ∧ i = .int .i64 k ∧ mp = .pointer (some ⟨gm, 0, none⟩) ∧ PInv p ∧ p.me = a0 ∧ N2 w wr g gm p p) (fun _ i _ => n1 - (intOf i).toNat)
  case atStart => exact ⟨0, gm0, newP a0, Nat.zero_le _, rfl, rfl, HI0.out, rfl, HN2.out⟩
  case round =>
    obtain ⟨k, gm, p, hk, rfl, rfl, hi, hm, hN⟩ := hrel
    have HN := Lib.hid hN
    have HI := Lib.hid hi
    have HM := Lib.hid hm
    clear hN HN2 HI0
    by_cases hlt : k < n1
    · obtain ⟨b, off, rfl, hb', hc⟩ := (R.out.below HN.out.one.below).at 17 rfl hlt
      obtain ⟨s0, s1, s2, s3, s4, s5, s6, s7, s8, s9, s10, s11, s12, s13, s14, s15, s16, hf, hw0, hw1, hw2, hw3, hw4, hw5, hw6, hw7, hw8, hw9, hw10, hw11, hw12, hw13, hw14, hw15, hw16⟩ := cells1 (R.out.fit k hlt)
      have q0 : wr.cell? ⟨b, off + k * 17, none⟩ = some (.int .i64 s0) := hc 0 _ (by rw [hf]; rfl)
      have q1 : wr.cell? ⟨b, off + k * 17 + 1, none⟩ = some (.int .i64 s1) := hc 1 _ (by rw [hf]; rfl)
      have q2 : wr.cell? ⟨b, off + k * 17 + 2, none⟩ = some (.int .i64 s2) := hc 2 _ (by rw [hf]; rfl)
      have q3 : wr.cell? ⟨b, off + k * 17 + 3, none⟩ = some (.int .i64 s3) := hc 3 _ (by rw [hf]; rfl)
      have q4 : wr.cell? ⟨b, off + k * 17 + 4, none⟩ = some (.int .i64 s4) := hc 4 _ (by rw [hf]; rfl)
      have q5 : wr.cell? ⟨b, off + k * 17 + 5, none⟩ = some (.int .i64 s5) := hc 5 _ (by rw [hf]; rfl)
      have q6 : wr.cell? ⟨b, off + k * 17 + 6, none⟩ = some (.int .i64 s6) := hc 6 _ (by rw [hf]; rfl)
      have q7 : wr.cell? ⟨b, off + k * 17 + 7, none⟩ = some (.int .u16 s7) := hc 7 _ (by rw [hf]; rfl)
      have q8 : wr.cell? ⟨b, off + k * 17 + 8, none⟩ = some (.int .u16 s8) := hc 8 _ (by rw [hf]; rfl)
      have q9 : wr.cell? ⟨b, off + k * 17 + 9, none⟩ = some (.int .i64 s9) := hc 9 _ (by rw [hf]; rfl)
      have q10 : wr.cell? ⟨b, off + k * 17 + 10, none⟩ = some (.int .i64 s10) := hc 10 _ (by rw [hf]; rfl)
      have q11 : wr.cell? ⟨b, off + k * 17 + 11, none⟩ = some (.int .i64 s11) := hc 11 _ (by rw [hf]; rfl)
      have q12 : wr.cell? ⟨b, off + k * 17 + 12, none⟩ = some (.int .i64 s12) := hc 12 _ (by rw [hf]; rfl)
      have q13 : wr.cell? ⟨b, off + k * 17 + 13, none⟩ = some (.int .i64 s13) := hc 13 _ (by rw [hf]; rfl)
      have q14 : wr.cell? ⟨b, off + k * 17 + 14, none⟩ = some (.int .i64 s14) := hc 14 _ (by rw [hf]; rfl)
      have q15 : wr.cell? ⟨b, off + k * 17 + 15, none⟩ = some (.int .i64 s15) := hc 15 _ (by rw [hf]; rfl)
      have q16 : wr.cell? ⟨b, off + k * 17 + 16, none⟩ = some (.int .i64 s16) := hc 16 _ (by rw [hf]; rfl)
      have HF1 := Lib.hid (fits_wf hw1)
      have HF2 := Lib.hid (fits_wf hw2)
      have HF9 := Lib.hid (fits_wf hw9)
      have fm : Fits p.me := by rw [hm]; exact FM.out
      have HFM := Lib.hid fm
      have ek := IntWalk.i64_in ((k : Int) + 1) (by omega)
      have hdl : decide ((k : Int) < (n1 : Int)) = true := decide_eq_true (by omega)
      replace HN := Lib.hid (HN.out.alloc (.cells #[.int .i64 s0, .int .i64 s1, .int .i64 s2, .int .i64 s3, .int .i64 s4, .int .i64 s5, .int .i64 s6, .int .u16 s7, .int .u16 s8, .int .i64 s9, .int .i64 s10, .int .i64 s11, .int .i64 s12, .int .i64 s13, .int .i64 s14, .int .i64 s15, .int .i64 s16] 52))
      have HC := Lib.hid (Holds.new wr 52 #[.int .i64 s0, .int .i64 s1, .int .i64 s2, .int .i64 s3, .int .i64 s4, .int .i64 s5, .int .i64 s6, .int .u16 s7, .int .u16 s8, .int .i64 s9, .int .i64 s10, .int .i64 s11, .int .i64 s12, .int .i64 s13, .int .i64 s14, .int .i64 s15, .int .i64 s16])
      clear hc hf hw0 hw1 hw2 hw3 hw4 hw5 hw6 hw7 hw8 hw9 hw10 hw11 hw12 hw13 hw14 hw15 hw16 hi hm fm
      go_upto_region 18 with fail
      obtain ⟨xc, hxc⟩ : ∃ x, wr.heap.size = x := ⟨_, rfl⟩
      rw [hxc] at HC
      simp only [hxc]
      clear hxc
      obtain ⟨W1, hW1⟩ : ∃ U, U = wr.alloc (.cells #[.int .i64 s0, .int .i64 s1, .int .i64 s2, .int .i64 s3, .int .i64 s4, .int .i64 s5, .int .i64 s6, .int .u16 s7, .int .u16 s8, .int .i64 s9, .int .i64 s10, .int .i64 s11, .int .i64 s12, .int .i64 s13, .int .i64 s14, .int .i64 s15, .int .i64 s16] 52) := ⟨_, rfl⟩
      rw [← hW1] at HN HC ⊢
      clear hW1 q0 q1 q2 q3 q4 q5 q6 q7 q8 q9 q10 q11 q12 q13 q14 q15 q16
      have z0 := HC.out.cell 0
      have hkind : ((s0 == 0) = true ∨ (s0 == 0) = false ∧ (s0 == 1) = true) ∨ ((s0 == 0) = false ∧ (s0 == 1) = false ∧ (s0 == 2) = true ∨ (s0 == 0) = false ∧ (s0 == 1) = false ∧ (s0 == 2) = false ∧ (s0 == 3) = true) ∨
          ((s0 == 0) = false ∧ (s0 == 1) = false ∧ (s0 == 2) = false ∧ (s0 == 3) = false ∧ (s0 == 4) = true ∨ (s0 == 0) = false ∧ (s0 == 1) = false ∧ (s0 == 2) = false ∧ (s0 == 3) = false ∧ (s0 == 4) = false ∧ (s0 == 5) = true) ∨
          ((s0 == 0) = false ∧ (s0 == 1) = false ∧ (s0 == 2) = false ∧ (s0 == 3) = false ∧ (s0 == 4) = false ∧ (s0 == 5) = false ∧ (s0 == 6) = true) ∨
          ((s0 == 0) = false ∧ (s0 == 1) = false ∧ (s0 == 2) = false ∧ (s0 == 3) = false ∧ (s0 == 4) = false ∧ (s0 == 5) = false ∧ (s0 == 6) = false) := by
        by_cases e0 : s0 = 0
        · exact .inl (.inl (by simp [e0]))
        by_cases e1 : s0 = 1
        · exact .inl (.inr ⟨by simp [e0], by simp [e1]⟩)
        by_cases e2 : s0 = 2
        · exact .inr (.inl (.inl ⟨by simp [e0], by simp [e1], by simp [e2]⟩))
        by_cases e3 : s0 = 3
        · exact .inr (.inl (.inr ⟨by simp [e0], by simp [e1], by simp [e2], by simp [e3]⟩))
        by_cases e4 : s0 = 4
        · exact .inr (.inr (.inl (.inl ⟨by simp [e0], by simp [e1], by simp [e2], by simp [e3], by simp [e4]⟩)))
        by_cases e5 : s0 = 5
        · exact .inr (.inr (.inl (.inr ⟨by simp [e0], by simp [e1], by simp [e2], by simp [e3], by simp [e4], by simp [e5]⟩)))
        by_cases e6 : s0 = 6
        · exact .inr (.inr (.inr (.inl ⟨by simp [e0], by simp [e1], by simp [e2], by simp [e3], by simp [e4], by simp [e5], by simp [e6]⟩)))
        exact .inr (.inr (.inr (.inr ⟨by simp [e0], by simp [e1], by simp [e2], by simp [e3], by simp [e4], by simp [e5], by simp [e6]⟩)))
      rcases hkind with hA | hA | hA | hA | hA
      · as_aux_lemma =>
          obtain ⟨f0, f1, f2, K, O, hv, hvr, hK⟩ := ask_both p s1 s2
          have ha : ∀ W, Par W g p → Calls Try.prog 17 #[.pointer (some ⟨g, 0, none⟩), .int .i64 s1, .int .i64 s2] W fun e w' => e = .returned (.tuple #[.agg #[.int .i64 f0, .int .i64 f1, .int .i64 f2], .bool O]) ∧ PGoes g (askP p s1 s2) W w' := fun W h => by
            have := pask_any W g p h s1 s2 HFM.out HF1.out HF2.out
            rw [hv] at this
            exact this
          have hra : ∀ W, Dn W gm p → Calls Try.prog 22 #[.pointer (some ⟨gm, 0, none⟩), .int .i64 s1, .int .i64 s2] W fun e w' => e = .returned (.agg #[.int .i64 K, .int .i64 f0, .int .i64 f1, .int .i64 0, .int .u16 0, .int .u16 0, .int .i64 0, .int .i64 0, .int .i64 0, .int .i64 f2, .int .i64 0, .int .i64 0, .int .i64 0, .int .i64 0]) ∧ DGoes gm (askP p s1 s2) W w' := fun W h => by
            have := rask_any W gm p h HI.out s1 s2 HF1.out HF2.out
            rw [hvr] at this
            exact this
          have HI1 := Lib.hid (HI.out.ask s1 s2)
          have hm1 : (askP p s1 s2).me = a0 := by rw [askP_me]; exact HM.out
          obtain ⟨p1, hp1⟩ : ∃ p1, askP p s1 s2 = p1 := ⟨_, rfl⟩
          rw [hp1] at HI1 hm1
          simp only [hp1] at ha hra
          have HM1 := Lib.hid hm1
          have HA := Lib.hid ha
          have HRA := Lib.hid hra
          have hoo : (O != O) = false := by simp
          have hps := fun W => pulse_same f0 f1 f2 W
          have z1 := HC.out.cell 1
          have z2 := HC.out.cell 2
          clear hv hvr hp1 hm1 ha hra HI HM
          rcases hA with e0 | ⟨e0, e1⟩ <;>
          · as_aux_lemma =>
              have hc := HA.out _ HN.out.one.node
              go_upto_region 22 with (go_at_call 17; (with_reducible refine hc.mono ?_); rintro e w2 ⟨rfl, hg2⟩; replace HC := Lib.hid ((HC.out.chg hg2.2 (HC.out.apart HN.out.one.node (by decide))).alloc (.cells #[.int .i64 f0, .int .i64 f1, .int .i64 f2] 36)); replace HN := Lib.hid ((HN.out.next hg2).alloc (.cells #[.int .i64 f0, .int .i64 f1, .int .i64 f2] 36)); have HF := Lib.hid (Holds.new w2 36 #[.int .i64 f0, .int .i64 f1, .int .i64 f2]); clear hg2 hc HA z1 z2)
              obtain ⟨xf, hx⟩ : ∃ x, w2.heap.size = x := ⟨_, rfl⟩
              rw [hx] at HF
              simp only [hx]
              clear hx
              obtain ⟨W3, hU⟩ : ∃ U, U = w2.alloc (.cells #[.int .i64 f0, .int .i64 f1, .int .i64 f2] 36) := ⟨_, rfl⟩
              rw [← hU] at HN HC HF ⊢
              clear hU z0
              have z1 := HC.out.cell 1
              have z2 := HC.out.cell 2
              have hc := HRA.out _ HN.out.doc
              go_upto_region 23 with (go_at_call 22; (with_reducible refine hc.mono ?_); rintro e w4 ⟨rfl, hg4⟩; replace HF := Lib.hid ((HF.out.chg hg4.2 (fun e => HN.out.doc.apart HF.out (by decide) e.symm)).alloc (.cells #[.int .i64 K, .int .i64 f0, .int .i64 f1, .int .i64 0, .int .u16 0, .int .u16 0, .int .i64 0, .int .i64 0, .int .i64 0, .int .i64 f2, .int .i64 0, .int .i64 0, .int .i64 0, .int .i64 0] 50)); replace HN := Lib.hid ((HN.out.nextd hg4).alloc (.cells #[.int .i64 K, .int .i64 f0, .int .i64 f1, .int .i64 0, .int .u16 0, .int .u16 0, .int .i64 0, .int .i64 0, .int .i64 0, .int .i64 f2, .int .i64 0, .int .i64 0, .int .i64 0, .int .i64 0] 50)); have HG := Lib.hid (Holds.new w4 50 #[.int .i64 K, .int .i64 f0, .int .i64 f1, .int .i64 0, .int .u16 0, .int .u16 0, .int .i64 0, .int .i64 0, .int .i64 0, .int .i64 f2, .int .i64 0, .int .i64 0, .int .i64 0, .int .i64 0]); clear hg4 hc HRA z1 z2 HC)
              obtain ⟨xg, hx⟩ : ∃ x, w4.heap.size = x := ⟨_, rfl⟩
              rw [hx] at HG
              simp only [hx]
              clear hx
              obtain ⟨W7, hU⟩ : ∃ U, U = w4.alloc (.cells #[.int .i64 K, .int .i64 f0, .int .i64 f1, .int .i64 0, .int .u16 0, .int .u16 0, .int .i64 0, .int .i64 0, .int .i64 0, .int .i64 f2, .int .i64 0, .int .i64 0, .int .i64 0, .int .i64 0] 50) := ⟨_, rfl⟩
              rw [← hU] at HN HF HG ⊢
              clear hU
              have u0 := HF.out.cell 0
              have u1 := HF.out.cell 1
              have u2 := HF.out.cell 2
              have y0 := HG.out.cell 0
              have y1 := HG.out.cell 1
              have y2 := HG.out.cell 2
              have y9 := HG.out.cell 9
              go_upto_region 38 with fail
              clear u0 u1 u2 y0 y1 y2 y9 HF HG hps hK hoo e0
              have hwt := fun m => pwaits_any (W7.drewN m) g _ (HN.out.one.node.drewN m)
              have hrs := fun m => prests_any (W7.drewN m) g _ (HN.out.one.node.drewN m)
              obtain ⟨dt, ds, dn, hD, hDk⟩ := HN.out.doc
              have v3 : W7.cell? ⟨gm, 3, none⟩ = some (.bool p1.w) := hD.cell 3
              have v6 : W7.cell? ⟨gm, 6, none⟩ = some (.int .i64 p1.rests) := hD.cell 6
              have r1 : (p1.w != p1.w) = false := by simp
              have r2 : (p1.rests != p1.rests) = false := by simp
              clear hD hDk
              go_quiet (first
                | (go_at_call 20; refine (hwt _).mono ?_; rintro e wy ⟨rfl, rfl⟩; exact ⟨rfl, _, rfl⟩)
                | (go_at_call 21; refine (hrs _).mono ?_; rintro e wy ⟨rfl, rfl⟩; exact ⟨rfl, _, rfl⟩))
              go_wp2
              go_roundw
              case rel => exact ⟨k + 1, gm, p1, by omega, by go_num, rfl, HI1.out, HM1.out, HN.out.drewN _⟩
              case measure => simp [intOf]; omega
      · as_aux_lemma =>
          obtain ⟨x0, x1, x2, O, hv⟩ := hear_both p s4 s5 s12 s13 s14 s9 s2
          have ha : ∀ W, Par W g p → Calls Try.prog 18 #[.pointer (some ⟨g, 0, none⟩), .agg #[.int .i64 s4, .int .i64 s5, .int .i64 s12, .int .i64 s13, .int .i64 s14, .int .i64 s6, .int .u16 s7, .int .i64 s9], .int .i64 s2] W fun e w' => e = .returned (.tuple #[.agg #[.int .i64 x0, .int .i64 x1, .int .i64 x2], .bool O]) ∧ PGoes g (hearP p s4 s5 s12 s13 s14 s9 s2) W w' := fun W h => by
            have := phear_any W g p h s4 s5 s12 s13 s14 s6 s7 s9 s2 HF9.out
            rw [hv] at this
            exact this
          have hra : ∀ W, Dn W gm p → Calls Try.prog 24 #[.pointer (some ⟨gm, 0, none⟩), .agg #[.int .i64 s3, .int .i64 s4, .int .i64 s5, .int .i64 s6, .int .u16 s7, .int .u16 s8, .int .i64 s9, .int .i64 s10, .int .i64 s11, .int .i64 s12, .int .i64 s13, .int .i64 s14, .int .i64 s15, .int .i64 s16], .int .i64 s2] W fun e w' => e = .returned (.tuple #[.agg #[.int .i64 x0, .int .i64 x1, .int .i64 x2], .bool O]) ∧ DGoes gm (hearP p s4 s5 s12 s13 s14 s9 s2) W w' := fun W h => by
            have := rhear_any W gm p h s3 s4 s5 s6 s7 s8 s9 s10 s11 s12 s13 s14 s15 s16 s2
            rw [hv] at this
            exact this
          have HI1 := Lib.hid (HI.out.hear s4 s5 s12 s13 s14 s9 s2)
          have hm1 : (hearP p s4 s5 s12 s13 s14 s9 s2).me = a0 := by rw [hearP_me]; exact HM.out
          obtain ⟨p1, hp1⟩ : ∃ p1, hearP p s4 s5 s12 s13 s14 s9 s2 = p1 := ⟨_, rfl⟩
          rw [hp1] at HI1 hm1
          simp only [hp1] at ha hra
          have HM1 := Lib.hid hm1
          have HA := Lib.hid ha
          have HRA := Lib.hid hra
          have HREP := Lib.hid (fun W => reply_any s3 s4 s5 s6 s7 s8 s9 s10 s11 s12 s13 s14 s15 s16 W)
          have hoo : (O != O) = false := by simp
          have hes := fun W => entry_same x0 x1 x2 W
          clear hv hp1 hm1 ha hra HI HM
          rcases hA with ⟨e0, e1, e2⟩ | ⟨e0, e1, e2, e3⟩ <;>
          · as_aux_lemma =>
              go_upto_region 27 with fail
              clear z0 e0 e1 e2
              (try clear e3)
              replace HN : Hid (N2 w W1.drew g gm p p) := Lib.hid (HN.out.drewN 1)
              replace HC : Hid (Holds W1.drew xc 52 _) := Lib.hid (HC.out.drewN 1)
              have hsp : splice ([.int .i64 0, .int .i64 0, .int .i64 0] : List Value) 0 ([.int .i64 x0, .int .i64 x1, .int .i64 x2] : List Value) = [.int .i64 x0, .int .i64 x1, .int .i64 x2] := splice_all _ _ rfl
              refine region_turns (fun (w' : World) => w'.cell? ⟨xc, 2, none⟩ = some (.int .i64 s2) ∧ w'.cell? ⟨xc, 3, none⟩ = some (.int .i64 s3) ∧ w'.cell? ⟨xc, 4, none⟩ = some (.int .i64 s4) ∧ w'.cell? ⟨xc, 5, none⟩ = some (.int .i64 s5) ∧ w'.cell? ⟨xc, 6, none⟩ = some (.int .i64 s6) ∧ w'.cell? ⟨xc, 7, none⟩ = some (.int .u16 s7) ∧ w'.cell? ⟨xc, 8, none⟩ = some (.int .u16 s8) ∧ w'.cell? ⟨xc, 9, none⟩ = some (.int .i64 s9) ∧ w'.cell? ⟨xc, 10, none⟩ = some (.int .i64 s10) ∧ w'.cell? ⟨xc, 11, none⟩ = some (.int .i64 s11) ∧ w'.cell? ⟨xc, 12, none⟩ = some (.int .i64 s12) ∧ w'.cell? ⟨xc, 13, none⟩ = some (.int .i64 s13) ∧ w'.cell? ⟨xc, 14, none⟩ = some (.int .i64 s14) ∧ w'.cell? ⟨xc, 15, none⟩ = some (.int .i64 s15) ∧ w'.cell? ⟨xc, 16, none⟩ = some (.int .i64 s16)) (fun j => decide (13 ≤ j)) (by kernel_rfl) (⟨HC.out.cell 2, HC.out.cell 3, HC.out.cell 4, HC.out.cell 5, HC.out.cell 6, HC.out.cell 7, HC.out.cell 8, HC.out.cell 9, HC.out.cell 10, HC.out.cell 11, HC.out.cell 12, HC.out.cell 13, HC.out.cell 14, HC.out.cell 15, HC.out.cell 16⟩) (fun hS => ?_)
              refine Turns.take hS 0 _ rfl (by kernel_rfl) (by kernel_rfl) (by kernel_rfl) (by kernel_rfl) (fun _ _ _ h => h) (by rfl) (fun w' hS' => by (try dsimp only at hS'); go_split_ands; go_simp; (try with_reducible rfl)) ?_
              simp only [Act.put, List.getElem_toArray, List.getElem_cons_succ, List.getElem_cons_zero, List.setIfInBounds_toArray, List.set_cons_zero, List.set_cons_succ]
              refine Turns.take hS 1 _ rfl (by kernel_rfl) (by kernel_rfl) (by kernel_rfl) (by kernel_rfl) (fun _ _ _ h => h) (by rfl) (fun w' hS' => by (try dsimp only at hS'); go_split_ands; go_simp; (try with_reducible rfl)) ?_
              simp only [Act.put, List.getElem_toArray, List.getElem_cons_succ, List.getElem_cons_zero, List.setIfInBounds_toArray, List.set_cons_zero, List.set_cons_succ]
              refine Turns.take hS 2 _ rfl (by kernel_rfl) (by kernel_rfl) (by kernel_rfl) (by kernel_rfl) (fun _ _ _ h => h) (by rfl) (fun w' hS' => by (try dsimp only at hS'); go_split_ands; go_simp; (try with_reducible rfl)) ?_
              simp only [Act.put, List.getElem_toArray, List.getElem_cons_succ, List.getElem_cons_zero, List.setIfInBounds_toArray, List.set_cons_zero, List.set_cons_succ]
              refine Turns.take hS 4 _ rfl (by kernel_rfl) (by kernel_rfl) (by kernel_rfl) (by kernel_rfl) (fun _ _ _ h => h) (by rfl) (fun w' hS' => by (try dsimp only at hS'); go_split_ands; go_simp; (try with_reducible rfl)) ?_
              simp only [Act.put, List.getElem_toArray, List.getElem_cons_succ, List.getElem_cons_zero, List.setIfInBounds_toArray, List.set_cons_zero, List.set_cons_succ]
              refine Turns.take hS 5 _ rfl (by kernel_rfl) (by kernel_rfl) (by kernel_rfl) (by kernel_rfl) (fun _ _ _ h => h) (by rfl) (fun w' hS' => by (try dsimp only at hS'); go_split_ands; go_simp; (try with_reducible rfl)) ?_
              simp only [Act.put, List.getElem_toArray, List.getElem_cons_succ, List.getElem_cons_zero, List.setIfInBounds_toArray, List.set_cons_zero, List.set_cons_succ]
              refine Turns.either 3 10 rfl rfl (by kernel_rfl) (by rfl) (by rfl) (fun K hK => ?_) (fun K hK => ?_)
              · go_simp
                go_at_call 23
                (with_reducible refine (HREP.out _).mono ?_)
                rintro e w3 ⟨rfl, hb3⟩
                replace HN := Lib.hid (HN.out.more hb3)
                replace HC := Lib.hid (HC.out.below hb3 HC.out.lt)
                try replace HX := Lib.hid (HX.out.below hb3 HX.out.lt)
                clear hb3
                refine hK.out _ _ (show (fun (w' : World) => w'.cell? ⟨xc, 2, none⟩ = some (.int .i64 s2) ∧ w'.cell? ⟨xc, 3, none⟩ = some (.int .i64 s3) ∧ w'.cell? ⟨xc, 4, none⟩ = some (.int .i64 s4) ∧ w'.cell? ⟨xc, 5, none⟩ = some (.int .i64 s5) ∧ w'.cell? ⟨xc, 6, none⟩ = some (.int .i64 s6) ∧ w'.cell? ⟨xc, 7, none⟩ = some (.int .u16 s7) ∧ w'.cell? ⟨xc, 8, none⟩ = some (.int .u16 s8) ∧ w'.cell? ⟨xc, 9, none⟩ = some (.int .i64 s9) ∧ w'.cell? ⟨xc, 10, none⟩ = some (.int .i64 s10) ∧ w'.cell? ⟨xc, 11, none⟩ = some (.int .i64 s11) ∧ w'.cell? ⟨xc, 12, none⟩ = some (.int .i64 s12) ∧ w'.cell? ⟨xc, 13, none⟩ = some (.int .i64 s13) ∧ w'.cell? ⟨xc, 14, none⟩ = some (.int .i64 s14) ∧ w'.cell? ⟨xc, 15, none⟩ = some (.int .i64 s15) ∧ w'.cell? ⟨xc, 16, none⟩ = some (.int .i64 s16)) _ from ⟨HC.out.cell 2, HC.out.cell 3, HC.out.cell 4, HC.out.cell 5, HC.out.cell 6, HC.out.cell 7, HC.out.cell 8, HC.out.cell 9, HC.out.cell 10, HC.out.cell 11, HC.out.cell 12, HC.out.cell 13, HC.out.cell 14, HC.out.cell 15, HC.out.cell 16⟩) ?_
                clear hK K hS
                have hS := (show (fun (w' : World) => w'.cell? ⟨xc, 2, none⟩ = some (.int .i64 s2) ∧ w'.cell? ⟨xc, 3, none⟩ = some (.int .i64 s3) ∧ w'.cell? ⟨xc, 4, none⟩ = some (.int .i64 s4) ∧ w'.cell? ⟨xc, 5, none⟩ = some (.int .i64 s5) ∧ w'.cell? ⟨xc, 6, none⟩ = some (.int .i64 s6) ∧ w'.cell? ⟨xc, 7, none⟩ = some (.int .u16 s7) ∧ w'.cell? ⟨xc, 8, none⟩ = some (.int .u16 s8) ∧ w'.cell? ⟨xc, 9, none⟩ = some (.int .i64 s9) ∧ w'.cell? ⟨xc, 10, none⟩ = some (.int .i64 s10) ∧ w'.cell? ⟨xc, 11, none⟩ = some (.int .i64 s11) ∧ w'.cell? ⟨xc, 12, none⟩ = some (.int .i64 s12) ∧ w'.cell? ⟨xc, 13, none⟩ = some (.int .i64 s13) ∧ w'.cell? ⟨xc, 14, none⟩ = some (.int .i64 s14) ∧ w'.cell? ⟨xc, 15, none⟩ = some (.int .i64 s15) ∧ w'.cell? ⟨xc, 16, none⟩ = some (.int .i64 s16)) _ from ⟨HC.out.cell 2, HC.out.cell 3, HC.out.cell 4, HC.out.cell 5, HC.out.cell 6, HC.out.cell 7, HC.out.cell 8, HC.out.cell 9, HC.out.cell 10, HC.out.cell 11, HC.out.cell 12, HC.out.cell 13, HC.out.cell 14, HC.out.cell 15, HC.out.cell 16⟩)
                refine Turns.either 6 10 rfl rfl (by kernel_rfl) (by rfl) (by rfl) (fun K hK => ?_) (fun K hK => ?_)
                · go_simp
                  go_at_call 18
                  (with_reducible refine (HA.out _ HN.out.one.node).mono ?_)
                  rintro e w4 ⟨rfl, hg4⟩
                  replace HC := Lib.hid (HC.out.chg hg4.2 (HC.out.apart HN.out.one.node (by decide)))
                  try replace HX := Lib.hid (HX.out.chg hg4.2 (HX.out.apart HN.out.one.node (by decide)))
                  replace HN := Lib.hid (HN.out.next hg4)
                  clear hg4
                  refine hK.out _ _ (show (fun (w' : World) => w'.cell? ⟨xc, 2, none⟩ = some (.int .i64 s2) ∧ w'.cell? ⟨xc, 3, none⟩ = some (.int .i64 s3) ∧ w'.cell? ⟨xc, 4, none⟩ = some (.int .i64 s4) ∧ w'.cell? ⟨xc, 5, none⟩ = some (.int .i64 s5) ∧ w'.cell? ⟨xc, 6, none⟩ = some (.int .i64 s6) ∧ w'.cell? ⟨xc, 7, none⟩ = some (.int .u16 s7) ∧ w'.cell? ⟨xc, 8, none⟩ = some (.int .u16 s8) ∧ w'.cell? ⟨xc, 9, none⟩ = some (.int .i64 s9) ∧ w'.cell? ⟨xc, 10, none⟩ = some (.int .i64 s10) ∧ w'.cell? ⟨xc, 11, none⟩ = some (.int .i64 s11) ∧ w'.cell? ⟨xc, 12, none⟩ = some (.int .i64 s12) ∧ w'.cell? ⟨xc, 13, none⟩ = some (.int .i64 s13) ∧ w'.cell? ⟨xc, 14, none⟩ = some (.int .i64 s14) ∧ w'.cell? ⟨xc, 15, none⟩ = some (.int .i64 s15) ∧ w'.cell? ⟨xc, 16, none⟩ = some (.int .i64 s16)) _ from ⟨HC.out.cell 2, HC.out.cell 3, HC.out.cell 4, HC.out.cell 5, HC.out.cell 6, HC.out.cell 7, HC.out.cell 8, HC.out.cell 9, HC.out.cell 10, HC.out.cell 11, HC.out.cell 12, HC.out.cell 13, HC.out.cell 14, HC.out.cell 15, HC.out.cell 16⟩) ?_
                  clear hK K hS
                  have hS := (show (fun (w' : World) => w'.cell? ⟨xc, 2, none⟩ = some (.int .i64 s2) ∧ w'.cell? ⟨xc, 3, none⟩ = some (.int .i64 s3) ∧ w'.cell? ⟨xc, 4, none⟩ = some (.int .i64 s4) ∧ w'.cell? ⟨xc, 5, none⟩ = some (.int .i64 s5) ∧ w'.cell? ⟨xc, 6, none⟩ = some (.int .i64 s6) ∧ w'.cell? ⟨xc, 7, none⟩ = some (.int .u16 s7) ∧ w'.cell? ⟨xc, 8, none⟩ = some (.int .u16 s8) ∧ w'.cell? ⟨xc, 9, none⟩ = some (.int .i64 s9) ∧ w'.cell? ⟨xc, 10, none⟩ = some (.int .i64 s10) ∧ w'.cell? ⟨xc, 11, none⟩ = some (.int .i64 s11) ∧ w'.cell? ⟨xc, 12, none⟩ = some (.int .i64 s12) ∧ w'.cell? ⟨xc, 13, none⟩ = some (.int .i64 s13) ∧ w'.cell? ⟨xc, 14, none⟩ = some (.int .i64 s14) ∧ w'.cell? ⟨xc, 15, none⟩ = some (.int .i64 s15) ∧ w'.cell? ⟨xc, 16, none⟩ = some (.int .i64 s16)) _ from ⟨HC.out.cell 2, HC.out.cell 3, HC.out.cell 4, HC.out.cell 5, HC.out.cell 6, HC.out.cell 7, HC.out.cell 8, HC.out.cell 9, HC.out.cell 10, HC.out.cell 11, HC.out.cell 12, HC.out.cell 13, HC.out.cell 14, HC.out.cell 15, HC.out.cell 16⟩)
                  refine Turns.take hS 7 _ rfl (by kernel_rfl) (by kernel_rfl) (by kernel_rfl) (by kernel_rfl) (fun _ _ _ h => h) (by rfl) (fun w' hS' => by (try dsimp only at hS'); go_split_ands; go_simp; (try with_reducible rfl)) ?_
                  simp only [Act.put, List.getElem_toArray, List.getElem_cons_succ, List.getElem_cons_zero, List.setIfInBounds_toArray, List.set_cons_zero, List.set_cons_succ]
                  refine Turns.take hS 8 _ rfl (by kernel_rfl) (by kernel_rfl) (by kernel_rfl) (by kernel_rfl) (fun _ _ _ h => h) (by rfl) (fun w' hS' => by (try dsimp only at hS'); go_split_ands; go_simp; (try with_reducible rfl)) ?_
                  simp only [Act.put, List.getElem_toArray, List.getElem_cons_succ, List.getElem_cons_zero, List.setIfInBounds_toArray, List.set_cons_zero, List.set_cons_succ]
                  refine Turns.take hS 9 _ rfl (by kernel_rfl) (by kernel_rfl) (by kernel_rfl) (by kernel_rfl) (fun _ _ _ h => h) (by rfl) (fun w' hS' => by (try dsimp only at hS'); go_split_ands; go_simp; (try with_reducible rfl)) ?_
                  simp only [Act.put, List.getElem_toArray, List.getElem_cons_succ, List.getElem_cons_zero, List.setIfInBounds_toArray, List.set_cons_zero, List.set_cons_succ]
                  refine Turns.next 10 rfl (by kernel_rfl) (by rfl) (fun K hK => ?_)
                  go_simp
                  have hxn : w.heap.size ≤ w4.heap.size := HN.out.one.below.size
                  have he := Holds.new w4 40 #[.int .i64 0, .int .i64 0, .int .i64 0]
                  replace HN : Hid (N2 w (w4.alloc (.cells #[.int .i64 0, .int .i64 0, .int .i64 0] 40)) g gm _ p) := Lib.hid (HN.out.alloc (.cells #[.int .i64 0, .int .i64 0, .int .i64 0] 40))
                  replace HC : Hid (Holds (w4.alloc (.cells #[.int .i64 0, .int .i64 0, .int .i64 0] 40)) xc 52 _) := Lib.hid (HC.out.alloc (.cells #[.int .i64 0, .int .i64 0, .int .i64 0] 40))
                  have HX : Hid (Holds (w4.alloc (.cells #[.int .i64 0, .int .i64 0, .int .i64 0] 40)) w4.heap.size 40 _) := Lib.hid he
                  obtain ⟨xe, hxe⟩ : ∃ x, w4.heap.size = x := ⟨_, rfl⟩
                  rw [hxe] at HX hxn
                  simp only [hxe]
                  obtain ⟨U, hU⟩ : ∃ U, U = (w4.alloc (.cells #[.int .i64 0, .int .i64 0, .int .i64 0] 40)) := ⟨_, rfl⟩
                  rw [← hU] at HN HC HX ⊢
                  have HXN := Lib.hid hxn
                  clear hxe hU he hxn
                  refine hK.out _ _ (show (fun (w' : World) => w'.cell? ⟨xc, 2, none⟩ = some (.int .i64 s2) ∧ w'.cell? ⟨xc, 3, none⟩ = some (.int .i64 s3) ∧ w'.cell? ⟨xc, 4, none⟩ = some (.int .i64 s4) ∧ w'.cell? ⟨xc, 5, none⟩ = some (.int .i64 s5) ∧ w'.cell? ⟨xc, 6, none⟩ = some (.int .i64 s6) ∧ w'.cell? ⟨xc, 7, none⟩ = some (.int .u16 s7) ∧ w'.cell? ⟨xc, 8, none⟩ = some (.int .u16 s8) ∧ w'.cell? ⟨xc, 9, none⟩ = some (.int .i64 s9) ∧ w'.cell? ⟨xc, 10, none⟩ = some (.int .i64 s10) ∧ w'.cell? ⟨xc, 11, none⟩ = some (.int .i64 s11) ∧ w'.cell? ⟨xc, 12, none⟩ = some (.int .i64 s12) ∧ w'.cell? ⟨xc, 13, none⟩ = some (.int .i64 s13) ∧ w'.cell? ⟨xc, 14, none⟩ = some (.int .i64 s14) ∧ w'.cell? ⟨xc, 15, none⟩ = some (.int .i64 s15) ∧ w'.cell? ⟨xc, 16, none⟩ = some (.int .i64 s16)) _ from ⟨HC.out.cell 2, HC.out.cell 3, HC.out.cell 4, HC.out.cell 5, HC.out.cell 6, HC.out.cell 7, HC.out.cell 8, HC.out.cell 9, HC.out.cell 10, HC.out.cell 11, HC.out.cell 12, HC.out.cell 13, HC.out.cell 14, HC.out.cell 15, HC.out.cell 16⟩) ?_
                  clear hK K hS
                  have hS := (show (fun (w' : World) => w'.cell? ⟨xc, 2, none⟩ = some (.int .i64 s2) ∧ w'.cell? ⟨xc, 3, none⟩ = some (.int .i64 s3) ∧ w'.cell? ⟨xc, 4, none⟩ = some (.int .i64 s4) ∧ w'.cell? ⟨xc, 5, none⟩ = some (.int .i64 s5) ∧ w'.cell? ⟨xc, 6, none⟩ = some (.int .i64 s6) ∧ w'.cell? ⟨xc, 7, none⟩ = some (.int .u16 s7) ∧ w'.cell? ⟨xc, 8, none⟩ = some (.int .u16 s8) ∧ w'.cell? ⟨xc, 9, none⟩ = some (.int .i64 s9) ∧ w'.cell? ⟨xc, 10, none⟩ = some (.int .i64 s10) ∧ w'.cell? ⟨xc, 11, none⟩ = some (.int .i64 s11) ∧ w'.cell? ⟨xc, 12, none⟩ = some (.int .i64 s12) ∧ w'.cell? ⟨xc, 13, none⟩ = some (.int .i64 s13) ∧ w'.cell? ⟨xc, 14, none⟩ = some (.int .i64 s14) ∧ w'.cell? ⟨xc, 15, none⟩ = some (.int .i64 s15) ∧ w'.cell? ⟨xc, 16, none⟩ = some (.int .i64 s16)) _ from ⟨HC.out.cell 2, HC.out.cell 3, HC.out.cell 4, HC.out.cell 5, HC.out.cell 6, HC.out.cell 7, HC.out.cell 8, HC.out.cell 9, HC.out.cell 10, HC.out.cell 11, HC.out.cell 12, HC.out.cell 13, HC.out.cell 14, HC.out.cell 15, HC.out.cell 16⟩)
                  refine Turns.next 11 rfl (by kernel_rfl) (by rfl) (fun K hK => ?_)
                  simp only [List.getElem_toArray, List.getElem_cons_succ, List.getElem_cons_zero]
                  refine wp_store_at 40 (.tmp 18) (.tmp 130) rfl xe 0 [.int .i64 x0, .int .i64 x1, .int .i64 x2] ?hs ?hx 40 [.int .i64 0, .int .i64 0, .int .i64 0] HX.out (by kernel_rfl) (Nat.le_refl 3) (one_ints3 _ _ _) ?_
                  case hs => first | rfl | simp [Act.eval, Act.put]
                  case hx => first | rfl | simp [Act.eval, Act.put]
                  rw [hsp]
                  have nx : xe ≠ g ∧ xe ≠ gm ∧ xe ≠ xc := ⟨HX.out.apart HN.out.one.node (by decide), fun e => HN.out.doc.apart HX.out (by decide) e.symm, HX.out.apart HC.out (by decide)⟩
                  replace HN := Lib.hid (HN.out.row xe [.int .i64 x0, .int .i64 x1, .int .i64 x2] nx.1 nx.2.1 HXN.out)
                  replace HC := Lib.hid (HC.out.grown (grown_row _ xe [.int .i64 x0, .int .i64 x1, .int .i64 x2].toArray) (fun e => nx.2.2 (Option.some.inj e).symm))
                  replace HX := Lib.hid (HX.out.row [.int .i64 x0, .int .i64 x1, .int .i64 x2].toArray)
                  obtain ⟨W5, hW5⟩ : ∃ X5, X5 = U.setRow xe [.int .i64 x0, .int .i64 x1, .int .i64 x2].toArray := ⟨_, rfl⟩
                  rw [← hW5] at HN HC HX ⊢
                  clear hW5 nx
                  refine hK.out _ _ (show (fun (w' : World) => w'.cell? ⟨xc, 2, none⟩ = some (.int .i64 s2) ∧ w'.cell? ⟨xc, 3, none⟩ = some (.int .i64 s3) ∧ w'.cell? ⟨xc, 4, none⟩ = some (.int .i64 s4) ∧ w'.cell? ⟨xc, 5, none⟩ = some (.int .i64 s5) ∧ w'.cell? ⟨xc, 6, none⟩ = some (.int .i64 s6) ∧ w'.cell? ⟨xc, 7, none⟩ = some (.int .u16 s7) ∧ w'.cell? ⟨xc, 8, none⟩ = some (.int .u16 s8) ∧ w'.cell? ⟨xc, 9, none⟩ = some (.int .i64 s9) ∧ w'.cell? ⟨xc, 10, none⟩ = some (.int .i64 s10) ∧ w'.cell? ⟨xc, 11, none⟩ = some (.int .i64 s11) ∧ w'.cell? ⟨xc, 12, none⟩ = some (.int .i64 s12) ∧ w'.cell? ⟨xc, 13, none⟩ = some (.int .i64 s13) ∧ w'.cell? ⟨xc, 14, none⟩ = some (.int .i64 s14) ∧ w'.cell? ⟨xc, 15, none⟩ = some (.int .i64 s15) ∧ w'.cell? ⟨xc, 16, none⟩ = some (.int .i64 s16)) _ from ⟨HC.out.cell 2, HC.out.cell 3, HC.out.cell 4, HC.out.cell 5, HC.out.cell 6, HC.out.cell 7, HC.out.cell 8, HC.out.cell 9, HC.out.cell 10, HC.out.cell 11, HC.out.cell 12, HC.out.cell 13, HC.out.cell 14, HC.out.cell 15, HC.out.cell 16⟩) ?_
                  clear hK K hS
                  have hS := (show (fun (w' : World) => w'.cell? ⟨xc, 2, none⟩ = some (.int .i64 s2) ∧ w'.cell? ⟨xc, 3, none⟩ = some (.int .i64 s3) ∧ w'.cell? ⟨xc, 4, none⟩ = some (.int .i64 s4) ∧ w'.cell? ⟨xc, 5, none⟩ = some (.int .i64 s5) ∧ w'.cell? ⟨xc, 6, none⟩ = some (.int .i64 s6) ∧ w'.cell? ⟨xc, 7, none⟩ = some (.int .u16 s7) ∧ w'.cell? ⟨xc, 8, none⟩ = some (.int .u16 s8) ∧ w'.cell? ⟨xc, 9, none⟩ = some (.int .i64 s9) ∧ w'.cell? ⟨xc, 10, none⟩ = some (.int .i64 s10) ∧ w'.cell? ⟨xc, 11, none⟩ = some (.int .i64 s11) ∧ w'.cell? ⟨xc, 12, none⟩ = some (.int .i64 s12) ∧ w'.cell? ⟨xc, 13, none⟩ = some (.int .i64 s13) ∧ w'.cell? ⟨xc, 14, none⟩ = some (.int .i64 s14) ∧ w'.cell? ⟨xc, 15, none⟩ = some (.int .i64 s15) ∧ w'.cell? ⟨xc, 16, none⟩ = some (.int .i64 s16)) _ from ⟨HC.out.cell 2, HC.out.cell 3, HC.out.cell 4, HC.out.cell 5, HC.out.cell 6, HC.out.cell 7, HC.out.cell 8, HC.out.cell 9, HC.out.cell 10, HC.out.cell 11, HC.out.cell 12, HC.out.cell 13, HC.out.cell 14, HC.out.cell 15, HC.out.cell 16⟩)
                  refine Turns.take hS 12 _ rfl (by kernel_rfl) (by kernel_rfl) (by kernel_rfl) (by kernel_rfl) (fun _ _ _ h => h) (by rfl) (fun w' hS' => by (try dsimp only at hS'); go_split_ands; go_simp; (try with_reducible rfl)) ?_
                  simp only [Act.put, List.getElem_toArray, List.getElem_cons_succ, List.getElem_cons_zero, List.setIfInBounds_toArray, List.set_cons_zero, List.set_cons_succ]
                  refine Turns.rest (late_done (by kernel_rfl)) ?_
                  refine any_tail 13 (by rfl) (by kernel_rfl) ?_
                  simp only [List.drop_succ_cons, List.drop_zero]
                  clear hS
                  clear hsp
                  have z2 := HC.out.cell 2
                  have z3 := HC.out.cell 3
                  have z4 := HC.out.cell 4
                  have z5 := HC.out.cell 5
                  have z6 := HC.out.cell 6
                  have z7 := HC.out.cell 7
                  have z8 := HC.out.cell 8
                  have z9 := HC.out.cell 9
                  have z10 := HC.out.cell 10
                  have z11 := HC.out.cell 11
                  have z12 := HC.out.cell 12
                  have z13 := HC.out.cell 13
                  have z14 := HC.out.cell 14
                  have z15 := HC.out.cell 15
                  have z16 := HC.out.cell 16
                  have hc := HRA.out _ HN.out.doc
                  go_upto_region 29 with (go_at_call 24; (with_reducible refine hc.mono ?_); rintro e w6 ⟨rfl, hg6⟩; replace HX := Lib.hid ((HX.out.chg hg6.2 (fun e => HN.out.doc.apart HX.out (by decide) e.symm)).alloc (.cells #[.int .i64 x0, .int .i64 x1, .int .i64 x2] 55)); replace HN := Lib.hid ((HN.out.nextd hg6).alloc (.cells #[.int .i64 x0, .int .i64 x1, .int .i64 x2] 55)); have HY := Lib.hid (Holds.new w6 55 #[.int .i64 x0, .int .i64 x1, .int .i64 x2]); clear hg6 hc HRA z2 z3 z4 z5 z6 z7 z8 z9 z10 z11 z12 z13 z14 z15 z16 HC)
                  obtain ⟨xy, hx⟩ : ∃ x, w6.heap.size = x := ⟨_, rfl⟩
                  rw [hx] at HY
                  simp only [hx]
                  clear hx
                  obtain ⟨W7, hU⟩ : ∃ U, U = w6.alloc (.cells #[.int .i64 x0, .int .i64 x1, .int .i64 x2] 55) := ⟨_, rfl⟩
                  rw [← hU] at HN HX HY ⊢
                  clear hU
                  have u0 := HX.out.cell 0
                  have u1 := HX.out.cell 1
                  have u2 := HX.out.cell 2
                  have y0 := HY.out.cell 0
                  have y1 := HY.out.cell 1
                  have y2 := HY.out.cell 2
                  go_upto_region 38 with fail
                  clear u0 u1 u2 y0 y1 y2 HX HY hes hoo
                  have hwt := fun m => pwaits_any (W7.drewN m) g _ (HN.out.one.node.drewN m)
                  have hrs := fun m => prests_any (W7.drewN m) g _ (HN.out.one.node.drewN m)
                  obtain ⟨dt, ds, dn, hD, hDk⟩ := HN.out.doc
                  have v3 : W7.cell? ⟨gm, 3, none⟩ = some (.bool p1.w) := hD.cell 3
                  have v6 : W7.cell? ⟨gm, 6, none⟩ = some (.int .i64 p1.rests) := hD.cell 6
                  have r1 : (p1.w != p1.w) = false := by simp
                  have r2 : (p1.rests != p1.rests) = false := by simp
                  clear hD hDk
                  go_quiet (first
                    | (go_at_call 20; refine (hwt _).mono ?_; rintro e wy ⟨rfl, rfl⟩; exact ⟨rfl, _, rfl⟩)
                    | (go_at_call 21; refine (hrs _).mono ?_; rintro e wy ⟨rfl, rfl⟩; exact ⟨rfl, _, rfl⟩))
                  go_wp2
                  go_roundw
                  case rel => exact ⟨k + 1, gm, p1, by omega, by go_num, rfl, HI1.out, HM1.out, HN.out.drewN _⟩
                  case measure => simp [intOf]; omega
                · go_simp
                  have hxn : w.heap.size ≤ w3.heap.size := HN.out.one.below.size
                  have he := Holds.new w3 40 #[.int .i64 0, .int .i64 0, .int .i64 0]
                  replace HN : Hid (N2 w (w3.alloc (.cells #[.int .i64 0, .int .i64 0, .int .i64 0] 40)) g gm _ p) := Lib.hid (HN.out.alloc (.cells #[.int .i64 0, .int .i64 0, .int .i64 0] 40))
                  replace HC : Hid (Holds (w3.alloc (.cells #[.int .i64 0, .int .i64 0, .int .i64 0] 40)) xc 52 _) := Lib.hid (HC.out.alloc (.cells #[.int .i64 0, .int .i64 0, .int .i64 0] 40))
                  have HX : Hid (Holds (w3.alloc (.cells #[.int .i64 0, .int .i64 0, .int .i64 0] 40)) w3.heap.size 40 _) := Lib.hid he
                  obtain ⟨xe, hxe⟩ : ∃ x, w3.heap.size = x := ⟨_, rfl⟩
                  rw [hxe] at HX hxn
                  simp only [hxe]
                  obtain ⟨U, hU⟩ : ∃ U, U = (w3.alloc (.cells #[.int .i64 0, .int .i64 0, .int .i64 0] 40)) := ⟨_, rfl⟩
                  rw [← hU] at HN HC HX ⊢
                  have HXN := Lib.hid hxn
                  clear hxe hU he hxn
                  refine hK.out _ _ (show (fun (w' : World) => w'.cell? ⟨xc, 2, none⟩ = some (.int .i64 s2) ∧ w'.cell? ⟨xc, 3, none⟩ = some (.int .i64 s3) ∧ w'.cell? ⟨xc, 4, none⟩ = some (.int .i64 s4) ∧ w'.cell? ⟨xc, 5, none⟩ = some (.int .i64 s5) ∧ w'.cell? ⟨xc, 6, none⟩ = some (.int .i64 s6) ∧ w'.cell? ⟨xc, 7, none⟩ = some (.int .u16 s7) ∧ w'.cell? ⟨xc, 8, none⟩ = some (.int .u16 s8) ∧ w'.cell? ⟨xc, 9, none⟩ = some (.int .i64 s9) ∧ w'.cell? ⟨xc, 10, none⟩ = some (.int .i64 s10) ∧ w'.cell? ⟨xc, 11, none⟩ = some (.int .i64 s11) ∧ w'.cell? ⟨xc, 12, none⟩ = some (.int .i64 s12) ∧ w'.cell? ⟨xc, 13, none⟩ = some (.int .i64 s13) ∧ w'.cell? ⟨xc, 14, none⟩ = some (.int .i64 s14) ∧ w'.cell? ⟨xc, 15, none⟩ = some (.int .i64 s15) ∧ w'.cell? ⟨xc, 16, none⟩ = some (.int .i64 s16)) _ from ⟨HC.out.cell 2, HC.out.cell 3, HC.out.cell 4, HC.out.cell 5, HC.out.cell 6, HC.out.cell 7, HC.out.cell 8, HC.out.cell 9, HC.out.cell 10, HC.out.cell 11, HC.out.cell 12, HC.out.cell 13, HC.out.cell 14, HC.out.cell 15, HC.out.cell 16⟩) ?_
                  clear hK K hS
                  have hS := (show (fun (w' : World) => w'.cell? ⟨xc, 2, none⟩ = some (.int .i64 s2) ∧ w'.cell? ⟨xc, 3, none⟩ = some (.int .i64 s3) ∧ w'.cell? ⟨xc, 4, none⟩ = some (.int .i64 s4) ∧ w'.cell? ⟨xc, 5, none⟩ = some (.int .i64 s5) ∧ w'.cell? ⟨xc, 6, none⟩ = some (.int .i64 s6) ∧ w'.cell? ⟨xc, 7, none⟩ = some (.int .u16 s7) ∧ w'.cell? ⟨xc, 8, none⟩ = some (.int .u16 s8) ∧ w'.cell? ⟨xc, 9, none⟩ = some (.int .i64 s9) ∧ w'.cell? ⟨xc, 10, none⟩ = some (.int .i64 s10) ∧ w'.cell? ⟨xc, 11, none⟩ = some (.int .i64 s11) ∧ w'.cell? ⟨xc, 12, none⟩ = some (.int .i64 s12) ∧ w'.cell? ⟨xc, 13, none⟩ = some (.int .i64 s13) ∧ w'.cell? ⟨xc, 14, none⟩ = some (.int .i64 s14) ∧ w'.cell? ⟨xc, 15, none⟩ = some (.int .i64 s15) ∧ w'.cell? ⟨xc, 16, none⟩ = some (.int .i64 s16)) _ from ⟨HC.out.cell 2, HC.out.cell 3, HC.out.cell 4, HC.out.cell 5, HC.out.cell 6, HC.out.cell 7, HC.out.cell 8, HC.out.cell 9, HC.out.cell 10, HC.out.cell 11, HC.out.cell 12, HC.out.cell 13, HC.out.cell 14, HC.out.cell 15, HC.out.cell 16⟩)
                  refine Turns.next 6 rfl (by kernel_rfl) (by rfl) (fun K hK => ?_)
                  go_simp
                  go_at_call 18
                  (with_reducible refine (HA.out _ HN.out.one.node).mono ?_)
                  rintro e w4 ⟨rfl, hg4⟩
                  replace HC := Lib.hid (HC.out.chg hg4.2 (HC.out.apart HN.out.one.node (by decide)))
                  try replace HX := Lib.hid (HX.out.chg hg4.2 (HX.out.apart HN.out.one.node (by decide)))
                  replace HN := Lib.hid (HN.out.next hg4)
                  clear hg4
                  refine hK.out _ _ (show (fun (w' : World) => w'.cell? ⟨xc, 2, none⟩ = some (.int .i64 s2) ∧ w'.cell? ⟨xc, 3, none⟩ = some (.int .i64 s3) ∧ w'.cell? ⟨xc, 4, none⟩ = some (.int .i64 s4) ∧ w'.cell? ⟨xc, 5, none⟩ = some (.int .i64 s5) ∧ w'.cell? ⟨xc, 6, none⟩ = some (.int .i64 s6) ∧ w'.cell? ⟨xc, 7, none⟩ = some (.int .u16 s7) ∧ w'.cell? ⟨xc, 8, none⟩ = some (.int .u16 s8) ∧ w'.cell? ⟨xc, 9, none⟩ = some (.int .i64 s9) ∧ w'.cell? ⟨xc, 10, none⟩ = some (.int .i64 s10) ∧ w'.cell? ⟨xc, 11, none⟩ = some (.int .i64 s11) ∧ w'.cell? ⟨xc, 12, none⟩ = some (.int .i64 s12) ∧ w'.cell? ⟨xc, 13, none⟩ = some (.int .i64 s13) ∧ w'.cell? ⟨xc, 14, none⟩ = some (.int .i64 s14) ∧ w'.cell? ⟨xc, 15, none⟩ = some (.int .i64 s15) ∧ w'.cell? ⟨xc, 16, none⟩ = some (.int .i64 s16)) _ from ⟨HC.out.cell 2, HC.out.cell 3, HC.out.cell 4, HC.out.cell 5, HC.out.cell 6, HC.out.cell 7, HC.out.cell 8, HC.out.cell 9, HC.out.cell 10, HC.out.cell 11, HC.out.cell 12, HC.out.cell 13, HC.out.cell 14, HC.out.cell 15, HC.out.cell 16⟩) ?_
                  clear hK K hS
                  have hS := (show (fun (w' : World) => w'.cell? ⟨xc, 2, none⟩ = some (.int .i64 s2) ∧ w'.cell? ⟨xc, 3, none⟩ = some (.int .i64 s3) ∧ w'.cell? ⟨xc, 4, none⟩ = some (.int .i64 s4) ∧ w'.cell? ⟨xc, 5, none⟩ = some (.int .i64 s5) ∧ w'.cell? ⟨xc, 6, none⟩ = some (.int .i64 s6) ∧ w'.cell? ⟨xc, 7, none⟩ = some (.int .u16 s7) ∧ w'.cell? ⟨xc, 8, none⟩ = some (.int .u16 s8) ∧ w'.cell? ⟨xc, 9, none⟩ = some (.int .i64 s9) ∧ w'.cell? ⟨xc, 10, none⟩ = some (.int .i64 s10) ∧ w'.cell? ⟨xc, 11, none⟩ = some (.int .i64 s11) ∧ w'.cell? ⟨xc, 12, none⟩ = some (.int .i64 s12) ∧ w'.cell? ⟨xc, 13, none⟩ = some (.int .i64 s13) ∧ w'.cell? ⟨xc, 14, none⟩ = some (.int .i64 s14) ∧ w'.cell? ⟨xc, 15, none⟩ = some (.int .i64 s15) ∧ w'.cell? ⟨xc, 16, none⟩ = some (.int .i64 s16)) _ from ⟨HC.out.cell 2, HC.out.cell 3, HC.out.cell 4, HC.out.cell 5, HC.out.cell 6, HC.out.cell 7, HC.out.cell 8, HC.out.cell 9, HC.out.cell 10, HC.out.cell 11, HC.out.cell 12, HC.out.cell 13, HC.out.cell 14, HC.out.cell 15, HC.out.cell 16⟩)
                  refine Turns.take hS 7 _ rfl (by kernel_rfl) (by kernel_rfl) (by kernel_rfl) (by kernel_rfl) (fun _ _ _ h => h) (by rfl) (fun w' hS' => by (try dsimp only at hS'); go_split_ands; go_simp; (try with_reducible rfl)) ?_
                  simp only [Act.put, List.getElem_toArray, List.getElem_cons_succ, List.getElem_cons_zero, List.setIfInBounds_toArray, List.set_cons_zero, List.set_cons_succ]
                  refine Turns.take hS 8 _ rfl (by kernel_rfl) (by kernel_rfl) (by kernel_rfl) (by kernel_rfl) (fun _ _ _ h => h) (by rfl) (fun w' hS' => by (try dsimp only at hS'); go_split_ands; go_simp; (try with_reducible rfl)) ?_
                  simp only [Act.put, List.getElem_toArray, List.getElem_cons_succ, List.getElem_cons_zero, List.setIfInBounds_toArray, List.set_cons_zero, List.set_cons_succ]
                  refine Turns.take hS 9 _ rfl (by kernel_rfl) (by kernel_rfl) (by kernel_rfl) (by kernel_rfl) (fun _ _ _ h => h) (by rfl) (fun w' hS' => by (try dsimp only at hS'); go_split_ands; go_simp; (try with_reducible rfl)) ?_
                  simp only [Act.put, List.getElem_toArray, List.getElem_cons_succ, List.getElem_cons_zero, List.setIfInBounds_toArray, List.set_cons_zero, List.set_cons_succ]
                  refine Turns.next 11 rfl (by kernel_rfl) (by rfl) (fun K hK => ?_)
                  simp only [List.getElem_toArray, List.getElem_cons_succ, List.getElem_cons_zero]
                  refine wp_store_at 40 (.tmp 18) (.tmp 130) rfl xe 0 [.int .i64 x0, .int .i64 x1, .int .i64 x2] ?hs ?hx 40 [.int .i64 0, .int .i64 0, .int .i64 0] HX.out (by kernel_rfl) (Nat.le_refl 3) (one_ints3 _ _ _) ?_
                  case hs => first | rfl | simp [Act.eval, Act.put]
                  case hx => first | rfl | simp [Act.eval, Act.put]
                  rw [hsp]
                  have nx : xe ≠ g ∧ xe ≠ gm ∧ xe ≠ xc := ⟨HX.out.apart HN.out.one.node (by decide), fun e => HN.out.doc.apart HX.out (by decide) e.symm, HX.out.apart HC.out (by decide)⟩
                  replace HN := Lib.hid (HN.out.row xe [.int .i64 x0, .int .i64 x1, .int .i64 x2] nx.1 nx.2.1 HXN.out)
                  replace HC := Lib.hid (HC.out.grown (grown_row _ xe [.int .i64 x0, .int .i64 x1, .int .i64 x2].toArray) (fun e => nx.2.2 (Option.some.inj e).symm))
                  replace HX := Lib.hid (HX.out.row [.int .i64 x0, .int .i64 x1, .int .i64 x2].toArray)
                  obtain ⟨W5, hW5⟩ : ∃ X5, X5 = w4.setRow xe [.int .i64 x0, .int .i64 x1, .int .i64 x2].toArray := ⟨_, rfl⟩
                  rw [← hW5] at HN HC HX ⊢
                  clear hW5 nx
                  refine hK.out _ _ (show (fun (w' : World) => w'.cell? ⟨xc, 2, none⟩ = some (.int .i64 s2) ∧ w'.cell? ⟨xc, 3, none⟩ = some (.int .i64 s3) ∧ w'.cell? ⟨xc, 4, none⟩ = some (.int .i64 s4) ∧ w'.cell? ⟨xc, 5, none⟩ = some (.int .i64 s5) ∧ w'.cell? ⟨xc, 6, none⟩ = some (.int .i64 s6) ∧ w'.cell? ⟨xc, 7, none⟩ = some (.int .u16 s7) ∧ w'.cell? ⟨xc, 8, none⟩ = some (.int .u16 s8) ∧ w'.cell? ⟨xc, 9, none⟩ = some (.int .i64 s9) ∧ w'.cell? ⟨xc, 10, none⟩ = some (.int .i64 s10) ∧ w'.cell? ⟨xc, 11, none⟩ = some (.int .i64 s11) ∧ w'.cell? ⟨xc, 12, none⟩ = some (.int .i64 s12) ∧ w'.cell? ⟨xc, 13, none⟩ = some (.int .i64 s13) ∧ w'.cell? ⟨xc, 14, none⟩ = some (.int .i64 s14) ∧ w'.cell? ⟨xc, 15, none⟩ = some (.int .i64 s15) ∧ w'.cell? ⟨xc, 16, none⟩ = some (.int .i64 s16)) _ from ⟨HC.out.cell 2, HC.out.cell 3, HC.out.cell 4, HC.out.cell 5, HC.out.cell 6, HC.out.cell 7, HC.out.cell 8, HC.out.cell 9, HC.out.cell 10, HC.out.cell 11, HC.out.cell 12, HC.out.cell 13, HC.out.cell 14, HC.out.cell 15, HC.out.cell 16⟩) ?_
                  clear hK K hS
                  have hS := (show (fun (w' : World) => w'.cell? ⟨xc, 2, none⟩ = some (.int .i64 s2) ∧ w'.cell? ⟨xc, 3, none⟩ = some (.int .i64 s3) ∧ w'.cell? ⟨xc, 4, none⟩ = some (.int .i64 s4) ∧ w'.cell? ⟨xc, 5, none⟩ = some (.int .i64 s5) ∧ w'.cell? ⟨xc, 6, none⟩ = some (.int .i64 s6) ∧ w'.cell? ⟨xc, 7, none⟩ = some (.int .u16 s7) ∧ w'.cell? ⟨xc, 8, none⟩ = some (.int .u16 s8) ∧ w'.cell? ⟨xc, 9, none⟩ = some (.int .i64 s9) ∧ w'.cell? ⟨xc, 10, none⟩ = some (.int .i64 s10) ∧ w'.cell? ⟨xc, 11, none⟩ = some (.int .i64 s11) ∧ w'.cell? ⟨xc, 12, none⟩ = some (.int .i64 s12) ∧ w'.cell? ⟨xc, 13, none⟩ = some (.int .i64 s13) ∧ w'.cell? ⟨xc, 14, none⟩ = some (.int .i64 s14) ∧ w'.cell? ⟨xc, 15, none⟩ = some (.int .i64 s15) ∧ w'.cell? ⟨xc, 16, none⟩ = some (.int .i64 s16)) _ from ⟨HC.out.cell 2, HC.out.cell 3, HC.out.cell 4, HC.out.cell 5, HC.out.cell 6, HC.out.cell 7, HC.out.cell 8, HC.out.cell 9, HC.out.cell 10, HC.out.cell 11, HC.out.cell 12, HC.out.cell 13, HC.out.cell 14, HC.out.cell 15, HC.out.cell 16⟩)
                  refine Turns.take hS 12 _ rfl (by kernel_rfl) (by kernel_rfl) (by kernel_rfl) (by kernel_rfl) (fun _ _ _ h => h) (by rfl) (fun w' hS' => by (try dsimp only at hS'); go_split_ands; go_simp; (try with_reducible rfl)) ?_
                  simp only [Act.put, List.getElem_toArray, List.getElem_cons_succ, List.getElem_cons_zero, List.setIfInBounds_toArray, List.set_cons_zero, List.set_cons_succ]
                  refine Turns.rest (late_done (by kernel_rfl)) ?_
                  refine any_tail 13 (by rfl) (by kernel_rfl) ?_
                  simp only [List.drop_succ_cons, List.drop_zero]
                  clear hS
                  clear hsp
                  have z2 := HC.out.cell 2
                  have z3 := HC.out.cell 3
                  have z4 := HC.out.cell 4
                  have z5 := HC.out.cell 5
                  have z6 := HC.out.cell 6
                  have z7 := HC.out.cell 7
                  have z8 := HC.out.cell 8
                  have z9 := HC.out.cell 9
                  have z10 := HC.out.cell 10
                  have z11 := HC.out.cell 11
                  have z12 := HC.out.cell 12
                  have z13 := HC.out.cell 13
                  have z14 := HC.out.cell 14
                  have z15 := HC.out.cell 15
                  have z16 := HC.out.cell 16
                  have hc := HRA.out _ HN.out.doc
                  go_upto_region 29 with (go_at_call 24; (with_reducible refine hc.mono ?_); rintro e w6 ⟨rfl, hg6⟩; replace HX := Lib.hid ((HX.out.chg hg6.2 (fun e => HN.out.doc.apart HX.out (by decide) e.symm)).alloc (.cells #[.int .i64 x0, .int .i64 x1, .int .i64 x2] 55)); replace HN := Lib.hid ((HN.out.nextd hg6).alloc (.cells #[.int .i64 x0, .int .i64 x1, .int .i64 x2] 55)); have HY := Lib.hid (Holds.new w6 55 #[.int .i64 x0, .int .i64 x1, .int .i64 x2]); clear hg6 hc HRA z2 z3 z4 z5 z6 z7 z8 z9 z10 z11 z12 z13 z14 z15 z16 HC)
                  obtain ⟨xy, hx⟩ : ∃ x, w6.heap.size = x := ⟨_, rfl⟩
                  rw [hx] at HY
                  simp only [hx]
                  clear hx
                  obtain ⟨W7, hU⟩ : ∃ U, U = w6.alloc (.cells #[.int .i64 x0, .int .i64 x1, .int .i64 x2] 55) := ⟨_, rfl⟩
                  rw [← hU] at HN HX HY ⊢
                  clear hU
                  have u0 := HX.out.cell 0
                  have u1 := HX.out.cell 1
                  have u2 := HX.out.cell 2
                  have y0 := HY.out.cell 0
                  have y1 := HY.out.cell 1
                  have y2 := HY.out.cell 2
                  go_upto_region 38 with fail
                  clear u0 u1 u2 y0 y1 y2 HX HY hes hoo
                  have hwt := fun m => pwaits_any (W7.drewN m) g _ (HN.out.one.node.drewN m)
                  have hrs := fun m => prests_any (W7.drewN m) g _ (HN.out.one.node.drewN m)
                  obtain ⟨dt, ds, dn, hD, hDk⟩ := HN.out.doc
                  have v3 : W7.cell? ⟨gm, 3, none⟩ = some (.bool p1.w) := hD.cell 3
                  have v6 : W7.cell? ⟨gm, 6, none⟩ = some (.int .i64 p1.rests) := hD.cell 6
                  have r1 : (p1.w != p1.w) = false := by simp
                  have r2 : (p1.rests != p1.rests) = false := by simp
                  clear hD hDk
                  go_quiet (first
                    | (go_at_call 20; refine (hwt _).mono ?_; rintro e wy ⟨rfl, rfl⟩; exact ⟨rfl, _, rfl⟩)
                    | (go_at_call 21; refine (hrs _).mono ?_; rintro e wy ⟨rfl, rfl⟩; exact ⟨rfl, _, rfl⟩))
                  go_wp2
                  go_roundw
                  case rel => exact ⟨k + 1, gm, p1, by omega, by go_num, rfl, HI1.out, HM1.out, HN.out.drewN _⟩
                  case measure => simp [intOf]; omega
              · go_simp
                have hxn : w.heap.size ≤ W1.heap.size := HN.out.one.below.size
                have he := Holds.new W1 40 #[.int .i64 0, .int .i64 0, .int .i64 0]
                replace HN : Hid (N2 w (W1.alloc (.cells #[.int .i64 0, .int .i64 0, .int .i64 0] 40)).drew g gm _ p) := Lib.hid (HN.out.alloc (.cells #[.int .i64 0, .int .i64 0, .int .i64 0] 40))
                replace HC : Hid (Holds (W1.alloc (.cells #[.int .i64 0, .int .i64 0, .int .i64 0] 40)).drew xc 52 _) := Lib.hid (HC.out.alloc (.cells #[.int .i64 0, .int .i64 0, .int .i64 0] 40))
                have HX : Hid (Holds (W1.alloc (.cells #[.int .i64 0, .int .i64 0, .int .i64 0] 40)).drew W1.heap.size 40 _) := Lib.hid he
                obtain ⟨xe, hxe⟩ : ∃ x, W1.heap.size = x := ⟨_, rfl⟩
                rw [hxe] at HX hxn
                simp only [hxe]
                obtain ⟨U, hU⟩ : ∃ U, U = (W1.alloc (.cells #[.int .i64 0, .int .i64 0, .int .i64 0] 40)).drew := ⟨_, rfl⟩
                rw [← hU] at HN HC HX ⊢
                have HXN := Lib.hid hxn
                clear hxe hU he hxn
                refine hK.out _ _ (show (fun (w' : World) => w'.cell? ⟨xc, 2, none⟩ = some (.int .i64 s2) ∧ w'.cell? ⟨xc, 3, none⟩ = some (.int .i64 s3) ∧ w'.cell? ⟨xc, 4, none⟩ = some (.int .i64 s4) ∧ w'.cell? ⟨xc, 5, none⟩ = some (.int .i64 s5) ∧ w'.cell? ⟨xc, 6, none⟩ = some (.int .i64 s6) ∧ w'.cell? ⟨xc, 7, none⟩ = some (.int .u16 s7) ∧ w'.cell? ⟨xc, 8, none⟩ = some (.int .u16 s8) ∧ w'.cell? ⟨xc, 9, none⟩ = some (.int .i64 s9) ∧ w'.cell? ⟨xc, 10, none⟩ = some (.int .i64 s10) ∧ w'.cell? ⟨xc, 11, none⟩ = some (.int .i64 s11) ∧ w'.cell? ⟨xc, 12, none⟩ = some (.int .i64 s12) ∧ w'.cell? ⟨xc, 13, none⟩ = some (.int .i64 s13) ∧ w'.cell? ⟨xc, 14, none⟩ = some (.int .i64 s14) ∧ w'.cell? ⟨xc, 15, none⟩ = some (.int .i64 s15) ∧ w'.cell? ⟨xc, 16, none⟩ = some (.int .i64 s16)) _ from ⟨HC.out.cell 2, HC.out.cell 3, HC.out.cell 4, HC.out.cell 5, HC.out.cell 6, HC.out.cell 7, HC.out.cell 8, HC.out.cell 9, HC.out.cell 10, HC.out.cell 11, HC.out.cell 12, HC.out.cell 13, HC.out.cell 14, HC.out.cell 15, HC.out.cell 16⟩) ?_
                clear hK K hS
                have hS := (show (fun (w' : World) => w'.cell? ⟨xc, 2, none⟩ = some (.int .i64 s2) ∧ w'.cell? ⟨xc, 3, none⟩ = some (.int .i64 s3) ∧ w'.cell? ⟨xc, 4, none⟩ = some (.int .i64 s4) ∧ w'.cell? ⟨xc, 5, none⟩ = some (.int .i64 s5) ∧ w'.cell? ⟨xc, 6, none⟩ = some (.int .i64 s6) ∧ w'.cell? ⟨xc, 7, none⟩ = some (.int .u16 s7) ∧ w'.cell? ⟨xc, 8, none⟩ = some (.int .u16 s8) ∧ w'.cell? ⟨xc, 9, none⟩ = some (.int .i64 s9) ∧ w'.cell? ⟨xc, 10, none⟩ = some (.int .i64 s10) ∧ w'.cell? ⟨xc, 11, none⟩ = some (.int .i64 s11) ∧ w'.cell? ⟨xc, 12, none⟩ = some (.int .i64 s12) ∧ w'.cell? ⟨xc, 13, none⟩ = some (.int .i64 s13) ∧ w'.cell? ⟨xc, 14, none⟩ = some (.int .i64 s14) ∧ w'.cell? ⟨xc, 15, none⟩ = some (.int .i64 s15) ∧ w'.cell? ⟨xc, 16, none⟩ = some (.int .i64 s16)) _ from ⟨HC.out.cell 2, HC.out.cell 3, HC.out.cell 4, HC.out.cell 5, HC.out.cell 6, HC.out.cell 7, HC.out.cell 8, HC.out.cell 9, HC.out.cell 10, HC.out.cell 11, HC.out.cell 12, HC.out.cell 13, HC.out.cell 14, HC.out.cell 15, HC.out.cell 16⟩)
                refine Turns.next 3 rfl (by kernel_rfl) (by rfl) (fun K hK => ?_)
                go_simp
                go_at_call 23
                (with_reducible refine (HREP.out _).mono ?_)
                rintro e w3 ⟨rfl, hb3⟩
                replace HN := Lib.hid (HN.out.more hb3)
                replace HC := Lib.hid (HC.out.below hb3 HC.out.lt)
                try replace HX := Lib.hid (HX.out.below hb3 HX.out.lt)
                clear hb3
                refine hK.out _ _ (show (fun (w' : World) => w'.cell? ⟨xc, 2, none⟩ = some (.int .i64 s2) ∧ w'.cell? ⟨xc, 3, none⟩ = some (.int .i64 s3) ∧ w'.cell? ⟨xc, 4, none⟩ = some (.int .i64 s4) ∧ w'.cell? ⟨xc, 5, none⟩ = some (.int .i64 s5) ∧ w'.cell? ⟨xc, 6, none⟩ = some (.int .i64 s6) ∧ w'.cell? ⟨xc, 7, none⟩ = some (.int .u16 s7) ∧ w'.cell? ⟨xc, 8, none⟩ = some (.int .u16 s8) ∧ w'.cell? ⟨xc, 9, none⟩ = some (.int .i64 s9) ∧ w'.cell? ⟨xc, 10, none⟩ = some (.int .i64 s10) ∧ w'.cell? ⟨xc, 11, none⟩ = some (.int .i64 s11) ∧ w'.cell? ⟨xc, 12, none⟩ = some (.int .i64 s12) ∧ w'.cell? ⟨xc, 13, none⟩ = some (.int .i64 s13) ∧ w'.cell? ⟨xc, 14, none⟩ = some (.int .i64 s14) ∧ w'.cell? ⟨xc, 15, none⟩ = some (.int .i64 s15) ∧ w'.cell? ⟨xc, 16, none⟩ = some (.int .i64 s16)) _ from ⟨HC.out.cell 2, HC.out.cell 3, HC.out.cell 4, HC.out.cell 5, HC.out.cell 6, HC.out.cell 7, HC.out.cell 8, HC.out.cell 9, HC.out.cell 10, HC.out.cell 11, HC.out.cell 12, HC.out.cell 13, HC.out.cell 14, HC.out.cell 15, HC.out.cell 16⟩) ?_
                clear hK K hS
                have hS := (show (fun (w' : World) => w'.cell? ⟨xc, 2, none⟩ = some (.int .i64 s2) ∧ w'.cell? ⟨xc, 3, none⟩ = some (.int .i64 s3) ∧ w'.cell? ⟨xc, 4, none⟩ = some (.int .i64 s4) ∧ w'.cell? ⟨xc, 5, none⟩ = some (.int .i64 s5) ∧ w'.cell? ⟨xc, 6, none⟩ = some (.int .i64 s6) ∧ w'.cell? ⟨xc, 7, none⟩ = some (.int .u16 s7) ∧ w'.cell? ⟨xc, 8, none⟩ = some (.int .u16 s8) ∧ w'.cell? ⟨xc, 9, none⟩ = some (.int .i64 s9) ∧ w'.cell? ⟨xc, 10, none⟩ = some (.int .i64 s10) ∧ w'.cell? ⟨xc, 11, none⟩ = some (.int .i64 s11) ∧ w'.cell? ⟨xc, 12, none⟩ = some (.int .i64 s12) ∧ w'.cell? ⟨xc, 13, none⟩ = some (.int .i64 s13) ∧ w'.cell? ⟨xc, 14, none⟩ = some (.int .i64 s14) ∧ w'.cell? ⟨xc, 15, none⟩ = some (.int .i64 s15) ∧ w'.cell? ⟨xc, 16, none⟩ = some (.int .i64 s16)) _ from ⟨HC.out.cell 2, HC.out.cell 3, HC.out.cell 4, HC.out.cell 5, HC.out.cell 6, HC.out.cell 7, HC.out.cell 8, HC.out.cell 9, HC.out.cell 10, HC.out.cell 11, HC.out.cell 12, HC.out.cell 13, HC.out.cell 14, HC.out.cell 15, HC.out.cell 16⟩)
                refine Turns.next 6 rfl (by kernel_rfl) (by rfl) (fun K hK => ?_)
                go_simp
                go_at_call 18
                (with_reducible refine (HA.out _ HN.out.one.node).mono ?_)
                rintro e w4 ⟨rfl, hg4⟩
                replace HC := Lib.hid (HC.out.chg hg4.2 (HC.out.apart HN.out.one.node (by decide)))
                try replace HX := Lib.hid (HX.out.chg hg4.2 (HX.out.apart HN.out.one.node (by decide)))
                replace HN := Lib.hid (HN.out.next hg4)
                clear hg4
                refine hK.out _ _ (show (fun (w' : World) => w'.cell? ⟨xc, 2, none⟩ = some (.int .i64 s2) ∧ w'.cell? ⟨xc, 3, none⟩ = some (.int .i64 s3) ∧ w'.cell? ⟨xc, 4, none⟩ = some (.int .i64 s4) ∧ w'.cell? ⟨xc, 5, none⟩ = some (.int .i64 s5) ∧ w'.cell? ⟨xc, 6, none⟩ = some (.int .i64 s6) ∧ w'.cell? ⟨xc, 7, none⟩ = some (.int .u16 s7) ∧ w'.cell? ⟨xc, 8, none⟩ = some (.int .u16 s8) ∧ w'.cell? ⟨xc, 9, none⟩ = some (.int .i64 s9) ∧ w'.cell? ⟨xc, 10, none⟩ = some (.int .i64 s10) ∧ w'.cell? ⟨xc, 11, none⟩ = some (.int .i64 s11) ∧ w'.cell? ⟨xc, 12, none⟩ = some (.int .i64 s12) ∧ w'.cell? ⟨xc, 13, none⟩ = some (.int .i64 s13) ∧ w'.cell? ⟨xc, 14, none⟩ = some (.int .i64 s14) ∧ w'.cell? ⟨xc, 15, none⟩ = some (.int .i64 s15) ∧ w'.cell? ⟨xc, 16, none⟩ = some (.int .i64 s16)) _ from ⟨HC.out.cell 2, HC.out.cell 3, HC.out.cell 4, HC.out.cell 5, HC.out.cell 6, HC.out.cell 7, HC.out.cell 8, HC.out.cell 9, HC.out.cell 10, HC.out.cell 11, HC.out.cell 12, HC.out.cell 13, HC.out.cell 14, HC.out.cell 15, HC.out.cell 16⟩) ?_
                clear hK K hS
                have hS := (show (fun (w' : World) => w'.cell? ⟨xc, 2, none⟩ = some (.int .i64 s2) ∧ w'.cell? ⟨xc, 3, none⟩ = some (.int .i64 s3) ∧ w'.cell? ⟨xc, 4, none⟩ = some (.int .i64 s4) ∧ w'.cell? ⟨xc, 5, none⟩ = some (.int .i64 s5) ∧ w'.cell? ⟨xc, 6, none⟩ = some (.int .i64 s6) ∧ w'.cell? ⟨xc, 7, none⟩ = some (.int .u16 s7) ∧ w'.cell? ⟨xc, 8, none⟩ = some (.int .u16 s8) ∧ w'.cell? ⟨xc, 9, none⟩ = some (.int .i64 s9) ∧ w'.cell? ⟨xc, 10, none⟩ = some (.int .i64 s10) ∧ w'.cell? ⟨xc, 11, none⟩ = some (.int .i64 s11) ∧ w'.cell? ⟨xc, 12, none⟩ = some (.int .i64 s12) ∧ w'.cell? ⟨xc, 13, none⟩ = some (.int .i64 s13) ∧ w'.cell? ⟨xc, 14, none⟩ = some (.int .i64 s14) ∧ w'.cell? ⟨xc, 15, none⟩ = some (.int .i64 s15) ∧ w'.cell? ⟨xc, 16, none⟩ = some (.int .i64 s16)) _ from ⟨HC.out.cell 2, HC.out.cell 3, HC.out.cell 4, HC.out.cell 5, HC.out.cell 6, HC.out.cell 7, HC.out.cell 8, HC.out.cell 9, HC.out.cell 10, HC.out.cell 11, HC.out.cell 12, HC.out.cell 13, HC.out.cell 14, HC.out.cell 15, HC.out.cell 16⟩)
                refine Turns.take hS 7 _ rfl (by kernel_rfl) (by kernel_rfl) (by kernel_rfl) (by kernel_rfl) (fun _ _ _ h => h) (by rfl) (fun w' hS' => by (try dsimp only at hS'); go_split_ands; go_simp; (try with_reducible rfl)) ?_
                simp only [Act.put, List.getElem_toArray, List.getElem_cons_succ, List.getElem_cons_zero, List.setIfInBounds_toArray, List.set_cons_zero, List.set_cons_succ]
                refine Turns.take hS 8 _ rfl (by kernel_rfl) (by kernel_rfl) (by kernel_rfl) (by kernel_rfl) (fun _ _ _ h => h) (by rfl) (fun w' hS' => by (try dsimp only at hS'); go_split_ands; go_simp; (try with_reducible rfl)) ?_
                simp only [Act.put, List.getElem_toArray, List.getElem_cons_succ, List.getElem_cons_zero, List.setIfInBounds_toArray, List.set_cons_zero, List.set_cons_succ]
                refine Turns.take hS 9 _ rfl (by kernel_rfl) (by kernel_rfl) (by kernel_rfl) (by kernel_rfl) (fun _ _ _ h => h) (by rfl) (fun w' hS' => by (try dsimp only at hS'); go_split_ands; go_simp; (try with_reducible rfl)) ?_
                simp only [Act.put, List.getElem_toArray, List.getElem_cons_succ, List.getElem_cons_zero, List.setIfInBounds_toArray, List.set_cons_zero, List.set_cons_succ]
                refine Turns.next 11 rfl (by kernel_rfl) (by rfl) (fun K hK => ?_)
                simp only [List.getElem_toArray, List.getElem_cons_succ, List.getElem_cons_zero]
                refine wp_store_at 40 (.tmp 18) (.tmp 130) rfl xe 0 [.int .i64 x0, .int .i64 x1, .int .i64 x2] ?hs ?hx 40 [.int .i64 0, .int .i64 0, .int .i64 0] HX.out (by kernel_rfl) (Nat.le_refl 3) (one_ints3 _ _ _) ?_
                case hs => first | rfl | simp [Act.eval, Act.put]
                case hx => first | rfl | simp [Act.eval, Act.put]
                rw [hsp]
                have nx : xe ≠ g ∧ xe ≠ gm ∧ xe ≠ xc := ⟨HX.out.apart HN.out.one.node (by decide), fun e => HN.out.doc.apart HX.out (by decide) e.symm, HX.out.apart HC.out (by decide)⟩
                replace HN := Lib.hid (HN.out.row xe [.int .i64 x0, .int .i64 x1, .int .i64 x2] nx.1 nx.2.1 HXN.out)
                replace HC := Lib.hid (HC.out.grown (grown_row _ xe [.int .i64 x0, .int .i64 x1, .int .i64 x2].toArray) (fun e => nx.2.2 (Option.some.inj e).symm))
                replace HX := Lib.hid (HX.out.row [.int .i64 x0, .int .i64 x1, .int .i64 x2].toArray)
                obtain ⟨W5, hW5⟩ : ∃ X5, X5 = w4.setRow xe [.int .i64 x0, .int .i64 x1, .int .i64 x2].toArray := ⟨_, rfl⟩
                rw [← hW5] at HN HC HX ⊢
                clear hW5 nx
                refine hK.out _ _ (show (fun (w' : World) => w'.cell? ⟨xc, 2, none⟩ = some (.int .i64 s2) ∧ w'.cell? ⟨xc, 3, none⟩ = some (.int .i64 s3) ∧ w'.cell? ⟨xc, 4, none⟩ = some (.int .i64 s4) ∧ w'.cell? ⟨xc, 5, none⟩ = some (.int .i64 s5) ∧ w'.cell? ⟨xc, 6, none⟩ = some (.int .i64 s6) ∧ w'.cell? ⟨xc, 7, none⟩ = some (.int .u16 s7) ∧ w'.cell? ⟨xc, 8, none⟩ = some (.int .u16 s8) ∧ w'.cell? ⟨xc, 9, none⟩ = some (.int .i64 s9) ∧ w'.cell? ⟨xc, 10, none⟩ = some (.int .i64 s10) ∧ w'.cell? ⟨xc, 11, none⟩ = some (.int .i64 s11) ∧ w'.cell? ⟨xc, 12, none⟩ = some (.int .i64 s12) ∧ w'.cell? ⟨xc, 13, none⟩ = some (.int .i64 s13) ∧ w'.cell? ⟨xc, 14, none⟩ = some (.int .i64 s14) ∧ w'.cell? ⟨xc, 15, none⟩ = some (.int .i64 s15) ∧ w'.cell? ⟨xc, 16, none⟩ = some (.int .i64 s16)) _ from ⟨HC.out.cell 2, HC.out.cell 3, HC.out.cell 4, HC.out.cell 5, HC.out.cell 6, HC.out.cell 7, HC.out.cell 8, HC.out.cell 9, HC.out.cell 10, HC.out.cell 11, HC.out.cell 12, HC.out.cell 13, HC.out.cell 14, HC.out.cell 15, HC.out.cell 16⟩) ?_
                clear hK K hS
                have hS := (show (fun (w' : World) => w'.cell? ⟨xc, 2, none⟩ = some (.int .i64 s2) ∧ w'.cell? ⟨xc, 3, none⟩ = some (.int .i64 s3) ∧ w'.cell? ⟨xc, 4, none⟩ = some (.int .i64 s4) ∧ w'.cell? ⟨xc, 5, none⟩ = some (.int .i64 s5) ∧ w'.cell? ⟨xc, 6, none⟩ = some (.int .i64 s6) ∧ w'.cell? ⟨xc, 7, none⟩ = some (.int .u16 s7) ∧ w'.cell? ⟨xc, 8, none⟩ = some (.int .u16 s8) ∧ w'.cell? ⟨xc, 9, none⟩ = some (.int .i64 s9) ∧ w'.cell? ⟨xc, 10, none⟩ = some (.int .i64 s10) ∧ w'.cell? ⟨xc, 11, none⟩ = some (.int .i64 s11) ∧ w'.cell? ⟨xc, 12, none⟩ = some (.int .i64 s12) ∧ w'.cell? ⟨xc, 13, none⟩ = some (.int .i64 s13) ∧ w'.cell? ⟨xc, 14, none⟩ = some (.int .i64 s14) ∧ w'.cell? ⟨xc, 15, none⟩ = some (.int .i64 s15) ∧ w'.cell? ⟨xc, 16, none⟩ = some (.int .i64 s16)) _ from ⟨HC.out.cell 2, HC.out.cell 3, HC.out.cell 4, HC.out.cell 5, HC.out.cell 6, HC.out.cell 7, HC.out.cell 8, HC.out.cell 9, HC.out.cell 10, HC.out.cell 11, HC.out.cell 12, HC.out.cell 13, HC.out.cell 14, HC.out.cell 15, HC.out.cell 16⟩)
                refine Turns.take hS 12 _ rfl (by kernel_rfl) (by kernel_rfl) (by kernel_rfl) (by kernel_rfl) (fun _ _ _ h => h) (by rfl) (fun w' hS' => by (try dsimp only at hS'); go_split_ands; go_simp; (try with_reducible rfl)) ?_
                simp only [Act.put, List.getElem_toArray, List.getElem_cons_succ, List.getElem_cons_zero, List.setIfInBounds_toArray, List.set_cons_zero, List.set_cons_succ]
                refine Turns.rest (late_done (by kernel_rfl)) ?_
                refine any_tail 13 (by rfl) (by kernel_rfl) ?_
                simp only [List.drop_succ_cons, List.drop_zero]
                clear hS
                clear hsp
                have z2 := HC.out.cell 2
                have z3 := HC.out.cell 3
                have z4 := HC.out.cell 4
                have z5 := HC.out.cell 5
                have z6 := HC.out.cell 6
                have z7 := HC.out.cell 7
                have z8 := HC.out.cell 8
                have z9 := HC.out.cell 9
                have z10 := HC.out.cell 10
                have z11 := HC.out.cell 11
                have z12 := HC.out.cell 12
                have z13 := HC.out.cell 13
                have z14 := HC.out.cell 14
                have z15 := HC.out.cell 15
                have z16 := HC.out.cell 16
                have hc := HRA.out _ HN.out.doc
                go_upto_region 29 with (go_at_call 24; (with_reducible refine hc.mono ?_); rintro e w6 ⟨rfl, hg6⟩; replace HX := Lib.hid ((HX.out.chg hg6.2 (fun e => HN.out.doc.apart HX.out (by decide) e.symm)).alloc (.cells #[.int .i64 x0, .int .i64 x1, .int .i64 x2] 55)); replace HN := Lib.hid ((HN.out.nextd hg6).alloc (.cells #[.int .i64 x0, .int .i64 x1, .int .i64 x2] 55)); have HY := Lib.hid (Holds.new w6 55 #[.int .i64 x0, .int .i64 x1, .int .i64 x2]); clear hg6 hc HRA z2 z3 z4 z5 z6 z7 z8 z9 z10 z11 z12 z13 z14 z15 z16 HC)
                obtain ⟨xy, hx⟩ : ∃ x, w6.heap.size = x := ⟨_, rfl⟩
                rw [hx] at HY
                simp only [hx]
                clear hx
                obtain ⟨W7, hU⟩ : ∃ U, U = w6.alloc (.cells #[.int .i64 x0, .int .i64 x1, .int .i64 x2] 55) := ⟨_, rfl⟩
                rw [← hU] at HN HX HY ⊢
                clear hU
                have u0 := HX.out.cell 0
                have u1 := HX.out.cell 1
                have u2 := HX.out.cell 2
                have y0 := HY.out.cell 0
                have y1 := HY.out.cell 1
                have y2 := HY.out.cell 2
                go_upto_region 38 with fail
                clear u0 u1 u2 y0 y1 y2 HX HY hes hoo
                have hwt := fun m => pwaits_any (W7.drewN m) g _ (HN.out.one.node.drewN m)
                have hrs := fun m => prests_any (W7.drewN m) g _ (HN.out.one.node.drewN m)
                obtain ⟨dt, ds, dn, hD, hDk⟩ := HN.out.doc
                have v3 : W7.cell? ⟨gm, 3, none⟩ = some (.bool p1.w) := hD.cell 3
                have v6 : W7.cell? ⟨gm, 6, none⟩ = some (.int .i64 p1.rests) := hD.cell 6
                have r1 : (p1.w != p1.w) = false := by simp
                have r2 : (p1.rests != p1.rests) = false := by simp
                clear hD hDk
                go_quiet (first
                  | (go_at_call 20; refine (hwt _).mono ?_; rintro e wy ⟨rfl, rfl⟩; exact ⟨rfl, _, rfl⟩)
                  | (go_at_call 21; refine (hrs _).mono ?_; rintro e wy ⟨rfl, rfl⟩; exact ⟨rfl, _, rfl⟩))
                go_wp2
                go_roundw
                case rel => exact ⟨k + 1, gm, p1, by omega, by go_num, rfl, HI1.out, HM1.out, HN.out.drewN _⟩
                case measure => simp [intOf]; omega
      · as_aux_lemma =>
          have ha := pbeat_any _ _ _ HN.out.one.node HI.out
          have HRA := Lib.hid (fun W (h : Dn W gm p) => rbeat_any W gm p h HI.out)
          have HI1 := Lib.hid HI.out.beat
          have hm1 : (beatP p).me = a0 := by rw [beatP_me]; exact HM.out
          obtain ⟨p1, hp1⟩ : ∃ p1, beatP p = p1 := ⟨_, rfl⟩
          obtain ⟨O, hO⟩ : ∃ O, beatB p = O := ⟨_, rfl⟩
          rw [hp1] at HI1 hm1
          simp only [hp1, hO] at ha HRA
          have HM1 := Lib.hid hm1
          have hoo : (O != O) = false := by simp
          clear hp1 hO hm1 HI HM HC
          rcases hA with ⟨e0, e1, e2, e3, e4⟩ | ⟨e0, e1, e2, e3, e4, e5⟩ <;>
          · as_aux_lemma =>
              go_upto_region 38 with (first
                | (go_at_call 19; (with_reducible refine ha.mono ?_); rintro e w2 ⟨rfl, hg2⟩; replace HN := Lib.hid (HN.out.next hg2); have hra := HRA.out _ HN.out.doc; clear hg2 ha z0)
                | (go_at_call 25; (with_reducible refine hra.mono ?_); rintro e W7 ⟨rfl, hg4⟩; replace HN := Lib.hid (HN.out.nextd hg4); clear hg4 hra HRA))
              clear e0 e1 e2 e3 e4 hoo
              have hwt := fun m => pwaits_any (W7.drewN m) g _ (HN.out.one.node.drewN m)
              have hrs := fun m => prests_any (W7.drewN m) g _ (HN.out.one.node.drewN m)
              obtain ⟨dt, ds, dn, hD, hDk⟩ := HN.out.doc
              have v3 : W7.cell? ⟨gm, 3, none⟩ = some (.bool p1.w) := hD.cell 3
              have v6 : W7.cell? ⟨gm, 6, none⟩ = some (.int .i64 p1.rests) := hD.cell 6
              have r1 : (p1.w != p1.w) = false := by simp
              have r2 : (p1.rests != p1.rests) = false := by simp
              clear hD hDk
              go_quiet (first
                | (go_at_call 20; refine (hwt _).mono ?_; rintro e wy ⟨rfl, rfl⟩; exact ⟨rfl, _, rfl⟩)
                | (go_at_call 21; refine (hrs _).mono ?_; rintro e wy ⟨rfl, rfl⟩; exact ⟨rfl, _, rfl⟩))
              go_wp2
              go_roundw
              case rel => exact ⟨k + 1, gm, p1, by omega, by go_num, rfl, HI1.out, HM1.out, HN.out.drewN _⟩
              case measure => simp [intOf]; omega
      · obtain ⟨e0, e1, e2, e3, e4, e5, e6⟩ := hA
        have ha := pboot_any _ _ _ HN.out.one.node
        rw [HM.out] at ha
        have HI1 := Lib.hid (PInv.new HME.out)
        have hm1 : (newP a0).me = a0 := rfl
        obtain ⟨p1, hp1⟩ : ∃ p1, newP a0 = p1 := ⟨_, rfl⟩
        clear HI HM HC
        go_upto_region 37 with (go_at_call 16; (with_reducible refine ha.mono ?_); rintro e w2 ⟨rfl, hg2⟩; replace HN := Lib.hid (HN.out.one.next hg2); clear hg2 ha z0)
        clear e0 e1 e2 e3 e4 e5 e6
        go_upto_region 38 with fail
        have HN2 := Lib.hid (N2.fresh HN.out a0)
        obtain ⟨gm1, hx⟩ : ∃ x, w2.heap.size = x := ⟨_, rfl⟩
        rw [hx] at HN2
        simp only [hx]
        clear hx
        obtain ⟨W7, hU⟩ : ∃ U, U = w2.alloc (.cells #[.int .i64 a0, .int .i64 0, .int .i64 0, .bool false, .int .i64 0, .int .i64 0, .int .i64 0] 48) := ⟨_, rfl⟩
        rw [← hU] at HN2 ⊢
        clear hU HN
        have HN := HN2
        clear HN2
        rw [hp1] at HN HI1 hm1
        have HM1 := Lib.hid hm1
        clear hp1 hm1
        have hwt := fun m => pwaits_any (W7.drewN m) g _ (HN.out.one.node.drewN m)
        have hrs := fun m => prests_any (W7.drewN m) g _ (HN.out.one.node.drewN m)
        obtain ⟨dt, ds, dn, hD, hDk⟩ := HN.out.doc
        have v3 : W7.cell? ⟨gm1, 3, none⟩ = some (.bool p1.w) := hD.cell 3
        have v6 : W7.cell? ⟨gm1, 6, none⟩ = some (.int .i64 p1.rests) := hD.cell 6
        have r1 : (p1.w != p1.w) = false := by simp
        have r2 : (p1.rests != p1.rests) = false := by simp
        clear hD hDk
        go_quiet (first
          | (go_at_call 20; refine (hwt _).mono ?_; rintro e wy ⟨rfl, rfl⟩; exact ⟨rfl, _, rfl⟩)
          | (go_at_call 21; refine (hrs _).mono ?_; rintro e wy ⟨rfl, rfl⟩; exact ⟨rfl, _, rfl⟩))
        go_wp2
        go_roundw
        case rel => exact ⟨k + 1, gm1, p1, by omega, by go_num, rfl, HI1.out, HM1.out, HN.out.drewN _⟩
        case measure => simp [intOf]; omega
      · obtain ⟨e0, e1, e2, e3, e4, e5, e6⟩ := hA
        clear HC
        go_upto_region 38 with fail
        clear e0 e1 e2 e3 e4 e5 e6 z0
        obtain ⟨W7, hU⟩ : ∃ U, U = W1 := ⟨_, rfl⟩
        rw [← hU] at HN ⊢
        clear hU
        have hwt := fun m => pwaits_any (W7.drewN m) g _ (HN.out.one.node.drewN m)
        have hrs := fun m => prests_any (W7.drewN m) g _ (HN.out.one.node.drewN m)
        obtain ⟨dt, ds, dn, hD, hDk⟩ := HN.out.doc
        have v3 : W7.cell? ⟨gm, 3, none⟩ = some (.bool p.w) := hD.cell 3
        have v6 : W7.cell? ⟨gm, 6, none⟩ = some (.int .i64 p.rests) := hD.cell 6
        have r1 : (p.w != p.w) = false := by simp
        have r2 : (p.rests != p.rests) = false := by simp
        clear hD hDk
        go_quiet (first
          | (go_at_call 20; refine (hwt _).mono ?_; rintro e wy ⟨rfl, rfl⟩; exact ⟨rfl, _, rfl⟩)
          | (go_at_call 21; refine (hrs _).mono ?_; rintro e wy ⟨rfl, rfl⟩; exact ⟨rfl, _, rfl⟩))
        go_wp2
        go_roundw
        case rel => exact ⟨k + 1, gm, p, by omega, by go_num, rfl, HI.out, HM.out, HN.out.drewN _⟩
        case measure => simp [intOf]; omega
    · have hkn : k = n1 := by omega
      have hdl : decide ((k : Int) < (n1 : Int)) = false := decide_eq_false (by omega)
      go_wp2
      go_ret
      exact ⟨rfl, HN.out.one.below⟩

set_option maxRecDepth 100000 in
theorem lifted (os : Os) (started : os.Started) (H : Type) (enc : TypeId × Value → H) :
    ReturnsInHanded {} Try.checked os 5 .any (Rows.pairDoesSpec.pre6 enc Try.prog Try.f5 Rows.pairDoesRow.domain false) (Rows.pairDoesSpec.post enc Try.prog Try.f5 false true false false) := by
  refine returnsInHanded_of_change (C := Try.checked) own started (by kernel_rfl) Try.func5
    (ChangeSpec.witness6 (enc := enc) (C := Try.checked) false ⟨#[], #[.int .i64 0, .slice none 0 0], []⟩ 8 (by kernel_rfl) (by kernel_rfl) (by kernel_rfl) (by kernel_rfl)) ?_
  intro W base args ds gs before hval0 hW hcnd _
  have hval : ∀ (j : Nat) t v, Try.f5.params[j]? = some t → args[j]? = some v → Value.okWide Try.prog W .any base t v := hval0
  have hW' := hW
  obtain ⟨p, q, hA0, hV, rfl, hfz, hnd⟩ := hW
  have hA : DataW.TrodAll enc Try.prog W 0 (fun _ => true) true Try.f5.params.toList args.toList ds p := hA0
  have hAk := hA
  rw [Try.params5] at hA hval
  obtain ⟨v0, vs0, d0, ds0, p0, q0, hargs, rfl, hp, h0, r0⟩ := trodAll_cons hA
  obtain ⟨v1, vs1, d1, ds1, p1, q1, rfl, rfl, rfl, h1, r1⟩ := trodAll_cons r0
  obtain ⟨rfl, rfl, rfl⟩ := trodAll_nil r1
  obtain rfl : args = #[v0, v1] := by cases args; simp_all
  obtain ⟨rfl, rfl⟩ := trodVars_none hV
  clear hA0 hval0 hargs
  simp only [List.append_nil] at hW'
  have hend : ∀ W' : World, Below W.heap.size W W' → Rows.pairDoesSpec.post enc Try.prog Try.f5 false true false false W #[v0, v1] (.bool true) W' := fun W' hb =>
    law_post (tb := 4) hW' hAk rfl (by kernel_rfl) (by kernel_rfl) (by kernel_rfl) Try.underlying4 rfl rfl rfl hb
  clear hW' hAk hp
  obtain ⟨a0, rfl, rfl, rfl, w0⟩ := open_int Try.underlying3 (hval 0 3 v0 rfl rfl) h0
  obtain ⟨A1, n1, c1, f1, rfl, w1⟩ := flats_arg (ks := [.int .i64, .int .i64, .int .i64, .int .i64, .int .i64, .int .i64, .int .i64, .int .u16, .int .u16, .int .i64, .int .i64, .int .i64, .int .i64, .int .i64, .int .i64, .int .i64, .int .i64]) 9 Try.underlying30 (by kernel_rfl) (by kernel_rfl) (by decide) (hval 1 30 v1 rfl rfl) h1
  refine (walk a0 A1 n1 c1 f1 W w0 w1).mono fun e W' ⟨he, hg⟩ => ?_
  subst he
  exact ⟨_, rfl, hend W' hg⟩

theorem over : Rows.pairDoesRow.holds Try.pinned (OpenSpec.ofChange Rows.pairDoesSpec) :=
  OpenClaim.holds_of_wide 5 Try.f5 rfl rfl rfl rfl rfl rfl rfl ⟨rfl, rfl, rfl, rfl, rfl⟩ rfl rfl rfl rfl rfl (by kernel_rfl) Try.func5 (by kernel_rfl)
    (of_decide_eq_true (by kernel_rfl)) (by unfold Func.isWrapper; first | (rw [if_pos (by decide +kernel)]; kernel_rfl) | (rw [if_neg (by decide +kernel)]; exact ⟨rfl, rfl⟩))
    (fun os started H enc _ => lifted os started H enc)

/-- THE STATEMENT -/
theorem proved : Rows.PairDoesSaid :=
  over
#print axioms proved
end Go.Proofs.Ytoggpdfkklombaa.pairDoes
