/-
  Who asks again and again, and gets no reply, gives up within 10 rounds, whatever replies to others, or to what wasn't asked, come: for all numbers and words the law answers true; without conditions.
  The walk is the prover's own; the frame of the row's step follows the kit's template.
-/
import Derived.Test.YtoggpdfkklombaaRows
import Derived.Test.YtoggpdfkklombaaLawKit
import Derived.Test.YtoggpdfkklombaaFlat
import Derived.Test.YtoggpdfkklombaaPrK
import Derived.LoopTactic
import Derived.Deep.CutBlock
import Derived.Deep.CutRange
import Derived.BigQuiet
namespace Go.Proofs.Ytoggpdfkklombaa.pairGivesUp
open Go.ChangeShapes Go.WideShapes Go.ChangeAt Go.RowKit Go.ChangeMaps Go.WideElems
set_option linter.unusedVariables false

theorem cells3 {W : World} {vs : List Value} (h : Fit W [.int .i64, .int .i64, .int .i64, .int .i64, .int .u16, .int .u16, .int .i64, .int .i64, .int .i64, .int .i64, .int .i64, .int .i64, .int .i64, .int .i64] vs) : ∃ (s0 : Int) (s1 : Int) (s2 : Int) (s3 : Int) (s4 : Int) (s5 : Int) (s6 : Int) (s7 : Int) (s8 : Int) (s9 : Int) (s10 : Int) (s11 : Int) (s12 : Int) (s13 : Int), vs = [.int .i64 s0, .int .i64 s1, .int .i64 s2, .int .i64 s3, .int .u16 s4, .int .u16 s5, .int .i64 s6, .int .i64 s7, .int .i64 s8, .int .i64 s9, .int .i64 s10, .int .i64 s11, .int .i64 s12, .int .i64 s13] ∧ (Lit.int .i64 s0).wf = true ∧ (Lit.int .i64 s1).wf = true ∧ (Lit.int .i64 s2).wf = true ∧ (Lit.int .i64 s3).wf = true ∧ (Lit.int .u16 s4).wf = true ∧ (Lit.int .u16 s5).wf = true ∧ (Lit.int .i64 s6).wf = true ∧ (Lit.int .i64 s7).wf = true ∧ (Lit.int .i64 s8).wf = true ∧ (Lit.int .i64 s9).wf = true ∧ (Lit.int .i64 s10).wf = true ∧ (Lit.int .i64 s11).wf = true ∧ (Lit.int .i64 s12).wf = true ∧ (Lit.int .i64 s13).wf = true := by
  match vs, h.length, h with
  | [y0, y1, y2, y3, y4, y5, y6, y7, y8, y9, y10, y11, y12, y13], _, h =>
    obtain ⟨⟨x0, rfl, h0⟩, ⟨x1, rfl, h1⟩, ⟨x2, rfl, h2⟩, ⟨x3, rfl, h3⟩, ⟨x4, rfl, h4⟩, ⟨x5, rfl, h5⟩, ⟨x6, rfl, h6⟩, ⟨x7, rfl, h7⟩, ⟨x8, rfl, h8⟩, ⟨x9, rfl, h9⟩, ⟨x10, rfl, h10⟩, ⟨x11, rfl, h11⟩, ⟨x12, rfl, h12⟩, ⟨x13, rfl, h13⟩, _⟩ := h
    exact ⟨x0, x1, x2, x3, x4, x5, x6, x7, x8, x9, x10, x11, x12, x13, rfl, h0, h1, h2, h3, h4, h5, h6, h7, h8, h9, h10, h11, h12, h13⟩
theorem own : ownKnob Try.prog.godebug = none := by kernel_rfl
set_option linter.unusedSimpArgs false in
set_option maxHeartbeats 8000000 in
set_option maxRecDepth 100000 in
theorem walk (a0 : Int) (a1 : Int) (a2 : Int) (A3 : Option Addr) (n3 c3 : Nat) (f3 : Nat → List Value) (w : World) (w0 : (Lit.int .i64 a0).wf = true) (w1 : (Lit.int .i64 a1).wf = true) (w2 : (Lit.int .i64 a2).wf = true) (w3 : FlatRow w [.int .i64, .int .i64, .int .i64, .int .i64, .int .u16, .int .u16, .int .i64, .int .i64, .int .i64, .int .i64, .int .i64, .int .i64, .int .i64, .int .i64] A3 n3 c3 f3) :
    Calls Try.prog 6 #[.int .i64 a0, .int .i64 a1, .int .i64 a2, .slice A3 n3 c3] w fun e w' => e = .returned (.bool true) ∧ Below w.heap.size w w' := by
  have fa0 := fits_wf w0
  have fa1 := fits_wf w1
  have fa2 := fits_wf w2
  clear w0 w1 w2
  have hcap := w3.cap_le
  have hmx := w3.max
  unfold maxLen at hmx
  have R := Lib.hid w3
  clear w3
  by_cases hbad : a0 < 0 ∨ 63 < a0
  · have hnew := fun W => pnew_no W a0 hbad
    clear hbad fa0 fa1 fa2
    go_enter Try.func6, Try.ntmps6
    go_wp2_with (first
      | (go_at_call 8; refine (alive_yes _).mono ?_; rintro e wx ⟨rfl, hb⟩; have HB := Lib.hid hb; clear hb)
      | (go_at_call 15; refine (hnew _).mono ?_; rintro e wy ⟨rfl, hwy⟩; subst wy))
    go_ret
    exact ⟨rfl, HB.out⟩
  have hme : 0 ≤ a0 ∧ a0 ≤ 63 := by omega
  have hnew := fun W => pnew_yes W a0 hme
  clear hbad
  by_cases h0 : a1 < 0
  · have d0 : decide (a1 < 0) = true := decide_eq_true h0
    clear h0 fa0 fa1 fa2 hme 
    go_enter Try.func6, Try.ntmps6
    go_wp2_with (first
      | (go_at_call 8; refine (alive_yes _).mono ?_; rintro e wx ⟨rfl, hb⟩; have HB := Lib.hid hb; clear hb)
      | (go_at_call 15; refine (hnew _).mono ?_; rintro e wy ⟨rfl, hN, hb⟩; replace HB := Lib.hid (HB.out.trans (hb.mono HB.out.size)); clear hb hN))
    go_ret
    exact ⟨rfl, HB.out⟩
  have d0 : decide (a1 < 0) = false := decide_eq_false h0
  by_cases h1 : 63 < a1
  · have d1 : decide (63 < a1) = true := decide_eq_true h1
    clear h1 fa0 fa1 fa2 hme h0
    go_enter Try.func6, Try.ntmps6
    go_wp2_with (first
      | (go_at_call 8; refine (alive_yes _).mono ?_; rintro e wx ⟨rfl, hb⟩; have HB := Lib.hid hb; clear hb)
      | (go_at_call 15; refine (hnew _).mono ?_; rintro e wy ⟨rfl, hN, hb⟩; replace HB := Lib.hid (HB.out.trans (hb.mono HB.out.size)); clear hb hN))
    go_ret
    exact ⟨rfl, HB.out⟩
  have d1 : decide (63 < a1) = false := decide_eq_false h1
  by_cases h2 : a1 = a0
  · have d2 : (a1 == a0) = true := by simp [h2]
    clear h2 fa0 fa1 fa2 hme h0 h1
    go_enter Try.func6, Try.ntmps6
    go_wp2_with (first
      | (go_at_call 8; refine (alive_yes _).mono ?_; rintro e wx ⟨rfl, hb⟩; have HB := Lib.hid hb; clear hb)
      | (go_at_call 15; refine (hnew _).mono ?_; rintro e wy ⟨rfl, hN, hb⟩; replace HB := Lib.hid (HB.out.trans (hb.mono HB.out.size)); clear hb hN))
    go_ret
    exact ⟨rfl, HB.out⟩
  have d2 : (a1 == a0) = false := by simp [h2]
  by_cases h3 : a2 < 0
  · have d3 : decide (a2 < 0) = true := decide_eq_true h3
    clear h3 fa0 fa1 fa2 hme h0 h1 h2
    go_enter Try.func6, Try.ntmps6
    go_wp2_with (first
      | (go_at_call 8; refine (alive_yes _).mono ?_; rintro e wx ⟨rfl, hb⟩; have HB := Lib.hid hb; clear hb)
      | (go_at_call 15; refine (hnew _).mono ?_; rintro e wy ⟨rfl, hN, hb⟩; replace HB := Lib.hid (HB.out.trans (hb.mono HB.out.size)); clear hb hN))
    go_ret
    exact ⟨rfl, HB.out⟩
  have d3 : decide (a2 < 0) = false := decide_eq_false h3
  by_cases h4 : 1099511627776 < a2
  · have d4 : decide (1099511627776 < a2) = true := decide_eq_true h4
    clear h4 fa0 fa1 fa2 hme h0 h1 h2 h3
    go_enter Try.func6, Try.ntmps6
    go_wp2_with (first
      | (go_at_call 8; refine (alive_yes _).mono ?_; rintro e wx ⟨rfl, hb⟩; have HB := Lib.hid hb; clear hb)
      | (go_at_call 15; refine (hnew _).mono ?_; rintro e wy ⟨rfl, hN, hb⟩; replace HB := Lib.hid (HB.out.trans (hb.mono HB.out.size)); clear hb hN))
    go_ret
    exact ⟨rfl, HB.out⟩
  have d4 : decide (1099511627776 < a2) = false := decide_eq_false h4
  by_cases h5 : 20 < n3
  · have d5 : decide ((20 : Int) < (n3 : Int)) = true := decide_eq_true (by omega)
    clear h5 fa0 fa1 fa2 hme h0 h1 h2 h3 h4
    go_enter Try.func6, Try.ntmps6
    go_wp2_with (first
      | (go_at_call 8; refine (alive_yes _).mono ?_; rintro e wx ⟨rfl, hb⟩; have HB := Lib.hid hb; clear hb)
      | (go_at_call 15; refine (hnew _).mono ?_; rintro e wy ⟨rfl, hN, hb⟩; replace HB := Lib.hid (HB.out.trans (hb.mono HB.out.size)); clear hb hN))
    go_ret
    exact ⟨rfl, HB.out⟩
  have d5 : decide ((20 : Int) < (n3 : Int)) = false := decide_eq_false (by omega)
  have hne : a1 ≠ a0 := h2
  have ht : 0 ≤ a1 ∧ a1 ≤ 63 := by omega
  have hl : 0 ≤ a2 ∧ a2 ≤ 1099511627776 := by omega
  have HG0 := Lib.hid (⟨PInv.new hme, rfl, fun e => by cases e⟩ : Giv a0 a1 (newP a0))
  have HNE := Lib.hid hne
  have HTT := Lib.hid ht
  have HLL := Lib.hid hl
  have hz : ∀ W, (binOp .neq 40 (.agg #[.int .i64 0, .int .i64 0, .int .i64 0]) (.agg #[.int .i64 0, .int .i64 0, .int .i64 0])).run Try.prog W = .ok (.bool false) W := fun _ => by kernel_rfl
  have HF0 := Lib.hid fa0
  have HF1 := Lib.hid fa1
  clear h0 h1 h2 h3 h4 hne ht hl hme fa0 fa1 fa2
  go_enter Try.func6, Try.ntmps6
  go_wp2_with (first
    | (go_at_call 8; refine (alive_yes _).mono ?_; rintro e wx ⟨rfl, hb⟩; have HB := Lib.hid hb; clear hb)
    | (go_at_call 15; refine (hnew _).mono ?_; rintro e w1 ⟨rfl, hN, hb⟩; have HN := Lib.hid (⟨hN, HB.out.trans (hb.mono HB.out.size), HB.out.size⟩ : N1 w w1 wx.heap.size (newP a0)); clear hb hN hnew))
  obtain ⟨g, hg⟩ : ∃ g, wx.heap.size = g := ⟨_, rfl⟩
  rw [hg] at HN
  simp only [hg]
  clear hg HB
  go_loopw [11] (fun i wr => ∃ (k : Nat) (p : PS), i = .int .i64 k ∧ (k : Int) + leftG p = 10 ∧ Giv a0 a1 p ∧ N1 w wr g p) (fun i _ => 10 - (intOf i).toNat)
  case atStart => exact ⟨0, newP a0, rfl, by rw [left_new]; rfl, HG0.out, HN.out⟩
  case round =>
    obtain ⟨k, p, rfl, hleft, hG, hN⟩ := hrel
    have hpos := left_pos hG.inv
    have hk : k < 10 := by omega
    have d9 : decide ((k : Int) < 10) = true := decide_eq_true (by omega)
    have ew := IntWalk.i64_in (a2 + (k : Int)) (by have := HLL.out; omega)
    have ek := IntWalk.i64_in ((k : Int) + 1) (by omega)
    have hal := ask_left (l := a2 + (k : Int)) hG HNE.out HTT.out (by have := HLL.out; omega)
    have fl : Fits (a2 + (k : Int)) := by have := HLL.out; exact ⟨by omega, by omega⟩
    have fm : Fits p.me := by rw [hG.me]; exact HF0.out
    have dd : (a2 + (k : Int) != a2 + (k : Int)) = false := by simp
    have HXO := Lib.hid (show w.heap.size ≤ wr.heap.size from hN.below.size)
    clear HN HG0
    rcases hal with ⟨hy, hG1, hL1⟩ | ⟨hn, hb⟩
    case' inl =>
      have hc := pask_yes wr g p hN.node a1 (a2 + (k : Int)) fm HF1.out fl hy
      obtain ⟨p1, hp1⟩ : ∃ p1 : PS, p1 = ⟨p.me, true, p.me, a1, a2 + (k : Int), p.rounds, p.vain, p.rests⟩ := ⟨_, rfl⟩
      rw [← hp1] at hG1 hL1 hc
      have HG1 := Lib.hid hG1
      have HL1 : Hid ((k : Int) + leftG p1 = 10) := Lib.hid (by rw [hL1]; exact hleft)
      have HB1 : Hid (p1.w = true ∨ 0 < p1.rests) := Lib.hid (.inl (by rw [hp1]))
      have HN := Lib.hid hN
      clear hy hG1 hL1 hG hleft hN hp1 fl fm
      go_upto_region 10 with (go_at_call 17; (with_reducible refine hc.mono ?_); rintro e w2 ⟨rfl, hg2⟩; have HN1 := Lib.hid ((HN.out.next hg2).alloc (.cells #[.int .i64 p.me, .int .i64 a1, .int .i64 (a2 + (k : Int))] 36)); have HP := Lib.hid (Holds.new w2 36 #[.int .i64 p.me, .int .i64 a1, .int .i64 (a2 + (k : Int))]); clear hg2 hc HN)
      obtain ⟨xp, hxp⟩ : ∃ x, w2.heap.size = x := ⟨_, rfl⟩
      rw [hxp] at HP
      simp only [hxp]
      clear hxp
      obtain ⟨W1, hW1⟩ : ∃ U, U = w2.alloc (.cells #[.int .i64 p.me, .int .i64 a1, .int .i64 (a2 + (k : Int))] 36) := ⟨_, rfl⟩
      rw [← hW1] at HN1 HP ⊢
      have v2 := HP.out.cell 2
      clear hW1
      go_upto_region 12 with fail
      clear v2 HP HXO
      have HXO := Lib.hid HN1.out.below.size
    case' inr =>
      have hc := pask_no wr g p hN.node a1 (a2 + (k : Int)) fm HF1.out fl hn
      obtain ⟨p1, hp1⟩ : ∃ p1 : PS, p1 = p := ⟨_, rfl⟩
      rw [← hp1] at hG hleft hc hb
      have HG1 := Lib.hid hG
      have HL1 := Lib.hid hleft
      have HB1 := Lib.hid hb
      have HN := Lib.hid hN
      clear hn hG hleft hN hp1 fl fm hb
      go_upto_region 12 with (go_at_call 17; (with_reducible refine hc.mono ?_); rintro e w2 ⟨rfl, hg2⟩; have HN1 := Lib.hid ((HN.out.next hg2).alloc (.cells #[.int .i64 0, .int .i64 0, .int .i64 0] 36)); clear hg2 hc HN)
      obtain ⟨W1, hW1⟩ : ∃ U, U = w2.alloc (.cells #[.int .i64 0, .int .i64 0, .int .i64 0] 36) := ⟨_, rfl⟩
      rw [← hW1] at HN1 ⊢
      clear hW1 HXO
      have HXO := Lib.hid HN1.out.below.size
    all_goals
      have HPs := Lib.hid hpos
      clear hpos
      go_wp2
      go_loopw [77] (fun i wr' => ∃ j : Nat, j ≤ n3 ∧ i = .int .i64 j ∧ N1 w wr' g p1) (fun i _ => n3 - (intOf i).toNat)
      case atStart => exact ⟨0, Nat.zero_le _, rfl, HN1.out⟩
      case round =>
        obtain ⟨j, hj, rfl, hN⟩ := hrel
        have HN2 := Lib.hid hN
        clear hN HN1
        by_cases hlt : j < n3
        · obtain ⟨b, off, rfl, hb', hc⟩ := (R.out.below HN2.out.below).at 14 rfl hlt
          obtain ⟨s0, s1, s2, s3, s4, s5, s6, s7, s8, s9, s10, s11, s12, s13, hf, hw0, hw1, hw2, hw3, hw4, hw5, hw6, hw7, hw8, hw9, hw10, hw11, hw12, hw13⟩ := cells3 (R.out.fit j hlt)
          have q0 : wr.cell? ⟨b, off + j * 14, none⟩ = some (.int .i64 s0) := hc 0 _ (by rw [hf]; rfl)
          have q1 : wr.cell? ⟨b, off + j * 14 + 1, none⟩ = some (.int .i64 s1) := hc 1 _ (by rw [hf]; rfl)
          have q2 : wr.cell? ⟨b, off + j * 14 + 2, none⟩ = some (.int .i64 s2) := hc 2 _ (by rw [hf]; rfl)
          have q3 : wr.cell? ⟨b, off + j * 14 + 3, none⟩ = some (.int .i64 s3) := hc 3 _ (by rw [hf]; rfl)
          have q4 : wr.cell? ⟨b, off + j * 14 + 4, none⟩ = some (.int .u16 s4) := hc 4 _ (by rw [hf]; rfl)
          have q5 : wr.cell? ⟨b, off + j * 14 + 5, none⟩ = some (.int .u16 s5) := hc 5 _ (by rw [hf]; rfl)
          have q6 : wr.cell? ⟨b, off + j * 14 + 6, none⟩ = some (.int .i64 s6) := hc 6 _ (by rw [hf]; rfl)
          have q7 : wr.cell? ⟨b, off + j * 14 + 7, none⟩ = some (.int .i64 s7) := hc 7 _ (by rw [hf]; rfl)
          have q8 : wr.cell? ⟨b, off + j * 14 + 8, none⟩ = some (.int .i64 s8) := hc 8 _ (by rw [hf]; rfl)
          have q9 : wr.cell? ⟨b, off + j * 14 + 9, none⟩ = some (.int .i64 s9) := hc 9 _ (by rw [hf]; rfl)
          have q10 : wr.cell? ⟨b, off + j * 14 + 10, none⟩ = some (.int .i64 s10) := hc 10 _ (by rw [hf]; rfl)
          have q11 : wr.cell? ⟨b, off + j * 14 + 11, none⟩ = some (.int .i64 s11) := hc 11 _ (by rw [hf]; rfl)
          have q12 : wr.cell? ⟨b, off + j * 14 + 12, none⟩ = some (.int .i64 s12) := hc 12 _ (by rw [hf]; rfl)
          have q13 : wr.cell? ⟨b, off + j * 14 + 13, none⟩ = some (.int .i64 s13) := hc 13 _ (by rw [hf]; rfl)
          have f6 := fits_wf hw6
          have HF6 := Lib.hid f6
          have ej := IntWalk.i64_in ((j : Int) + 1) (by omega)
          have HN3 := Lib.hid (HN2.out.alloc (.cells #[.int .i64 s0, .int .i64 s1, .int .i64 s2, .int .i64 s3, .int .u16 s4, .int .u16 s5, .int .i64 s6, .int .i64 s7, .int .i64 s8, .int .i64 s9, .int .i64 s10, .int .i64 s11, .int .i64 s12, .int .i64 s13] 50))
          have HW := Lib.hid (Holds.new wr 50 #[.int .i64 s0, .int .i64 s1, .int .i64 s2, .int .i64 s3, .int .u16 s4, .int .u16 s5, .int .i64 s6, .int .i64 s7, .int .i64 s8, .int .i64 s9, .int .i64 s10, .int .i64 s11, .int .i64 s12, .int .i64 s13])
          have HBS := Lib.hid HN2.out.below.size
          clear hc hf hw0 hw1 hw2 hw3 hw4 hw5 hw6 hw7 hw8 hw9 hw10 hw11 hw12 hw13 HN2 f6
          go_upto_region 15 with fail
          obtain ⟨xw, hxw⟩ : ∃ x, wr.heap.size = x := ⟨_, rfl⟩
          have HXS : Hid (w.heap.size ≤ wr.heap.size) := Lib.hid HBS.out
          rw [hxw] at HW HXS
          simp only [hxw]
          clear hxw
          obtain ⟨W2, hW2⟩ : ∃ U, U = wr.alloc (.cells #[.int .i64 s0, .int .i64 s1, .int .i64 s2, .int .i64 s3, .int .u16 s4, .int .u16 s5, .int .i64 s6, .int .i64 s7, .int .i64 s8, .int .i64 s9, .int .i64 s10, .int .i64 s11, .int .i64 s12, .int .i64 s13] 50) := ⟨_, rfl⟩
          rw [← hW2] at HN3 HW ⊢
          clear hW2 q0 q1 q2 q3 q4 q5 q6 q7 q8 q9 q10 q11 q12 q13
          have z1 := HW.out.cell 1
          have z2 := HW.out.cell 2
          have hcase : ((s2 == a0) = false ∧ ¬ (s2 = a0 ∧ s1 = a1)) ∨ ((s2 == a0) = true ∧ (s1 == a1) = false ∧ ¬ (s2 = a0 ∧ s1 = a1)) ∨ ((s2 == a0) = true ∧ (s1 == a1) = true) := by
            by_cases e1 : s2 = a0
            · by_cases e2 : s1 = a1
              · exact .inr (.inr ⟨by simp [e1], by simp [e2]⟩)
              · exact .inr (.inl ⟨by simp [e1], by simp [e2], fun e => e2 e.2⟩)
            · exact .inl ⟨by simp [e1], fun e => e1 e.1⟩
          have HXW := Lib.hid (show w.heap.size ≤ xw ∧ xw ≠ g from ⟨HXS.out, HW.out.apart HN3.out.node (by decide)⟩)
          rcases hcase with ⟨e1, e3⟩ | ⟨e1, e2, e3⟩ | ⟨e1, e2⟩
          case' inl =>
            go_upto_region 17 with fail
            obtain ⟨q, hq⟩ : ∃ q, q = s9 := ⟨_, rfl⟩
            rw [← hq] at HW
            have HQ : Hid (s2 = a0 ∧ s1 = a1 → q < 0) := Lib.hid (fun e => absurd e e3)
            obtain ⟨W3, hW3⟩ : ∃ U, U = W2 := ⟨_, rfl⟩
            rw [← hW3] at HN3 HW ⊢
            clear e1 e3 z1 z2 hW3 hq
          case' inr.inl =>
            go_upto_region 17 with fail
            obtain ⟨q, hq⟩ : ∃ q, q = s9 := ⟨_, rfl⟩
            rw [← hq] at HW
            have HQ : Hid (s2 = a0 ∧ s1 = a1 → q < 0) := Lib.hid (fun e => absurd e e3)
            obtain ⟨W3, hW3⟩ : ∃ U, U = W2 := ⟨_, rfl⟩
            rw [← hW3] at HN3 HW ⊢
            clear e1 e2 e3 z1 z2 hW3 hq
          case' inr.inr =>
            have z9 := HW.out.cell 9
            have y9 := HW.out.soft 9
            go_upto_region 17 with fail
            replace HN3 := Lib.hid (HN3.out.far (i := 9) HXW.out.2 HXW.out.1 (.int .i64 (-1)))
            replace HW := Lib.hid (HW.out.put 9 (.int .i64 (-1)))
            have HQ : Hid (s2 = a0 ∧ s1 = a1 → (-1 : Int) < 0) := Lib.hid (fun _ => by decide)
            obtain ⟨q, hq⟩ : ∃ q : Int, -1 = q := ⟨_, rfl⟩
            obtain ⟨W3, hW3⟩ : ∃ U, U = W2.setCell ⟨xw, 9, none⟩ (.int .i64 (-1)) := ⟨_, rfl⟩
            rw [← hW3] at HN3 HW ⊢
            replace HW : Hid (Holds W3 xw 50 #[.int .i64 s0, .int .i64 s1, .int .i64 s2, .int .i64 s3, .int .u16 s4, .int .u16 s5, .int .i64 s6, .int .i64 s7, .int .i64 s8, .int .i64 q, .int .i64 s10, .int .i64 s11, .int .i64 s12, .int .i64 s13]) := Lib.hid (by have := HW.out; rw [hq] at this; exact this)
            rw [hq] at HQ
            clear e1 e2 z1 z2 z9 y9 hW3 hq
          all_goals
            have y0 := HW.out.cell 0
            have y1 := HW.out.cell 1
            have y2 := HW.out.cell 2
            have y3 := HW.out.cell 3
            have y4 := HW.out.cell 4
            have y5 := HW.out.cell 5
            have y6 := HW.out.cell 6
            have y7 := HW.out.cell 7
            have y8 := HW.out.cell 8
            have y9 := HW.out.cell 9
            have y10 := HW.out.cell 10
            have y11 := HW.out.cell 11
            have y12 := HW.out.cell 12
            have y13 := HW.out.cell 13
            have hrep := fun W => reply_any s0 s1 s2 s3 s4 s5 s6 s7 s8 q s10 s11 s12 s13 W
            have hother := asked_none HG1.out HQ.out
            have hhear := fun W (h : Par W g p1) => phear_other W g p1 h s1 s2 q s10 s11 s3 s4 s6 (a2 + (k : Int)) hother
            have HHear := Lib.hid hhear
            clear hother hhear
            go_upto_region 18 with (first
              | (go_at_call 23; (with_reducible refine (hrep _).mono ?_); rintro e w4 ⟨rfl, hb4⟩; replace HN3 := Lib.hid (HN3.out.more hb4); have hhe := HHear.out _ HN3.out.node; clear hb4 hrep y0 y1 y2 y3 y4 y5 y6 y7 y8 y9 y10 y11 y12 y13)
              | (go_at_call 18; (with_reducible refine hhe.mono ?_); rintro e w5 ⟨rfl, hg5⟩; replace HN3 := Lib.hid ((HN3.out.next hg5).alloc (.cells #[.int .i64 0, .int .i64 0, .int .i64 0] 40)); have HX := Lib.hid (Holds.new w5 40 #[.int .i64 0, .int .i64 0, .int .i64 0]); clear hg5 hhe HHear))
            obtain ⟨xx, hxx⟩ : ∃ x, w5.heap.size = x := ⟨_, rfl⟩
            rw [hxx] at HX
            simp only [hxx]
            clear hxx
            obtain ⟨W6, hW6⟩ : ∃ U, U = w5.alloc (.cells #[.int .i64 0, .int .i64 0, .int .i64 0] 40) := ⟨_, rfl⟩
            rw [← hW6] at HN3 HX ⊢
            clear hW6
            have v0 := HX.out.cell 0
            have v1 := HX.out.cell 1
            have v2 := HX.out.cell 2
            go_wp2
            go_roundw
            case rel => exact ⟨j + 1, by omega, by go_num, HN3.out⟩
            case measure => simp [intOf]; omega
        · have hjn : j = n3 := by omega
          have dl : decide ((j : Int) < (n3 : Int)) = false := decide_eq_false (by omega)
          have hbt := pbeat_any _ _ _ HN2.out.node HG1.out.inv
          rcases beat_left HG1.out HB1.out with ⟨e1, e2⟩ | ⟨e1, e2, e3⟩
          · rw [e1, e2] at hbt
            clear e1 e2
            go_wp2_with (first
              | (go_at_call 19; (with_reducible refine hbt.mono ?_); rintro e w7 ⟨rfl, hg7⟩; replace HN2 := Lib.hid (HN2.out.next hg7); have hw : Calls Try.prog 20 #[.pointer (some ⟨g, 0, none⟩)] w7 fun e w' => e = .returned (.bool false) ∧ w7 = w' := pwaits_any _ _ _ HN2.out.node; have hr : Calls Try.prog 21 #[.pointer (some ⟨g, 0, none⟩)] w7 fun e w' => e = .returned (.int .i64 0) ∧ w7 = w' := prests_any _ _ _ HN2.out.node; clear hg7 hbt)
              | (go_at_call 20; (with_reducible refine hw.mono ?_); rintro e wy ⟨rfl, hwy⟩; subst wy)
              | (go_at_call 21; (with_reducible refine hr.mono ?_); rintro e wy ⟨rfl, hwy⟩; subst wy))
            go_ret
            exact ⟨rfl, HN2.out.below⟩
          · rw [e1] at hbt
            have HE2 := Lib.hid e2
            have HE3 := Lib.hid e3
            clear e1 e2 e3
            go_wp2_with (go_at_call 19; (with_reducible refine hbt.mono ?_); rintro e w7 ⟨rfl, hg7⟩; replace HN2 := Lib.hid (HN2.out.next hg7); clear hg7 hbt)
            go_roundw
            case rel => exact ⟨k + 1, beatP p1, by go_num, by have := HE2.out; have := HL1.out; omega, HE3.out, HN2.out⟩
            case measure => simp [intOf]; omega

set_option maxRecDepth 100000 in
theorem lifted (os : Os) (started : os.Started) (H : Type) (enc : TypeId × Value → H) :
    ReturnsInHanded {} Try.checked os 6 .any (Rows.pairGivesUpSpec.pre6 enc Try.prog Try.f6 Rows.pairGivesUpRow.domain false) (Rows.pairGivesUpSpec.post enc Try.prog Try.f6 false true false false) := by
  refine returnsInHanded_of_change (C := Try.checked) own started (by kernel_rfl) Try.func6
    (ChangeSpec.witness6 (enc := enc) (C := Try.checked) false ⟨#[], #[.int .i64 0, .int .i64 0, .int .i64 0, .slice none 0 0], []⟩ 8 (by kernel_rfl) (by kernel_rfl) (by kernel_rfl) (by kernel_rfl)) ?_
  intro W base args ds gs before hval0 hW hcnd _
  have hval : ∀ (j : Nat) t v, Try.f6.params[j]? = some t → args[j]? = some v → Value.okWide Try.prog W .any base t v := hval0
  have hW' := hW
  obtain ⟨p, q, hA0, hV, rfl, hfz, hnd⟩ := hW
  have hA : DataW.TrodAll enc Try.prog W 0 (fun _ => true) true Try.f6.params.toList args.toList ds p := hA0
  have hAk := hA
  rw [Try.params6] at hA hval
  obtain ⟨v0, vs0, d0, ds0, p0, q0, hargs, rfl, hp, h0, r0⟩ := trodAll_cons hA
  obtain ⟨v1, vs1, d1, ds1, p1, q1, rfl, rfl, rfl, h1, r1⟩ := trodAll_cons r0
  obtain ⟨v2, vs2, d2, ds2, p2, q2, rfl, rfl, rfl, h2, r2⟩ := trodAll_cons r1
  obtain ⟨v3, vs3, d3, ds3, p3, q3, rfl, rfl, rfl, h3, r3⟩ := trodAll_cons r2
  obtain ⟨rfl, rfl, rfl⟩ := trodAll_nil r3
  obtain rfl : args = #[v0, v1, v2, v3] := by cases args; simp_all
  obtain ⟨rfl, rfl⟩ := trodVars_none hV
  clear hA0 hval0 hargs
  simp only [List.append_nil] at hW'
  have hend : ∀ W' : World, Below W.heap.size W W' → Rows.pairGivesUpSpec.post enc Try.prog Try.f6 false true false false W #[v0, v1, v2, v3] (.bool true) W' := fun W' hb =>
    law_post (tb := 4) hW' hAk rfl (by kernel_rfl) (by kernel_rfl) (by kernel_rfl) Try.underlying4 rfl rfl rfl hb
  clear hW' hAk hp
  obtain ⟨a0, rfl, rfl, rfl, w0⟩ := open_int Try.underlying3 (hval 0 3 v0 rfl rfl) h0
  obtain ⟨a1, rfl, rfl, rfl, w1⟩ := open_int Try.underlying3 (hval 1 3 v1 rfl rfl) h1
  obtain ⟨a2, rfl, rfl, rfl, w2⟩ := open_int Try.underlying3 (hval 2 3 v2 rfl rfl) h2
  obtain ⟨A3, n3, c3, f3, rfl, w3⟩ := flats_arg (ks := [.int .i64, .int .i64, .int .i64, .int .i64, .int .u16, .int .u16, .int .i64, .int .i64, .int .i64, .int .i64, .int .i64, .int .i64, .int .i64, .int .i64]) 9 Try.underlying59 (by kernel_rfl) (by kernel_rfl) (by decide) (hval 3 59 v3 rfl rfl) h3
  refine (walk a0 a1 a2 A3 n3 c3 f3 W w0 w1 w2 w3).mono fun e W' ⟨he, hg⟩ => ?_
  subst he
  exact ⟨_, rfl, hend W' hg⟩

theorem over : Rows.pairGivesUpRow.holds Try.pinned (OpenSpec.ofChange Rows.pairGivesUpSpec) :=
  OpenClaim.holds_of_wide 6 Try.f6 rfl rfl rfl rfl rfl rfl rfl ⟨rfl, rfl, rfl, rfl, rfl⟩ rfl rfl rfl rfl rfl (by kernel_rfl) Try.func6 (by kernel_rfl)
    (of_decide_eq_true (by kernel_rfl)) (by unfold Func.isWrapper; first | (rw [if_pos (by decide +kernel)]; kernel_rfl) | (rw [if_neg (by decide +kernel)]; exact ⟨rfl, rfl⟩))
    (fun os started H enc _ => lifted os started H enc)

/-- THE STATEMENT -/
theorem proved : Rows.PairGivesUpSaid :=
  over
#print axioms proved
end Go.Proofs.Ytoggpdfkklombaa.pairGivesUp
