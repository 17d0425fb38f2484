/-
  Second 60 is shown in inserted leaps alone, and second 59 is left out of deleted ones alone: around the end of each day each second of TAI is told, a later one as a later one; for every table that can be, of at most 64 leaps, and every day whose next one it tells of, too.
  The walk is the prover's own; the frame of the row's step follows the kit's template.
-/
import Derived.Test.YtcknllkbeadmlaaDoorRows
import Derived.Test.YtcknllkbeadmlaaDoorLawKit
import Derived.Test.YtcknllkbeadmlaaDoorCards
import Derived.Test.YtcknllkbeadmlaaDoorTie
import Derived.SevenTiedAt
import Derived.Test.YtcknllkbeadmlaaDoorFlat
import Derived.Test.YtcknllkbeadmlaaDoorFlatS
import Derived.Test.YtcknllkbeadmlaaDoorUtL
import Derived.Test.YtcknllkbeadmlaaDoorUtD
namespace Go.Proofs.YtcknllkbeadmlaaDoor.utcLeaps
open Go.ChangeShapes Go.WideShapes Go.ChangeAt Go.RowKit Go.ChangeMaps Go.WideElems
set_option linter.unusedVariables false

theorem cells0 {W : World} {vs : List Value} (h : FitS W [.p (.int .i64), .p (.int .i64), .p (.int .i64), .rows [.int .i64, .int .i64]] vs) : ∃ (s0 : Int) (s1 : Int) (s2 : Int) (A3 : Option Addr) (n3 c3 : Nat) (f3 : Nat → List Value), vs = [.int .i64 s0, .int .i64 s1, .int .i64 s2, .slice A3 n3 c3] ∧ (Lit.int .i64 s0).wf = true ∧ (Lit.int .i64 s1).wf = true ∧ (Lit.int .i64 s2).wf = true ∧ FlatRow W [.int .i64, .int .i64] A3 n3 c3 f3 := by
  match vs, h.length, h with
  | [y0, y1, y2, y3], _, h =>
    obtain ⟨⟨x0, rfl, h0⟩, ⟨x1, rfl, h1⟩, ⟨x2, rfl, h2⟩, ⟨A3, n3, c3, x3, rfl, h3⟩, _⟩ := h
    exact ⟨x0, x1, x2, A3, n3, c3, x3, rfl, h0, h1, h2, h3⟩
theorem own : ownKnob Tryd.prog.godebug = none := by kernel_rfl
set_option linter.unusedSimpArgs false
theorem leap_round {st ah en D : Int} {L : List (Int × Int)} (g : GTab st ah en L) (h1 : st ≤ D) (h2 : D < en - 1) (K : Int) (k1 : -3 ≤ K) (k2 : K ≤ 1) :
    ∃ y m d H M S, IsOf st ah en L (beginV ah L (D + 1) + K) y m d H M S ∧ ((K < 0 ∧ H = 23 ∧ M = 59 ∧ S = 60 + K + stepL L D) ∨ (0 ≤ K ∧ H = 0 ∧ M = 0 ∧ S = K)) := by
  have nx := g.next D
  have l1 := g.len D
  have l2 := g.len (D + 1)
  have hst := stepL_mem (d := D) g.ones
  by_cases hk : K < 0
  · have ho : OnDay st ah en L (beginV ah L (D + 1) + K) D := ⟨h1, by omega, by omega, by omega⟩
    obtain ⟨y, m, d, H, M, S, hi⟩ := isOf_ex g ho
    refine ⟨y, m, d, H, M, S, hi, .inl ⟨hk, ?_⟩⟩
    have hs := hi.sec
    rw [hi.day.one g ho] at hs
    obtain ⟨a, b, c, e, f, q⟩ := hi.time
    unfold secV at hs
    unfold lenV at nx l1
    omega
  · have ho : OnDay st ah en L (beginV ah L (D + 1) + K) (D + 1) := ⟨by omega, by omega, by omega, by omega⟩
    obtain ⟨y, m, d, H, M, S, hi⟩ := isOf_ex g ho
    refine ⟨y, m, d, H, M, S, hi, .inr ⟨by omega, ?_⟩⟩
    have hs := hi.sec
    rw [hi.day.one g ho] at hs
    obtain ⟨a, b, c, e, f, q⟩ := hi.time
    unfold secV at hs
    omega
/-- What was told last: nothing yet, or the text of the second ahead. -/
def Was (st ah en D K : Int) (L : List (Int × Int)) (s : ByteArray) : Prop := (K = -3 ∧ s = ⟨#[]⟩) ∨ ∃ y m d H M S, IsOf st ah en L (beginV ah L (D + 1) + K - 1) y m d H M S ∧ s = textU y m d H M S
theorem was_less {st ah en D K : Int} {L : List (Int × Int)} {s : ByteArray} {y m d H M S : Int} (g : GTab st ah en L) (h : Was st ah en D K L s) (k : IsOf st ah en L (beginV ah L (D + 1) + K) y m d H M S) :
    Op.bytesLess (textU y m d H M S).toList s.toList = false ∧ ((textU y m d H M S).toList == s.toList) = false := by
  rcases h with ⟨_, rfl⟩ | ⟨y', m', d', H', M', S', h, rfl⟩
  · have hl : (textU y m d H M S).toList.length = 20 := by rw [Lib.toList_data, list_len, textU_size]
    have he : (⟨#[]⟩ : ByteArray).toList = [] := by rw [Lib.toList_data]
    rw [he]
    cases hc : (textU y m d H M S).toList with
    | nil => rw [hc] at hl; cases hl
    | cons a b => exact ⟨rfl, rfl⟩
  · refine ⟨?_, (lit_ne (fun e => ?_)).1⟩
    · rw [isOf_less g k h]
      exact decide_eq_false (by omega)
    · obtain ⟨⟨rfl, rfl, rfl⟩, ⟨rfl, rfl, rfl⟩⟩ := textU_one k.can k.time h.can h.time (list_inj e)
      have := isOf_one g k h
      omega
set_option maxRecDepth 100000 in
set_option maxHeartbeats 8000000 in
theorem walk (s0_0 : Int) (s0_1 : Int) (s0_2 : Int) (A0_3 : Option Addr) (n0_3 c0_3 : Nat) (f0_3 : Nat → List Value) (a1 : Int) (w : World) (w0_0 : (Lit.int .i64 s0_0).wf = true) (w0_1 : (Lit.int .i64 s0_1).wf = true) (w0_2 : (Lit.int .i64 s0_2).wf = true) (w0_3 : FlatRow w [.int .i64, .int .i64] A0_3 n0_3 c0_3 f0_3) (w1 : (Lit.int .i64 a1).wf = true) (hT : Tab w) :
    Calls Tryd.prog 5 #[.agg #[.int .i64 s0_0, .int .i64 s0_1, .int .i64 s0_2, .slice A0_3 n0_3 c0_3], .int .i64 a1] w fun e w' => e = .returned (.bool true) ∧ Below w.heap.size w w' := by
  obtain ⟨L, hrow, hfits⟩ := prow_of_flat w0_3
  have HT := Lib.hid hT
  have HX := Lib.hid (Box.start w 24 #[.int .i64 s0_0, .int .i64 s0_1, .int .i64 s0_2, .slice A0_3 n0_3 c0_3])
  have hnl := hrow.len
  clear hT
  obtain ⟨c0, c1, c2, c3⟩ := HX.out.tab4
  by_cases h64 : 64 < n0_3
  · have d0 : decide ((64 : Int) < (n0_3 : Int)) = true := decide_eq_true (by omega)
    go_enter Tryd.func5, Tryd.ntmps5
    go_wp2_with (first
      | (go_at_call 9; refine (alive_yes _ (HT.out.below HX.out.below)).mono ?_; rintro e w1 ⟨rfl, hb1⟩; (try replace HRT := Lib.hid ((HRT.out.below hb1).mono hb1.size)); replace HX := Lib.hid (HX.out.next hb1); clear hb1; (try clear c0 c1 c2 c3); obtain ⟨c0, c1, c2, c3⟩ := HX.out.tab4)
      | (go_at_call 10; refine (HMD.out _ HX.out.below).mono ?_; intro e w2 hp; obtain ⟨q, rfl, hr, hb2⟩ := HMY.out _ _ _ hp; clear hp; (try replace HRT := Lib.hid ((HRT.out.below hb2).mono hb2.size)); replace HX := Lib.hid (HX.out.next hb2); clear hb2; (try clear c0 c1 c2 c3); obtain ⟨c0, c1, c2, c3⟩ := HX.out.tab4; have HRT := Lib.hid hr; clear hr)
      | (go_at_call 10; refine (HMD.out _ HX.out.below).mono ?_; intro e w2 hp; obtain ⟨rfl, hb2⟩ := HMN.out _ _ _ hp; clear hp; (try replace HRT := Lib.hid ((HRT.out.below hb2).mono hb2.size)); replace HX := Lib.hid (HX.out.next hb2); clear hb2; (try clear c0 c1 c2 c3); obtain ⟨c0, c1, c2, c3⟩ := HX.out.tab4)
      | (go_at_call 17; refine (HBG.out _ HX.out.below).mono ?_; rintro e w3 ⟨rfl, hb3⟩; (try replace HRT := Lib.hid ((HRT.out.below hb3).mono hb3.size)); replace HX := Lib.hid (HX.out.next hb3); clear hb3; (try clear c0 c1 c2 c3); obtain ⟨c0, c1, c2, c3⟩ := HX.out.tab4)
      | (go_at_call 18; refine (HST.out _ HX.out.below).mono ?_; rintro e w4 ⟨rfl, hb4⟩; (try replace HRT := Lib.hid ((HRT.out.below hb4).mono hb4.size)); replace HX := Lib.hid (HX.out.next hb4); clear hb4; (try clear c0 c1 c2 c3); obtain ⟨c0, c1, c2, c3⟩ := HX.out.tab4)
      | (go_at_call 11; with_reducible refine (HO.out _ _ HRT.out).mono ?_; rintro e w5 ⟨rfl, hbz⟩; have HQ := Lib.hid (Box.start w5 35 #[.int .i64 y, .int .i64 m, .int .i64 d, .int .i64 23, .int .i64 59, .int .i64 V]); have hb5 := hbz.trans (HQ.out.below.mono hbz.size); have HA := Lib.hid HQ.out.holds; clear HQ hbz; (try replace HRT := Lib.hid ((HRT.out.below hb5).mono hb5.size)); replace HX := Lib.hid (HX.out.next hb5); clear hb5; (try clear c0 c1 c2 c3); obtain ⟨c0, c1, c2, c3⟩ := HX.out.tab4; (try clear x0 x1 x2 x3 x4 x5); have x0 := HA.out.cell 0; have x1 := HA.out.cell 1; have x2 := HA.out.cell 2; have x3 := HA.out.cell 3; have x4 := HA.out.cell 4; have x5 := HA.out.cell 5)
      | (go_at_call 11; with_reducible refine (HO.out _ _ HRT.out).mono ?_; rintro e w5 ⟨rfl, hbz⟩; have HQ := Lib.hid (Box.start w5 35 #[.int .i64 y, .int .i64 m, .int .i64 d, .int .i64 0, .int .i64 0, .int .i64 K]); have hb5 := hbz.trans (HQ.out.below.mono hbz.size); have HA := Lib.hid HQ.out.holds; clear HQ hbz; (try replace HRT := Lib.hid ((HRT.out.below hb5).mono hb5.size)); replace HX := Lib.hid (HX.out.next hb5); clear hb5; (try clear c0 c1 c2 c3); obtain ⟨c0, c1, c2, c3⟩ := HX.out.tab4; (try clear x0 x1 x2 x3 x4 x5); have x0 := HA.out.cell 0; have x1 := HA.out.cell 1; have x2 := HA.out.cell 2; have x3 := HA.out.cell 3; have x4 := HA.out.cell 4; have x5 := HA.out.cell 5)
      | (go_at_call 19; refine (HTX.out _ HX.out.below).mono ?_; rintro e w6 ⟨rfl, hb6⟩; (try replace HRT := Lib.hid ((HRT.out.below hb6).mono hb6.size)); replace HX := Lib.hid (HX.out.next hb6); (try replace HA := Lib.hid (HA.out.below hb6 HA.out.lt)); clear hb6; (try clear c0 c1 c2 c3); obtain ⟨c0, c1, c2, c3⟩ := HX.out.tab4; (try clear x0 x1 x2 x3 x4 x5); have x0 := HA.out.cell 0; have x1 := HA.out.cell 1; have x2 := HA.out.cell 2; have x3 := HA.out.cell 3; have x4 := HA.out.cell 4; have x5 := HA.out.cell 5))
    go_ret
    exact ⟨rfl, HX.out.below⟩
  have d0 : decide ((64 : Int) < (n0_3 : Int)) = false := decide_eq_false (by omega)
  have HN := Lib.hid (show n0_3 ≤ 1000 by omega)
  have HR := Lib.hid hrow
  have HMD := Lib.hid (fun W (hW : Below w.heap.size w W) => made_any W s0_0 s0_1 s0_2 A0_3 n0_3 c0_3 L (HR.out.below hW) HN.out)
  by_cases h0 : faultT s0_0 s0_1 s0_2 L = 0
  case neg =>
    have HMN := Lib.hid (fun (W : World) (e : Ending) (w' : World) (h : MadeB s0_0 s0_1 s0_2 L W e w') => made_no h0 h)
    clear hrow hfits hnl h0 h64
    go_enter Tryd.func5, Tryd.ntmps5
    go_wp2_with (first
      | (go_at_call 9; refine (alive_yes _ (HT.out.below HX.out.below)).mono ?_; rintro e w1 ⟨rfl, hb1⟩; (try replace HRT := Lib.hid ((HRT.out.below hb1).mono hb1.size)); replace HX := Lib.hid (HX.out.next hb1); clear hb1; (try clear c0 c1 c2 c3); obtain ⟨c0, c1, c2, c3⟩ := HX.out.tab4)
      | (go_at_call 10; refine (HMD.out _ HX.out.below).mono ?_; intro e w2 hp; obtain ⟨q, rfl, hr, hb2⟩ := HMY.out _ _ _ hp; clear hp; (try replace HRT := Lib.hid ((HRT.out.below hb2).mono hb2.size)); replace HX := Lib.hid (HX.out.next hb2); clear hb2; (try clear c0 c1 c2 c3); obtain ⟨c0, c1, c2, c3⟩ := HX.out.tab4; have HRT := Lib.hid hr; clear hr)
      | (go_at_call 10; refine (HMD.out _ HX.out.below).mono ?_; intro e w2 hp; obtain ⟨rfl, hb2⟩ := HMN.out _ _ _ hp; clear hp; (try replace HRT := Lib.hid ((HRT.out.below hb2).mono hb2.size)); replace HX := Lib.hid (HX.out.next hb2); clear hb2; (try clear c0 c1 c2 c3); obtain ⟨c0, c1, c2, c3⟩ := HX.out.tab4)
      | (go_at_call 17; refine (HBG.out _ HX.out.below).mono ?_; rintro e w3 ⟨rfl, hb3⟩; (try replace HRT := Lib.hid ((HRT.out.below hb3).mono hb3.size)); replace HX := Lib.hid (HX.out.next hb3); clear hb3; (try clear c0 c1 c2 c3); obtain ⟨c0, c1, c2, c3⟩ := HX.out.tab4)
      | (go_at_call 18; refine (HST.out _ HX.out.below).mono ?_; rintro e w4 ⟨rfl, hb4⟩; (try replace HRT := Lib.hid ((HRT.out.below hb4).mono hb4.size)); replace HX := Lib.hid (HX.out.next hb4); clear hb4; (try clear c0 c1 c2 c3); obtain ⟨c0, c1, c2, c3⟩ := HX.out.tab4)
      | (go_at_call 11; with_reducible refine (HO.out _ _ HRT.out).mono ?_; rintro e w5 ⟨rfl, hbz⟩; have HQ := Lib.hid (Box.start w5 35 #[.int .i64 y, .int .i64 m, .int .i64 d, .int .i64 23, .int .i64 59, .int .i64 V]); have hb5 := hbz.trans (HQ.out.below.mono hbz.size); have HA := Lib.hid HQ.out.holds; clear HQ hbz; (try replace HRT := Lib.hid ((HRT.out.below hb5).mono hb5.size)); replace HX := Lib.hid (HX.out.next hb5); clear hb5; (try clear c0 c1 c2 c3); obtain ⟨c0, c1, c2, c3⟩ := HX.out.tab4; (try clear x0 x1 x2 x3 x4 x5); have x0 := HA.out.cell 0; have x1 := HA.out.cell 1; have x2 := HA.out.cell 2; have x3 := HA.out.cell 3; have x4 := HA.out.cell 4; have x5 := HA.out.cell 5)
      | (go_at_call 11; with_reducible refine (HO.out _ _ HRT.out).mono ?_; rintro e w5 ⟨rfl, hbz⟩; have HQ := Lib.hid (Box.start w5 35 #[.int .i64 y, .int .i64 m, .int .i64 d, .int .i64 0, .int .i64 0, .int .i64 K]); have hb5 := hbz.trans (HQ.out.below.mono hbz.size); have HA := Lib.hid HQ.out.holds; clear HQ hbz; (try replace HRT := Lib.hid ((HRT.out.below hb5).mono hb5.size)); replace HX := Lib.hid (HX.out.next hb5); clear hb5; (try clear c0 c1 c2 c3); obtain ⟨c0, c1, c2, c3⟩ := HX.out.tab4; (try clear x0 x1 x2 x3 x4 x5); have x0 := HA.out.cell 0; have x1 := HA.out.cell 1; have x2 := HA.out.cell 2; have x3 := HA.out.cell 3; have x4 := HA.out.cell 4; have x5 := HA.out.cell 5)
      | (go_at_call 19; refine (HTX.out _ HX.out.below).mono ?_; rintro e w6 ⟨rfl, hb6⟩; (try replace HRT := Lib.hid ((HRT.out.below hb6).mono hb6.size)); replace HX := Lib.hid (HX.out.next hb6); (try replace HA := Lib.hid (HA.out.below hb6 HA.out.lt)); clear hb6; (try clear c0 c1 c2 c3); obtain ⟨c0, c1, c2, c3⟩ := HX.out.tab4; (try clear x0 x1 x2 x3 x4 x5); have x0 := HA.out.cell 0; have x1 := HA.out.cell 1; have x2 := HA.out.cell 2; have x3 := HA.out.cell 3; have x4 := HA.out.cell 4; have x5 := HA.out.cell 5))
    go_ret
    exact ⟨rfl, HX.out.below⟩
  case pos =>
  have HMY := Lib.hid (fun (W : World) (e : Ending) (w' : World) (h : MadeB s0_0 s0_1 s0_2 L W e w') => made_yes h0 h)
  have g := gtab_of h0
  have hw1 := IntWalk.i64_in (s0_2 - 1) (by have := g.fine.e1; have := g.fine.e2; omega)
  by_cases hs : a1 < s0_0
  · have ds : decide (a1 < s0_0) = true := decide_eq_true hs
    clear g hrow hfits hnl h0 h64 hs
    go_enter Tryd.func5, Tryd.ntmps5
    go_wp2_with (first
      | (go_at_call 9; refine (alive_yes _ (HT.out.below HX.out.below)).mono ?_; rintro e w1 ⟨rfl, hb1⟩; (try replace HRT := Lib.hid ((HRT.out.below hb1).mono hb1.size)); replace HX := Lib.hid (HX.out.next hb1); clear hb1; (try clear c0 c1 c2 c3); obtain ⟨c0, c1, c2, c3⟩ := HX.out.tab4)
      | (go_at_call 10; refine (HMD.out _ HX.out.below).mono ?_; intro e w2 hp; obtain ⟨q, rfl, hr, hb2⟩ := HMY.out _ _ _ hp; clear hp; (try replace HRT := Lib.hid ((HRT.out.below hb2).mono hb2.size)); replace HX := Lib.hid (HX.out.next hb2); clear hb2; (try clear c0 c1 c2 c3); obtain ⟨c0, c1, c2, c3⟩ := HX.out.tab4; have HRT := Lib.hid hr; clear hr)
      | (go_at_call 10; refine (HMD.out _ HX.out.below).mono ?_; intro e w2 hp; obtain ⟨rfl, hb2⟩ := HMN.out _ _ _ hp; clear hp; (try replace HRT := Lib.hid ((HRT.out.below hb2).mono hb2.size)); replace HX := Lib.hid (HX.out.next hb2); clear hb2; (try clear c0 c1 c2 c3); obtain ⟨c0, c1, c2, c3⟩ := HX.out.tab4)
      | (go_at_call 17; refine (HBG.out _ HX.out.below).mono ?_; rintro e w3 ⟨rfl, hb3⟩; (try replace HRT := Lib.hid ((HRT.out.below hb3).mono hb3.size)); replace HX := Lib.hid (HX.out.next hb3); clear hb3; (try clear c0 c1 c2 c3); obtain ⟨c0, c1, c2, c3⟩ := HX.out.tab4)
      | (go_at_call 18; refine (HST.out _ HX.out.below).mono ?_; rintro e w4 ⟨rfl, hb4⟩; (try replace HRT := Lib.hid ((HRT.out.below hb4).mono hb4.size)); replace HX := Lib.hid (HX.out.next hb4); clear hb4; (try clear c0 c1 c2 c3); obtain ⟨c0, c1, c2, c3⟩ := HX.out.tab4)
      | (go_at_call 11; with_reducible refine (HO.out _ _ HRT.out).mono ?_; rintro e w5 ⟨rfl, hbz⟩; have HQ := Lib.hid (Box.start w5 35 #[.int .i64 y, .int .i64 m, .int .i64 d, .int .i64 23, .int .i64 59, .int .i64 V]); have hb5 := hbz.trans (HQ.out.below.mono hbz.size); have HA := Lib.hid HQ.out.holds; clear HQ hbz; (try replace HRT := Lib.hid ((HRT.out.below hb5).mono hb5.size)); replace HX := Lib.hid (HX.out.next hb5); clear hb5; (try clear c0 c1 c2 c3); obtain ⟨c0, c1, c2, c3⟩ := HX.out.tab4; (try clear x0 x1 x2 x3 x4 x5); have x0 := HA.out.cell 0; have x1 := HA.out.cell 1; have x2 := HA.out.cell 2; have x3 := HA.out.cell 3; have x4 := HA.out.cell 4; have x5 := HA.out.cell 5)
      | (go_at_call 11; with_reducible refine (HO.out _ _ HRT.out).mono ?_; rintro e w5 ⟨rfl, hbz⟩; have HQ := Lib.hid (Box.start w5 35 #[.int .i64 y, .int .i64 m, .int .i64 d, .int .i64 0, .int .i64 0, .int .i64 K]); have hb5 := hbz.trans (HQ.out.below.mono hbz.size); have HA := Lib.hid HQ.out.holds; clear HQ hbz; (try replace HRT := Lib.hid ((HRT.out.below hb5).mono hb5.size)); replace HX := Lib.hid (HX.out.next hb5); clear hb5; (try clear c0 c1 c2 c3); obtain ⟨c0, c1, c2, c3⟩ := HX.out.tab4; (try clear x0 x1 x2 x3 x4 x5); have x0 := HA.out.cell 0; have x1 := HA.out.cell 1; have x2 := HA.out.cell 2; have x3 := HA.out.cell 3; have x4 := HA.out.cell 4; have x5 := HA.out.cell 5)
      | (go_at_call 19; refine (HTX.out _ HX.out.below).mono ?_; rintro e w6 ⟨rfl, hb6⟩; (try replace HRT := Lib.hid ((HRT.out.below hb6).mono hb6.size)); replace HX := Lib.hid (HX.out.next hb6); (try replace HA := Lib.hid (HA.out.below hb6 HA.out.lt)); clear hb6; (try clear c0 c1 c2 c3); obtain ⟨c0, c1, c2, c3⟩ := HX.out.tab4; (try clear x0 x1 x2 x3 x4 x5); have x0 := HA.out.cell 0; have x1 := HA.out.cell 1; have x2 := HA.out.cell 2; have x3 := HA.out.cell 3; have x4 := HA.out.cell 4; have x5 := HA.out.cell 5))
    go_ret
    exact ⟨rfl, HX.out.below⟩
  have ds : decide (a1 < s0_0) = false := decide_eq_false hs
  by_cases he : s0_2 - 1 ≤ a1
  · have de : decide (s0_2 - 1 ≤ a1) = true := decide_eq_true he
    clear g hrow hfits hnl h0 h64 hs he
    go_enter Tryd.func5, Tryd.ntmps5
    go_wp2_with (first
      | (go_at_call 9; refine (alive_yes _ (HT.out.below HX.out.below)).mono ?_; rintro e w1 ⟨rfl, hb1⟩; (try replace HRT := Lib.hid ((HRT.out.below hb1).mono hb1.size)); replace HX := Lib.hid (HX.out.next hb1); clear hb1; (try clear c0 c1 c2 c3); obtain ⟨c0, c1, c2, c3⟩ := HX.out.tab4)
      | (go_at_call 10; refine (HMD.out _ HX.out.below).mono ?_; intro e w2 hp; obtain ⟨q, rfl, hr, hb2⟩ := HMY.out _ _ _ hp; clear hp; (try replace HRT := Lib.hid ((HRT.out.below hb2).mono hb2.size)); replace HX := Lib.hid (HX.out.next hb2); clear hb2; (try clear c0 c1 c2 c3); obtain ⟨c0, c1, c2, c3⟩ := HX.out.tab4; have HRT := Lib.hid hr; clear hr)
      | (go_at_call 10; refine (HMD.out _ HX.out.below).mono ?_; intro e w2 hp; obtain ⟨rfl, hb2⟩ := HMN.out _ _ _ hp; clear hp; (try replace HRT := Lib.hid ((HRT.out.below hb2).mono hb2.size)); replace HX := Lib.hid (HX.out.next hb2); clear hb2; (try clear c0 c1 c2 c3); obtain ⟨c0, c1, c2, c3⟩ := HX.out.tab4)
      | (go_at_call 17; refine (HBG.out _ HX.out.below).mono ?_; rintro e w3 ⟨rfl, hb3⟩; (try replace HRT := Lib.hid ((HRT.out.below hb3).mono hb3.size)); replace HX := Lib.hid (HX.out.next hb3); clear hb3; (try clear c0 c1 c2 c3); obtain ⟨c0, c1, c2, c3⟩ := HX.out.tab4)
      | (go_at_call 18; refine (HST.out _ HX.out.below).mono ?_; rintro e w4 ⟨rfl, hb4⟩; (try replace HRT := Lib.hid ((HRT.out.below hb4).mono hb4.size)); replace HX := Lib.hid (HX.out.next hb4); clear hb4; (try clear c0 c1 c2 c3); obtain ⟨c0, c1, c2, c3⟩ := HX.out.tab4)
      | (go_at_call 11; with_reducible refine (HO.out _ _ HRT.out).mono ?_; rintro e w5 ⟨rfl, hbz⟩; have HQ := Lib.hid (Box.start w5 35 #[.int .i64 y, .int .i64 m, .int .i64 d, .int .i64 23, .int .i64 59, .int .i64 V]); have hb5 := hbz.trans (HQ.out.below.mono hbz.size); have HA := Lib.hid HQ.out.holds; clear HQ hbz; (try replace HRT := Lib.hid ((HRT.out.below hb5).mono hb5.size)); replace HX := Lib.hid (HX.out.next hb5); clear hb5; (try clear c0 c1 c2 c3); obtain ⟨c0, c1, c2, c3⟩ := HX.out.tab4; (try clear x0 x1 x2 x3 x4 x5); have x0 := HA.out.cell 0; have x1 := HA.out.cell 1; have x2 := HA.out.cell 2; have x3 := HA.out.cell 3; have x4 := HA.out.cell 4; have x5 := HA.out.cell 5)
      | (go_at_call 11; with_reducible refine (HO.out _ _ HRT.out).mono ?_; rintro e w5 ⟨rfl, hbz⟩; have HQ := Lib.hid (Box.start w5 35 #[.int .i64 y, .int .i64 m, .int .i64 d, .int .i64 0, .int .i64 0, .int .i64 K]); have hb5 := hbz.trans (HQ.out.below.mono hbz.size); have HA := Lib.hid HQ.out.holds; clear HQ hbz; (try replace HRT := Lib.hid ((HRT.out.below hb5).mono hb5.size)); replace HX := Lib.hid (HX.out.next hb5); clear hb5; (try clear c0 c1 c2 c3); obtain ⟨c0, c1, c2, c3⟩ := HX.out.tab4; (try clear x0 x1 x2 x3 x4 x5); have x0 := HA.out.cell 0; have x1 := HA.out.cell 1; have x2 := HA.out.cell 2; have x3 := HA.out.cell 3; have x4 := HA.out.cell 4; have x5 := HA.out.cell 5)
      | (go_at_call 19; refine (HTX.out _ HX.out.below).mono ?_; rintro e w6 ⟨rfl, hb6⟩; (try replace HRT := Lib.hid ((HRT.out.below hb6).mono hb6.size)); replace HX := Lib.hid (HX.out.next hb6); (try replace HA := Lib.hid (HA.out.below hb6 HA.out.lt)); clear hb6; (try clear c0 c1 c2 c3); obtain ⟨c0, c1, c2, c3⟩ := HX.out.tab4; (try clear x0 x1 x2 x3 x4 x5); have x0 := HA.out.cell 0; have x1 := HA.out.cell 1; have x2 := HA.out.cell 2; have x3 := HA.out.cell 3; have x4 := HA.out.cell 4; have x5 := HA.out.cell 5))
    go_ret
    exact ⟨rfl, HX.out.below⟩
  have de : decide (s0_2 - 1 ≤ a1) = false := decide_eq_false he
  have hw2 := IntWalk.i64_in (a1 + 1) (by have := g.fine.s1; have := g.fine.e2; omega)
  have HBG := Lib.hid (fun W (hW : Below w.heap.size w W) => rubegin_any W A0_3 n0_3 c0_3 (a1 + 1) g (HR.out.below hW) HN.out (by have := g.fine.s1; omega) (by have := g.fine.e2; omega))
  have HST := Lib.hid (fun W (hW : Below w.heap.size w W) => rstep_any W s0_0 s0_1 s0_2 A0_3 n0_3 c0_3 L a1 (HR.out.below hW) HN.out)
  have HLR := Lib.hid (fun K k1 k2 => leap_round g (show s0_0 ≤ a1 by omega) (show a1 < s0_2 - 1 by omega) K k1 k2)
  have HWL := Lib.hid (fun (K : Int) (s : ByteArray) (y m d H M S : Int) (h : Was s0_0 s0_1 s0_2 a1 K L s) k => was_less (y := y) (m := m) (d := d) (H := H) (M := M) (S := S) g h k)
  have HG := Lib.hid g
  have bb := g.beg (a1 + 1)
  have hst := stepL_mem (d := a1) g.ones
  have z1 := g.fine.s1
  have z2 := g.fine.e2
  obtain ⟨B, hB⟩ : ∃ B, beginV s0_1 L (a1 + 1) = B := ⟨_, rfl⟩
  obtain ⟨Z, hZ⟩ : ∃ B, stepL L a1 = B := ⟨_, rfl⟩
  have HBE := Lib.hid hB
  rw [hB] at HBG HLR bb
  rw [hZ] at HST HLR hst
  have bbd : -100000000000000 ≤ B ∧ B ≤ 100000000000000 := by omega
  have zbd : -1 ≤ Z ∧ Z ≤ 1 := by omega
  have HBD := Lib.hid (And.intro bbd zbd)
  clear bb bbd zbd hst z1 z2 hB hZ g hrow hfits hnl h0 h64 hs he
  go_enter Tryd.func5, Tryd.ntmps5
  go_wp2_with (first
    | (go_at_call 9; refine (alive_yes _ (HT.out.below HX.out.below)).mono ?_; rintro e w1 ⟨rfl, hb1⟩; (try replace HRT := Lib.hid ((HRT.out.below hb1).mono hb1.size)); replace HX := Lib.hid (HX.out.next hb1); clear hb1; (try clear c0 c1 c2 c3); obtain ⟨c0, c1, c2, c3⟩ := HX.out.tab4)
    | (go_at_call 10; refine (HMD.out _ HX.out.below).mono ?_; intro e w2 hp; obtain ⟨q, rfl, hr, hb2⟩ := HMY.out _ _ _ hp; clear hp; (try replace HRT := Lib.hid ((HRT.out.below hb2).mono hb2.size)); replace HX := Lib.hid (HX.out.next hb2); clear hb2; (try clear c0 c1 c2 c3); obtain ⟨c0, c1, c2, c3⟩ := HX.out.tab4; have HRT := Lib.hid hr; clear hr)
    | (go_at_call 10; refine (HMD.out _ HX.out.below).mono ?_; intro e w2 hp; obtain ⟨rfl, hb2⟩ := HMN.out _ _ _ hp; clear hp; (try replace HRT := Lib.hid ((HRT.out.below hb2).mono hb2.size)); replace HX := Lib.hid (HX.out.next hb2); clear hb2; (try clear c0 c1 c2 c3); obtain ⟨c0, c1, c2, c3⟩ := HX.out.tab4)
    | (go_at_call 17; refine (HBG.out _ HX.out.below).mono ?_; rintro e w3 ⟨rfl, hb3⟩; (try replace HRT := Lib.hid ((HRT.out.below hb3).mono hb3.size)); replace HX := Lib.hid (HX.out.next hb3); clear hb3; (try clear c0 c1 c2 c3); obtain ⟨c0, c1, c2, c3⟩ := HX.out.tab4)
    | (go_at_call 18; refine (HST.out _ HX.out.below).mono ?_; rintro e w4 ⟨rfl, hb4⟩; (try replace HRT := Lib.hid ((HRT.out.below hb4).mono hb4.size)); replace HX := Lib.hid (HX.out.next hb4); clear hb4; (try clear c0 c1 c2 c3); obtain ⟨c0, c1, c2, c3⟩ := HX.out.tab4)
    | (go_at_call 11; with_reducible refine (HO.out _ _ HRT.out).mono ?_; rintro e w5 ⟨rfl, hbz⟩; have HQ := Lib.hid (Box.start w5 35 #[.int .i64 y, .int .i64 m, .int .i64 d, .int .i64 23, .int .i64 59, .int .i64 V]); have hb5 := hbz.trans (HQ.out.below.mono hbz.size); have HA := Lib.hid HQ.out.holds; clear HQ hbz; (try replace HRT := Lib.hid ((HRT.out.below hb5).mono hb5.size)); replace HX := Lib.hid (HX.out.next hb5); clear hb5; (try clear c0 c1 c2 c3); obtain ⟨c0, c1, c2, c3⟩ := HX.out.tab4; (try clear x0 x1 x2 x3 x4 x5); have x0 := HA.out.cell 0; have x1 := HA.out.cell 1; have x2 := HA.out.cell 2; have x3 := HA.out.cell 3; have x4 := HA.out.cell 4; have x5 := HA.out.cell 5)
    | (go_at_call 11; with_reducible refine (HO.out _ _ HRT.out).mono ?_; rintro e w5 ⟨rfl, hbz⟩; have HQ := Lib.hid (Box.start w5 35 #[.int .i64 y, .int .i64 m, .int .i64 d, .int .i64 0, .int .i64 0, .int .i64 K]); have hb5 := hbz.trans (HQ.out.below.mono hbz.size); have HA := Lib.hid HQ.out.holds; clear HQ hbz; (try replace HRT := Lib.hid ((HRT.out.below hb5).mono hb5.size)); replace HX := Lib.hid (HX.out.next hb5); clear hb5; (try clear c0 c1 c2 c3); obtain ⟨c0, c1, c2, c3⟩ := HX.out.tab4; (try clear x0 x1 x2 x3 x4 x5); have x0 := HA.out.cell 0; have x1 := HA.out.cell 1; have x2 := HA.out.cell 2; have x3 := HA.out.cell 3; have x4 := HA.out.cell 4; have x5 := HA.out.cell 5)
    | (go_at_call 19; refine (HTX.out _ HX.out.below).mono ?_; rintro e w6 ⟨rfl, hb6⟩; (try replace HRT := Lib.hid ((HRT.out.below hb6).mono hb6.size)); replace HX := Lib.hid (HX.out.next hb6); (try replace HA := Lib.hid (HA.out.below hb6 HA.out.lt)); clear hb6; (try clear c0 c1 c2 c3); obtain ⟨c0, c1, c2, c3⟩ := HX.out.tab4; (try clear x0 x1 x2 x3 x4 x5); have x0 := HA.out.cell 0; have x1 := HA.out.cell 1; have x2 := HA.out.cell 2; have x3 := HA.out.cell 3; have x4 := HA.out.cell 4; have x5 := HA.out.cell 5))
  go_loopw [9, 10] (fun was kv wr => ∃ (K : Int) (s : ByteArray), -3 ≤ K ∧ K ≤ 2 ∧ was = .string s ∧ kv = .int .i64 K ∧ Was s0_0 s0_1 s0_2 a1 K L s ∧ Box w 24 #[.int .i64 s0_0, .int .i64 s0_1, .int .i64 s0_2, .slice A0_3 n0_3 c0_3] wr ∧ Rt wr wr.heap.size q ⟨s0_0, s0_1, s0_2, L⟩) (fun _ kv _ => (2 - intOf kv).toNat)
  case atStart => exact ⟨-3, ⟨#[]⟩, by decide, by decide, rfl, rfl, .inl ⟨rfl, rfl⟩, HX.out, HRT.out⟩
  case round =>
    clear HX HRT
    (try clear c0 c1 c2 c3)
    obtain ⟨K, s, k1, k2, rfl, rfl, hwas, hx, hrt⟩ := hrel
    have HX := Lib.hid hx
    have HRT := Lib.hid hrt
    clear hx hrt
    by_cases hk : K ≤ 1
    · have hkd : decide (K ≤ 1) = true := decide_eq_true hk
      obtain ⟨y, m, d, H, M, S, hi, hv⟩ := HLR.out K k1 hk
      rw [← HBE.out] at hi
      obtain ⟨q1, q2⟩ := HWL.out K s y m d H M S hwas hi
      have HWAS := Lib.hid (show Was s0_0 s0_1 s0_2 a1 (K + 1) L (textU y m d H M S) from .inr ⟨y, m, d, H, M, S, by rw [show beginV s0_1 L (a1 + 1) + (K + 1) - 1 = beginV s0_1 L (a1 + 1) + K by omega]; exact hi, rfl⟩)
      have HO := Lib.hid (fun W q (h : Rt W W.heap.size q ⟨s0_0, s0_1, s0_2, L⟩) => of_hit HG.out hi (by obtain ⟨⟨b1, b2⟩, _⟩ := HBD.out; rw [HBE.out]; exact ⟨by omega, by omega⟩) q W h)
      have HTX := Lib.hid (fun W (hW : Below w.heap.size w W) => utext_yes y m d H M S W hi.can hi.time (HT.out.below hW))
      have sz := textU_size y m d H M S
      rw [HBE.out] at HO
      obtain ⟨⟨b1, b2⟩, ⟨b3, b4⟩⟩ := HBD.out
      have e1 := IntWalk.i64_in (B + K) (by omega)
      have e2 := IntWalk.i64_in (K + 1) (by omega)
      have e3 := IntWalk.i64_in (60 + K) (by omega)
      have e4 := IntWalk.i64_in (60 + K + Z) (by omega)
      obtain ⟨TX, hTX⟩ : ∃ T, textU y m d H M S = T := ⟨_, rfl⟩
      simp only [hTX] at HTX sz q1 q2 HWAS
      have sz2 : ((TX.size : Int) != 20) = false := by rw [sz]; rfl
      have sz3 : (TX.size : Int) = 20 := by rw [sz]; rfl
      clear hi hTX hwas b1 b2 b3 b4
      rcases hv with ⟨hk0, rfl, rfl, rfl⟩ | ⟨hk0, rfl, rfl, hSK⟩
      · have d1 : decide (K < 0) = true := decide_eq_true hk0
        have d2 : decide (0 ≤ K) = false := decide_eq_false (by omega)
        obtain ⟨V, hV⟩ : ∃ V, 60 + K + Z = V := ⟨_, rfl⟩
        rw [hV] at HO HTX e4
        have d3 : (V != V) = false := by simp
        go_wp2_with (first
          | (go_at_call 9; refine (alive_yes _ (HT.out.below HX.out.below)).mono ?_; rintro e w1 ⟨rfl, hb1⟩; (try replace HRT := Lib.hid ((HRT.out.below hb1).mono hb1.size)); replace HX := Lib.hid (HX.out.next hb1); clear hb1; (try clear c0 c1 c2 c3); obtain ⟨c0, c1, c2, c3⟩ := HX.out.tab4)
          | (go_at_call 10; refine (HMD.out _ HX.out.below).mono ?_; intro e w2 hp; obtain ⟨q, rfl, hr, hb2⟩ := HMY.out _ _ _ hp; clear hp; (try replace HRT := Lib.hid ((HRT.out.below hb2).mono hb2.size)); replace HX := Lib.hid (HX.out.next hb2); clear hb2; (try clear c0 c1 c2 c3); obtain ⟨c0, c1, c2, c3⟩ := HX.out.tab4; have HRT := Lib.hid hr; clear hr)
          | (go_at_call 10; refine (HMD.out _ HX.out.below).mono ?_; intro e w2 hp; obtain ⟨rfl, hb2⟩ := HMN.out _ _ _ hp; clear hp; (try replace HRT := Lib.hid ((HRT.out.below hb2).mono hb2.size)); replace HX := Lib.hid (HX.out.next hb2); clear hb2; (try clear c0 c1 c2 c3); obtain ⟨c0, c1, c2, c3⟩ := HX.out.tab4)
          | (go_at_call 17; refine (HBG.out _ HX.out.below).mono ?_; rintro e w3 ⟨rfl, hb3⟩; (try replace HRT := Lib.hid ((HRT.out.below hb3).mono hb3.size)); replace HX := Lib.hid (HX.out.next hb3); clear hb3; (try clear c0 c1 c2 c3); obtain ⟨c0, c1, c2, c3⟩ := HX.out.tab4)
          | (go_at_call 18; refine (HST.out _ HX.out.below).mono ?_; rintro e w4 ⟨rfl, hb4⟩; (try replace HRT := Lib.hid ((HRT.out.below hb4).mono hb4.size)); replace HX := Lib.hid (HX.out.next hb4); clear hb4; (try clear c0 c1 c2 c3); obtain ⟨c0, c1, c2, c3⟩ := HX.out.tab4)
          | (go_at_call 11; with_reducible refine (HO.out _ _ HRT.out).mono ?_; rintro e w5 ⟨rfl, hbz⟩; have HQ := Lib.hid (Box.start w5 35 #[.int .i64 y, .int .i64 m, .int .i64 d, .int .i64 23, .int .i64 59, .int .i64 V]); have hb5 := hbz.trans (HQ.out.below.mono hbz.size); have HA := Lib.hid HQ.out.holds; clear HQ hbz; (try replace HRT := Lib.hid ((HRT.out.below hb5).mono hb5.size)); replace HX := Lib.hid (HX.out.next hb5); clear hb5; (try clear c0 c1 c2 c3); obtain ⟨c0, c1, c2, c3⟩ := HX.out.tab4; (try clear x0 x1 x2 x3 x4 x5); have x0 := HA.out.cell 0; have x1 := HA.out.cell 1; have x2 := HA.out.cell 2; have x3 := HA.out.cell 3; have x4 := HA.out.cell 4; have x5 := HA.out.cell 5)
          | (go_at_call 11; with_reducible refine (HO.out _ _ HRT.out).mono ?_; rintro e w5 ⟨rfl, hbz⟩; have HQ := Lib.hid (Box.start w5 35 #[.int .i64 y, .int .i64 m, .int .i64 d, .int .i64 0, .int .i64 0, .int .i64 K]); have hb5 := hbz.trans (HQ.out.below.mono hbz.size); have HA := Lib.hid HQ.out.holds; clear HQ hbz; (try replace HRT := Lib.hid ((HRT.out.below hb5).mono hb5.size)); replace HX := Lib.hid (HX.out.next hb5); clear hb5; (try clear c0 c1 c2 c3); obtain ⟨c0, c1, c2, c3⟩ := HX.out.tab4; (try clear x0 x1 x2 x3 x4 x5); have x0 := HA.out.cell 0; have x1 := HA.out.cell 1; have x2 := HA.out.cell 2; have x3 := HA.out.cell 3; have x4 := HA.out.cell 4; have x5 := HA.out.cell 5)
          | (go_at_call 19; refine (HTX.out _ HX.out.below).mono ?_; rintro e w6 ⟨rfl, hb6⟩; (try replace HRT := Lib.hid ((HRT.out.below hb6).mono hb6.size)); replace HX := Lib.hid (HX.out.next hb6); (try replace HA := Lib.hid (HA.out.below hb6 HA.out.lt)); clear hb6; (try clear c0 c1 c2 c3); obtain ⟨c0, c1, c2, c3⟩ := HX.out.tab4; (try clear x0 x1 x2 x3 x4 x5); have x0 := HA.out.cell 0; have x1 := HA.out.cell 1; have x2 := HA.out.cell 2; have x3 := HA.out.cell 3; have x4 := HA.out.cell 4; have x5 := HA.out.cell 5))
        go_roundw
        case rel => exact ⟨K + 1, TX, by omega, by omega, rfl, rfl, HWAS.out, HX.out, HRT.out⟩
        case measure => simp [intOf]; omega
      · replace hSK := hSK.symm
        subst hSK
        have d1 : decide (K < 0) = false := decide_eq_false (by omega)
        have d2 : decide (0 ≤ K) = true := decide_eq_true hk0
        have d3 : (K != K) = false := by simp
        go_wp2_with (first
          | (go_at_call 9; refine (alive_yes _ (HT.out.below HX.out.below)).mono ?_; rintro e w1 ⟨rfl, hb1⟩; (try replace HRT := Lib.hid ((HRT.out.below hb1).mono hb1.size)); replace HX := Lib.hid (HX.out.next hb1); clear hb1; (try clear c0 c1 c2 c3); obtain ⟨c0, c1, c2, c3⟩ := HX.out.tab4)
          | (go_at_call 10; refine (HMD.out _ HX.out.below).mono ?_; intro e w2 hp; obtain ⟨q, rfl, hr, hb2⟩ := HMY.out _ _ _ hp; clear hp; (try replace HRT := Lib.hid ((HRT.out.below hb2).mono hb2.size)); replace HX := Lib.hid (HX.out.next hb2); clear hb2; (try clear c0 c1 c2 c3); obtain ⟨c0, c1, c2, c3⟩ := HX.out.tab4; have HRT := Lib.hid hr; clear hr)
          | (go_at_call 10; refine (HMD.out _ HX.out.below).mono ?_; intro e w2 hp; obtain ⟨rfl, hb2⟩ := HMN.out _ _ _ hp; clear hp; (try replace HRT := Lib.hid ((HRT.out.below hb2).mono hb2.size)); replace HX := Lib.hid (HX.out.next hb2); clear hb2; (try clear c0 c1 c2 c3); obtain ⟨c0, c1, c2, c3⟩ := HX.out.tab4)
          | (go_at_call 17; refine (HBG.out _ HX.out.below).mono ?_; rintro e w3 ⟨rfl, hb3⟩; (try replace HRT := Lib.hid ((HRT.out.below hb3).mono hb3.size)); replace HX := Lib.hid (HX.out.next hb3); clear hb3; (try clear c0 c1 c2 c3); obtain ⟨c0, c1, c2, c3⟩ := HX.out.tab4)
          | (go_at_call 18; refine (HST.out _ HX.out.below).mono ?_; rintro e w4 ⟨rfl, hb4⟩; (try replace HRT := Lib.hid ((HRT.out.below hb4).mono hb4.size)); replace HX := Lib.hid (HX.out.next hb4); clear hb4; (try clear c0 c1 c2 c3); obtain ⟨c0, c1, c2, c3⟩ := HX.out.tab4)
          | (go_at_call 11; with_reducible refine (HO.out _ _ HRT.out).mono ?_; rintro e w5 ⟨rfl, hbz⟩; have HQ := Lib.hid (Box.start w5 35 #[.int .i64 y, .int .i64 m, .int .i64 d, .int .i64 23, .int .i64 59, .int .i64 V]); have hb5 := hbz.trans (HQ.out.below.mono hbz.size); have HA := Lib.hid HQ.out.holds; clear HQ hbz; (try replace HRT := Lib.hid ((HRT.out.below hb5).mono hb5.size)); replace HX := Lib.hid (HX.out.next hb5); clear hb5; (try clear c0 c1 c2 c3); obtain ⟨c0, c1, c2, c3⟩ := HX.out.tab4; (try clear x0 x1 x2 x3 x4 x5); have x0 := HA.out.cell 0; have x1 := HA.out.cell 1; have x2 := HA.out.cell 2; have x3 := HA.out.cell 3; have x4 := HA.out.cell 4; have x5 := HA.out.cell 5)
          | (go_at_call 11; with_reducible refine (HO.out _ _ HRT.out).mono ?_; rintro e w5 ⟨rfl, hbz⟩; have HQ := Lib.hid (Box.start w5 35 #[.int .i64 y, .int .i64 m, .int .i64 d, .int .i64 0, .int .i64 0, .int .i64 K]); have hb5 := hbz.trans (HQ.out.below.mono hbz.size); have HA := Lib.hid HQ.out.holds; clear HQ hbz; (try replace HRT := Lib.hid ((HRT.out.below hb5).mono hb5.size)); replace HX := Lib.hid (HX.out.next hb5); clear hb5; (try clear c0 c1 c2 c3); obtain ⟨c0, c1, c2, c3⟩ := HX.out.tab4; (try clear x0 x1 x2 x3 x4 x5); have x0 := HA.out.cell 0; have x1 := HA.out.cell 1; have x2 := HA.out.cell 2; have x3 := HA.out.cell 3; have x4 := HA.out.cell 4; have x5 := HA.out.cell 5)
          | (go_at_call 19; refine (HTX.out _ HX.out.below).mono ?_; rintro e w6 ⟨rfl, hb6⟩; (try replace HRT := Lib.hid ((HRT.out.below hb6).mono hb6.size)); replace HX := Lib.hid (HX.out.next hb6); (try replace HA := Lib.hid (HA.out.below hb6 HA.out.lt)); clear hb6; (try clear c0 c1 c2 c3); obtain ⟨c0, c1, c2, c3⟩ := HX.out.tab4; (try clear x0 x1 x2 x3 x4 x5); have x0 := HA.out.cell 0; have x1 := HA.out.cell 1; have x2 := HA.out.cell 2; have x3 := HA.out.cell 3; have x4 := HA.out.cell 4; have x5 := HA.out.cell 5))
        go_roundw
        case rel => exact ⟨K + 1, TX, by omega, by omega, rfl, rfl, HWAS.out, HX.out, HRT.out⟩
        case measure => simp [intOf]; omega
    · have hkd : decide (K ≤ 1) = false := decide_eq_false hk
      clear hwas
      go_wp2
      go_ret
      exact ⟨rfl, HX.out.below⟩

set_option maxRecDepth 100000 in
theorem lifted (os : Os) (started : os.Started) (H : Type) (enc : TypeId × Value → H) :
    ReturnsInHanded {} Tryd.checked os 5 .any (fun w args => (Rows.utcLeapsSpec.pre enc Tryd.prog Tryd.f5 [] false w args ∧ laidMetH Tryd.prog laidTab w) ∧ sizedMet enc Tryd.prog Tryd.f5 (OpenSpec.ofChange Rows.utcLeapsSpec) false w args) (Rows.utcLeapsSpec.post enc Tryd.prog Tryd.f5 false true false false) := by
  refine returnsInHanded_of_change_and (C := Tryd.checked) (X := fun w _ => laidMetH Tryd.prog laidTab w) (fun _ _ _ hh h => h.of_heap hh) own started (by kernel_rfl) Tryd.func5
    (ChangeSpec.witness_shaped (enc := enc) (C := Tryd.checked) (os := os) (X := fun w _ => laidMetH Tryd.prog laidTab w) false (World.doorLaid Tryd.prog 14 os) #[.agg #[.int .i64 0, .int .i64 0, .int .i64 0, .slice none 0 0], .int .i64 0] 8 rfl (World.shaped_of_RefB (by kernel_rfl) (by kernel_rfl)) (by kernel_rfl) (by kernel_rfl) (by kernel_rfl) (door_met os _)) ?_
  intro W base args ds gs before hval0 hW _ _ hL _
  have hval : ∀ (j : Nat) t v, Tryd.f5.params[j]? = some t → args[j]? = some v → Value.okWide Tryd.prog W .any base t v := hval0
  have hW' := hW
  obtain ⟨p, q, hA0, hV, rfl, hfz, hnd⟩ := hW
  have hA : DataW.TrodAll enc Tryd.prog W 0 (fun _ => true) true Tryd.f5.params.toList args.toList ds p := hA0
  have hAk := hA
  rw [Tryd.params5] at hA hval
  obtain ⟨v0, vs0, d0, ds0, p0, q0, hargs, rfl, hp, h0, r0⟩ := trodAll_cons hA
  obtain ⟨v1, vs1, d1, ds1, p1, q1, rfl, rfl, rfl, h1, r1⟩ := trodAll_cons r0
  obtain ⟨rfl, rfl, rfl⟩ := trodAll_nil r1
  obtain rfl : args = #[v0, v1] := by cases args; simp_all
  obtain ⟨rfl, rfl⟩ := trodVars_none hV
  clear hA0 hval0 hargs
  simp only [List.append_nil] at hW'
  have hend : ∀ W' : World, Below W.heap.size W W' → Rows.utcLeapsSpec.post enc Tryd.prog Tryd.f5 false true false false W #[v0, v1] (.bool true) W' := fun W' hb =>
    law_post (tb := 4) hW' hAk rfl (by kernel_rfl) (by kernel_rfl) (by kernel_rfl) Tryd.underlying4 rfl rfl rfl hb
  clear hW' hAk hp
  obtain ⟨vs0', rfl, hfit0⟩ := flatS_arg (ks := [.p (.int .i64), .p (.int .i64), .p (.int .i64), .rows [.int .i64, .int .i64]]) 9 Tryd.underlying24 (by kernel_rfl) (hval 0 24 v0 rfl rfl) h0
  obtain ⟨s0_0, s0_1, s0_2, A0_3, n0_3, c0_3, f0_3, rfl, w0_0, w0_1, w0_2, w0_3⟩ := cells0 hfit0
  obtain ⟨a1, rfl, rfl, rfl, w1⟩ := open_int Tryd.underlying3 (hval 1 3 v1 rfl rfl) h1
  refine (walk s0_0 s0_1 s0_2 A0_3 n0_3 c0_3 f0_3 a1 W w0_0 w0_1 w0_2 w0_3 w1 (tab_of_laid hL)).mono fun e W' ⟨he, hg⟩ => ?_
  subst he
  exact ⟨_, rfl, hend W' hg⟩

theorem over : Rows.utcLeapsRow.holds Tryd.pinned (OpenSpec.ofChange Rows.utcLeapsSpec) :=
  OpenClaim.holds_of_wide 5 Tryd.f5 rfl rfl rfl rfl rfl rfl rfl ⟨rfl, rfl, rfl, rfl, rfl⟩ rfl rfl rfl rfl rfl (by kernel_rfl) Tryd.func5 (by kernel_rfl)
    (of_decide_eq_true (by kernel_rfl)) (by unfold Func.isWrapper; first | (rw [if_pos (by decide +kernel)]; kernel_rfl) | (rw [if_neg (by decide +kernel)]; exact ⟨rfl, rfl⟩))
    (fun os started H enc _ => lifted os started H enc)

/-- THE STATEMENT: the tied card -/
theorem proved : Rows.UtcLeapsCardSaid :=
  Claim7.holds_tied_plain_at .later [] [.data, .data, .data] true (true, "4adff61b54aac8345feb7c502e14ef75a75b01c7aacf952f94604b724cf580c8") false
    over (fun _ h => by cases h) (by kernel_rfl) (fun _ h => by cases h) utcLeaps_row_tie rfl ⟨rfl, rfl⟩ (by kernel_rfl) rfl
    (fun f fn hf hfn => by
      obtain rfl : f = 5 := Option.some.inj ((show Tryd.prog.funcNamed "angelus/angeluslaw22.UtcLeaps" = some 5 by kernel_rfl).symm.trans hf) |>.symm
      obtain rfl : fn = Tryd.f5 := (Option.some.inj (Tryd.func5.symm.trans hfn)).symm
      exact ⟨by kernel_rfl, fun j t ht => by
        rw [Tryd.params5] at ht
        have hm : t ∈ [24, 3] := by simpa using Array.mem_of_getElem? ht
        have hall : ([24, 3].all fun u => !Tryd.prog.wantsStandIn u) = true := by kernel_rfl
        exact (show Tryd.prog.wantsStandIn t = false by simpa using List.all_eq_true.1 hall t hm)⟩)
    (by kernel_rfl)
#print axioms proved
end Go.Proofs.YtcknllkbeadmlaaDoor.utcLeaps
