/-
  In every script of at most 100 calls each answer, and the anchor that there is, are the document's, with every table of at most 64 leaps that can be, or none; and a nil book's.
  The walk is the prover's own; the frame of the row's step follows the kit's template.
-/
import Derived.Test.YtmmdkafkfjfgnaaRows
import Derived.Test.YtmmdkafkfjfgnaaGrpAn1
import Derived.Test.YtmmdkafkfjfgnaaGrpAn3
import Derived.Test.YtmmdkafkfjfgnaaGrpAnchorDoes5
import Derived.Deep.CutBlock
import Derived.LoopTactic
namespace Go.Proofs.Ytmmdkafkfjfgnaa.anchorDoes
open Go.ChangeShapes Go.WideShapes Go.ChangeAt Go.RowKit Go.ChangeMaps Go.WideElems
set_option linter.unusedVariables false

theorem cells0 {W : World} {vs : List Value} (h : FitS W [.p (.int .i64), .p (.int .i64), .p (.int .i64), .rows [.int .i64, .int .i64]] vs) : ∃ (s0 : Int) (s1 : Int) (s2 : Int) (A3 : Option Addr) (n3 c3 : Nat) (f3 : Nat → List Value), vs = [.int .i64 s0, .int .i64 s1, .int .i64 s2, .slice A3 n3 c3] ∧ (Lit.int .i64 s0).wf = true ∧ (Lit.int .i64 s1).wf = true ∧ (Lit.int .i64 s2).wf = true ∧ FlatRow W [.int .i64, .int .i64] A3 n3 c3 f3 := by
  match vs, h.length, h with
  | [y0, y1, y2, y3], _, h =>
    obtain ⟨⟨x0, rfl, h0⟩, ⟨x1, rfl, h1⟩, ⟨x2, rfl, h2⟩, ⟨A3, n3, c3, x3, rfl, h3⟩, _⟩ := h
    exact ⟨x0, x1, x2, A3, n3, c3, x3, rfl, h0, h1, h2, h3⟩
theorem cells1 {W : World} {vs : List Value} (h : Fit W [.int .i64, .int .i64, .int .i64, .int .i64, .int .i64, .int .u16, .int .u16, .int .i64, .int .i64, .int .i64, .int .i64, .int .i64, .int .i64, .int .i64, .int .i64, .int .i64, .int .u16, .int .i64] vs) : ∃ (s0 : Int) (s1 : Int) (s2 : Int) (s3 : Int) (s4 : Int) (s5 : Int) (s6 : Int) (s7 : Int) (s8 : Int) (s9 : Int) (s10 : Int) (s11 : Int) (s12 : Int) (s13 : Int) (s14 : Int) (s15 : Int) (s16 : Int) (s17 : Int), vs = [.int .i64 s0, .int .i64 s1, .int .i64 s2, .int .i64 s3, .int .i64 s4, .int .u16 s5, .int .u16 s6, .int .i64 s7, .int .i64 s8, .int .i64 s9, .int .i64 s10, .int .i64 s11, .int .i64 s12, .int .i64 s13, .int .i64 s14, .int .i64 s15, .int .u16 s16, .int .i64 s17] ∧ (Lit.int .i64 s0).wf = true ∧ (Lit.int .i64 s1).wf = true ∧ (Lit.int .i64 s2).wf = true ∧ (Lit.int .i64 s3).wf = true ∧ (Lit.int .i64 s4).wf = true ∧ (Lit.int .u16 s5).wf = true ∧ (Lit.int .u16 s6).wf = true ∧ (Lit.int .i64 s7).wf = true ∧ (Lit.int .i64 s8).wf = true ∧ (Lit.int .i64 s9).wf = true ∧ (Lit.int .i64 s10).wf = true ∧ (Lit.int .i64 s11).wf = true ∧ (Lit.int .i64 s12).wf = true ∧ (Lit.int .i64 s13).wf = true ∧ (Lit.int .i64 s14).wf = true ∧ (Lit.int .i64 s15).wf = true ∧ (Lit.int .u16 s16).wf = true ∧ (Lit.int .i64 s17).wf = true := by
  match vs, h.length, h with
  | [y0, y1, y2, y3, y4, y5, y6, y7, y8, y9, y10, y11, y12, y13, y14, y15, y16, y17], _, h =>
    obtain ⟨⟨x0, rfl, h0⟩, ⟨x1, rfl, h1⟩, ⟨x2, rfl, h2⟩, ⟨x3, rfl, h3⟩, ⟨x4, rfl, h4⟩, ⟨x5, rfl, h5⟩, ⟨x6, rfl, h6⟩, ⟨x7, rfl, h7⟩, ⟨x8, rfl, h8⟩, ⟨x9, rfl, h9⟩, ⟨x10, rfl, h10⟩, ⟨x11, rfl, h11⟩, ⟨x12, rfl, h12⟩, ⟨x13, rfl, h13⟩, ⟨x14, rfl, h14⟩, ⟨x15, rfl, h15⟩, ⟨x16, rfl, h16⟩, ⟨x17, rfl, h17⟩, _⟩ := h
    exact ⟨x0, x1, x2, x3, x4, x5, x6, x7, x8, x9, x10, x11, x12, x13, x14, x15, x16, x17, rfl, h0, h1, h2, h3, h4, h5, h6, h7, h8, h9, h10, h11, h12, h13, h14, h15, h16, h17⟩
theorem own : ownKnob Try.prog.godebug = none := by kernel_rfl
set_option linter.unusedSimpArgs false
set_option maxRecDepth 100000 in
set_option maxHeartbeats 8000000 in
theorem walk (s0_0 : Int) (s0_1 : Int) (s0_2 : Int) (A0_3 : Option Addr) (n0_3 c0_3 : Nat) (f0_3 : Nat → List Value) (A1 : Option Addr) (n1 c1 : Nat) (f1 : Nat → List Value) (w : World) (w0_0 : (Lit.int .i64 s0_0).wf = true) (w0_1 : (Lit.int .i64 s0_1).wf = true) (w0_2 : (Lit.int .i64 s0_2).wf = true) (w0_3 : FlatRow w [.int .i64, .int .i64] A0_3 n0_3 c0_3 f0_3) (w1 : FlatRow w [.int .i64, .int .i64, .int .i64, .int .i64, .int .i64, .int .u16, .int .u16, .int .i64, .int .i64, .int .i64, .int .i64, .int .i64, .int .i64, .int .i64, .int .i64, .int .i64, .int .u16, .int .i64] A1 n1 c1 f1) :
    Calls Try.prog 3 #[.agg #[.int .i64 s0_0, .int .i64 s0_1, .int .i64 s0_2, .slice A0_3 n0_3 c0_3], .slice A1 n1 c1] w fun e w' => e = .returned (.bool true) ∧ Below w.heap.size w w' := by
  obtain ⟨L, hrow, hfits⟩ := prow_of_flat w0_3
  have hnl := hrow.len
  have HR := Lib.hid hrow
  have hcap := w1.cap_le
  have hmx := w1.max
  unfold maxLen at hmx
  have R := Lib.hid w1
  have HX := Lib.hid (Box.start w 24 #[.int .i64 s0_0, .int .i64 s0_1, .int .i64 s0_2, .slice A0_3 n0_3 c0_3])
  clear hrow hfits w1
  by_cases h100 : 100 < n1
  · have d0 : decide ((100 : Int) < (n1 : Int)) = true := decide_eq_true (by omega)
    go_enter Try.func3, Try.ntmps3
    go_wp2_with (first
      | (go_at_call 6; refine (alive_yes _).mono ?_; rintro e wa ⟨rfl, hb⟩; replace HX := Lib.hid (HX.out.next hb); clear hb; (try clear c0 c1 c2 c3); have c0 : _ = some (Value.int .i64 s0_0) := HX.out.holds.cell 0; have c1 : _ = some (Value.int .i64 s0_1) := HX.out.holds.cell 1; have c2 : _ = some (Value.int .i64 s0_2) := HX.out.holds.cell 2; have c3 : _ = some (Value.slice A0_3 n0_3 c0_3) := HX.out.holds.cell 3)
      | (go_at_call 7; refine (HMD.out _ HX.out.below).mono ?_; intro e wb hp; obtain ⟨tp, rfl, htl, hb⟩ := made_tells hp; clear hp; replace HX := Lib.hid (HX.out.next hb); have HTL := Lib.hid htl; clear htl hb)
      | (go_at_call 8; refine (adrop_nil _).mono ?_; rintro e wx ⟨rfl, hwx⟩; subst wx)
      | (go_at_call 9; refine (ahas_nil _).mono ?_; rintro e wc ⟨rfl, hb⟩; have HY := Lib.hid (Box.start wc 31 #[.int .i64 0, .int .u16 0, .int .i64 0, .int .u16 0, .int .i64 0, .int .i64 0]); replace HA := Lib.hid ((HA.out.more hb).more HY.out.below); clear hb HY)
      | (go_at_call 10; refine (atai_nil _ _ _ _).mono ?_; rintro e wd ⟨rfl, hb⟩; have HY := Lib.hid (Box.start wd 38 #[.int .i64 0, .int .i64 0]); replace HA := Lib.hid ((HA.out.more hb).more HY.out.below); clear hb HY)
      | (go_at_call 11; refine (amake_nil _ _ _ _ _ _ _ _).mono ?_; rintro e we ⟨rfl, hb⟩; have HY := Lib.hid (Box.start we 31 #[.int .i64 0, .int .u16 0, .int .i64 0, .int .u16 0, .int .i64 0, .int .i64 0]); replace HA := Lib.hid ((HA.out.more hb).more HY.out.below); clear hb HY)
      | (go_at_call 12; refine (atim_nil _ _ _ _).mono ?_; rintro e wf ⟨rfl, hb⟩; replace HA := Lib.hid (HA.out.more hb); clear hb)
      | (go_at_call 13; refine (ahear_nil _ _ _ _ _ _ _).mono ?_; rintro e wh ⟨rfl, hb⟩; replace HA := Lib.hid (HA.out.more hb); clear hb))
    go_ret
    exact ⟨rfl, HX.out.below⟩
  have d0 : decide ((100 : Int) < (n1 : Int)) = false := decide_eq_false (by omega)
  by_cases h64 : 64 < n0_3
  · have d1 : decide ((64 : Int) < (n0_3 : Int)) = true := decide_eq_true (by omega)
    go_enter Try.func3, Try.ntmps3
    go_wp2_with (first
      | (go_at_call 6; refine (alive_yes _).mono ?_; rintro e wa ⟨rfl, hb⟩; replace HX := Lib.hid (HX.out.next hb); clear hb; (try clear c0 c1 c2 c3); have c0 : _ = some (Value.int .i64 s0_0) := HX.out.holds.cell 0; have c1 : _ = some (Value.int .i64 s0_1) := HX.out.holds.cell 1; have c2 : _ = some (Value.int .i64 s0_2) := HX.out.holds.cell 2; have c3 : _ = some (Value.slice A0_3 n0_3 c0_3) := HX.out.holds.cell 3)
      | (go_at_call 7; refine (HMD.out _ HX.out.below).mono ?_; intro e wb hp; obtain ⟨tp, rfl, htl, hb⟩ := made_tells hp; clear hp; replace HX := Lib.hid (HX.out.next hb); have HTL := Lib.hid htl; clear htl hb)
      | (go_at_call 8; refine (adrop_nil _).mono ?_; rintro e wx ⟨rfl, hwx⟩; subst wx)
      | (go_at_call 9; refine (ahas_nil _).mono ?_; rintro e wc ⟨rfl, hb⟩; have HY := Lib.hid (Box.start wc 31 #[.int .i64 0, .int .u16 0, .int .i64 0, .int .u16 0, .int .i64 0, .int .i64 0]); replace HA := Lib.hid ((HA.out.more hb).more HY.out.below); clear hb HY)
      | (go_at_call 10; refine (atai_nil _ _ _ _).mono ?_; rintro e wd ⟨rfl, hb⟩; have HY := Lib.hid (Box.start wd 38 #[.int .i64 0, .int .i64 0]); replace HA := Lib.hid ((HA.out.more hb).more HY.out.below); clear hb HY)
      | (go_at_call 11; refine (amake_nil _ _ _ _ _ _ _ _).mono ?_; rintro e we ⟨rfl, hb⟩; have HY := Lib.hid (Box.start we 31 #[.int .i64 0, .int .u16 0, .int .i64 0, .int .u16 0, .int .i64 0, .int .i64 0]); replace HA := Lib.hid ((HA.out.more hb).more HY.out.below); clear hb HY)
      | (go_at_call 12; refine (atim_nil _ _ _ _).mono ?_; rintro e wf ⟨rfl, hb⟩; replace HA := Lib.hid (HA.out.more hb); clear hb)
      | (go_at_call 13; refine (ahear_nil _ _ _ _ _ _ _).mono ?_; rintro e wh ⟨rfl, hb⟩; replace HA := Lib.hid (HA.out.more hb); clear hb))
    go_ret
    exact ⟨rfl, HX.out.below⟩
  have d1 : decide ((64 : Int) < (n0_3 : Int)) = false := decide_eq_false (by omega)
  have HN := Lib.hid (show n0_3 ≤ 1000 by omega)
  have HMD := Lib.hid (fun W (hW : Below w.heap.size w W) => made_any W s0_0 s0_1 s0_2 A0_3 n0_3 c0_3 L (HR.out.below hW) HN.out)
  clear h64 hnl
  go_enter Try.func3, Try.ntmps3
  go_upto_region 7 with (first
    | (go_at_call 6; refine (alive_yes _).mono ?_; rintro e wa ⟨rfl, hb⟩; replace HX := Lib.hid (HX.out.next hb); clear hb; (try clear c0 c1 c2 c3); have c0 : _ = some (Value.int .i64 s0_0) := HX.out.holds.cell 0; have c1 : _ = some (Value.int .i64 s0_1) := HX.out.holds.cell 1; have c2 : _ = some (Value.int .i64 s0_2) := HX.out.holds.cell 2; have c3 : _ = some (Value.slice A0_3 n0_3 c0_3) := HX.out.holds.cell 3)
    | (go_at_call 7; refine (HMD.out _ HX.out.below).mono ?_; intro e wb hp; obtain ⟨tp, rfl, htl, hb⟩ := made_tells hp; clear hp; replace HX := Lib.hid (HX.out.next hb); have HTL := Lib.hid htl; clear htl hb)
    | (go_at_call 8; refine (adrop_nil _).mono ?_; rintro e wx ⟨rfl, hwx⟩; subst wx)
    | (go_at_call 9; refine (ahas_nil _).mono ?_; rintro e wc ⟨rfl, hb⟩; have HY := Lib.hid (Box.start wc 31 #[.int .i64 0, .int .u16 0, .int .i64 0, .int .u16 0, .int .i64 0, .int .i64 0]); replace HA := Lib.hid ((HA.out.more hb).more HY.out.below); clear hb HY)
    | (go_at_call 10; refine (atai_nil _ _ _ _).mono ?_; rintro e wd ⟨rfl, hb⟩; have HY := Lib.hid (Box.start wd 38 #[.int .i64 0, .int .i64 0]); replace HA := Lib.hid ((HA.out.more hb).more HY.out.below); clear hb HY)
    | (go_at_call 11; refine (amake_nil _ _ _ _ _ _ _ _).mono ?_; rintro e we ⟨rfl, hb⟩; have HY := Lib.hid (Box.start we 31 #[.int .i64 0, .int .u16 0, .int .i64 0, .int .u16 0, .int .i64 0, .int .i64 0]); replace HA := Lib.hid ((HA.out.more hb).more HY.out.below); clear hb HY)
    | (go_at_call 12; refine (atim_nil _ _ _ _).mono ?_; rintro e wf ⟨rfl, hb⟩; replace HA := Lib.hid (HA.out.more hb); clear hb)
    | (go_at_call 13; refine (ahear_nil _ _ _ _ _ _ _).mono ?_; rintro e wh ⟨rfl, hb⟩; replace HA := Lib.hid (HA.out.more hb); clear hb))
  have HB0 := Lib.hid HX.out.below
  have HA := Lib.hid (Ab.start wb (W := wb) (Below.refl _ _))
  obtain ⟨x, hx⟩ : ∃ x, wb.heap.size = x := ⟨_, rfl⟩
  simp only [hx] at HA ⊢
  clear hx c0 c1 c2 c3 HX HMD
  rw [show (#[.int .i64 0, .int .u16 0, .int .i64 0, .int .u16 0, .int .i64 0, .int .i64 0, .bool false] : Array Value) = (bk7 .none).toArray from rfl]
  obtain ⟨V1, hV1⟩ : ∃ V1, V1 = wb.alloc (.cells (bk7 .none).toArray 33) := ⟨_, rfl⟩
  rw [← hV1] at HA ⊢
  clear hV1
  go_wp2_with (first
    | (go_at_call 6; refine (alive_yes _).mono ?_; rintro e wa ⟨rfl, hb⟩; replace HX := Lib.hid (HX.out.next hb); clear hb; (try clear c0 c1 c2 c3); have c0 : _ = some (Value.int .i64 s0_0) := HX.out.holds.cell 0; have c1 : _ = some (Value.int .i64 s0_1) := HX.out.holds.cell 1; have c2 : _ = some (Value.int .i64 s0_2) := HX.out.holds.cell 2; have c3 : _ = some (Value.slice A0_3 n0_3 c0_3) := HX.out.holds.cell 3)
    | (go_at_call 7; refine (HMD.out _ HX.out.below).mono ?_; intro e wb hp; obtain ⟨tp, rfl, htl, hb⟩ := made_tells hp; clear hp; replace HX := Lib.hid (HX.out.next hb); have HTL := Lib.hid htl; clear htl hb)
    | (go_at_call 8; refine (adrop_nil _).mono ?_; rintro e wx ⟨rfl, hwx⟩; subst wx)
    | (go_at_call 9; refine (ahas_nil _).mono ?_; rintro e wc ⟨rfl, hb⟩; have HY := Lib.hid (Box.start wc 31 #[.int .i64 0, .int .u16 0, .int .i64 0, .int .u16 0, .int .i64 0, .int .i64 0]); replace HA := Lib.hid ((HA.out.more hb).more HY.out.below); clear hb HY)
    | (go_at_call 10; refine (atai_nil _ _ _ _).mono ?_; rintro e wd ⟨rfl, hb⟩; have HY := Lib.hid (Box.start wd 38 #[.int .i64 0, .int .i64 0]); replace HA := Lib.hid ((HA.out.more hb).more HY.out.below); clear hb HY)
    | (go_at_call 11; refine (amake_nil _ _ _ _ _ _ _ _).mono ?_; rintro e we ⟨rfl, hb⟩; have HY := Lib.hid (Box.start we 31 #[.int .i64 0, .int .u16 0, .int .i64 0, .int .u16 0, .int .i64 0, .int .i64 0]); replace HA := Lib.hid ((HA.out.more hb).more HY.out.below); clear hb HY)
    | (go_at_call 12; refine (atim_nil _ _ _ _).mono ?_; rintro e wf ⟨rfl, hb⟩; replace HA := Lib.hid (HA.out.more hb); clear hb)
    | (go_at_call 13; refine (ahear_nil _ _ _ _ _ _ _).mono ?_; rintro e wh ⟨rfl, hb⟩; replace HA := Lib.hid (HA.out.more hb); clear hb))
  have HS := Lib.hid (Ad.start HA.out)
  obtain ⟨y, hy⟩ : ∃ y, wh.heap.size = y := ⟨_, rfl⟩
  rw [hy] at HS
  simp only [hy]
  clear hy
  go_loopw [85] (fun i wr => ∃ (k : Nat) (s : BS), k ≤ n1 ∧ i = .int .i64 (k : Int) ∧ Ad wb wr x y s) (fun i _ => n1 - (intOf i).toNat)
  case atStart => exact ⟨0, .none, Nat.zero_le _, rfl, HS.out⟩
  case round =>
    clear HA HS
    obtain ⟨k, s, hk, rfl, hs⟩ := hrel
    have HD := Lib.hid hs
    clear hs
    by_cases hlt : k < n1
    · skip
      obtain ⟨ca, off, rfl, hb', hc⟩ := (R.out.below (HB0.out.trans (HD.out.one.below.mono HB0.out.size))).at 18 rfl hlt
      obtain ⟨s0, s1, s2, s3, s4, s5, s6, s7, s8, s9, s10, s11, s12, s13, s14, s15, s16, s17, hf, hw0, hw1, hw2, hw3, hw4, hw5, hw6, hw7, hw8, hw9, hw10, hw11, hw12, hw13, hw14, hw15, hw16, hw17⟩ := cells1 (R.out.fit k hlt)
      rw [hf] at hc
      have ew := IntWalk.i64_in ((k : Int) + 1) (by omega)
      have hsp : splice ([.int .i64 0, .int .i64 0, .int .i64 0, .int .i64 0, .int .i64 0, .int .u16 0, .int .u16 0, .int .i64 0, .int .i64 0, .int .i64 0, .int .i64 0, .int .i64 0, .int .i64 0, .int .i64 0, .int .i64 0, .int .i64 0, .int .u16 0, .int .i64 0] : List Value) 0 ([.int .i64 s0, .int .i64 s1, .int .i64 s2, .int .i64 s3, .int .i64 s4, .int .u16 s5, .int .u16 s6, .int .i64 s7, .int .i64 s8, .int .i64 s9, .int .i64 s10, .int .i64 s11, .int .i64 s12, .int .i64 s13, .int .i64 s14, .int .i64 s15, .int .u16 s16, .int .i64 s17] : List Value) = [.int .i64 s0, .int .i64 s1, .int .i64 s2, .int .i64 s3, .int .i64 s4, .int .u16 s5, .int .u16 s6, .int .i64 s7, .int .i64 s8, .int .i64 s9, .int .i64 s10, .int .i64 s11, .int .i64 s12, .int .i64 s13, .int .i64 s14, .int .i64 s15, .int .u16 s16, .int .i64 s17] := splice_all _ _ rfl
      have hsp14 : splice ([.int .i64 0, .int .i64 0, .int .i64 0, .int .i64 0, .int .u16 0, .int .u16 0, .int .i64 0, .int .i64 0, .int .i64 0, .int .i64 0, .int .i64 0, .int .i64 0, .int .i64 0, .int .i64 0] : List Value) 0 ([.int .i64 s1, .int .i64 s2, .int .i64 s3, .int .i64 s4, .int .u16 s5, .int .u16 s6, .int .i64 s7, .int .i64 s8, .int .i64 s9, .int .i64 s10, .int .i64 s11, .int .i64 s12, .int .i64 s13, .int .i64 s14] : List Value) = [.int .i64 s1, .int .i64 s2, .int .i64 s3, .int .i64 s4, .int .u16 s5, .int .u16 s6, .int .i64 s7, .int .i64 s8, .int .i64 s9, .int .i64 s10, .int .i64 s11, .int .i64 s12, .int .i64 s13, .int .i64 s14] := splice_all _ _ rfl
      have hpart : ∀ j v, ([.int .i64 s1, .int .i64 s2, .int .i64 s3, .int .i64 s4, .int .u16 s5, .int .u16 s6, .int .i64 s7, .int .i64 s8, .int .i64 s9, .int .i64 s10, .int .i64 s11, .int .i64 s12, .int .i64 s13, .int .i64 s14] : List Value)[j]? = some v → (#[.int .i64 s0, .int .i64 s1, .int .i64 s2, .int .i64 s3, .int .i64 s4, .int .u16 s5, .int .u16 s6, .int .i64 s7, .int .i64 s8, .int .i64 s9, .int .i64 s10, .int .i64 s11, .int .i64 s12, .int .i64 s13, .int .i64 s14, .int .i64 s15, .int .u16 s16, .int .i64 s17] : Array Value)[1 + j]? = some v := fun j v h => part_get [.int .i64 s0] [.int .i64 s1, .int .i64 s2, .int .i64 s3, .int .i64 s4, .int .u16 s5, .int .u16 s6, .int .i64 s7, .int .i64 s8, .int .i64 s9, .int .i64 s10, .int .i64 s11, .int .i64 s12, .int .i64 s13, .int .i64 s14] [.int .i64 s15, .int .u16 s16, .int .i64 s17] j v h
      have one18 : ∀ v ∈ ([.int .i64 s0, .int .i64 s1, .int .i64 s2, .int .i64 s3, .int .i64 s4, .int .u16 s5, .int .u16 s6, .int .i64 s7, .int .i64 s8, .int .i64 s9, .int .i64 s10, .int .i64 s11, .int .i64 s12, .int .i64 s13, .int .i64 s14, .int .i64 s15, .int .u16 s16, .int .i64 s17] : List Value), v.oneCell' = true := by
        intro v hv
        simp only [List.mem_cons, List.not_mem_nil, or_false] at hv
        rcases hv with rfl | rfl | rfl | rfl | rfl | rfl | rfl | rfl | rfl | rfl | rfl | rfl | rfl | rfl | rfl | rfl | rfl | rfl <;> rfl
      have one14 : ∀ v ∈ ([.int .i64 s1, .int .i64 s2, .int .i64 s3, .int .i64 s4, .int .u16 s5, .int .u16 s6, .int .i64 s7, .int .i64 s8, .int .i64 s9, .int .i64 s10, .int .i64 s11, .int .i64 s12, .int .i64 s13, .int .i64 s14] : List Value), v.oneCell' = true := by
        intro v hv
        simp only [List.mem_cons, List.not_mem_nil, or_false] at hv
        rcases hv with rfl | rfl | rfl | rfl | rfl | rfl | rfl | rfl | rfl | rfl | rfl | rfl | rfl | rfl <;> rfl
      have HHr := Lib.hid (fun W (h : Ad wb W x y s) => ahear_any W x s h.one.book s2 s6 s4 s5 s13 s14 (fits_wf hw2) (f16_wf hw6) (fits_wf hw4) (f16_wf hw5) (fits_wf hw13) (fits_wf hw14))
      have HRr := Lib.hid (fun W (h : Ah wb W x y s (anHear s s2 s6 s4 s5 s13 s14)) => rhear_any W y s h.doc s2 s3 s4 s5 s6 s7 s8 s9 s10 s11 s12 s13 s14 (fits_wf hw2) (fits_wf hw4) (fits_wf hw13) (fits_wf hw14) (f16_wf hw5) (f16_wf hw6) h.inv.q)
      have HIh := Lib.hid (fun W (h : Ad wb W x y s) => h.inv.hear s2 s6 s4 s5 s13 s14)
      have HMk := Lib.hid (fun W (h : Ad wb W x y s) (hm : anMade s s2 s4 s5 s13 s14 = true) => amake_yes W x s h.one.book s2 s13 0 s4 s5 0 s14 (fits_wf hw2) (fits_wf hw4) (f16_wf hw5) (fits_wf hw13) (fits_wf hw14) hm)
      have HMn := Lib.hid (fun W (h : Ad wb W x y s) (hm : anMade s s2 s4 s5 s13 s14 = false) => amake_no W x s h.one.book s2 s13 0 s4 s5 0 s14 (fits_wf hw2) (fits_wf hw4) (f16_wf hw5) (fits_wf hw13) (fits_wf hw14) hm)
      have HQk := Lib.hid (fun W u (h : Ah wb W x y s u) (hm : anMade s s2 s4 s5 s13 s14 = true) => rmake_yes W y s h.doc s2 s4 s5 s13 s14 (fits_wf hw2) (fits_wf hw4) (f16_wf hw5) (fits_wf hw13) (fits_wf hw14) h.inv.q hm)
      have HQn := Lib.hid (fun W u (h : Ah wb W x y s u) (hm : anMade s s2 s4 s5 s13 s14 = false) => rmake_no W y s h.doc s2 s4 s5 s13 s14 (fits_wf hw2) (fits_wf hw4) (f16_wf hw5) (fits_wf hw13) (fits_wf hw14) h.inv.q hm)
      clear hf hw0 hw1 hw2 hw3 hw4 hw5 hw6 hw7 hw8 hw9 hw10 hw11 hw12 hw13 hw14 hw15 hw16 hw17
      have hkind : (s0 = 0 ∨ s0 = 1) ∨ s0 = 2 ∨ s0 = 3 ∨ ((s0 == 0) = false ∧ (s0 == 1) = false ∧ (s0 == 2) = false ∧ (s0 == 3) = false) := by
        by_cases k0 : s0 = 0 <;> by_cases k1 : s0 = 1 <;> by_cases k2 : s0 = 2 <;> by_cases k3 : s0 = 3 <;> simp_all
      go_upto_block 2 with (first
        | (refine wpList_load_cells rfl 58 (.tmp 87) rfl ca (off + k * 18) rfl [.int .i64 s0, .int .i64 s1, .int .i64 s2, .int .i64 s3, .int .i64 s4, .int .u16 s5, .int .u16 s6, .int .i64 s7, .int .i64 s8, .int .i64 s9, .int .i64 s10, .int .i64 s11, .int .i64 s12, .int .i64 s13, .int .i64 s14, .int .i64 s15, .int .u16 s16, .int .i64 s17] _ hc Try.underlying58 rfl (by kernel_rfl) ?_)
        | (refine wpList_store_at rfl 58 (.tmp 18) (.tmp 88) rfl wr.heap.size 0 [.int .i64 s0, .int .i64 s1, .int .i64 s2, .int .i64 s3, .int .i64 s4, .int .u16 s5, .int .u16 s6, .int .i64 s7, .int .i64 s8, .int .i64 s9, .int .i64 s10, .int .i64 s11, .int .i64 s12, .int .i64 s13, .int .i64 s14, .int .i64 s15, .int .u16 s16, .int .i64 s17] rfl rfl 58 [.int .i64 0, .int .i64 0, .int .i64 0, .int .i64 0, .int .i64 0, .int .u16 0, .int .u16 0, .int .i64 0, .int .i64 0, .int .i64 0, .int .i64 0, .int .i64 0, .int .i64 0, .int .i64 0, .int .i64 0, .int .i64 0, .int .u16 0, .int .i64 0] (Holds.new _ _ _) (by kernel_rfl) (Nat.le_refl 18) one18 ?_; rw [hsp]; obtain ⟨hbe, hoe⟩ := elem_new wr 58 [.int .i64 0, .int .i64 0, .int .i64 0, .int .i64 0, .int .i64 0, .int .u16 0, .int .u16 0, .int .i64 0, .int .i64 0, .int .i64 0, .int .i64 0, .int .i64 0, .int .i64 0, .int .i64 0, .int .i64 0, .int .i64 0, .int .u16 0, .int .i64 0] [.int .i64 s0, .int .i64 s1, .int .i64 s2, .int .i64 s3, .int .i64 s4, .int .u16 s5, .int .u16 s6, .int .i64 s7, .int .i64 s8, .int .i64 s9, .int .i64 s10, .int .i64 s11, .int .i64 s12, .int .i64 s13, .int .i64 s14, .int .i64 s15, .int .u16 s16, .int .i64 s17]; generalize World.setRow (World.alloc wr (.cells [.int .i64 0, .int .i64 0, .int .i64 0, .int .i64 0, .int .i64 0, .int .u16 0, .int .u16 0, .int .i64 0, .int .i64 0, .int .i64 0, .int .i64 0, .int .i64 0, .int .i64 0, .int .i64 0, .int .i64 0, .int .i64 0, .int .u16 0, .int .i64 0].toArray 58)) wr.heap.size [.int .i64 s0, .int .i64 s1, .int .i64 s2, .int .i64 s3, .int .i64 s4, .int .u16 s5, .int .u16 s6, .int .i64 s7, .int .i64 s8, .int .i64 s9, .int .i64 s10, .int .i64 s11, .int .i64 s12, .int .i64 s13, .int .i64 s14, .int .i64 s15, .int .u16 s16, .int .i64 s17].toArray = W1 at hbe hoe ⊢; have HD1 := Lib.hid (HD.out.more hbe); have HO := Lib.hid hoe; clear hbe hoe hc hsp one18)
        | (refine wpList_load_at rfl 54 (.tmp 89) rfl wr.heap.size 1 rfl 58 _ [.int .i64 s1, .int .i64 s2, .int .i64 s3, .int .i64 s4, .int .u16 s5, .int .u16 s6, .int .i64 s7, .int .i64 s8, .int .i64 s9, .int .i64 s10, .int .i64 s11, .int .i64 s12, .int .i64 s13, .int .i64 s14] _ HO.out hpart Try.underlying54 rfl (by kernel_rfl) ?_)
        | (refine wpList_store_at rfl 54 (.tmp 19) (.tmp 90) rfl W1.heap.size 0 [.int .i64 s1, .int .i64 s2, .int .i64 s3, .int .i64 s4, .int .u16 s5, .int .u16 s6, .int .i64 s7, .int .i64 s8, .int .i64 s9, .int .i64 s10, .int .i64 s11, .int .i64 s12, .int .i64 s13, .int .i64 s14] rfl rfl 54 [.int .i64 0, .int .i64 0, .int .i64 0, .int .i64 0, .int .u16 0, .int .u16 0, .int .i64 0, .int .i64 0, .int .i64 0, .int .i64 0, .int .i64 0, .int .i64 0, .int .i64 0, .int .i64 0] (Holds.new _ _ _) (by kernel_rfl) (Nat.le_refl 14) one14 ?_; rw [hsp14]; obtain ⟨hbe, hoe⟩ := elem_new W1 54 [.int .i64 0, .int .i64 0, .int .i64 0, .int .i64 0, .int .u16 0, .int .u16 0, .int .i64 0, .int .i64 0, .int .i64 0, .int .i64 0, .int .i64 0, .int .i64 0, .int .i64 0, .int .i64 0] [.int .i64 s1, .int .i64 s2, .int .i64 s3, .int .i64 s4, .int .u16 s5, .int .u16 s6, .int .i64 s7, .int .i64 s8, .int .i64 s9, .int .i64 s10, .int .i64 s11, .int .i64 s12, .int .i64 s13, .int .i64 s14]; generalize World.setRow (World.alloc W1 (.cells [.int .i64 0, .int .i64 0, .int .i64 0, .int .i64 0, .int .u16 0, .int .u16 0, .int .i64 0, .int .i64 0, .int .i64 0, .int .i64 0, .int .i64 0, .int .i64 0, .int .i64 0, .int .i64 0].toArray 54)) W1.heap.size [.int .i64 s1, .int .i64 s2, .int .i64 s3, .int .i64 s4, .int .u16 s5, .int .u16 s6, .int .i64 s7, .int .i64 s8, .int .i64 s9, .int .i64 s10, .int .i64 s11, .int .i64 s12, .int .i64 s13, .int .i64 s14].toArray = W2 at hbe hoe ⊢; have HD2 := Lib.hid (HD1.out.more hbe); have HO2 := Lib.hid (HO.out.below hbe HO.out.lt); have HP := Lib.hid hoe; have HXO := Lib.hid (show wr.heap.size < W1.heap.size from HO.out.lt); have o0 : _ = some (Value.int .i64 s0) := HO2.out.cell 0; clear hbe hoe hsp14 one14))
      obtain ⟨xo, hxo⟩ : ∃ b, wr.heap.size = b := ⟨_, rfl⟩
      obtain ⟨xp, hxp⟩ : ∃ b, W1.heap.size = b := ⟨_, rfl⟩
      rw [hxo] at HO2 HXO
      rw [hxp] at HP HXO
      have HXP := Lib.hid (show wb.heap.size ≤ xp by have h1 := HD.out.one.below.size; rw [hxo] at h1; have := HXO.out; omega)
      simp only [hxo, hxp]
      clear hxo hxp hpart HD1 HO
      clear o0
      go_cut [20, 21, 22, 85] from 85 to 189 (fun _ _ _ i wx => ∃ s' : BS, i = .int .i64 (k : Int) ∧ Ad wb wx x y s' ∧ Holds wx xo 58 #[.int .i64 s0, .int .i64 s1, .int .i64 s2, .int .i64 s3, .int .i64 s4, .int .u16 s5, .int .u16 s6, .int .i64 s7, .int .i64 s8, .int .i64 s9, .int .i64 s10, .int .i64 s11, .int .i64 s12, .int .i64 s13, .int .i64 s14, .int .i64 s15, .int .u16 s16, .int .i64 s17])
      case first =>
        rcases hkind with hkind | hkind | hkind | hkind
        · as_aux_lemma =>
            have hk5 : s0 = 0 ∨ s0 = 1 := hkind
            clear hkind
            have p0 : _ = some (Value.int .i64 s1) := HP.out.cell 0
            have pf := HP.out.soft 0
            rcases hk5 with hk5 | hk5
            have e0 : (s0 == 0) = true := by simp [hk5]
            rotate_left
            have e0 : (s0 == 0) = false := by simp [hk5]
            have e1 : (s0 == 1) = true := by simp [hk5]
            all_goals
              clear hk5
              go_upto_region 24 with (fail)
              obtain ⟨V3, hV3⟩ : ∃ V3, V3 = W2.setCell ⟨xp, 0, none⟩ (.int .i64 6) := ⟨_, rfl⟩
              rw [← hV3]
              have hD3 : Ad wb V3 x y s := by rw [hV3]; exact HD2.out.far HP.out (by decide) (by decide) HXP.out 0 _
              have hP3 : Holds V3 xp 54 #[.int .i64 6, .int .i64 s2, .int .i64 s3, .int .i64 s4, .int .u16 s5, .int .u16 s6, .int .i64 s7, .int .i64 s8, .int .i64 s9, .int .i64 s10, .int .i64 s11, .int .i64 s12, .int .i64 s13, .int .i64 s14] := by rw [hV3]; exact HP.out.put 0 (.int .i64 6)
              have hO3 : Holds V3 xo 58 #[.int .i64 s0, .int .i64 s1, .int .i64 s2, .int .i64 s3, .int .i64 s4, .int .u16 s5, .int .u16 s6, .int .i64 s7, .int .i64 s8, .int .i64 s9, .int .i64 s10, .int .i64 s11, .int .i64 s12, .int .i64 s13, .int .i64 s14, .int .i64 s15, .int .u16 s16, .int .i64 s17] := by rw [hV3]; exact HO2.out.far (Nat.ne_of_lt HXO.out) _
              clear hV3 p0 pf
              have HD3 := Lib.hid (hD3.more (Below.refl _ _).drew)
              have HP3 := Lib.hid (show Holds V3.drew xp 54 #[.int .i64 6, .int .i64 s2, .int .i64 s3, .int .i64 s4, .int .u16 s5, .int .u16 s6, .int .i64 s7, .int .i64 s8, .int .i64 s9, .int .i64 s10, .int .i64 s11, .int .i64 s12, .int .i64 s13, .int .i64 s14] from hP3)
              have HO3 := Lib.hid (show Holds V3.drew xo 58 #[.int .i64 s0, .int .i64 s1, .int .i64 s2, .int .i64 s3, .int .i64 s4, .int .u16 s5, .int .u16 s6, .int .i64 s7, .int .i64 s8, .int .i64 s9, .int .i64 s10, .int .i64 s11, .int .i64 s12, .int .i64 s13, .int .i64 s14, .int .i64 s15, .int .u16 s16, .int .i64 s17] from hO3)
              clear hD3 hP3 hO3
              have HSN := Lib.hid (rfl : anHear s s2 s6 s4 s5 s13 s14 = anHear s s2 s6 s4 s5 s13 s14)
              refine region_turns (fun (w' : World) => w'.cell? ⟨xp, 0, none⟩ = some (.int .i64 6) ∧ w'.cell? ⟨xp, 1, none⟩ = some (.int .i64 s2) ∧ w'.cell? ⟨xp, 2, none⟩ = some (.int .i64 s3) ∧ w'.cell? ⟨xp, 3, none⟩ = some (.int .i64 s4) ∧ w'.cell? ⟨xp, 4, none⟩ = some (.int .u16 s5) ∧ w'.cell? ⟨xp, 5, none⟩ = some (.int .u16 s6) ∧ w'.cell? ⟨xp, 6, none⟩ = some (.int .i64 s7) ∧ w'.cell? ⟨xp, 7, none⟩ = some (.int .i64 s8) ∧ w'.cell? ⟨xp, 8, none⟩ = some (.int .i64 s9) ∧ w'.cell? ⟨xp, 9, none⟩ = some (.int .i64 s10) ∧ w'.cell? ⟨xp, 10, none⟩ = some (.int .i64 s11) ∧ w'.cell? ⟨xp, 11, none⟩ = some (.int .i64 s12) ∧ w'.cell? ⟨xp, 12, none⟩ = some (.int .i64 s13) ∧ w'.cell? ⟨xp, 13, none⟩ = some (.int .i64 s14)) (fun j => decide (7 ≤ j)) (by kernel_rfl) (⟨HP3.out.cell 0, HP3.out.cell 1, HP3.out.cell 2, HP3.out.cell 3, HP3.out.cell 4, HP3.out.cell 5, HP3.out.cell 6, HP3.out.cell 7, HP3.out.cell 8, HP3.out.cell 9, HP3.out.cell 10, HP3.out.cell 11, HP3.out.cell 12, HP3.out.cell 13⟩) (fun hS => ?_)
              refine Turns.take hS 0 _ rfl (by kernel_rfl) (by kernel_rfl) (by kernel_rfl) (by kernel_rfl) (fun _ _ _ h => h) (by rfl) (fun w' hS' => by (try dsimp only at hS'); go_split_ands; go_simp; (try with_reducible rfl)) ?_
              simp only [Act.put, List.getElem_toArray, List.getElem_cons_succ, List.getElem_cons_zero, List.setIfInBounds_toArray, List.set_cons_zero, List.set_cons_succ]
              refine Turns.take hS 3 _ rfl (by kernel_rfl) (by kernel_rfl) (by kernel_rfl) (by kernel_rfl) (fun _ _ _ h => h) (by rfl) (fun w' hS' => by (try dsimp only at hS'); go_split_ands; go_simp; (try with_reducible rfl)) ?_
              simp only [Act.put, List.getElem_toArray, List.getElem_cons_succ, List.getElem_cons_zero, List.setIfInBounds_toArray, List.set_cons_zero, List.set_cons_succ]
              refine Turns.take hS 4 _ rfl (by kernel_rfl) (by kernel_rfl) (by kernel_rfl) (by kernel_rfl) (fun _ _ _ h => h) (by rfl) (fun w' hS' => by (try dsimp only at hS'); go_split_ands; go_simp; (try with_reducible rfl)) ?_
              simp only [Act.put, List.getElem_toArray, List.getElem_cons_succ, List.getElem_cons_zero, List.setIfInBounds_toArray, List.set_cons_zero, List.set_cons_succ]
              refine Turns.next 1 rfl (by kernel_rfl) (by rfl) (fun K hK => ?_)
              go_simp
              go_at_call 14
              refine (lof_any _ _ _ _ _ _ _ _ _ _ _ _ _ _ _).mono ?_
              rintro e w4 ⟨rfl, hb⟩
              replace HD3 := Lib.hid (HD3.out.more hb)
              replace HP3 := Lib.hid (HP3.out.below hb HP3.out.lt)
              replace HO3 := Lib.hid (HO3.out.below hb HO3.out.lt)
              clear hb
              refine hK.out _ _ (show (fun (w' : World) => w'.cell? ⟨xp, 0, none⟩ = some (.int .i64 6) ∧ w'.cell? ⟨xp, 1, none⟩ = some (.int .i64 s2) ∧ w'.cell? ⟨xp, 2, none⟩ = some (.int .i64 s3) ∧ w'.cell? ⟨xp, 3, none⟩ = some (.int .i64 s4) ∧ w'.cell? ⟨xp, 4, none⟩ = some (.int .u16 s5) ∧ w'.cell? ⟨xp, 5, none⟩ = some (.int .u16 s6) ∧ w'.cell? ⟨xp, 6, none⟩ = some (.int .i64 s7) ∧ w'.cell? ⟨xp, 7, none⟩ = some (.int .i64 s8) ∧ w'.cell? ⟨xp, 8, none⟩ = some (.int .i64 s9) ∧ w'.cell? ⟨xp, 9, none⟩ = some (.int .i64 s10) ∧ w'.cell? ⟨xp, 10, none⟩ = some (.int .i64 s11) ∧ w'.cell? ⟨xp, 11, none⟩ = some (.int .i64 s12) ∧ w'.cell? ⟨xp, 12, none⟩ = some (.int .i64 s13) ∧ w'.cell? ⟨xp, 13, none⟩ = some (.int .i64 s14)) _ from ⟨HP3.out.cell 0, HP3.out.cell 1, HP3.out.cell 2, HP3.out.cell 3, HP3.out.cell 4, HP3.out.cell 5, HP3.out.cell 6, HP3.out.cell 7, HP3.out.cell 8, HP3.out.cell 9, HP3.out.cell 10, HP3.out.cell 11, HP3.out.cell 12, HP3.out.cell 13⟩) ?_
              clear hK K hS
              have hS := (show (fun (w' : World) => w'.cell? ⟨xp, 0, none⟩ = some (.int .i64 6) ∧ w'.cell? ⟨xp, 1, none⟩ = some (.int .i64 s2) ∧ w'.cell? ⟨xp, 2, none⟩ = some (.int .i64 s3) ∧ w'.cell? ⟨xp, 3, none⟩ = some (.int .i64 s4) ∧ w'.cell? ⟨xp, 4, none⟩ = some (.int .u16 s5) ∧ w'.cell? ⟨xp, 5, none⟩ = some (.int .u16 s6) ∧ w'.cell? ⟨xp, 6, none⟩ = some (.int .i64 s7) ∧ w'.cell? ⟨xp, 7, none⟩ = some (.int .i64 s8) ∧ w'.cell? ⟨xp, 8, none⟩ = some (.int .i64 s9) ∧ w'.cell? ⟨xp, 9, none⟩ = some (.int .i64 s10) ∧ w'.cell? ⟨xp, 10, none⟩ = some (.int .i64 s11) ∧ w'.cell? ⟨xp, 11, none⟩ = some (.int .i64 s12) ∧ w'.cell? ⟨xp, 12, none⟩ = some (.int .i64 s13) ∧ w'.cell? ⟨xp, 13, none⟩ = some (.int .i64 s14)) _ from ⟨HP3.out.cell 0, HP3.out.cell 1, HP3.out.cell 2, HP3.out.cell 3, HP3.out.cell 4, HP3.out.cell 5, HP3.out.cell 6, HP3.out.cell 7, HP3.out.cell 8, HP3.out.cell 9, HP3.out.cell 10, HP3.out.cell 11, HP3.out.cell 12, HP3.out.cell 13⟩)
              refine Turns.next 2 rfl (by kernel_rfl) (by rfl) (fun K hK => ?_)
              go_simp
              go_at_call 13
              refine (HHr.out _ HD3.out).mono ?_
              rintro e w5 ⟨rfl, hg⟩
              replace HP3 := Lib.hid (HD3.out.keep HP3.out (by decide) hg)
              replace HO3 := Lib.hid (HD3.out.keep HO3.out (by decide) hg)
              have HAH := Lib.hid (HD3.out.half hg)
              have HIV := Lib.hid (HIh.out _ HD3.out)
              clear hg
              refine hK.out _ _ (show (fun (w' : World) => w'.cell? ⟨xp, 0, none⟩ = some (.int .i64 6) ∧ w'.cell? ⟨xp, 1, none⟩ = some (.int .i64 s2) ∧ w'.cell? ⟨xp, 2, none⟩ = some (.int .i64 s3) ∧ w'.cell? ⟨xp, 3, none⟩ = some (.int .i64 s4) ∧ w'.cell? ⟨xp, 4, none⟩ = some (.int .u16 s5) ∧ w'.cell? ⟨xp, 5, none⟩ = some (.int .u16 s6) ∧ w'.cell? ⟨xp, 6, none⟩ = some (.int .i64 s7) ∧ w'.cell? ⟨xp, 7, none⟩ = some (.int .i64 s8) ∧ w'.cell? ⟨xp, 8, none⟩ = some (.int .i64 s9) ∧ w'.cell? ⟨xp, 9, none⟩ = some (.int .i64 s10) ∧ w'.cell? ⟨xp, 10, none⟩ = some (.int .i64 s11) ∧ w'.cell? ⟨xp, 11, none⟩ = some (.int .i64 s12) ∧ w'.cell? ⟨xp, 12, none⟩ = some (.int .i64 s13) ∧ w'.cell? ⟨xp, 13, none⟩ = some (.int .i64 s14)) _ from ⟨HP3.out.cell 0, HP3.out.cell 1, HP3.out.cell 2, HP3.out.cell 3, HP3.out.cell 4, HP3.out.cell 5, HP3.out.cell 6, HP3.out.cell 7, HP3.out.cell 8, HP3.out.cell 9, HP3.out.cell 10, HP3.out.cell 11, HP3.out.cell 12, HP3.out.cell 13⟩) ?_
              clear hK K hS
              have hS := (show (fun (w' : World) => w'.cell? ⟨xp, 0, none⟩ = some (.int .i64 6) ∧ w'.cell? ⟨xp, 1, none⟩ = some (.int .i64 s2) ∧ w'.cell? ⟨xp, 2, none⟩ = some (.int .i64 s3) ∧ w'.cell? ⟨xp, 3, none⟩ = some (.int .i64 s4) ∧ w'.cell? ⟨xp, 4, none⟩ = some (.int .u16 s5) ∧ w'.cell? ⟨xp, 5, none⟩ = some (.int .u16 s6) ∧ w'.cell? ⟨xp, 6, none⟩ = some (.int .i64 s7) ∧ w'.cell? ⟨xp, 7, none⟩ = some (.int .i64 s8) ∧ w'.cell? ⟨xp, 8, none⟩ = some (.int .i64 s9) ∧ w'.cell? ⟨xp, 9, none⟩ = some (.int .i64 s10) ∧ w'.cell? ⟨xp, 10, none⟩ = some (.int .i64 s11) ∧ w'.cell? ⟨xp, 11, none⟩ = some (.int .i64 s12) ∧ w'.cell? ⟨xp, 12, none⟩ = some (.int .i64 s13) ∧ w'.cell? ⟨xp, 13, none⟩ = some (.int .i64 s14)) _ from ⟨HP3.out.cell 0, HP3.out.cell 1, HP3.out.cell 2, HP3.out.cell 3, HP3.out.cell 4, HP3.out.cell 5, HP3.out.cell 6, HP3.out.cell 7, HP3.out.cell 8, HP3.out.cell 9, HP3.out.cell 10, HP3.out.cell 11, HP3.out.cell 12, HP3.out.cell 13⟩)
              refine Turns.next 5 rfl (by kernel_rfl) (by rfl) (fun K hK => ?_)
              go_simp
              go_at_call 15
              refine (HRr.out _ HAH.out).mono ?_
              rintro e w6 ⟨rfl, hg⟩
              replace HP3 := Lib.hid (HAH.out.keep HP3.out (by decide) hg)
              replace HO3 := Lib.hid (HAH.out.keep HO3.out (by decide) hg)
              have HE := Lib.hid (HAH.out.whole HIV.out hg)
              clear hg
              have hbn : (anHeard s s2 s6 s4 s5 s13 s14 != anHeard s s2 s6 s4 s5 s13 s14) = false := by simp
              refine hK.out _ _ (show (fun (w' : World) => w'.cell? ⟨xp, 0, none⟩ = some (.int .i64 6) ∧ w'.cell? ⟨xp, 1, none⟩ = some (.int .i64 s2) ∧ w'.cell? ⟨xp, 2, none⟩ = some (.int .i64 s3) ∧ w'.cell? ⟨xp, 3, none⟩ = some (.int .i64 s4) ∧ w'.cell? ⟨xp, 4, none⟩ = some (.int .u16 s5) ∧ w'.cell? ⟨xp, 5, none⟩ = some (.int .u16 s6) ∧ w'.cell? ⟨xp, 6, none⟩ = some (.int .i64 s7) ∧ w'.cell? ⟨xp, 7, none⟩ = some (.int .i64 s8) ∧ w'.cell? ⟨xp, 8, none⟩ = some (.int .i64 s9) ∧ w'.cell? ⟨xp, 9, none⟩ = some (.int .i64 s10) ∧ w'.cell? ⟨xp, 10, none⟩ = some (.int .i64 s11) ∧ w'.cell? ⟨xp, 11, none⟩ = some (.int .i64 s12) ∧ w'.cell? ⟨xp, 12, none⟩ = some (.int .i64 s13) ∧ w'.cell? ⟨xp, 13, none⟩ = some (.int .i64 s14)) _ from ⟨HP3.out.cell 0, HP3.out.cell 1, HP3.out.cell 2, HP3.out.cell 3, HP3.out.cell 4, HP3.out.cell 5, HP3.out.cell 6, HP3.out.cell 7, HP3.out.cell 8, HP3.out.cell 9, HP3.out.cell 10, HP3.out.cell 11, HP3.out.cell 12, HP3.out.cell 13⟩) ?_
              clear hK K hS
              have hS := (show (fun (w' : World) => w'.cell? ⟨xp, 0, none⟩ = some (.int .i64 6) ∧ w'.cell? ⟨xp, 1, none⟩ = some (.int .i64 s2) ∧ w'.cell? ⟨xp, 2, none⟩ = some (.int .i64 s3) ∧ w'.cell? ⟨xp, 3, none⟩ = some (.int .i64 s4) ∧ w'.cell? ⟨xp, 4, none⟩ = some (.int .u16 s5) ∧ w'.cell? ⟨xp, 5, none⟩ = some (.int .u16 s6) ∧ w'.cell? ⟨xp, 6, none⟩ = some (.int .i64 s7) ∧ w'.cell? ⟨xp, 7, none⟩ = some (.int .i64 s8) ∧ w'.cell? ⟨xp, 8, none⟩ = some (.int .i64 s9) ∧ w'.cell? ⟨xp, 9, none⟩ = some (.int .i64 s10) ∧ w'.cell? ⟨xp, 10, none⟩ = some (.int .i64 s11) ∧ w'.cell? ⟨xp, 11, none⟩ = some (.int .i64 s12) ∧ w'.cell? ⟨xp, 12, none⟩ = some (.int .i64 s13) ∧ w'.cell? ⟨xp, 13, none⟩ = some (.int .i64 s14)) _ from ⟨HP3.out.cell 0, HP3.out.cell 1, HP3.out.cell 2, HP3.out.cell 3, HP3.out.cell 4, HP3.out.cell 5, HP3.out.cell 6, HP3.out.cell 7, HP3.out.cell 8, HP3.out.cell 9, HP3.out.cell 10, HP3.out.cell 11, HP3.out.cell 12, HP3.out.cell 13⟩)
              refine Turns.take hS 6 _ rfl (by kernel_rfl) (by kernel_rfl) (by kernel_rfl) (by kernel_rfl) (fun _ _ _ h => h) (by rfl) (fun w' hS' => by (try dsimp only at hS'); go_split_ands; go_simp; (try with_reducible rfl)) ?_
              simp only [Act.put, List.getElem_toArray, List.getElem_cons_succ, List.getElem_cons_zero, List.setIfInBounds_toArray, List.set_cons_zero, List.set_cons_succ]
              refine Turns.rest (late_done (by kernel_rfl)) ?_
              refine any_tail 7 (by rfl) (by kernel_rfl) ?_
              simp only [List.drop_succ_cons, List.drop_zero]
              clear hS
              go_wp2
              go_meet
              case rel => exact ⟨_, rfl, HE.out, HO3.out⟩
        · as_aux_lemma =>
            have e0 : (s0 == 0) = false := by simp [hkind]
            have e1 : (s0 == 1) = false := by simp [hkind]
            have e2 : (s0 == 2) = true := by simp [hkind]
            clear hkind HHr HRr HIh
            cases hm : anMade s s2 s4 s5 s13 s14 with
            | true =>
              have HIV := Lib.hid (show BInv ⟨true, s2, nextV s.q, s4, s5, s13, s14⟩ from BInv.of hm)
              have hmk := fun W h => HMk.out W h hm
              have hqk := fun W u h => HQk.out W u h hm
              obtain ⟨N, hN⟩ : ∃ N, nextV s.q = N := ⟨_, rfl⟩
              rw [hN] at hmk hqk HIV
              clear hN
              have HMK := Lib.hid hmk
              have HQK := Lib.hid hqk
              clear hmk hqk hm
              have p1 : _ = some (Value.int .i64 s2) := HP.out.cell 1
              have p3 : _ = some (Value.int .i64 s4) := HP.out.cell 3
              have p4 : _ = some (Value.int .u16 s5) := HP.out.cell 4
              have p12 : _ = some (Value.int .i64 s13) := HP.out.cell 12
              have p13 : _ = some (Value.int .i64 s14) := HP.out.cell 13
              go_upto_region 29 with (first
                | (go_at_call 11; refine (HMK.out _ HD2.out).mono ?_; rintro e w4 ⟨rfl, hg⟩; have HAH := Lib.hid (HD2.out.half hg); replace HP := Lib.hid (HD2.out.keep HP.out (by decide) hg); replace HO2 := Lib.hid (HD2.out.keep HO2.out (by decide) hg); clear hg; have HY := Lib.hid (Box.start w4 31 #[.int .i64 s2, .int .u16 N, .int .i64 s4, .int .u16 s5, .int .i64 s13, .int .i64 s14]); replace HAH := Lib.hid (HAH.out.more HY.out.below); replace HP := Lib.hid (HP.out.below HY.out.below HP.out.lt); replace HO2 := Lib.hid (HO2.out.below HY.out.below HO2.out.lt); have HAA := Lib.hid HY.out.holds; clear HY p1 p3 p4 p12 p13; have p1 : _ = some (Value.int .i64 s2) := HP.out.cell 1; have p3 : _ = some (Value.int .i64 s4) := HP.out.cell 3; have p4 : _ = some (Value.int .u16 s5) := HP.out.cell 4; have p12 : _ = some (Value.int .i64 s13) := HP.out.cell 12; have p13 : _ = some (Value.int .i64 s14) := HP.out.cell 13)
                | (go_at_call 16; refine (HQK.out _ _ HAH.out).mono ?_; rintro e w5 ⟨rfl, hg⟩; replace HAA := Lib.hid (HAH.out.keep HAA.out (by decide) hg); replace HO2 := Lib.hid (HAH.out.keep HO2.out (by decide) hg); have HE := Lib.hid (HAH.out.whole HIV.out hg); clear hg p1 p3 p4 p12 p13))
              have HLA := Lib.hid HAA.out.lt
              have hy5 := Holds.new w5 54 #[.int .i64 6, .int .i64 s2, .int .i64 0, .int .i64 s4, .int .u16 s5, .int .u16 N, .int .i64 0, .int .i64 0, .int .i64 0, .int .i64 0, .int .i64 0, .int .i64 0, .int .i64 s13, .int .i64 s14]
              have hb5 := below_alloc w5 (.cells #[.int .i64 6, .int .i64 s2, .int .i64 0, .int .i64 s4, .int .u16 s5, .int .u16 N, .int .i64 0, .int .i64 0, .int .i64 0, .int .i64 0, .int .i64 0, .int .i64 0, .int .i64 s13, .int .i64 s14] 54)
              replace HE := Lib.hid (HE.out.more hb5)
              replace HO2 := Lib.hid (HO2.out.below hb5 HO2.out.lt)
              replace HAA := Lib.hid (HAA.out.below hb5 HAA.out.lt)
              have HPP := Lib.hid hy5
              clear hb5 hy5
              obtain ⟨xa, hxa⟩ : ∃ b, w4.heap.size = b := ⟨_, rfl⟩
              obtain ⟨xq, hxq⟩ : ∃ b, w5.heap.size = b := ⟨_, rfl⟩
              rw [hxa] at HAA
              rw [hxq] at HPP
              simp only [hxa, hxq]
              clear hxa hxq HLA
              obtain ⟨V5, hV5⟩ : ∃ V5, V5 = w5.alloc (.cells #[.int .i64 6, .int .i64 s2, .int .i64 0, .int .i64 s4, .int .u16 s5, .int .u16 N, .int .i64 0, .int .i64 0, .int .i64 0, .int .i64 0, .int .i64 0, .int .i64 0, .int .i64 s13, .int .i64 s14] 54) := ⟨_, rfl⟩
              rw [← hV5] at HE HO2 HAA HPP ⊢
              clear hV5
              replace HE := Lib.hid (HE.out.more (Below.refl _ _).drew)
              replace HO2 := Lib.hid (show Holds V5.drew xo 58 #[.int .i64 s0, .int .i64 s1, .int .i64 s2, .int .i64 s3, .int .i64 s4, .int .u16 s5, .int .u16 s6, .int .i64 s7, .int .i64 s8, .int .i64 s9, .int .i64 s10, .int .i64 s11, .int .i64 s12, .int .i64 s13, .int .i64 s14, .int .i64 s15, .int .u16 s16, .int .i64 s17] from HO2.out)
              replace HAA := Lib.hid (show Holds V5.drew xa 31 #[.int .i64 s2, .int .u16 N, .int .i64 s4, .int .u16 s5, .int .i64 s13, .int .i64 s14] from HAA.out)
              replace HPP := Lib.hid (show Holds V5.drew xq 54 #[.int .i64 6, .int .i64 s2, .int .i64 0, .int .i64 s4, .int .u16 s5, .int .u16 N, .int .i64 0, .int .i64 0, .int .i64 0, .int .i64 0, .int .i64 0, .int .i64 0, .int .i64 s13, .int .i64 s14] from HPP.out)
              have hne := an_neq_same s2 N s4 s5 s13 s14
              refine region_turns (fun (w' : World) => w'.cell? ⟨xa, 0, none⟩ = some (.int .i64 s2) ∧ w'.cell? ⟨xa, 1, none⟩ = some (.int .u16 N) ∧ w'.cell? ⟨xa, 2, none⟩ = some (.int .i64 s4) ∧ w'.cell? ⟨xa, 3, none⟩ = some (.int .u16 s5) ∧ w'.cell? ⟨xa, 4, none⟩ = some (.int .i64 s13) ∧ w'.cell? ⟨xa, 5, none⟩ = some (.int .i64 s14) ∧ w'.cell? ⟨xq, 0, none⟩ = some (.int .i64 6)) (fun j => decide (20 ≤ j)) (by kernel_rfl) (⟨HAA.out.cell 0, HAA.out.cell 1, HAA.out.cell 2, HAA.out.cell 3, HAA.out.cell 4, HAA.out.cell 5, HPP.out.cell 0⟩) (fun hS => ?_)
              refine Turns.take hS 0 _ rfl (by kernel_rfl) (by kernel_rfl) (by kernel_rfl) (by kernel_rfl) (fun _ _ _ h => h) (by rfl) (fun w' hS' => by (try dsimp only at hS'); go_split_ands; go_simp; (try with_reducible rfl)) ?_
              simp only [Act.put, List.getElem_toArray, List.getElem_cons_succ, List.getElem_cons_zero, List.setIfInBounds_toArray, List.set_cons_zero, List.set_cons_succ]
              refine Turns.next 1 rfl (by kernel_rfl) (by rfl) (fun K hK => ?_)
              simp only [List.getElem_toArray, List.getElem_cons_succ, List.getElem_cons_zero]
              refine wp_load_at 54 (.tmp 22) rfl xq ?hx 54 [.int .i64 6, .int .i64 s2, .int .i64 0, .int .i64 s4, .int .u16 s5, .int .u16 N, .int .i64 0, .int .i64 0, .int .i64 0, .int .i64 0, .int .i64 0, .int .i64 0, .int .i64 s13, .int .i64 s14] _ HPP.out Try.underlying54 rfl (by kernel_rfl) ?_
              case hx => first | rfl | simp [Act.eval, Act.put]
              refine hK.out _ _ (show (fun (w' : World) => w'.cell? ⟨xa, 0, none⟩ = some (.int .i64 s2) ∧ w'.cell? ⟨xa, 1, none⟩ = some (.int .u16 N) ∧ w'.cell? ⟨xa, 2, none⟩ = some (.int .i64 s4) ∧ w'.cell? ⟨xa, 3, none⟩ = some (.int .u16 s5) ∧ w'.cell? ⟨xa, 4, none⟩ = some (.int .i64 s13) ∧ w'.cell? ⟨xa, 5, none⟩ = some (.int .i64 s14) ∧ w'.cell? ⟨xq, 0, none⟩ = some (.int .i64 6)) _ from ⟨HAA.out.cell 0, HAA.out.cell 1, HAA.out.cell 2, HAA.out.cell 3, HAA.out.cell 4, HAA.out.cell 5, HPP.out.cell 0⟩) ?_
              clear hK K hS
              have hS := (show (fun (w' : World) => w'.cell? ⟨xa, 0, none⟩ = some (.int .i64 s2) ∧ w'.cell? ⟨xa, 1, none⟩ = some (.int .u16 N) ∧ w'.cell? ⟨xa, 2, none⟩ = some (.int .i64 s4) ∧ w'.cell? ⟨xa, 3, none⟩ = some (.int .u16 s5) ∧ w'.cell? ⟨xa, 4, none⟩ = some (.int .i64 s13) ∧ w'.cell? ⟨xa, 5, none⟩ = some (.int .i64 s14) ∧ w'.cell? ⟨xq, 0, none⟩ = some (.int .i64 6)) _ from ⟨HAA.out.cell 0, HAA.out.cell 1, HAA.out.cell 2, HAA.out.cell 3, HAA.out.cell 4, HAA.out.cell 5, HPP.out.cell 0⟩)
              refine Turns.next 2 rfl (by kernel_rfl) (by rfl) (fun K hK => ?_)
              go_simp
              go_at_call 14
              refine (lof_any _ _ _ _ _ _ _ _ _ _ _ _ _ _ _).mono ?_
              rintro e w6 ⟨rfl, hb⟩
              replace HE := Lib.hid (HE.out.more hb)
              replace HO2 := Lib.hid (HO2.out.below hb HO2.out.lt)
              replace HAA := Lib.hid (HAA.out.below hb HAA.out.lt)
              replace HPP := Lib.hid (HPP.out.below hb HPP.out.lt)
              clear hb
              refine hK.out _ _ (show (fun (w' : World) => w'.cell? ⟨xa, 0, none⟩ = some (.int .i64 s2) ∧ w'.cell? ⟨xa, 1, none⟩ = some (.int .u16 N) ∧ w'.cell? ⟨xa, 2, none⟩ = some (.int .i64 s4) ∧ w'.cell? ⟨xa, 3, none⟩ = some (.int .u16 s5) ∧ w'.cell? ⟨xa, 4, none⟩ = some (.int .i64 s13) ∧ w'.cell? ⟨xa, 5, none⟩ = some (.int .i64 s14) ∧ w'.cell? ⟨xq, 0, none⟩ = some (.int .i64 6)) _ from ⟨HAA.out.cell 0, HAA.out.cell 1, HAA.out.cell 2, HAA.out.cell 3, HAA.out.cell 4, HAA.out.cell 5, HPP.out.cell 0⟩) ?_
              clear hK K hS
              have hS := (show (fun (w' : World) => w'.cell? ⟨xa, 0, none⟩ = some (.int .i64 s2) ∧ w'.cell? ⟨xa, 1, none⟩ = some (.int .u16 N) ∧ w'.cell? ⟨xa, 2, none⟩ = some (.int .i64 s4) ∧ w'.cell? ⟨xa, 3, none⟩ = some (.int .u16 s5) ∧ w'.cell? ⟨xa, 4, none⟩ = some (.int .i64 s13) ∧ w'.cell? ⟨xa, 5, none⟩ = some (.int .i64 s14) ∧ w'.cell? ⟨xq, 0, none⟩ = some (.int .i64 6)) _ from ⟨HAA.out.cell 0, HAA.out.cell 1, HAA.out.cell 2, HAA.out.cell 3, HAA.out.cell 4, HAA.out.cell 5, HPP.out.cell 0⟩)
              refine Turns.take hS 3 _ rfl (by kernel_rfl) (by kernel_rfl) (by kernel_rfl) (by kernel_rfl) (fun _ _ _ h => h) (by rfl) (fun w' hS' => by (try dsimp only at hS'); go_split_ands; go_simp; (try with_reducible rfl)) ?_
              simp only [Act.put, List.getElem_toArray, List.getElem_cons_succ, List.getElem_cons_zero, List.setIfInBounds_toArray, List.set_cons_zero, List.set_cons_succ]
              refine Turns.take hS 4 _ rfl (by kernel_rfl) (by kernel_rfl) (by kernel_rfl) (by kernel_rfl) (fun _ _ _ h => h) (by rfl) (fun w' hS' => by (try dsimp only at hS'); go_split_ands; go_simp; (try with_reducible rfl)) ?_
              simp only [Act.put, List.getElem_toArray, List.getElem_cons_succ, List.getElem_cons_zero, List.setIfInBounds_toArray, List.set_cons_zero, List.set_cons_succ]
              refine Turns.take hS 5 _ rfl (by kernel_rfl) (by kernel_rfl) (by kernel_rfl) (by kernel_rfl) (fun _ _ _ h => h) (by rfl) (fun w' hS' => by (try dsimp only at hS'); go_split_ands; go_simp; (try with_reducible rfl)) ?_
              simp only [Act.put, List.getElem_toArray, List.getElem_cons_succ, List.getElem_cons_zero, List.setIfInBounds_toArray, List.set_cons_zero, List.set_cons_succ]
              refine Turns.take hS 6 _ rfl (by kernel_rfl) (by kernel_rfl) (by kernel_rfl) (by kernel_rfl) (fun _ _ _ h => h) (by rfl) (fun w' hS' => by (try dsimp only at hS'); go_split_ands; go_simp; (try with_reducible rfl)) ?_
              simp only [Act.put, List.getElem_toArray, List.getElem_cons_succ, List.getElem_cons_zero, List.setIfInBounds_toArray, List.set_cons_zero, List.set_cons_succ]
              refine Turns.take hS 7 _ rfl (by kernel_rfl) (by kernel_rfl) (by kernel_rfl) (by kernel_rfl) (fun _ _ _ h => h) (by rfl) (fun w' hS' => by (try dsimp only at hS'); go_split_ands; go_simp; (try with_reducible rfl)) ?_
              simp only [Act.put, List.getElem_toArray, List.getElem_cons_succ, List.getElem_cons_zero, List.setIfInBounds_toArray, List.set_cons_zero, List.set_cons_succ]
              refine Turns.take hS 8 _ rfl (by kernel_rfl) (by kernel_rfl) (by kernel_rfl) (by kernel_rfl) (fun _ _ _ h => h) (by rfl) (fun w' hS' => by (try dsimp only at hS'); go_split_ands; go_simp; (try with_reducible rfl)) ?_
              simp only [Act.put, List.getElem_toArray, List.getElem_cons_succ, List.getElem_cons_zero, List.setIfInBounds_toArray, List.set_cons_zero, List.set_cons_succ]
              refine Turns.take hS 9 _ rfl (by kernel_rfl) (by kernel_rfl) (by kernel_rfl) (by kernel_rfl) (fun _ _ _ h => h) (by rfl) (fun w' hS' => by (try dsimp only at hS'); go_split_ands; go_simp; (try with_reducible rfl)) ?_
              simp only [Act.put, List.getElem_toArray, List.getElem_cons_succ, List.getElem_cons_zero, List.setIfInBounds_toArray, List.set_cons_zero, List.set_cons_succ]
              refine Turns.take hS 10 _ rfl (by kernel_rfl) (by kernel_rfl) (by kernel_rfl) (by kernel_rfl) (fun _ _ _ h => h) (by rfl) (fun w' hS' => by (try dsimp only at hS'); go_split_ands; go_simp; (try with_reducible rfl)) ?_
              simp only [Act.put, List.getElem_toArray, List.getElem_cons_succ, List.getElem_cons_zero, List.setIfInBounds_toArray, List.set_cons_zero, List.set_cons_succ]
              refine Turns.take hS 11 _ rfl (by kernel_rfl) (by kernel_rfl) (by kernel_rfl) (by kernel_rfl) (fun _ _ _ h => h) (by rfl) (fun w' hS' => by (try dsimp only at hS'); go_split_ands; go_simp; (try with_reducible rfl)) ?_
              simp only [Act.put, List.getElem_toArray, List.getElem_cons_succ, List.getElem_cons_zero, List.setIfInBounds_toArray, List.set_cons_zero, List.set_cons_succ]
              refine Turns.take hS 12 _ rfl (by kernel_rfl) (by kernel_rfl) (by kernel_rfl) (by kernel_rfl) (fun _ _ _ h => h) (by rfl) (fun w' hS' => by (try dsimp only at hS'); go_split_ands; go_simp; (try with_reducible rfl)) ?_
              simp only [Act.put, List.getElem_toArray, List.getElem_cons_succ, List.getElem_cons_zero, List.setIfInBounds_toArray, List.set_cons_zero, List.set_cons_succ]
              refine Turns.take hS 13 _ rfl (by kernel_rfl) (by kernel_rfl) (by kernel_rfl) (by kernel_rfl) (fun _ _ _ h => h) (by rfl) (fun w' hS' => by (try dsimp only at hS'); go_split_ands; go_simp; (try with_reducible rfl)) ?_
              simp only [Act.put, List.getElem_toArray, List.getElem_cons_succ, List.getElem_cons_zero, List.setIfInBounds_toArray, List.set_cons_zero, List.set_cons_succ]
              refine Turns.take hS 14 _ rfl (by kernel_rfl) (by kernel_rfl) (by kernel_rfl) (by kernel_rfl) (fun _ _ _ h => h) (by rfl) (fun w' hS' => by (try dsimp only at hS'); go_split_ands; go_simp; (try with_reducible rfl)) ?_
              simp only [Act.put, List.getElem_toArray, List.getElem_cons_succ, List.getElem_cons_zero, List.setIfInBounds_toArray, List.set_cons_zero, List.set_cons_succ]
              refine Turns.take hS 15 _ rfl (by kernel_rfl) (by kernel_rfl) (by kernel_rfl) (by kernel_rfl) (fun _ _ _ h => h) (by rfl) (fun w' hS' => by (try dsimp only at hS'); go_split_ands; go_simp; (try with_reducible rfl)) ?_
              simp only [Act.put, List.getElem_toArray, List.getElem_cons_succ, List.getElem_cons_zero, List.setIfInBounds_toArray, List.set_cons_zero, List.set_cons_succ]
              refine Turns.skip hS 16 rfl (by kernel_rfl) (by kernel_rfl) (by kernel_rfl) (by kernel_rfl) (fun _ _ _ h => h) (by rfl) ?_
              simp only [Act.put, List.getElem_toArray, List.getElem_cons_succ, List.getElem_cons_zero, List.setIfInBounds_toArray, List.set_cons_zero, List.set_cons_succ]
              refine Turns.skip hS 17 rfl (by kernel_rfl) (by kernel_rfl) (by kernel_rfl) (by kernel_rfl) (fun _ _ _ h => h) (by rfl) ?_
              simp only [Act.put, List.getElem_toArray, List.getElem_cons_succ, List.getElem_cons_zero, List.setIfInBounds_toArray, List.set_cons_zero, List.set_cons_succ]
              refine Turns.take hS 18 _ rfl (by kernel_rfl) (by kernel_rfl) (by kernel_rfl) (by kernel_rfl) (fun _ _ _ h => h) (by rfl) (fun w' hS' => by (try dsimp only at hS'); go_split_ands; go_simp; (try with_reducible rfl)) ?_
              simp only [Act.put, List.getElem_toArray, List.getElem_cons_succ, List.getElem_cons_zero, List.setIfInBounds_toArray, List.set_cons_zero, List.set_cons_succ]
              refine Turns.take hS 19 _ rfl (by kernel_rfl) (by kernel_rfl) (by kernel_rfl) (by kernel_rfl) (fun _ _ _ h => h) (by rfl) (fun w' hS' => by (try dsimp only at hS'); go_split_ands; go_simp; (try with_reducible rfl)) ?_
              simp only [Act.put, List.getElem_toArray, List.getElem_cons_succ, List.getElem_cons_zero, List.setIfInBounds_toArray, List.set_cons_zero, List.set_cons_succ]
              refine Turns.rest (late_done (by kernel_rfl)) ?_
              refine any_tail 20 (by rfl) (by kernel_rfl) ?_
              simp only [List.drop_succ_cons, List.drop_zero]
              clear hS
              go_wp2
              go_meet
              case rel => exact ⟨_, rfl, HE.out, HO2.out⟩
            | false =>
              have HIV := Lib.hid (show BInv s from HD2.out.inv)
              have hmk := fun W h => HMn.out W h hm
              have hqk := fun W u h => HQn.out W u h hm
              have HMK := Lib.hid hmk
              have HQK := Lib.hid hqk
              clear hmk hqk hm
              have p1 : _ = some (Value.int .i64 s2) := HP.out.cell 1
              have p3 : _ = some (Value.int .i64 s4) := HP.out.cell 3
              have p4 : _ = some (Value.int .u16 s5) := HP.out.cell 4
              have p12 : _ = some (Value.int .i64 s13) := HP.out.cell 12
              have p13 : _ = some (Value.int .i64 s14) := HP.out.cell 13
              go_upto_region 29 with (first
                | (go_at_call 11; refine (HMK.out _ HD2.out).mono ?_; rintro e w4 ⟨rfl, hg⟩; have HAH := Lib.hid (HD2.out.half hg); replace HP := Lib.hid (HD2.out.keep HP.out (by decide) hg); replace HO2 := Lib.hid (HD2.out.keep HO2.out (by decide) hg); clear hg; have HY := Lib.hid (Box.start w4 31 #[.int .i64 0, .int .u16 0, .int .i64 0, .int .u16 0, .int .i64 0, .int .i64 0]); replace HAH := Lib.hid (HAH.out.more HY.out.below); replace HP := Lib.hid (HP.out.below HY.out.below HP.out.lt); replace HO2 := Lib.hid (HO2.out.below HY.out.below HO2.out.lt); have HAA := Lib.hid HY.out.holds; clear HY p1 p3 p4 p12 p13; have p1 : _ = some (Value.int .i64 s2) := HP.out.cell 1; have p3 : _ = some (Value.int .i64 s4) := HP.out.cell 3; have p4 : _ = some (Value.int .u16 s5) := HP.out.cell 4; have p12 : _ = some (Value.int .i64 s13) := HP.out.cell 12; have p13 : _ = some (Value.int .i64 s14) := HP.out.cell 13)
                | (go_at_call 16; refine (HQK.out _ _ HAH.out).mono ?_; rintro e w5 ⟨rfl, hg⟩; replace HAA := Lib.hid (HAH.out.keep HAA.out (by decide) hg); replace HO2 := Lib.hid (HAH.out.keep HO2.out (by decide) hg); have HE := Lib.hid (HAH.out.whole HIV.out hg); clear hg p1 p3 p4 p12 p13))
              have HLA := Lib.hid HAA.out.lt
              have hy5 := Holds.new w5 54 #[.int .i64 0, .int .i64 0, .int .i64 0, .int .i64 0, .int .u16 0, .int .u16 0, .int .i64 0, .int .i64 0, .int .i64 0, .int .i64 0, .int .i64 0, .int .i64 0, .int .i64 0, .int .i64 0]
              have hb5 := below_alloc w5 (.cells #[.int .i64 0, .int .i64 0, .int .i64 0, .int .i64 0, .int .u16 0, .int .u16 0, .int .i64 0, .int .i64 0, .int .i64 0, .int .i64 0, .int .i64 0, .int .i64 0, .int .i64 0, .int .i64 0] 54)
              replace HE := Lib.hid (HE.out.more hb5)
              replace HO2 := Lib.hid (HO2.out.below hb5 HO2.out.lt)
              replace HAA := Lib.hid (HAA.out.below hb5 HAA.out.lt)
              have HPP := Lib.hid hy5
              clear hb5 hy5
              obtain ⟨xa, hxa⟩ : ∃ b, w4.heap.size = b := ⟨_, rfl⟩
              obtain ⟨xq, hxq⟩ : ∃ b, w5.heap.size = b := ⟨_, rfl⟩
              rw [hxa] at HAA
              rw [hxq] at HPP
              simp only [hxa, hxq]
              clear hxa hxq HLA
              obtain ⟨V5, hV5⟩ : ∃ V5, V5 = w5.alloc (.cells #[.int .i64 0, .int .i64 0, .int .i64 0, .int .i64 0, .int .u16 0, .int .u16 0, .int .i64 0, .int .i64 0, .int .i64 0, .int .i64 0, .int .i64 0, .int .i64 0, .int .i64 0, .int .i64 0] 54) := ⟨_, rfl⟩
              rw [← hV5] at HE HO2 HAA HPP ⊢
              clear hV5
              replace HE := Lib.hid (HE.out.more (Below.refl _ _).drew)
              replace HO2 := Lib.hid (show Holds V5.drew xo 58 #[.int .i64 s0, .int .i64 s1, .int .i64 s2, .int .i64 s3, .int .i64 s4, .int .u16 s5, .int .u16 s6, .int .i64 s7, .int .i64 s8, .int .i64 s9, .int .i64 s10, .int .i64 s11, .int .i64 s12, .int .i64 s13, .int .i64 s14, .int .i64 s15, .int .u16 s16, .int .i64 s17] from HO2.out)
              replace HAA := Lib.hid (show Holds V5.drew xa 31 #[.int .i64 0, .int .u16 0, .int .i64 0, .int .u16 0, .int .i64 0, .int .i64 0] from HAA.out)
              replace HPP := Lib.hid (show Holds V5.drew xq 54 #[.int .i64 0, .int .i64 0, .int .i64 0, .int .i64 0, .int .u16 0, .int .u16 0, .int .i64 0, .int .i64 0, .int .i64 0, .int .i64 0, .int .i64 0, .int .i64 0, .int .i64 0, .int .i64 0] from HPP.out)
              have hne := an_neq_same 0 0 0 0 0 0
              refine region_turns (fun (w' : World) => w'.cell? ⟨xa, 0, none⟩ = some (.int .i64 0) ∧ w'.cell? ⟨xa, 1, none⟩ = some (.int .u16 0) ∧ w'.cell? ⟨xa, 2, none⟩ = some (.int .i64 0) ∧ w'.cell? ⟨xa, 3, none⟩ = some (.int .u16 0) ∧ w'.cell? ⟨xa, 4, none⟩ = some (.int .i64 0) ∧ w'.cell? ⟨xa, 5, none⟩ = some (.int .i64 0) ∧ w'.cell? ⟨xq, 0, none⟩ = some (.int .i64 0)) (fun j => decide (20 ≤ j)) (by kernel_rfl) (⟨HAA.out.cell 0, HAA.out.cell 1, HAA.out.cell 2, HAA.out.cell 3, HAA.out.cell 4, HAA.out.cell 5, HPP.out.cell 0⟩) (fun hS => ?_)
              refine Turns.take hS 0 _ rfl (by kernel_rfl) (by kernel_rfl) (by kernel_rfl) (by kernel_rfl) (fun _ _ _ h => h) (by rfl) (fun w' hS' => by (try dsimp only at hS'); go_split_ands; go_simp; (try with_reducible rfl)) ?_
              simp only [Act.put, List.getElem_toArray, List.getElem_cons_succ, List.getElem_cons_zero, List.setIfInBounds_toArray, List.set_cons_zero, List.set_cons_succ]
              refine Turns.next 1 rfl (by kernel_rfl) (by rfl) (fun K hK => ?_)
              simp only [List.getElem_toArray, List.getElem_cons_succ, List.getElem_cons_zero]
              refine wp_load_at 54 (.tmp 22) rfl xq ?hx 54 [.int .i64 0, .int .i64 0, .int .i64 0, .int .i64 0, .int .u16 0, .int .u16 0, .int .i64 0, .int .i64 0, .int .i64 0, .int .i64 0, .int .i64 0, .int .i64 0, .int .i64 0, .int .i64 0] _ HPP.out Try.underlying54 rfl (by kernel_rfl) ?_
              case hx => first | rfl | simp [Act.eval, Act.put]
              refine hK.out _ _ (show (fun (w' : World) => w'.cell? ⟨xa, 0, none⟩ = some (.int .i64 0) ∧ w'.cell? ⟨xa, 1, none⟩ = some (.int .u16 0) ∧ w'.cell? ⟨xa, 2, none⟩ = some (.int .i64 0) ∧ w'.cell? ⟨xa, 3, none⟩ = some (.int .u16 0) ∧ w'.cell? ⟨xa, 4, none⟩ = some (.int .i64 0) ∧ w'.cell? ⟨xa, 5, none⟩ = some (.int .i64 0) ∧ w'.cell? ⟨xq, 0, none⟩ = some (.int .i64 0)) _ from ⟨HAA.out.cell 0, HAA.out.cell 1, HAA.out.cell 2, HAA.out.cell 3, HAA.out.cell 4, HAA.out.cell 5, HPP.out.cell 0⟩) ?_
              clear hK K hS
              have hS := (show (fun (w' : World) => w'.cell? ⟨xa, 0, none⟩ = some (.int .i64 0) ∧ w'.cell? ⟨xa, 1, none⟩ = some (.int .u16 0) ∧ w'.cell? ⟨xa, 2, none⟩ = some (.int .i64 0) ∧ w'.cell? ⟨xa, 3, none⟩ = some (.int .u16 0) ∧ w'.cell? ⟨xa, 4, none⟩ = some (.int .i64 0) ∧ w'.cell? ⟨xa, 5, none⟩ = some (.int .i64 0) ∧ w'.cell? ⟨xq, 0, none⟩ = some (.int .i64 0)) _ from ⟨HAA.out.cell 0, HAA.out.cell 1, HAA.out.cell 2, HAA.out.cell 3, HAA.out.cell 4, HAA.out.cell 5, HPP.out.cell 0⟩)
              refine Turns.next 2 rfl (by kernel_rfl) (by rfl) (fun K hK => ?_)
              go_simp
              go_at_call 14
              refine (lof_any _ _ _ _ _ _ _ _ _ _ _ _ _ _ _).mono ?_
              rintro e w6 ⟨rfl, hb⟩
              replace HE := Lib.hid (HE.out.more hb)
              replace HO2 := Lib.hid (HO2.out.below hb HO2.out.lt)
              replace HAA := Lib.hid (HAA.out.below hb HAA.out.lt)
              replace HPP := Lib.hid (HPP.out.below hb HPP.out.lt)
              clear hb
              refine hK.out _ _ (show (fun (w' : World) => w'.cell? ⟨xa, 0, none⟩ = some (.int .i64 0) ∧ w'.cell? ⟨xa, 1, none⟩ = some (.int .u16 0) ∧ w'.cell? ⟨xa, 2, none⟩ = some (.int .i64 0) ∧ w'.cell? ⟨xa, 3, none⟩ = some (.int .u16 0) ∧ w'.cell? ⟨xa, 4, none⟩ = some (.int .i64 0) ∧ w'.cell? ⟨xa, 5, none⟩ = some (.int .i64 0) ∧ w'.cell? ⟨xq, 0, none⟩ = some (.int .i64 0)) _ from ⟨HAA.out.cell 0, HAA.out.cell 1, HAA.out.cell 2, HAA.out.cell 3, HAA.out.cell 4, HAA.out.cell 5, HPP.out.cell 0⟩) ?_
              clear hK K hS
              have hS := (show (fun (w' : World) => w'.cell? ⟨xa, 0, none⟩ = some (.int .i64 0) ∧ w'.cell? ⟨xa, 1, none⟩ = some (.int .u16 0) ∧ w'.cell? ⟨xa, 2, none⟩ = some (.int .i64 0) ∧ w'.cell? ⟨xa, 3, none⟩ = some (.int .u16 0) ∧ w'.cell? ⟨xa, 4, none⟩ = some (.int .i64 0) ∧ w'.cell? ⟨xa, 5, none⟩ = some (.int .i64 0) ∧ w'.cell? ⟨xq, 0, none⟩ = some (.int .i64 0)) _ from ⟨HAA.out.cell 0, HAA.out.cell 1, HAA.out.cell 2, HAA.out.cell 3, HAA.out.cell 4, HAA.out.cell 5, HPP.out.cell 0⟩)
              refine Turns.take hS 3 _ rfl (by kernel_rfl) (by kernel_rfl) (by kernel_rfl) (by kernel_rfl) (fun _ _ _ h => h) (by rfl) (fun w' hS' => by (try dsimp only at hS'); go_split_ands; go_simp; (try with_reducible rfl)) ?_
              simp only [Act.put, List.getElem_toArray, List.getElem_cons_succ, List.getElem_cons_zero, List.setIfInBounds_toArray, List.set_cons_zero, List.set_cons_succ]
              refine Turns.take hS 4 _ rfl (by kernel_rfl) (by kernel_rfl) (by kernel_rfl) (by kernel_rfl) (fun _ _ _ h => h) (by rfl) (fun w' hS' => by (try dsimp only at hS'); go_split_ands; go_simp; (try with_reducible rfl)) ?_
              simp only [Act.put, List.getElem_toArray, List.getElem_cons_succ, List.getElem_cons_zero, List.setIfInBounds_toArray, List.set_cons_zero, List.set_cons_succ]
              refine Turns.take hS 5 _ rfl (by kernel_rfl) (by kernel_rfl) (by kernel_rfl) (by kernel_rfl) (fun _ _ _ h => h) (by rfl) (fun w' hS' => by (try dsimp only at hS'); go_split_ands; go_simp; (try with_reducible rfl)) ?_
              simp only [Act.put, List.getElem_toArray, List.getElem_cons_succ, List.getElem_cons_zero, List.setIfInBounds_toArray, List.set_cons_zero, List.set_cons_succ]
              refine Turns.take hS 6 _ rfl (by kernel_rfl) (by kernel_rfl) (by kernel_rfl) (by kernel_rfl) (fun _ _ _ h => h) (by rfl) (fun w' hS' => by (try dsimp only at hS'); go_split_ands; go_simp; (try with_reducible rfl)) ?_
              simp only [Act.put, List.getElem_toArray, List.getElem_cons_succ, List.getElem_cons_zero, List.setIfInBounds_toArray, List.set_cons_zero, List.set_cons_succ]
              refine Turns.take hS 7 _ rfl (by kernel_rfl) (by kernel_rfl) (by kernel_rfl) (by kernel_rfl) (fun _ _ _ h => h) (by rfl) (fun w' hS' => by (try dsimp only at hS'); go_split_ands; go_simp; (try with_reducible rfl)) ?_
              simp only [Act.put, List.getElem_toArray, List.getElem_cons_succ, List.getElem_cons_zero, List.setIfInBounds_toArray, List.set_cons_zero, List.set_cons_succ]
              refine Turns.take hS 8 _ rfl (by kernel_rfl) (by kernel_rfl) (by kernel_rfl) (by kernel_rfl) (fun _ _ _ h => h) (by rfl) (fun w' hS' => by (try dsimp only at hS'); go_split_ands; go_simp; (try with_reducible rfl)) ?_
              simp only [Act.put, List.getElem_toArray, List.getElem_cons_succ, List.getElem_cons_zero, List.setIfInBounds_toArray, List.set_cons_zero, List.set_cons_succ]
              refine Turns.take hS 9 _ rfl (by kernel_rfl) (by kernel_rfl) (by kernel_rfl) (by kernel_rfl) (fun _ _ _ h => h) (by rfl) (fun w' hS' => by (try dsimp only at hS'); go_split_ands; go_simp; (try with_reducible rfl)) ?_
              simp only [Act.put, List.getElem_toArray, List.getElem_cons_succ, List.getElem_cons_zero, List.setIfInBounds_toArray, List.set_cons_zero, List.set_cons_succ]
              refine Turns.take hS 10 _ rfl (by kernel_rfl) (by kernel_rfl) (by kernel_rfl) (by kernel_rfl) (fun _ _ _ h => h) (by rfl) (fun w' hS' => by (try dsimp only at hS'); go_split_ands; go_simp; (try with_reducible rfl)) ?_
              simp only [Act.put, List.getElem_toArray, List.getElem_cons_succ, List.getElem_cons_zero, List.setIfInBounds_toArray, List.set_cons_zero, List.set_cons_succ]
              refine Turns.take hS 11 _ rfl (by kernel_rfl) (by kernel_rfl) (by kernel_rfl) (by kernel_rfl) (fun _ _ _ h => h) (by rfl) (fun w' hS' => by (try dsimp only at hS'); go_split_ands; go_simp; (try with_reducible rfl)) ?_
              simp only [Act.put, List.getElem_toArray, List.getElem_cons_succ, List.getElem_cons_zero, List.setIfInBounds_toArray, List.set_cons_zero, List.set_cons_succ]
              refine Turns.take hS 12 _ rfl (by kernel_rfl) (by kernel_rfl) (by kernel_rfl) (by kernel_rfl) (fun _ _ _ h => h) (by rfl) (fun w' hS' => by (try dsimp only at hS'); go_split_ands; go_simp; (try with_reducible rfl)) ?_
              simp only [Act.put, List.getElem_toArray, List.getElem_cons_succ, List.getElem_cons_zero, List.setIfInBounds_toArray, List.set_cons_zero, List.set_cons_succ]
              refine Turns.take hS 13 _ rfl (by kernel_rfl) (by kernel_rfl) (by kernel_rfl) (by kernel_rfl) (fun _ _ _ h => h) (by rfl) (fun w' hS' => by (try dsimp only at hS'); go_split_ands; go_simp; (try with_reducible rfl)) ?_
              simp only [Act.put, List.getElem_toArray, List.getElem_cons_succ, List.getElem_cons_zero, List.setIfInBounds_toArray, List.set_cons_zero, List.set_cons_succ]
              refine Turns.take hS 14 _ rfl (by kernel_rfl) (by kernel_rfl) (by kernel_rfl) (by kernel_rfl) (fun _ _ _ h => h) (by rfl) (fun w' hS' => by (try dsimp only at hS'); go_split_ands; go_simp; (try with_reducible rfl)) ?_
              simp only [Act.put, List.getElem_toArray, List.getElem_cons_succ, List.getElem_cons_zero, List.setIfInBounds_toArray, List.set_cons_zero, List.set_cons_succ]
              refine Turns.take hS 15 _ rfl (by kernel_rfl) (by kernel_rfl) (by kernel_rfl) (by kernel_rfl) (fun _ _ _ h => h) (by rfl) (fun w' hS' => by (try dsimp only at hS'); go_split_ands; go_simp; (try with_reducible rfl)) ?_
              simp only [Act.put, List.getElem_toArray, List.getElem_cons_succ, List.getElem_cons_zero, List.setIfInBounds_toArray, List.set_cons_zero, List.set_cons_succ]
              refine Turns.take hS 16 _ rfl (by kernel_rfl) (by kernel_rfl) (by kernel_rfl) (by kernel_rfl) (fun _ _ _ h => h) (by rfl) (fun w' hS' => by (try dsimp only at hS'); go_split_ands; go_simp; (try with_reducible rfl)) ?_
              simp only [Act.put, List.getElem_toArray, List.getElem_cons_succ, List.getElem_cons_zero, List.setIfInBounds_toArray, List.set_cons_zero, List.set_cons_succ]
              refine Turns.take hS 17 _ rfl (by kernel_rfl) (by kernel_rfl) (by kernel_rfl) (by kernel_rfl) (fun _ _ _ h => h) (by rfl) (fun w' hS' => by (try dsimp only at hS'); go_split_ands; go_simp; (try with_reducible rfl)) ?_
              simp only [Act.put, List.getElem_toArray, List.getElem_cons_succ, List.getElem_cons_zero, List.setIfInBounds_toArray, List.set_cons_zero, List.set_cons_succ]
              refine Turns.take hS 18 _ rfl (by kernel_rfl) (by kernel_rfl) (by kernel_rfl) (by kernel_rfl) (fun _ _ _ h => h) (by rfl) (fun w' hS' => by (try dsimp only at hS'); go_split_ands; go_simp; (try with_reducible rfl)) ?_
              simp only [Act.put, List.getElem_toArray, List.getElem_cons_succ, List.getElem_cons_zero, List.setIfInBounds_toArray, List.set_cons_zero, List.set_cons_succ]
              refine Turns.take hS 19 _ rfl (by kernel_rfl) (by kernel_rfl) (by kernel_rfl) (by kernel_rfl) (fun _ _ _ h => h) (by rfl) (fun w' hS' => by (try dsimp only at hS'); go_split_ands; go_simp; (try with_reducible rfl)) ?_
              simp only [Act.put, List.getElem_toArray, List.getElem_cons_succ, List.getElem_cons_zero, List.setIfInBounds_toArray, List.set_cons_zero, List.set_cons_succ]
              refine Turns.rest (late_done (by kernel_rfl)) ?_
              refine any_tail 20 (by rfl) (by kernel_rfl) ?_
              simp only [List.drop_succ_cons, List.drop_zero]
              clear hS
              go_wp2
              go_meet
              case rel => exact ⟨_, rfl, HE.out, HO2.out⟩
        · as_aux_lemma =>
            have e0 : (s0 == 0) = false := by simp [hkind]
            have e1 : (s0 == 1) = false := by simp [hkind]
            have e2 : (s0 == 2) = false := by simp [hkind]
            have e3 : (s0 == 3) = true := by simp [hkind]
            clear hkind HHr HRr HIh HMk HMn HQk HQn
            have hdr := adrop_any W2 x s HD2.out.one.book
            go_wp2_with (first
              | (go_at_call 8; refine hdr.mono ?_; rintro e w4 ⟨rfl, hg⟩; have HAH := Lib.hid (HD2.out.half hg); replace HO2 := Lib.hid (HD2.out.keep HO2.out (by decide) hg); clear hg hdr)
              | (refine wpList_store_at rfl 54 (.tmp 160) (.tmp 158) rfl y 0 (pl6 0 0 0 0 0 0 0) rfl rfl 56 (pl6 (kindV s) s.f s.q s.r s.b s.g s.t) HAH.out.doc plain_size6 (Nat.le_refl 14) (pl6_one _ _ _ _ _ _ _) ?_; rw [splice_all (pl6 (kindV s) s.f s.q s.r s.b s.g s.t) (pl6 0 0 0 0 0 0 0) rfl]; have hg := RGoes.row (s' := .none) HAH.out.doc (Below.refl _ _); have HE := Lib.hid (HAH.out.whole .none hg); replace HO2 := Lib.hid (HAH.out.keep HO2.out (by decide) hg); clear hg))
            go_meet
            case rel => exact ⟨_, rfl, HE.out, HO2.out⟩
        · as_aux_lemma =>
            obtain ⟨k0, k1, k2, k3⟩ := hkind
            clear HHr HRr HIh HMk HMn HQk HQn
            go_wp2
            go_meet
            case rel => exact ⟨_, rfl, HD2.out, HO2.out⟩
      case rest =>
        as_aux_lemma =>
          obtain ⟨s', rfl, hE, hO⟩ := hcut
          clear hkind HD2 HO2 HP HD HHr HRr HIh HMk HMn HQk HQn
          have HE := Lib.hid hE
          have HO2 := Lib.hid hO
          clear hE hO
          have hkk := kind_is s'
          have HHas := Lib.hid (fun W (h : Ad wb W x y s') => ahas_any W x s' h.one.book)
          have HAsk := Lib.hid (fun W (h : Ad wb W x y s') => asked_any W x y s' h.one.book h.doc h.inv tp (HTL.out.below h.one.below) s0 s1 s2 s3 s4 s5 s6 s7 s8 s9 s10 s11 s12 s13 s14 s15 s16 s17)
          have HDoc := Lib.hid (fun W (h : Ad wb W x y s') => (show Holds W y 56 #[.int .i64 (kindV s'), .int .i64 s'.f, .int .i64 0, .int .i64 s'.r, .int .u16 s'.b, .int .u16 s'.q, .int .i64 0, .int .i64 0, .int .i64 0, .int .i64 0, .int .i64 0, .int .i64 0, .int .i64 s'.g, .int .i64 s'.t] from h.doc))
          obtain ⟨kk, hkv⟩ : ∃ v, kindV s' = v := ⟨_, rfl⟩
          obtain ⟨hv, hhv⟩ : ∃ v, s'.has = v := ⟨_, rfl⟩
          obtain ⟨f', hfv⟩ : ∃ v, s'.f = v := ⟨_, rfl⟩
          obtain ⟨q', hqv⟩ : ∃ v, s'.q = v := ⟨_, rfl⟩
          obtain ⟨r', hrv⟩ : ∃ v, s'.r = v := ⟨_, rfl⟩
          obtain ⟨b', hbv⟩ : ∃ v, s'.b = v := ⟨_, rfl⟩
          obtain ⟨g', hgv⟩ : ∃ v, s'.g = v := ⟨_, rfl⟩
          obtain ⟨t', htv⟩ : ∃ v, s'.t = v := ⟨_, rfl⟩
          rw [hkv, hhv] at hkk
          rw [hhv, hfv, hqv, hrv, hbv, hgv, htv] at HHas
          rw [hkv, hfv, hqv, hrv, hbv, hgv, htv] at HDoc
          clear hkv hhv hfv hqv hrv hbv hgv htv
          have hnn : (hv != hv) = false := by simp
          go_upto_region 35 with (go_at_call 9; refine (HHas.out _ HE.out).mono ?_; rintro e w7 ⟨rfl, hb⟩; have HY := Lib.hid (Box.start w7 31 #[.int .i64 f', .int .u16 q', .int .i64 r', .int .u16 b', .int .i64 g', .int .i64 t']); have hc := hb.trans (HY.out.below.mono hb.size); replace HE := Lib.hid (HE.out.more hc); replace HO2 := Lib.hid (HO2.out.below hc HO2.out.lt); have HAA := Lib.hid HY.out.holds; clear HY hb hc)
          obtain ⟨xa, hxa⟩ : ∃ b, w7.heap.size = b := ⟨_, rfl⟩
          rw [hxa] at HAA
          simp only [hxa]
          clear hxa
          obtain ⟨V7, hV7⟩ : ∃ V7, V7 = w7.alloc (.cells #[.int .i64 f', .int .u16 q', .int .i64 r', .int .u16 b', .int .i64 g', .int .i64 t'] 31) := ⟨_, rfl⟩
          rw [← hV7] at HE HO2 HAA ⊢
          clear hV7
          replace HE := Lib.hid (HE.out.more (Below.refl _ _).drew)
          replace HO2 := Lib.hid (show Holds V7.drew xo 58 #[.int .i64 s0, .int .i64 s1, .int .i64 s2, .int .i64 s3, .int .i64 s4, .int .u16 s5, .int .u16 s6, .int .i64 s7, .int .i64 s8, .int .i64 s9, .int .i64 s10, .int .i64 s11, .int .i64 s12, .int .i64 s13, .int .i64 s14, .int .i64 s15, .int .u16 s16, .int .i64 s17] from HO2.out)
          replace HAA := Lib.hid (show Holds V7.drew xa 31 #[.int .i64 f', .int .u16 q', .int .i64 r', .int .u16 b', .int .i64 g', .int .i64 t'] from HAA.out)
          have HB := Lib.hid (HDoc.out _ HE.out)
          have hne := an_neq_same f' q' r' b' g' t'
          refine region_turns (fun (w' : World) => w'.cell? ⟨xa, 0, none⟩ = some (.int .i64 f') ∧ w'.cell? ⟨xa, 1, none⟩ = some (.int .u16 q') ∧ w'.cell? ⟨xa, 2, none⟩ = some (.int .i64 r') ∧ w'.cell? ⟨xa, 3, none⟩ = some (.int .u16 b') ∧ w'.cell? ⟨xa, 4, none⟩ = some (.int .i64 g') ∧ w'.cell? ⟨xa, 5, none⟩ = some (.int .i64 t') ∧ w'.cell? ⟨y, 0, none⟩ = some (.int .i64 kk)) (fun j => decide (24 ≤ j)) (by kernel_rfl) (⟨HAA.out.cell 0, HAA.out.cell 1, HAA.out.cell 2, HAA.out.cell 3, HAA.out.cell 4, HAA.out.cell 5, HB.out.cell 0⟩) (fun hS => ?_)
          refine Turns.take hS 0 _ rfl (by kernel_rfl) (by kernel_rfl) (by kernel_rfl) (by kernel_rfl) (fun _ _ _ h => h) (by rfl) (fun w' hS' => by (try dsimp only at hS'); go_split_ands; go_simp; (try with_reducible rfl)) ?_
          simp only [Act.put, List.getElem_toArray, List.getElem_cons_succ, List.getElem_cons_zero, List.setIfInBounds_toArray, List.set_cons_zero, List.set_cons_succ]
          refine Turns.take hS 1 _ rfl (by kernel_rfl) (by kernel_rfl) (by kernel_rfl) (by kernel_rfl) (fun _ _ _ h => h) (by rfl) (fun w' hS' => by (try dsimp only at hS'); go_split_ands; go_simp; (try with_reducible rfl)) ?_
          simp only [Act.put, List.getElem_toArray, List.getElem_cons_succ, List.getElem_cons_zero, List.setIfInBounds_toArray, List.set_cons_zero, List.set_cons_succ]
          refine Turns.take hS 2 _ rfl (by kernel_rfl) (by kernel_rfl) (by kernel_rfl) (by kernel_rfl) (fun _ _ _ h => h) (by rfl) (fun w' hS' => by (try dsimp only at hS'); go_split_ands; go_simp; (try with_reducible rfl)) ?_
          simp only [Act.put, List.getElem_toArray, List.getElem_cons_succ, List.getElem_cons_zero, List.setIfInBounds_toArray, List.set_cons_zero, List.set_cons_succ]
          refine Turns.take hS 3 _ rfl (by kernel_rfl) (by kernel_rfl) (by kernel_rfl) (by kernel_rfl) (fun _ _ _ h => h) (by rfl) (fun w' hS' => by (try dsimp only at hS'); go_split_ands; go_simp; (try with_reducible rfl)) ?_
          simp only [Act.put, List.getElem_toArray, List.getElem_cons_succ, List.getElem_cons_zero, List.setIfInBounds_toArray, List.set_cons_zero, List.set_cons_succ]
          refine Turns.next 4 rfl (by kernel_rfl) (by rfl) (fun K hK => ?_)
          simp only [List.getElem_toArray, List.getElem_cons_succ, List.getElem_cons_zero]
          refine wp_load_at 54 (.tmp 168) rfl y ?hx 56 [.int .i64 kk, .int .i64 f', .int .i64 0, .int .i64 r', .int .u16 b', .int .u16 q', .int .i64 0, .int .i64 0, .int .i64 0, .int .i64 0, .int .i64 0, .int .i64 0, .int .i64 g', .int .i64 t'] _ HB.out Try.underlying54 rfl (by kernel_rfl) ?_
          case hx => first | rfl | simp [Act.eval, Act.put]
          refine hK.out _ _ (show (fun (w' : World) => w'.cell? ⟨xa, 0, none⟩ = some (.int .i64 f') ∧ w'.cell? ⟨xa, 1, none⟩ = some (.int .u16 q') ∧ w'.cell? ⟨xa, 2, none⟩ = some (.int .i64 r') ∧ w'.cell? ⟨xa, 3, none⟩ = some (.int .u16 b') ∧ w'.cell? ⟨xa, 4, none⟩ = some (.int .i64 g') ∧ w'.cell? ⟨xa, 5, none⟩ = some (.int .i64 t') ∧ w'.cell? ⟨y, 0, none⟩ = some (.int .i64 kk)) _ from ⟨HAA.out.cell 0, HAA.out.cell 1, HAA.out.cell 2, HAA.out.cell 3, HAA.out.cell 4, HAA.out.cell 5, HB.out.cell 0⟩) ?_
          clear hK K hS
          have hS := (show (fun (w' : World) => w'.cell? ⟨xa, 0, none⟩ = some (.int .i64 f') ∧ w'.cell? ⟨xa, 1, none⟩ = some (.int .u16 q') ∧ w'.cell? ⟨xa, 2, none⟩ = some (.int .i64 r') ∧ w'.cell? ⟨xa, 3, none⟩ = some (.int .u16 b') ∧ w'.cell? ⟨xa, 4, none⟩ = some (.int .i64 g') ∧ w'.cell? ⟨xa, 5, none⟩ = some (.int .i64 t') ∧ w'.cell? ⟨y, 0, none⟩ = some (.int .i64 kk)) _ from ⟨HAA.out.cell 0, HAA.out.cell 1, HAA.out.cell 2, HAA.out.cell 3, HAA.out.cell 4, HAA.out.cell 5, HB.out.cell 0⟩)
          refine Turns.next 5 rfl (by kernel_rfl) (by rfl) (fun K hK => ?_)
          go_simp
          go_at_call 14
          refine (lof_any _ _ _ _ _ _ _ _ _ _ _ _ _ _ _).mono ?_
          rintro e w8 ⟨rfl, hb⟩
          replace HE := Lib.hid (HE.out.more hb)
          replace HO2 := Lib.hid (HO2.out.below hb HO2.out.lt)
          replace HAA := Lib.hid (HAA.out.below hb HAA.out.lt)
          replace HB := Lib.hid (HDoc.out _ HE.out)
          clear hb
          refine hK.out _ _ (show (fun (w' : World) => w'.cell? ⟨xa, 0, none⟩ = some (.int .i64 f') ∧ w'.cell? ⟨xa, 1, none⟩ = some (.int .u16 q') ∧ w'.cell? ⟨xa, 2, none⟩ = some (.int .i64 r') ∧ w'.cell? ⟨xa, 3, none⟩ = some (.int .u16 b') ∧ w'.cell? ⟨xa, 4, none⟩ = some (.int .i64 g') ∧ w'.cell? ⟨xa, 5, none⟩ = some (.int .i64 t') ∧ w'.cell? ⟨y, 0, none⟩ = some (.int .i64 kk)) _ from ⟨HAA.out.cell 0, HAA.out.cell 1, HAA.out.cell 2, HAA.out.cell 3, HAA.out.cell 4, HAA.out.cell 5, HB.out.cell 0⟩) ?_
          clear hK K hS
          have hS := (show (fun (w' : World) => w'.cell? ⟨xa, 0, none⟩ = some (.int .i64 f') ∧ w'.cell? ⟨xa, 1, none⟩ = some (.int .u16 q') ∧ w'.cell? ⟨xa, 2, none⟩ = some (.int .i64 r') ∧ w'.cell? ⟨xa, 3, none⟩ = some (.int .u16 b') ∧ w'.cell? ⟨xa, 4, none⟩ = some (.int .i64 g') ∧ w'.cell? ⟨xa, 5, none⟩ = some (.int .i64 t') ∧ w'.cell? ⟨y, 0, none⟩ = some (.int .i64 kk)) _ from ⟨HAA.out.cell 0, HAA.out.cell 1, HAA.out.cell 2, HAA.out.cell 3, HAA.out.cell 4, HAA.out.cell 5, HB.out.cell 0⟩)
          refine Turns.take hS 6 _ rfl (by kernel_rfl) (by kernel_rfl) (by kernel_rfl) (by kernel_rfl) (fun _ _ _ h => h) (by rfl) (fun w' hS' => by (try dsimp only at hS'); go_split_ands; go_simp; (try with_reducible rfl)) ?_
          simp only [Act.put, List.getElem_toArray, List.getElem_cons_succ, List.getElem_cons_zero, List.setIfInBounds_toArray, List.set_cons_zero, List.set_cons_succ]
          refine Turns.take hS 7 _ rfl (by kernel_rfl) (by kernel_rfl) (by kernel_rfl) (by kernel_rfl) (fun _ _ _ h => h) (by rfl) (fun w' hS' => by (try dsimp only at hS'); go_split_ands; go_simp; (try with_reducible rfl)) ?_
          simp only [Act.put, List.getElem_toArray, List.getElem_cons_succ, List.getElem_cons_zero, List.setIfInBounds_toArray, List.set_cons_zero, List.set_cons_succ]
          refine Turns.take hS 8 _ rfl (by kernel_rfl) (by kernel_rfl) (by kernel_rfl) (by kernel_rfl) (fun _ _ _ h => h) (by rfl) (fun w' hS' => by (try dsimp only at hS'); go_split_ands; go_simp; (try with_reducible rfl)) ?_
          simp only [Act.put, List.getElem_toArray, List.getElem_cons_succ, List.getElem_cons_zero, List.setIfInBounds_toArray, List.set_cons_zero, List.set_cons_succ]
          refine Turns.take hS 9 _ rfl (by kernel_rfl) (by kernel_rfl) (by kernel_rfl) (by kernel_rfl) (fun _ _ _ h => h) (by rfl) (fun w' hS' => by (try dsimp only at hS'); go_split_ands; go_simp; (try with_reducible rfl)) ?_
          simp only [Act.put, List.getElem_toArray, List.getElem_cons_succ, List.getElem_cons_zero, List.setIfInBounds_toArray, List.set_cons_zero, List.set_cons_succ]
          refine Turns.take hS 10 _ rfl (by kernel_rfl) (by kernel_rfl) (by kernel_rfl) (by kernel_rfl) (fun _ _ _ h => h) (by rfl) (fun w' hS' => by (try dsimp only at hS'); go_split_ands; go_simp; (try with_reducible rfl)) ?_
          simp only [Act.put, List.getElem_toArray, List.getElem_cons_succ, List.getElem_cons_zero, List.setIfInBounds_toArray, List.set_cons_zero, List.set_cons_succ]
          refine Turns.take hS 11 _ rfl (by kernel_rfl) (by kernel_rfl) (by kernel_rfl) (by kernel_rfl) (fun _ _ _ h => h) (by rfl) (fun w' hS' => by (try dsimp only at hS'); go_split_ands; go_simp; (try with_reducible rfl)) ?_
          simp only [Act.put, List.getElem_toArray, List.getElem_cons_succ, List.getElem_cons_zero, List.setIfInBounds_toArray, List.set_cons_zero, List.set_cons_succ]
          refine Turns.take hS 12 _ rfl (by kernel_rfl) (by kernel_rfl) (by kernel_rfl) (by kernel_rfl) (fun _ _ _ h => h) (by rfl) (fun w' hS' => by (try dsimp only at hS'); go_split_ands; go_simp; (try with_reducible rfl)) ?_
          simp only [Act.put, List.getElem_toArray, List.getElem_cons_succ, List.getElem_cons_zero, List.setIfInBounds_toArray, List.set_cons_zero, List.set_cons_succ]
          refine Turns.take hS 13 _ rfl (by kernel_rfl) (by kernel_rfl) (by kernel_rfl) (by kernel_rfl) (fun _ _ _ h => h) (by rfl) (fun w' hS' => by (try dsimp only at hS'); go_split_ands; go_simp; (try with_reducible rfl)) ?_
          simp only [Act.put, List.getElem_toArray, List.getElem_cons_succ, List.getElem_cons_zero, List.setIfInBounds_toArray, List.set_cons_zero, List.set_cons_succ]
          refine Turns.take hS 14 _ rfl (by kernel_rfl) (by kernel_rfl) (by kernel_rfl) (by kernel_rfl) (fun _ _ _ h => h) (by rfl) (fun w' hS' => by (try dsimp only at hS'); go_split_ands; go_simp; (try with_reducible rfl)) ?_
          simp only [Act.put, List.getElem_toArray, List.getElem_cons_succ, List.getElem_cons_zero, List.setIfInBounds_toArray, List.set_cons_zero, List.set_cons_succ]
          refine Turns.take hS 15 _ rfl (by kernel_rfl) (by kernel_rfl) (by kernel_rfl) (by kernel_rfl) (fun _ _ _ h => h) (by rfl) (fun w' hS' => by (try dsimp only at hS'); go_split_ands; go_simp; (try with_reducible rfl)) ?_
          simp only [Act.put, List.getElem_toArray, List.getElem_cons_succ, List.getElem_cons_zero, List.setIfInBounds_toArray, List.set_cons_zero, List.set_cons_succ]
          refine Turns.take hS 16 _ rfl (by kernel_rfl) (by kernel_rfl) (by kernel_rfl) (by kernel_rfl) (fun _ _ _ h => h) (by rfl) (fun w' hS' => by (try dsimp only at hS'); go_split_ands; go_simp; (try with_reducible rfl)) ?_
          simp only [Act.put, List.getElem_toArray, List.getElem_cons_succ, List.getElem_cons_zero, List.setIfInBounds_toArray, List.set_cons_zero, List.set_cons_succ]
          refine Turns.take hS 17 _ rfl (by kernel_rfl) (by kernel_rfl) (by kernel_rfl) (by kernel_rfl) (fun _ _ _ h => h) (by rfl) (fun w' hS' => by (try dsimp only at hS'); go_split_ands; go_simp; (try with_reducible rfl)) ?_
          simp only [Act.put, List.getElem_toArray, List.getElem_cons_succ, List.getElem_cons_zero, List.setIfInBounds_toArray, List.set_cons_zero, List.set_cons_succ]
          refine Turns.take hS 18 _ rfl (by kernel_rfl) (by kernel_rfl) (by kernel_rfl) (by kernel_rfl) (fun _ _ _ h => h) (by rfl) (fun w' hS' => by (try dsimp only at hS'); go_split_ands; go_simp; (try with_reducible rfl)) ?_
          simp only [Act.put, List.getElem_toArray, List.getElem_cons_succ, List.getElem_cons_zero, List.setIfInBounds_toArray, List.set_cons_zero, List.set_cons_succ]
          refine Turns.take hS 19 _ rfl (by kernel_rfl) (by kernel_rfl) (by kernel_rfl) (by kernel_rfl) (fun _ _ _ h => h) (by rfl) (fun w' hS' => by (try dsimp only at hS'); go_split_ands; go_simp; (try with_reducible rfl)) ?_
          simp only [Act.put, List.getElem_toArray, List.getElem_cons_succ, List.getElem_cons_zero, List.setIfInBounds_toArray, List.set_cons_zero, List.set_cons_succ]
          refine Turns.next 20 rfl (by kernel_rfl) (by rfl) (fun K hK => ?_)
          simp only [List.getElem_toArray, List.getElem_cons_succ, List.getElem_cons_zero]
          refine wp_load_at 58 (.tmp 18) rfl xo ?hx 58 [.int .i64 s0, .int .i64 s1, .int .i64 s2, .int .i64 s3, .int .i64 s4, .int .u16 s5, .int .u16 s6, .int .i64 s7, .int .i64 s8, .int .i64 s9, .int .i64 s10, .int .i64 s11, .int .i64 s12, .int .i64 s13, .int .i64 s14, .int .i64 s15, .int .u16 s16, .int .i64 s17] _ HO2.out Try.underlying58 rfl (by kernel_rfl) ?_
          case hx => first | rfl | simp [Act.eval, Act.put]
          refine hK.out _ _ (show (fun (w' : World) => w'.cell? ⟨xa, 0, none⟩ = some (.int .i64 f') ∧ w'.cell? ⟨xa, 1, none⟩ = some (.int .u16 q') ∧ w'.cell? ⟨xa, 2, none⟩ = some (.int .i64 r') ∧ w'.cell? ⟨xa, 3, none⟩ = some (.int .u16 b') ∧ w'.cell? ⟨xa, 4, none⟩ = some (.int .i64 g') ∧ w'.cell? ⟨xa, 5, none⟩ = some (.int .i64 t') ∧ w'.cell? ⟨y, 0, none⟩ = some (.int .i64 kk)) _ from ⟨HAA.out.cell 0, HAA.out.cell 1, HAA.out.cell 2, HAA.out.cell 3, HAA.out.cell 4, HAA.out.cell 5, HB.out.cell 0⟩) ?_
          clear hK K hS
          have hS := (show (fun (w' : World) => w'.cell? ⟨xa, 0, none⟩ = some (.int .i64 f') ∧ w'.cell? ⟨xa, 1, none⟩ = some (.int .u16 q') ∧ w'.cell? ⟨xa, 2, none⟩ = some (.int .i64 r') ∧ w'.cell? ⟨xa, 3, none⟩ = some (.int .u16 b') ∧ w'.cell? ⟨xa, 4, none⟩ = some (.int .i64 g') ∧ w'.cell? ⟨xa, 5, none⟩ = some (.int .i64 t') ∧ w'.cell? ⟨y, 0, none⟩ = some (.int .i64 kk)) _ from ⟨HAA.out.cell 0, HAA.out.cell 1, HAA.out.cell 2, HAA.out.cell 3, HAA.out.cell 4, HAA.out.cell 5, HB.out.cell 0⟩)
          refine Turns.next 21 rfl (by kernel_rfl) (by rfl) (fun K hK => ?_)
          go_simp
          go_at_call 17
          refine (HAsk.out _ HE.out).mono ?_
          rintro e w9 ⟨rfl, hb⟩
          replace HE := Lib.hid (HE.out.more hb)
          replace HO2 := Lib.hid (HO2.out.below hb HO2.out.lt)
          replace HAA := Lib.hid (HAA.out.below hb HAA.out.lt)
          replace HB := Lib.hid (HDoc.out _ HE.out)
          clear hb
          refine hK.out _ _ (show (fun (w' : World) => w'.cell? ⟨xa, 0, none⟩ = some (.int .i64 f') ∧ w'.cell? ⟨xa, 1, none⟩ = some (.int .u16 q') ∧ w'.cell? ⟨xa, 2, none⟩ = some (.int .i64 r') ∧ w'.cell? ⟨xa, 3, none⟩ = some (.int .u16 b') ∧ w'.cell? ⟨xa, 4, none⟩ = some (.int .i64 g') ∧ w'.cell? ⟨xa, 5, none⟩ = some (.int .i64 t') ∧ w'.cell? ⟨y, 0, none⟩ = some (.int .i64 kk)) _ from ⟨HAA.out.cell 0, HAA.out.cell 1, HAA.out.cell 2, HAA.out.cell 3, HAA.out.cell 4, HAA.out.cell 5, HB.out.cell 0⟩) ?_
          clear hK K hS
          have hS := (show (fun (w' : World) => w'.cell? ⟨xa, 0, none⟩ = some (.int .i64 f') ∧ w'.cell? ⟨xa, 1, none⟩ = some (.int .u16 q') ∧ w'.cell? ⟨xa, 2, none⟩ = some (.int .i64 r') ∧ w'.cell? ⟨xa, 3, none⟩ = some (.int .u16 b') ∧ w'.cell? ⟨xa, 4, none⟩ = some (.int .i64 g') ∧ w'.cell? ⟨xa, 5, none⟩ = some (.int .i64 t') ∧ w'.cell? ⟨y, 0, none⟩ = some (.int .i64 kk)) _ from ⟨HAA.out.cell 0, HAA.out.cell 1, HAA.out.cell 2, HAA.out.cell 3, HAA.out.cell 4, HAA.out.cell 5, HB.out.cell 0⟩)
          refine Turns.take hS 22 _ rfl (by kernel_rfl) (by kernel_rfl) (by kernel_rfl) (by kernel_rfl) (fun _ _ _ h => h) (by rfl) (fun w' hS' => by (try dsimp only at hS'); go_split_ands; go_simp; (try with_reducible rfl)) ?_
          simp only [Act.put, List.getElem_toArray, List.getElem_cons_succ, List.getElem_cons_zero, List.setIfInBounds_toArray, List.set_cons_zero, List.set_cons_succ]
          refine Turns.take hS 23 _ rfl (by kernel_rfl) (by kernel_rfl) (by kernel_rfl) (by kernel_rfl) (fun _ _ _ h => h) (by rfl) (fun w' hS' => by (try dsimp only at hS'); go_split_ands; go_simp; (try with_reducible rfl)) ?_
          simp only [Act.put, List.getElem_toArray, List.getElem_cons_succ, List.getElem_cons_zero, List.setIfInBounds_toArray, List.set_cons_zero, List.set_cons_succ]
          refine Turns.rest (late_done (by kernel_rfl)) ?_
          refine any_tail 24 (by rfl) (by kernel_rfl) ?_
          simp only [List.drop_succ_cons, List.drop_zero]
          clear hS
          go_wp2
          go_roundw
          case rel => exact ⟨k + 1, s', by omega, by go_num, HE.out⟩
          case measure => simp [intOf]; omega
    · have hkn : k = n1 := by omega
      subst hkn
      have hltI : decide ((k : Int) < (k : Int)) = false := decide_eq_false (by omega)
      go_wp2
      go_ret
      exact ⟨rfl, HB0.out.trans (HD.out.one.below.mono HB0.out.size)⟩

set_option maxRecDepth 100000 in
theorem lifted (os : Os) (started : os.Started) (H : Type) (enc : TypeId × Value → H) :
    ReturnsInHanded {} Try.checked os 3 .any (Rows.anchorDoesSpec.pre6 enc Try.prog Try.f3 Rows.anchorDoesRow.domain false) (Rows.anchorDoesSpec.post enc Try.prog Try.f3 false true false false) := by
  refine returnsInHanded_of_change (C := Try.checked) own started (by kernel_rfl) Try.func3
    (ChangeSpec.witness6 (enc := enc) (C := Try.checked) false ⟨#[], #[.agg #[.int .i64 0, .int .i64 0, .int .i64 0, .slice none 0 0], .slice none 0 0], []⟩ 8 (by kernel_rfl) (by kernel_rfl) (by kernel_rfl) (by kernel_rfl)) ?_
  intro W base args ds gs before hval0 hW hcnd _
  have hval : ∀ (j : Nat) t v, Try.f3.params[j]? = some t → args[j]? = some v → Value.okWide Try.prog W .any base t v := hval0
  have hW' := hW
  obtain ⟨p, q, hA0, hV, rfl, hfz, hnd⟩ := hW
  have hA : DataW.TrodAll enc Try.prog W 0 (fun _ => true) true Try.f3.params.toList args.toList ds p := hA0
  have hAk := hA
  rw [Try.params3] at hA hval
  obtain ⟨v0, vs0, d0, ds0, p0, q0, hargs, rfl, hp, h0, r0⟩ := trodAll_cons hA
  obtain ⟨v1, vs1, d1, ds1, p1, q1, rfl, rfl, rfl, h1, r1⟩ := trodAll_cons r0
  obtain ⟨rfl, rfl, rfl⟩ := trodAll_nil r1
  obtain rfl : args = #[v0, v1] := by cases args; simp_all
  obtain ⟨rfl, rfl⟩ := trodVars_none hV
  clear hA0 hval0 hargs
  simp only [List.append_nil] at hW'
  have hend : ∀ W' : World, Below W.heap.size W W' → Rows.anchorDoesSpec.post enc Try.prog Try.f3 false true false false W #[v0, v1] (.bool true) W' := fun W' hb =>
    law_post (tb := 4) hW' hAk rfl (by kernel_rfl) (by kernel_rfl) (by kernel_rfl) Try.underlying4 rfl rfl rfl hb
  clear hW' hAk hp
  obtain ⟨vs0', rfl, hfit0⟩ := flatS_arg (ks := [.p (.int .i64), .p (.int .i64), .p (.int .i64), .rows [.int .i64, .int .i64]]) 9 Try.underlying24 (by kernel_rfl) (hval 0 24 v0 rfl rfl) h0
  obtain ⟨s0_0, s0_1, s0_2, A0_3, n0_3, c0_3, f0_3, rfl, w0_0, w0_1, w0_2, w0_3⟩ := cells0 hfit0
  obtain ⟨A1, n1, c1, f1, rfl, w1⟩ := flats_arg (ks := [.int .i64, .int .i64, .int .i64, .int .i64, .int .i64, .int .u16, .int .u16, .int .i64, .int .i64, .int .i64, .int .i64, .int .i64, .int .i64, .int .i64, .int .i64, .int .i64, .int .u16, .int .i64]) 9 Try.underlying25 (by kernel_rfl) (by kernel_rfl) (by decide) (hval 1 25 v1 rfl rfl) h1
  refine (walk s0_0 s0_1 s0_2 A0_3 n0_3 c0_3 f0_3 A1 n1 c1 f1 W w0_0 w0_1 w0_2 w0_3 w1).mono fun e W' ⟨he, hg⟩ => ?_
  subst he
  exact ⟨_, rfl, hend W' hg⟩

theorem over : Rows.anchorDoesRow.holds Try.pinned (OpenSpec.ofChange Rows.anchorDoesSpec) :=
  OpenClaim.holds_of_wide 3 Try.f3 rfl rfl rfl rfl rfl rfl rfl ⟨rfl, rfl, rfl, rfl, rfl⟩ rfl rfl rfl rfl rfl (by kernel_rfl) Try.func3 (by kernel_rfl)
    (of_decide_eq_true (by kernel_rfl)) (by unfold Func.isWrapper; first | (rw [if_pos (by decide +kernel)]; kernel_rfl) | (rw [if_neg (by decide +kernel)]; exact ⟨rfl, rfl⟩))
    (fun os started H enc _ => lifted os started H enc)

/-- THE STATEMENT -/
theorem proved : Rows.AnchorDoesSaid :=
  over
#print axioms proved
end Go.Proofs.Ytmmdkafkfjfgnaa.anchorDoes
