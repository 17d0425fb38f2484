/-
  In every script each answer is the document's: for all numbers, rules, limits and scripts of up to 200 calls the law answers true; without conditions.
  The walk is the prover's own; the frame of the row's step follows the kit's template.
-/
import Derived.Test.YtgmeakcfiaopcaaGreatRows
import Derived.Test.YtgmeakcfiaopcaaGreatBunA
import Derived.Test.YtgmeakcfiaopcaaGreatSdC
import Derived.LoopTactic
import Derived.Deep.QuietTactic
import Derived.BigQuiet
import Derived.Deep.CutBlock
import Derived.Deep.CutRange
import Derived.Laws.StructEq
namespace Go.Proofs.YtgmeakcfiaopcaaGreat.sourceDoes
open Go.ChangeShapes Go.WideShapes Go.ChangeAt Go.RowKit Go.ChangeMaps Go.WideElems
set_option linter.unusedVariables false

theorem split4 {ns : List Int} (h : ns.length = 4) : ∃ s1_0 s1_1 s1_2 s1_3 : Int, ns = [s1_0, s1_1, s1_2, s1_3] := by
  match ns, h with
  | [y0, y1, y2, y3], _ => exact ⟨_, _, _, _, rfl⟩
theorem cells3 {W : World} {vs : List Value} (h : Fit W [.int .i64, .int .i64, .int .i64, .int .i64, .int .i64, .int .i64, .int .u16, .int .u16, .int .i64, .int .i64, .int .i64, .int .i64, .int .i64, .int .i64, .int .i64, .int .i64, .int .i64, .int .i64, .int .i64] vs) : ∃ (s0 : Int) (s1 : Int) (s2 : Int) (s3 : Int) (s4 : Int) (s5 : Int) (s6 : Int) (s7 : Int) (s8 : Int) (s9 : Int) (s10 : Int) (s11 : Int) (s12 : Int) (s13 : Int) (s14 : Int) (s15 : Int) (s16 : Int) (s17 : Int) (s18 : Int), vs = [.int .i64 s0, .int .i64 s1, .int .i64 s2, .int .i64 s3, .int .i64 s4, .int .i64 s5, .int .u16 s6, .int .u16 s7, .int .i64 s8, .int .i64 s9, .int .i64 s10, .int .i64 s11, .int .i64 s12, .int .i64 s13, .int .i64 s14, .int .i64 s15, .int .i64 s16, .int .i64 s17, .int .i64 s18] ∧ (Lit.int .i64 s0).wf = true ∧ (Lit.int .i64 s1).wf = true ∧ (Lit.int .i64 s2).wf = true ∧ (Lit.int .i64 s3).wf = true ∧ (Lit.int .i64 s4).wf = true ∧ (Lit.int .i64 s5).wf = true ∧ (Lit.int .u16 s6).wf = true ∧ (Lit.int .u16 s7).wf = true ∧ (Lit.int .i64 s8).wf = true ∧ (Lit.int .i64 s9).wf = true ∧ (Lit.int .i64 s10).wf = true ∧ (Lit.int .i64 s11).wf = true ∧ (Lit.int .i64 s12).wf = true ∧ (Lit.int .i64 s13).wf = true ∧ (Lit.int .i64 s14).wf = true ∧ (Lit.int .i64 s15).wf = true ∧ (Lit.int .i64 s16).wf = true ∧ (Lit.int .i64 s17).wf = true ∧ (Lit.int .i64 s18).wf = true := by
  match vs, h.length, h with
  | [y0, y1, y2, y3, y4, y5, y6, y7, y8, y9, y10, y11, y12, y13, y14, y15, y16, y17, y18], _, h =>
    obtain ⟨⟨x0, rfl, h0⟩, ⟨x1, rfl, h1⟩, ⟨x2, rfl, h2⟩, ⟨x3, rfl, h3⟩, ⟨x4, rfl, h4⟩, ⟨x5, rfl, h5⟩, ⟨x6, rfl, h6⟩, ⟨x7, rfl, h7⟩, ⟨x8, rfl, h8⟩, ⟨x9, rfl, h9⟩, ⟨x10, rfl, h10⟩, ⟨x11, rfl, h11⟩, ⟨x12, rfl, h12⟩, ⟨x13, rfl, h13⟩, ⟨x14, rfl, h14⟩, ⟨x15, rfl, h15⟩, ⟨x16, rfl, h16⟩, ⟨x17, rfl, h17⟩, ⟨x18, rfl, h18⟩, _⟩ := h
    exact ⟨x0, x1, x2, x3, x4, x5, x6, x7, x8, x9, x10, x11, x12, x13, x14, x15, x16, x17, x18, rfl, h0, h1, h2, h3, h4, h5, h6, h7, h8, h9, h10, h11, h12, h13, h14, h15, h16, h17, h18⟩
theorem own : ownKnob Tryz.prog.godebug = none := by kernel_rfl
set_option linter.unusedSimpArgs false in
set_option maxHeartbeats 32000000 in
set_option maxRecDepth 100000 in
theorem walk (a0 : Int) (s1_0 s1_1 s1_2 s1_3 : Int) (a2 : Int) (A3 : Option Addr) (n3 c3 : Nat) (f3 : Nat → List Value) (w : World) (w0 : (Lit.int .i64 a0).wf = true) (w1_0 : (Lit.int .i64 s1_0).wf = true) (w1_1 : (Lit.int .i64 s1_1).wf = true) (w1_2 : (Lit.int .i64 s1_2).wf = true) (w1_3 : (Lit.int .i64 s1_3).wf = true) (w2 : (Lit.int .i64 a2).wf = true) (w3 : FlatRow w [.int .i64, .int .i64, .int .i64, .int .i64, .int .i64, .int .i64, .int .u16, .int .u16, .int .i64, .int .i64, .int .i64, .int .i64, .int .i64, .int .i64, .int .i64, .int .i64, .int .i64, .int .i64, .int .i64] A3 n3 c3 f3) :
    Calls Tryz.prog 3 #[.int .i64 a0, .agg #[.int .i64 s1_0, .int .i64 s1_1, .int .i64 s1_2, .int .i64 s1_3], .int .i64 a2, .slice A3 n3 c3] w fun e w' => e = .returned (.bool true) ∧ Below w.heap.size w w' := by
  have HB := Lib.hid (Box.start w 23 #[.int .i64 s1_0, .int .i64 s1_1, .int .i64 s1_2, .int .i64 s1_3])
  by_cases h200 : 200 < n3
  · have d3 : decide ((200 : Int) < (n3 : Int)) = true := decide_eq_true (by omega)
    go_enter Tryz.func3, Tryz.ntmps3
    go_wp2_with (go_at_call 4; refine (alive_yes _).mono ?_; rintro e wa ⟨rfl, hb⟩; replace HB := Lib.hid (HB.out.next hb); clear hb)
    go_ret
    exact ⟨rfl, HB.out.below⟩
  have d3 : decide ((200 : Int) < (n3 : Int)) = false := decide_eq_false (by omega)
  have hcap := w3.cap_le
  have hmx := w3.max
  unfold maxLen at hmx
  have R := Lib.hid w3
  clear w3 w0 w2 w1_0 w1_1 w1_2 w1_3
  have hrg := fun W => rfgood_any W a0 s1_0 s1_1 s1_2 s1_3
  cases hgd : fgoodB a0 s1_0 s1_1 s1_2 s1_3 with
  | false =>
    as_aux_lemma =>
      simp only [hgd] at hrg
      go_enter Tryz.func3, Tryz.ntmps3
      go_wp2_with (first
        | (go_at_call 4; refine (alive_yes _).mono ?_; rintro e wa ⟨rfl, hb⟩; replace HB := Lib.hid (HB.out.next hb); have hB2 := HB.out; have x0 : (wa).cell? ⟨w.heap.size, 0, none⟩ = some (.int .i64 s1_0) := hB2.holds.cell 0; have x1 : (wa).cell? ⟨w.heap.size, 1, none⟩ = some (.int .i64 s1_1) := hB2.holds.cell 1; have x2 : (wa).cell? ⟨w.heap.size, 2, none⟩ = some (.int .i64 s1_2) := hB2.holds.cell 2; have x3 : (wa).cell? ⟨w.heap.size, 3, none⟩ = some (.int .i64 s1_3) := hB2.holds.cell 3; clear hb hB2)
        | (go_at_call 5; refine (hrg _).mono ?_; rintro e wx ⟨rfl, hwx⟩; subst wx))
      go_ret
      exact ⟨rfl, HB.out.below⟩
  | true =>
    simp only [hgd] at hrg
    have hnew := fun W => fnew_yes W a0 s1_0 s1_1 s1_2 s1_3 hgd
    have HI := Lib.hid (FInv.new hgd (x := 0) ⟨by decide, by decide⟩)
    clear hgd
    by_cases hlim : a2 < 1 ∨ 1000 < a2
    · as_aux_lemma =>
        have hlw : decide (a2 < 1) = true ∨ decide (a2 < 1) = false ∧ decide (1000 < a2) = true := by
          by_cases k : a2 < 1
          · as_aux_lemma =>
              exact .inl (decide_eq_true k)
          · as_aux_lemma =>
              exact .inr ⟨decide_eq_false k, decide_eq_true (by omega)⟩
        have hsn := fun W => snew_no W a2 hlim
        clear hlim HI
        rcases hlw with l1 | ⟨l1, l2⟩
        all_goals
          go_enter Tryz.func3, Tryz.ntmps3
          go_wp2_with (first
            | (go_at_call 4; refine (alive_yes _).mono ?_; rintro e wa ⟨rfl, hb⟩; replace HB := Lib.hid (HB.out.next hb); have hB2 := HB.out; have x0 : (wa).cell? ⟨w.heap.size, 0, none⟩ = some (.int .i64 s1_0) := hB2.holds.cell 0; have x1 : (wa).cell? ⟨w.heap.size, 1, none⟩ = some (.int .i64 s1_1) := hB2.holds.cell 1; have x2 : (wa).cell? ⟨w.heap.size, 2, none⟩ = some (.int .i64 s1_2) := hB2.holds.cell 2; have x3 : (wa).cell? ⟨w.heap.size, 3, none⟩ = some (.int .i64 s1_3) := hB2.holds.cell 3; clear hb hB2)
            | (go_at_call 5; refine (hrg _).mono ?_; rintro e wx ⟨rfl, hwx⟩; subst wx)
            | (go_at_call 6; refine (hsn _).mono ?_; rintro e wx ⟨rfl, hwx⟩; subst wx)
            | (go_at_call 8; refine (lrules_any _ _ _ _ _).mono ?_; rintro e wb ⟨rfl, hb⟩; replace HB := Lib.hid (HB.out.next hb); clear hb)
            | (go_at_call 7; refine (hnew _).mono ?_; rintro e wc ⟨gf, g, b, rfl, hF, hb⟩; replace HB := Lib.hid (HB.out.next hb); clear hF hb)
            | (go_at_call 9; refine (sdrop_nil _).mono ?_; rintro e wx ⟨rfl, hwx⟩; subst wx)
            | (go_at_call 10; refine (sbeat_nil _).mono ?_; rintro e wx ⟨rfl, hwx⟩; subst wx)
            | (go_at_call 11; refine (stell_nils _ _ 1 ⟨_, rfl⟩).mono ?_; rintro e we ⟨rfl, hb⟩; replace HB := Lib.hid (HB.out.next hb); clear hb)
            | (go_at_call 12; refine (sfresh_nil _).mono ?_; rintro e wx ⟨rfl, hwx⟩; subst wx)
            | (go_at_call 13; refine (sput_nil _ 0 0 1 0 0).mono ?_; rintro e wf ⟨rfl, hb⟩; replace HB := Lib.hid ((HB.out.alloc (.cells #[.int .i64 0, .int .i64 0, .int .i64 0, .int .u16 0, .int .i64 0] 44)).next hb); clear hb))
          go_ret
          exact ⟨rfl, HB.out.below⟩
    replace hlim : 1 ≤ a2 ∧ a2 ≤ 1000 := by omega
    have l1 : decide (a2 < 1) = false := decide_eq_false (by omega)
    have l2 : decide (1000 < a2) = false := decide_eq_false (by omega)
    have HA := Lib.hid (AInv.new hlim)
    have HRn := Lib.hid (fun W x => rfnew_any W a0 s1_0 s1_1 s1_2 s1_3 x)
    go_enter Tryz.func3, Tryz.ntmps3
    go_upto_region 15 with (first
      | (go_at_call 4; refine (alive_yes _).mono ?_; rintro e wa ⟨rfl, hb⟩; replace HB := Lib.hid (HB.out.next hb); have hB2 := HB.out; have x0 : (wa).cell? ⟨w.heap.size, 0, none⟩ = some (.int .i64 s1_0) := hB2.holds.cell 0; have x1 : (wa).cell? ⟨w.heap.size, 1, none⟩ = some (.int .i64 s1_1) := hB2.holds.cell 1; have x2 : (wa).cell? ⟨w.heap.size, 2, none⟩ = some (.int .i64 s1_2) := hB2.holds.cell 2; have x3 : (wa).cell? ⟨w.heap.size, 3, none⟩ = some (.int .i64 s1_3) := hB2.holds.cell 3; clear hb hB2)
      | (go_at_call 5; refine (hrg _).mono ?_; rintro e wx ⟨rfl, hwx⟩; subst wx)
      | (go_at_call 6; refine (snew_yes _ a2 hlim).mono ?_; rintro e wb ⟨rfl, hS, hb⟩; have HG : Hid (w.heap.size < wa.heap.size) := Lib.hid HB.out.lt; have HS := Lib.hid hS; replace HB := Lib.hid (HB.out.next hb); clear x0 x1 x2 x3; have hB2 := HB.out; have x0 : (wb).cell? ⟨w.heap.size, 0, none⟩ = some (.int .i64 s1_0) := hB2.holds.cell 0; have x1 : (wb).cell? ⟨w.heap.size, 1, none⟩ = some (.int .i64 s1_1) := hB2.holds.cell 1; have x2 : (wb).cell? ⟨w.heap.size, 2, none⟩ = some (.int .i64 s1_2) := hB2.holds.cell 2; have x3 : (wb).cell? ⟨w.heap.size, 3, none⟩ = some (.int .i64 s1_3) := hB2.holds.cell 3; clear hS hb hB2)
      | (go_at_call 8; refine (lrules_any _ _ _ _ _).mono ?_; rintro e wc ⟨rfl, hb⟩; replace HB := Lib.hid (HB.out.next hb); replace HS := Lib.hid (HS.out.below hb (Holds.lt HS.out)); clear hb; clear x0 x1 x2 x3)
      | (go_at_call 7; refine (hnew _).mono ?_; rintro e wd ⟨gf, g, b, rfl, hF, hb⟩; have HL : Hid (Ls w wd gf g b 0 (newF a0 s1_0 s1_1 s1_2 s1_3 0) wa.heap.size (newA a2)) := Lib.hid ⟨(HB.out.next hb).below, hF.at (Nat.le_of_lt HB.out.lt), HI.out, HS.out.below hb (Holds.lt HS.out), Nat.le_of_lt HG.out, HA.out⟩; replace HB := Lib.hid (HB.out.next hb); clear hF hb hnew)
      | (go_at_call 9; refine (sdrop_nil _).mono ?_; rintro e wx ⟨rfl, hwx⟩; subst wx)
      | (go_at_call 10; refine (sbeat_nil _).mono ?_; rintro e wx ⟨rfl, hwx⟩; subst wx)
      | (go_at_call 11; refine (stell_nils _ _ 1 ⟨_, rfl⟩).mono ?_; rintro e we ⟨rfl, hb⟩; replace HB := Lib.hid (HB.out.next hb); replace HL := Lib.hid (HL.out.below hb); clear hb)
      | (go_at_call 12; refine (sfresh_nil _).mono ?_; rintro e wx ⟨rfl, hwx⟩; subst wx)
      | (go_at_call 13; refine (sput_nil _ 0 0 1 0 0).mono ?_; rintro e wf ⟨rfl, hb⟩; replace HB := Lib.hid ((HB.out.alloc (.cells #[.int .i64 0, .int .i64 0, .int .i64 0, .int .u16 0, .int .i64 0] 44)).next hb); replace HL := Lib.hid ((HL.out.alloc (.cells #[.int .i64 0, .int .i64 0, .int .i64 0, .int .u16 0, .int .i64 0] 44)).below hb); clear hb))
    go_wp2_with (first
      | (go_at_call 11; refine (stell_nilf _ _ 1).mono ?_; rintro e wg ⟨rfl, hb⟩; replace HB := Lib.hid (HB.out.next hb); replace HL := Lib.hid (HL.out.below hb); have hB2 := HB.out.alloc (.cells #[.int .i64 a2, .int .i64 0, .int .i64 0, .int .i64 0, .int .i64 0, .int .u16 0, .int .i64 0, .bool false] 53); have x0 : (wg.alloc (.cells #[.int .i64 a2, .int .i64 0, .int .i64 0, .int .i64 0, .int .i64 0, .int .u16 0, .int .i64 0, .bool false] 53)).cell? ⟨w.heap.size, 0, none⟩ = some (.int .i64 s1_0) := hB2.holds.cell 0; have x1 : (wg.alloc (.cells #[.int .i64 a2, .int .i64 0, .int .i64 0, .int .i64 0, .int .i64 0, .int .u16 0, .int .i64 0, .bool false] 53)).cell? ⟨w.heap.size, 1, none⟩ = some (.int .i64 s1_1) := hB2.holds.cell 1; have x2 : (wg.alloc (.cells #[.int .i64 a2, .int .i64 0, .int .i64 0, .int .i64 0, .int .i64 0, .int .u16 0, .int .i64 0, .bool false] 53)).cell? ⟨w.heap.size, 2, none⟩ = some (.int .i64 s1_2) := hB2.holds.cell 2; have x3 : (wg.alloc (.cells #[.int .i64 a2, .int .i64 0, .int .i64 0, .int .i64 0, .int .i64 0, .int .u16 0, .int .i64 0, .bool false] 53)).cell? ⟨w.heap.size, 3, none⟩ = some (.int .i64 s1_3) := hB2.holds.cell 3; clear hb hB2)
      | (go_at_call 14; refine (HRn.out _ _).mono ?_; rintro e wh ⟨gd, ge, rfl, hD, hge, hb⟩; have HN0 : Hid (Nd w wh gf g b 0 _ _ wa.heap.size _ (newA a2) wg.heap.size gd ge _ _) := Lib.hid ⟨(HL.out.alloc (.cells #[.int .i64 a2, .int .i64 0, .int .i64 0, .int .i64 0, .int .i64 0, .int .u16 0, .int .i64 0, .bool false] 53)).below hb, hD, (Ds.new wg a2 hlim.1).below hb, ⟨by have h1 := HL.out.fo.lt; have h2 := hD.lt; simp at hge; omega, by have h1 := HL.out.fo.node.lt; have h2 := hD.lt; simp at hge; omega, by have h1 := Holds.lt HL.out.src; have h2 := hD.lt; simp at hge; omega, by have h2 := hD.lt; simp at hge; omega⟩, by have h1 := HL.out.law.size; simp at hge; omega, HL.out.law.size⟩; clear hD hb hge; clear x0 x1 x2 x3))
    clear HB HS HL HI HRn hrg
    go_loopw [120] (fun i wr => ∃ (k b n : Nat) (f : FS) (a : AS) (A : Option Addr) (c : Nat), k ≤ n3 ∧ i = .int .i64 k ∧ n ≤ k ∧ Nd w wr gf g b n f f wa.heap.size a a wg.heap.size gd ge A c) (fun i _ => n3 - (intOf i).toNat)
    case atStart => exact ⟨0, b, 0, _, _, _, _, by omega, rfl, by omega, HN0.out⟩
    case round =>
      obtain ⟨k, b, n, f, a, A, c, hk, rfl, hn, hN⟩ := hrel
      have HN := Lib.hid hN
      clear hN HN0
      by_cases hlt : k < n3
      · skip
        obtain ⟨ca, off, rfl, hb', hc⟩ := (R.out.below HN.out.ls.law).at 19 rfl hlt
        obtain ⟨s0, s1, s2, s3, s4, s5, s6, s7, s8, s9, s10, s11, s12, s13, s14, s15, s16, s17, s18, hf, hw0, hw1, hw2, hw3, hw4, hw5, hw6, hw7, hw8, hw9, hw10, hw11, hw12, hw13, hw14, hw15, hw16, hw17, hw18⟩ := cells3 (R.out.fit k hlt)
        rw [hf] at hc
        have f6 := f16_wf hw6
        have f7 := f16_wf hw7
        have f5 := fits_wf hw5
        have fl := fits_wf hw1
        have ew := IntWalk.i64_in ((k : Int) + 1) (by omega)
        have hsp : splice ([.int .i64 0, .int .i64 0, .int .i64 0, .int .i64 0, .int .i64 0, .int .i64 0, .int .u16 0, .int .u16 0, .int .i64 0, .int .i64 0, .int .i64 0, .int .i64 0, .int .i64 0, .int .i64 0, .int .i64 0, .int .i64 0, .int .i64 0, .int .i64 0, .int .i64 0] : List Value) 0 ([.int .i64 s0, .int .i64 s1, .int .i64 s2, .int .i64 s3, .int .i64 s4, .int .i64 s5, .int .u16 s6, .int .u16 s7, .int .i64 s8, .int .i64 s9, .int .i64 s10, .int .i64 s11, .int .i64 s12, .int .i64 s13, .int .i64 s14, .int .i64 s15, .int .i64 s16, .int .i64 s17, .int .i64 s18] : List Value) = [.int .i64 s0, .int .i64 s1, .int .i64 s2, .int .i64 s3, .int .i64 s4, .int .i64 s5, .int .u16 s6, .int .u16 s7, .int .i64 s8, .int .i64 s9, .int .i64 s10, .int .i64 s11, .int .i64 s12, .int .i64 s13, .int .i64 s14, .int .i64 s15, .int .i64 s16, .int .i64 s17, .int .i64 s18] := splice_all _ _ rfl
        clear hf hw0 hw1 hw2 hw3 hw4 hw5 hw6 hw7 hw8 hw9 hw10 hw11 hw12 hw13 hw14 hw15 hw16 hw17 hw18
        have one19 : ∀ v ∈ ([.int .i64 s0, .int .i64 s1, .int .i64 s2, .int .i64 s3, .int .i64 s4, .int .i64 s5, .int .u16 s6, .int .u16 s7, .int .i64 s8, .int .i64 s9, .int .i64 s10, .int .i64 s11, .int .i64 s12, .int .i64 s13, .int .i64 s14, .int .i64 s15, .int .i64 s16, .int .i64 s17, .int .i64 s18] : List Value), v.oneCell' = true := by
          intro v hv
          simp only [List.mem_cons, List.not_mem_nil, or_false] at hv
          rcases hv with rfl | rfl | rfl | rfl | rfl | rfl | rfl | rfl | rfl | rfl | rfl | rfl | rfl | rfl | rfl | rfl | rfl | rfl | rfl <;> rfl
        have hkind : (s0 = 0 ∨ s0 = 1) ∨ s0 = 2 ∨ s0 = 3 ∨ s0 = 4 ∨ ((s0 == 0) = false ∧ (s0 == 1) = false ∧ (s0 == 2) = false ∧ (s0 == 3) = false ∧ (s0 == 4) = false) := by
          by_cases k0 : s0 = 0 <;> by_cases k1 : s0 = 1 <;> by_cases k2 : s0 = 2 <;> by_cases k3 : s0 = 3 <;> by_cases k4 : s0 = 4 <;> simp_all
        go_upto_block 2 with (first | (refine wpList_load_cells rfl 59 (.tmp 122) rfl ca (off + k * 19) rfl [.int .i64 s0, .int .i64 s1, .int .i64 s2, .int .i64 s3, .int .i64 s4, .int .i64 s5, .int .u16 s6, .int .u16 s7, .int .i64 s8, .int .i64 s9, .int .i64 s10, .int .i64 s11, .int .i64 s12, .int .i64 s13, .int .i64 s14, .int .i64 s15, .int .i64 s16, .int .i64 s17, .int .i64 s18] _ hc Tryz.underlying59 rfl (by kernel_rfl) ?_) | (refine wpList_store_at rfl 59 (.tmp 19) (.tmp 123) rfl wr.heap.size 0 [.int .i64 s0, .int .i64 s1, .int .i64 s2, .int .i64 s3, .int .i64 s4, .int .i64 s5, .int .u16 s6, .int .u16 s7, .int .i64 s8, .int .i64 s9, .int .i64 s10, .int .i64 s11, .int .i64 s12, .int .i64 s13, .int .i64 s14, .int .i64 s15, .int .i64 s16, .int .i64 s17, .int .i64 s18] rfl rfl 59 [.int .i64 0, .int .i64 0, .int .i64 0, .int .i64 0, .int .i64 0, .int .i64 0, .int .u16 0, .int .u16 0, .int .i64 0, .int .i64 0, .int .i64 0, .int .i64 0, .int .i64 0, .int .i64 0, .int .i64 0, .int .i64 0, .int .i64 0, .int .i64 0, .int .i64 0] (Holds.new _ _ _) (by kernel_rfl) (Nat.le_refl 19) one19 ?_; rw [hsp]; obtain ⟨hbe, hoe⟩ := elem_new wr 59 [.int .i64 0, .int .i64 0, .int .i64 0, .int .i64 0, .int .i64 0, .int .i64 0, .int .u16 0, .int .u16 0, .int .i64 0, .int .i64 0, .int .i64 0, .int .i64 0, .int .i64 0, .int .i64 0, .int .i64 0, .int .i64 0, .int .i64 0, .int .i64 0, .int .i64 0] [.int .i64 s0, .int .i64 s1, .int .i64 s2, .int .i64 s3, .int .i64 s4, .int .i64 s5, .int .u16 s6, .int .u16 s7, .int .i64 s8, .int .i64 s9, .int .i64 s10, .int .i64 s11, .int .i64 s12, .int .i64 s13, .int .i64 s14, .int .i64 s15, .int .i64 s16, .int .i64 s17, .int .i64 s18]; generalize World.setRow (World.alloc wr (.cells [.int .i64 0, .int .i64 0, .int .i64 0, .int .i64 0, .int .i64 0, .int .i64 0, .int .u16 0, .int .u16 0, .int .i64 0, .int .i64 0, .int .i64 0, .int .i64 0, .int .i64 0, .int .i64 0, .int .i64 0, .int .i64 0, .int .i64 0, .int .i64 0, .int .i64 0].toArray 59)) wr.heap.size [.int .i64 s0, .int .i64 s1, .int .i64 s2, .int .i64 s3, .int .i64 s4, .int .i64 s5, .int .u16 s6, .int .u16 s7, .int .i64 s8, .int .i64 s9, .int .i64 s10, .int .i64 s11, .int .i64 s12, .int .i64 s13, .int .i64 s14, .int .i64 s15, .int .i64 s16, .int .i64 s17, .int .i64 s18].toArray = W1 at hbe hoe ⊢; have HN1 := Lib.hid (HN.out.below hbe); have HO := Lib.hid hoe; have o0 := HO.out.cell 0; clear hbe hoe hc hsp one19))
        go_cut [20, 120] from 120 to 232 (fun _ i wx => ∃ (bz nz : Nat) (F : FS) (Z : AS) (Az : Option Addr) (cz : Nat), i = .int .i64 k ∧ nz ≤ k + 1 ∧ Nd w wx gf g bz nz F F wa.heap.size Z Z wg.heap.size gd ge Az cz ∧ Holds wx wr.heap.size 59 #[.int .i64 s0, .int .i64 s1, .int .i64 s2, .int .i64 s3, .int .i64 s4, .int .i64 s5, .int .u16 s6, .int .u16 s7, .int .i64 s8, .int .i64 s9, .int .i64 s10, .int .i64 s11, .int .i64 s12, .int .i64 s13, .int .i64 s14, .int .i64 s15, .int .i64 s16, .int .i64 s17, .int .i64 s18])
        case first =>
          rcases hkind with hkind | rfl | rfl | rfl | ⟨k0, k1, k2, k3, k4⟩
          · focus
              have hhr0 := fun W (h : Ls w W gf g b n f wa.heap.size a) => fhear_any W _ gf g b n f h.fo h.inv (by omega) s3 s5 s6 s7 s8 s9 s1 f5 f6 f7
              unfold FHeard at hhr0
              have hrh := fun W A' c' (h : Df W gd ge A' c' f) => rfhear_any W gd ge A' c' f h HN.out.ls.inv s2 s3 s4 s5 s6 s7 s8 s9 s10 s11 s12 s13 s14 s15 s1 f6 f7
              have hIF := HN.out.ls.inv.hear s5 s6 s7 s9 s8 s1 f6 f7
              obtain ⟨F, hF⟩ : ∃ F, hearFS f s5 s6 s7 s9 s8 s1 = F := ⟨_, rfl⟩
              obtain ⟨V, hV⟩ : ∃ V, hearFV f s5 s6 s7 s9 s8 s1 = V := ⟨_, rfl⟩
              rw [hF] at hIF
              simp only [hF, hV] at hhr0 hrh
              have HHr := Lib.hid hhr0
              have HRh := Lib.hid hrh
              have HIF := Lib.hid hIF
              clear hF hV hhr0 hrh hIF
              have hpart : ∀ j v, ([.int .i64 s2, .int .i64 s3, .int .i64 s4, .int .i64 s5, .int .u16 s6, .int .u16 s7, .int .i64 s8, .int .i64 s9, .int .i64 s10, .int .i64 s11, .int .i64 s12, .int .i64 s13, .int .i64 s14, .int .i64 s15] : List Value)[j]? = some v → (#[.int .i64 s0, .int .i64 s1, .int .i64 s2, .int .i64 s3, .int .i64 s4, .int .i64 s5, .int .u16 s6, .int .u16 s7, .int .i64 s8, .int .i64 s9, .int .i64 s10, .int .i64 s11, .int .i64 s12, .int .i64 s13, .int .i64 s14, .int .i64 s15, .int .i64 s16, .int .i64 s17, .int .i64 s18] : Array Value)[2 + j]? = some v := fun j v h => part_get [.int .i64 s0, .int .i64 s1] [.int .i64 s2, .int .i64 s3, .int .i64 s4, .int .i64 s5, .int .u16 s6, .int .u16 s7, .int .i64 s8, .int .i64 s9, .int .i64 s10, .int .i64 s11, .int .i64 s12, .int .i64 s13, .int .i64 s14, .int .i64 s15] [.int .i64 s16, .int .i64 s17, .int .i64 s18] j v h
              have hself : ∀ j v, ([.int .i64 s2, .int .i64 s3, .int .i64 s4, .int .i64 s5, .int .u16 s6, .int .u16 s7, .int .i64 s8, .int .i64 s9, .int .i64 s10, .int .i64 s11, .int .i64 s12, .int .i64 s13, .int .i64 s14, .int .i64 s15] : List Value)[j]? = some v → ([.int .i64 s2, .int .i64 s3, .int .i64 s4, .int .i64 s5, .int .u16 s6, .int .u16 s7, .int .i64 s8, .int .i64 s9, .int .i64 s10, .int .i64 s11, .int .i64 s12, .int .i64 s13, .int .i64 s14, .int .i64 s15].toArray : Array Value)[0 + j]? = some v := fun j v h => by rw [Nat.zero_add, List.getElem?_toArray]; exact h
              have hsp14 : splice ([.int .i64 0, .int .i64 0, .int .i64 0, .int .i64 0, .int .u16 0, .int .u16 0, .int .i64 0, .int .i64 0, .int .i64 0, .int .i64 0, .int .i64 0, .int .i64 0, .int .i64 0, .int .i64 0] : List Value) 0 ([.int .i64 s2, .int .i64 s3, .int .i64 s4, .int .i64 s5, .int .u16 s6, .int .u16 s7, .int .i64 s8, .int .i64 s9, .int .i64 s10, .int .i64 s11, .int .i64 s12, .int .i64 s13, .int .i64 s14, .int .i64 s15] : List Value) = [.int .i64 s2, .int .i64 s3, .int .i64 s4, .int .i64 s5, .int .u16 s6, .int .u16 s7, .int .i64 s8, .int .i64 s9, .int .i64 s10, .int .i64 s11, .int .i64 s12, .int .i64 s13, .int .i64 s14, .int .i64 s15] := splice_all _ _ rfl
              have one14 : ∀ v ∈ ([.int .i64 s2, .int .i64 s3, .int .i64 s4, .int .i64 s5, .int .u16 s6, .int .u16 s7, .int .i64 s8, .int .i64 s9, .int .i64 s10, .int .i64 s11, .int .i64 s12, .int .i64 s13, .int .i64 s14, .int .i64 s15] : List Value), v.oneCell' = true := by
                intro v hv
                simp only [List.mem_cons, List.not_mem_nil, or_false] at hv
                rcases hv with rfl | rfl | rfl | rfl | rfl | rfl | rfl | rfl | rfl | rfl | rfl | rfl | rfl | rfl <;> rfl
              rcases hkind with rfl | rfl <;>
              · focus
                  go_upto_region 27 with (first
                    | (refine wpList_load_at rfl 57 (.tmp 129) rfl wr.heap.size 2 rfl 59 _ [.int .i64 s2, .int .i64 s3, .int .i64 s4, .int .i64 s5, .int .u16 s6, .int .u16 s7, .int .i64 s8, .int .i64 s9, .int .i64 s10, .int .i64 s11, .int .i64 s12, .int .i64 s13, .int .i64 s14, .int .i64 s15] _ HO.out hpart Tryz.underlying57 rfl (by kernel_rfl) ?_)
                    | (refine wpList_store_at rfl 57 (.tmp 20) (.tmp 130) rfl W1.heap.size 0 [.int .i64 s2, .int .i64 s3, .int .i64 s4, .int .i64 s5, .int .u16 s6, .int .u16 s7, .int .i64 s8, .int .i64 s9, .int .i64 s10, .int .i64 s11, .int .i64 s12, .int .i64 s13, .int .i64 s14, .int .i64 s15] rfl rfl 57 [.int .i64 0, .int .i64 0, .int .i64 0, .int .i64 0, .int .u16 0, .int .u16 0, .int .i64 0, .int .i64 0, .int .i64 0, .int .i64 0, .int .i64 0, .int .i64 0, .int .i64 0, .int .i64 0] (Holds.new _ _ _) (by kernel_rfl) (Nat.le_refl 14) one14 ?_; rw [hsp14]; obtain ⟨hbe, hoe⟩ := elem_new W1 57 [.int .i64 0, .int .i64 0, .int .i64 0, .int .i64 0, .int .u16 0, .int .u16 0, .int .i64 0, .int .i64 0, .int .i64 0, .int .i64 0, .int .i64 0, .int .i64 0, .int .i64 0, .int .i64 0] [.int .i64 s2, .int .i64 s3, .int .i64 s4, .int .i64 s5, .int .u16 s6, .int .u16 s7, .int .i64 s8, .int .i64 s9, .int .i64 s10, .int .i64 s11, .int .i64 s12, .int .i64 s13, .int .i64 s14, .int .i64 s15]; generalize World.setRow (World.alloc W1 (.cells [.int .i64 0, .int .i64 0, .int .i64 0, .int .i64 0, .int .u16 0, .int .u16 0, .int .i64 0, .int .i64 0, .int .i64 0, .int .i64 0, .int .i64 0, .int .i64 0, .int .i64 0, .int .i64 0].toArray 57)) W1.heap.size [.int .i64 s2, .int .i64 s3, .int .i64 s4, .int .i64 s5, .int .u16 s6, .int .u16 s7, .int .i64 s8, .int .i64 s9, .int .i64 s10, .int .i64 s11, .int .i64 s12, .int .i64 s13, .int .i64 s14, .int .i64 s15].toArray = W2 at hbe hoe ⊢; have HNd := Lib.hid (HN1.out.below hbe); have HOd := Lib.hid (HO.out.below hbe HO.out.lt); have HPd := Lib.hid hoe; have hhr := HHr.out _ HNd.out.ls; have d1 := HOd.out.cell 1; have p1 := Holds.cell hoe 1; have p3 := Holds.cell hoe 3; have p4 := Holds.cell hoe 4; have p5 := Holds.cell hoe 5; have p6 := Holds.cell hoe 6; have p7 := Holds.cell hoe 7; clear hbe hoe hsp14 one14))
                  clear hpart
                  go_upto_region 28 with (go_at_call 15; refine hhr.mono ?_; rintro e w4 ⟨rfl, hg4⟩; obtain ⟨b4, hN4, hK4⟩ := HNd.out.hear1 hg4 HIF.out; have HN4 := Lib.hid hN4; have HO4 := Lib.hid (hK4 _ _ _ (by unfold Oth; decide) HOd.out); have HP4 := Lib.hid (hK4 _ _ _ (by unfold Oth; decide) HPd.out); clear hg4 hN4 hK4 d1 p1 p3 p4 p5 p6 p7; have d1 := HO4.out.cell 1; have hr4 := HRh.out _ _ _ HN4.out.df)
                  go_wp2_with (first
                    | (refine wpList_load_at rfl 57 (.tmp 20) rfl W1.heap.size 0 rfl 57 _ [.int .i64 s2, .int .i64 s3, .int .i64 s4, .int .i64 s5, .int .u16 s6, .int .u16 s7, .int .i64 s8, .int .i64 s9, .int .i64 s10, .int .i64 s11, .int .i64 s12, .int .i64 s13, .int .i64 s14, .int .i64 s15] _ HP4.out hself Tryz.underlying57 rfl (by kernel_rfl) ?_)
                    | (go_at_call 16; refine hr4.mono ?_; rintro e w5 ⟨rfl, hg5⟩; obtain ⟨A5, c5, hN5, hK5⟩ := HN4.out.hear2 hg5; have HN5 := Lib.hid hN5; have HO5 := Lib.hid (hK5 _ _ _ (by unfold Oth; decide) HO4.out); clear hg5 hN5 hK5))
                  go_meet
                  case rel => exact ⟨b4, n + 1, _, _, _, _, rfl, by omega, HN5.out, HO5.out⟩
          · as_aux_lemma =>
              obtain ⟨⟨W1', W2', W3', W4', W5', W6'⟩, ok, F, hs⟩ := says_is (beatF f) s1
              have hbt := fbeat_any _ _ gf g b n f HN1.out.ls.fo HN1.out.ls.inv s1 fl _ ok F hs
              have HRb := Lib.hid (fun V A' c' (h : Df V gd ge A' c' f) => rfbeat_any V gd ge A' c' f h HN.out.ls.inv s1 _ ok F hs)
              have HIF := Lib.hid (HN.out.ls.inv.beat.says hs)
              have HSb := Lib.hid (fun V (h : Sq V wa.heap.size a) => sbeat_any V _ a h HN.out.ls.ainv)
              have HMb := Lib.hid (fun V (h : Ds V wg.heap.size a) => dbeat_any V _ a h HN.out.ls.ainv)
              have HAb := Lib.hid HN.out.ls.ainv.beat
              unfold wordV at hbt
              try simp only [] at hbt
              have o1 := HO.out.cell 1
              clear hs
              go_wp2_with (first
                | (go_at_call 17; refine hbt.mono ?_; rintro e w4 ⟨rfl, hg4⟩; obtain ⟨b4, hN4, hK4⟩ := HN1.out.hear1 hg4 HIF.out; have HN4 := Lib.hid hN4; have HO4 := Lib.hid (hK4 _ _ _ (by unfold Oth; decide) HO.out); clear hg4 hN4 hK4 o1; have o1 := HO4.out.cell 1; have hr4 := HRb.out _ _ _ HN4.out.df)
                | (go_at_call 18; refine hr4.mono ?_; rintro e w5 ⟨rfl, hg5⟩; obtain ⟨A5, c5, hN5, hK5⟩ := HN4.out.hear2 hg5; have HN5 := Lib.hid hN5; have HO5 := Lib.hid (hK5 _ _ _ (by unfold Oth; decide) HO4.out); have hsb := HSb.out _ HN5.out.ls.src; clear hg5 hN5 hK5 hr4)
                | (go_at_call 10; refine hsb.mono ?_; rintro e w6 ⟨rfl, hg6⟩; obtain ⟨hN6, hK6⟩ := HN5.out.go1 hg6 HAb.out; have HN6 := Lib.hid hN6; have HO6 := Lib.hid (hK6 _ _ _ (by unfold Oth; decide) HO5.out); have hmb := HMb.out _ HN6.out.ds; clear hg6 hN6 hK6 hsb)
                | (go_at_call 19; refine hmb.mono ?_; rintro e w7 ⟨rfl, hg7⟩; obtain ⟨hN7, hK7⟩ := HN6.out.go2 hg7; have HN7 := Lib.hid hN7; have HO7 := Lib.hid (hK7 _ _ _ (by unfold Oth; decide) HO6.out); clear hg7 hN7 hK7 hmb))
              go_meet
              case rel => exact ⟨b4, n, _, _, _, _, rfl, by omega, HN7.out, HO7.out⟩
          · as_aux_lemma =>
              have HPt := Lib.hid (fun V (h : Sq V wa.heap.size a) => sput_any V _ a h s16 s17 s18 s5 s6)
              have HMp := Lib.hid (fun V (h : Ds V wg.heap.size a) => dput_any V _ a h HN.out.ls.ainv s16 s17 s18 s5 s6)
              have HAp := Lib.hid (HN.out.ls.ainv.put s16 s17 s18 s5 s6)
              obtain ⟨pv, hpv⟩ : ∃ pv, putV s16 s17 s18 s5 = pv := ⟨_, rfl⟩
              simp only [hpv] at HPt HMp
              have dv : (pv != pv) = false := by simp
              clear hpv
              go_upto_region 35 with fail
              clear o0
              have HNd := Lib.hid (HN1.out.drewN 1)
              have HOd := Lib.hid (HO.out.drewN 1)
              refine region_turns (fun (w' : World) => w'.cell? ⟨wr.heap.size, 5, none⟩ = some (.int .i64 s5) ∧ w'.cell? ⟨wr.heap.size, 6, none⟩ = some (.int .u16 s6) ∧ w'.cell? ⟨wr.heap.size, 16, none⟩ = some (.int .i64 s16) ∧ w'.cell? ⟨wr.heap.size, 17, none⟩ = some (.int .i64 s17) ∧ w'.cell? ⟨wr.heap.size, 18, none⟩ = some (.int .i64 s18)) (fun j => decide (22 ≤ j)) (by kernel_rfl) (⟨HOd.out.cell 5, HOd.out.cell 6, HOd.out.cell 16, HOd.out.cell 17, HOd.out.cell 18⟩) (fun hS => ?_)
              refine Turns.take hS 0 _ rfl (by kernel_rfl) (by kernel_rfl) (by kernel_rfl) (by kernel_rfl) (fun _ _ _ h => h) (by rfl) (fun w' hS' => by (try dsimp only at hS'); go_split_ands; go_simp; (try with_reducible rfl)) ?_
              simp only [Act.put, List.getElem_toArray, List.getElem_cons_succ, List.getElem_cons_zero, List.setIfInBounds_toArray, List.set_cons_zero, List.set_cons_succ]
              refine Turns.take hS 1 _ rfl (by kernel_rfl) (by kernel_rfl) (by kernel_rfl) (by kernel_rfl) (fun _ _ _ h => h) (by rfl) (fun w' hS' => by (try dsimp only at hS'); go_split_ands; go_simp; (try with_reducible rfl)) ?_
              simp only [Act.put, List.getElem_toArray, List.getElem_cons_succ, List.getElem_cons_zero, List.setIfInBounds_toArray, List.set_cons_zero, List.set_cons_succ]
              refine Turns.take hS 2 _ rfl (by kernel_rfl) (by kernel_rfl) (by kernel_rfl) (by kernel_rfl) (fun _ _ _ h => h) (by rfl) (fun w' hS' => by (try dsimp only at hS'); go_split_ands; go_simp; (try with_reducible rfl)) ?_
              simp only [Act.put, List.getElem_toArray, List.getElem_cons_succ, List.getElem_cons_zero, List.setIfInBounds_toArray, List.set_cons_zero, List.set_cons_succ]
              refine Turns.take hS 3 _ rfl (by kernel_rfl) (by kernel_rfl) (by kernel_rfl) (by kernel_rfl) (fun _ _ _ h => h) (by rfl) (fun w' hS' => by (try dsimp only at hS'); go_split_ands; go_simp; (try with_reducible rfl)) ?_
              simp only [Act.put, List.getElem_toArray, List.getElem_cons_succ, List.getElem_cons_zero, List.setIfInBounds_toArray, List.set_cons_zero, List.set_cons_succ]
              refine Turns.take hS 4 _ rfl (by kernel_rfl) (by kernel_rfl) (by kernel_rfl) (by kernel_rfl) (fun _ _ _ h => h) (by rfl) (fun w' hS' => by (try dsimp only at hS'); go_split_ands; go_simp; (try with_reducible rfl)) ?_
              simp only [Act.put, List.getElem_toArray, List.getElem_cons_succ, List.getElem_cons_zero, List.setIfInBounds_toArray, List.set_cons_zero, List.set_cons_succ]
              refine Turns.take hS 5 _ rfl (by kernel_rfl) (by kernel_rfl) (by kernel_rfl) (by kernel_rfl) (fun _ _ _ h => h) (by rfl) (fun w' hS' => by (try dsimp only at hS'); go_split_ands; go_simp; (try with_reducible rfl)) ?_
              simp only [Act.put, List.getElem_toArray, List.getElem_cons_succ, List.getElem_cons_zero, List.setIfInBounds_toArray, List.set_cons_zero, List.set_cons_succ]
              refine Turns.take hS 6 _ rfl (by kernel_rfl) (by kernel_rfl) (by kernel_rfl) (by kernel_rfl) (fun _ _ _ h => h) (by rfl) (fun w' hS' => by (try dsimp only at hS'); go_split_ands; go_simp; (try with_reducible rfl)) ?_
              simp only [Act.put, List.getElem_toArray, List.getElem_cons_succ, List.getElem_cons_zero, List.setIfInBounds_toArray, List.set_cons_zero, List.set_cons_succ]
              refine Turns.take hS 7 _ rfl (by kernel_rfl) (by kernel_rfl) (by kernel_rfl) (by kernel_rfl) (fun _ _ _ h => h) (by rfl) (fun w' hS' => by (try dsimp only at hS'); go_split_ands; go_simp; (try with_reducible rfl)) ?_
              simp only [Act.put, List.getElem_toArray, List.getElem_cons_succ, List.getElem_cons_zero, List.setIfInBounds_toArray, List.set_cons_zero, List.set_cons_succ]
              refine Turns.take hS 8 _ rfl (by kernel_rfl) (by kernel_rfl) (by kernel_rfl) (by kernel_rfl) (fun _ _ _ h => h) (by rfl) (fun w' hS' => by (try dsimp only at hS'); go_split_ands; go_simp; (try with_reducible rfl)) ?_
              simp only [Act.put, List.getElem_toArray, List.getElem_cons_succ, List.getElem_cons_zero, List.setIfInBounds_toArray, List.set_cons_zero, List.set_cons_succ]
              refine Turns.take hS 9 _ rfl (by kernel_rfl) (by kernel_rfl) (by kernel_rfl) (by kernel_rfl) (fun _ _ _ h => h) (by rfl) (fun w' hS' => by (try dsimp only at hS'); go_split_ands; go_simp; (try with_reducible rfl)) ?_
              simp only [Act.put, List.getElem_toArray, List.getElem_cons_succ, List.getElem_cons_zero, List.setIfInBounds_toArray, List.set_cons_zero, List.set_cons_succ]
              refine Turns.take hS 11 _ rfl (by kernel_rfl) (by kernel_rfl) (by kernel_rfl) (by kernel_rfl) (fun _ _ _ h => h) (by rfl) (fun w' hS' => by (try dsimp only at hS'); go_split_ands; go_simp; (try with_reducible rfl)) ?_
              simp only [Act.put, List.getElem_toArray, List.getElem_cons_succ, List.getElem_cons_zero, List.setIfInBounds_toArray, List.set_cons_zero, List.set_cons_succ]
              refine Turns.take hS 12 _ rfl (by kernel_rfl) (by kernel_rfl) (by kernel_rfl) (by kernel_rfl) (fun _ _ _ h => h) (by rfl) (fun w' hS' => by (try dsimp only at hS'); go_split_ands; go_simp; (try with_reducible rfl)) ?_
              simp only [Act.put, List.getElem_toArray, List.getElem_cons_succ, List.getElem_cons_zero, List.setIfInBounds_toArray, List.set_cons_zero, List.set_cons_succ]
              refine Turns.take hS 13 _ rfl (by kernel_rfl) (by kernel_rfl) (by kernel_rfl) (by kernel_rfl) (fun _ _ _ h => h) (by rfl) (fun w' hS' => by (try dsimp only at hS'); go_split_ands; go_simp; (try with_reducible rfl)) ?_
              simp only [Act.put, List.getElem_toArray, List.getElem_cons_succ, List.getElem_cons_zero, List.setIfInBounds_toArray, List.set_cons_zero, List.set_cons_succ]
              refine Turns.take hS 14 _ rfl (by kernel_rfl) (by kernel_rfl) (by kernel_rfl) (by kernel_rfl) (fun _ _ _ h => h) (by rfl) (fun w' hS' => by (try dsimp only at hS'); go_split_ands; go_simp; (try with_reducible rfl)) ?_
              simp only [Act.put, List.getElem_toArray, List.getElem_cons_succ, List.getElem_cons_zero, List.setIfInBounds_toArray, List.set_cons_zero, List.set_cons_succ]
              refine Turns.take hS 15 _ rfl (by kernel_rfl) (by kernel_rfl) (by kernel_rfl) (by kernel_rfl) (fun _ _ _ h => h) (by rfl) (fun w' hS' => by (try dsimp only at hS'); go_split_ands; go_simp; (try with_reducible rfl)) ?_
              simp only [Act.put, List.getElem_toArray, List.getElem_cons_succ, List.getElem_cons_zero, List.setIfInBounds_toArray, List.set_cons_zero, List.set_cons_succ]
              refine Turns.take hS 16 _ rfl (by kernel_rfl) (by kernel_rfl) (by kernel_rfl) (by kernel_rfl) (fun _ _ _ h => h) (by rfl) (fun w' hS' => by (try dsimp only at hS'); go_split_ands; go_simp; (try with_reducible rfl)) ?_
              simp only [Act.put, List.getElem_toArray, List.getElem_cons_succ, List.getElem_cons_zero, List.setIfInBounds_toArray, List.set_cons_zero, List.set_cons_succ]
              refine Turns.take hS 17 _ rfl (by kernel_rfl) (by kernel_rfl) (by kernel_rfl) (by kernel_rfl) (fun _ _ _ h => h) (by rfl) (fun w' hS' => by (try dsimp only at hS'); go_split_ands; go_simp; (try with_reducible rfl)) ?_
              simp only [Act.put, List.getElem_toArray, List.getElem_cons_succ, List.getElem_cons_zero, List.setIfInBounds_toArray, List.set_cons_zero, List.set_cons_succ]
              refine Turns.take hS 18 _ rfl (by kernel_rfl) (by kernel_rfl) (by kernel_rfl) (by kernel_rfl) (fun _ _ _ h => h) (by rfl) (fun w' hS' => by (try dsimp only at hS'); go_split_ands; go_simp; (try with_reducible rfl)) ?_
              simp only [Act.put, List.getElem_toArray, List.getElem_cons_succ, List.getElem_cons_zero, List.setIfInBounds_toArray, List.set_cons_zero, List.set_cons_succ]
              refine Turns.take hS 19 _ rfl (by kernel_rfl) (by kernel_rfl) (by kernel_rfl) (by kernel_rfl) (fun _ _ _ h => h) (by rfl) (fun w' hS' => by (try dsimp only at hS'); go_split_ands; go_simp; (try with_reducible rfl)) ?_
              simp only [Act.put, List.getElem_toArray, List.getElem_cons_succ, List.getElem_cons_zero, List.setIfInBounds_toArray, List.set_cons_zero, List.set_cons_succ]
              refine Turns.next 10 rfl (by kernel_rfl) (by rfl) (fun K hK => ?_)
              go_simp
              go_at_call 13
              refine (HPt.out _ HNd.out.ls.src).mono ?_
              rintro e w4 ⟨rfl, hg4⟩
              obtain ⟨hN4, hK4⟩ := HNd.out.go1 hg4 HAp.out
              have HN4 := Lib.hid hN4
              have HO4 := Lib.hid (hK4 _ _ _ (by unfold Oth; decide) HOd.out)
              clear hg4 hN4 hK4
              refine hK.out _ _ (show (fun (w' : World) => w'.cell? ⟨wr.heap.size, 5, none⟩ = some (.int .i64 s5) ∧ w'.cell? ⟨wr.heap.size, 6, none⟩ = some (.int .u16 s6) ∧ w'.cell? ⟨wr.heap.size, 16, none⟩ = some (.int .i64 s16) ∧ w'.cell? ⟨wr.heap.size, 17, none⟩ = some (.int .i64 s17) ∧ w'.cell? ⟨wr.heap.size, 18, none⟩ = some (.int .i64 s18)) _ from ⟨HO4.out.cell 5, HO4.out.cell 6, HO4.out.cell 16, HO4.out.cell 17, HO4.out.cell 18⟩) ?_
              clear hK K hS
              have hS := (show (fun (w' : World) => w'.cell? ⟨wr.heap.size, 5, none⟩ = some (.int .i64 s5) ∧ w'.cell? ⟨wr.heap.size, 6, none⟩ = some (.int .u16 s6) ∧ w'.cell? ⟨wr.heap.size, 16, none⟩ = some (.int .i64 s16) ∧ w'.cell? ⟨wr.heap.size, 17, none⟩ = some (.int .i64 s17) ∧ w'.cell? ⟨wr.heap.size, 18, none⟩ = some (.int .i64 s18)) _ from ⟨HO4.out.cell 5, HO4.out.cell 6, HO4.out.cell 16, HO4.out.cell 17, HO4.out.cell 18⟩)
              refine Turns.next 20 rfl (by kernel_rfl) (by rfl) (fun K hK => ?_)
              go_simp
              go_at_call 20
              refine (HMp.out _ HN4.out.ds).mono ?_
              rintro e w5 ⟨rfl, hg5⟩
              obtain ⟨hN5, hK5⟩ := HN4.out.go2 hg5
              have HN5 := Lib.hid hN5
              have HO5 := Lib.hid (hK5 _ _ _ (by unfold Oth; decide) HO4.out)
              clear hg5 hN5 hK5
              refine hK.out _ _ (show (fun (w' : World) => w'.cell? ⟨wr.heap.size, 5, none⟩ = some (.int .i64 s5) ∧ w'.cell? ⟨wr.heap.size, 6, none⟩ = some (.int .u16 s6) ∧ w'.cell? ⟨wr.heap.size, 16, none⟩ = some (.int .i64 s16) ∧ w'.cell? ⟨wr.heap.size, 17, none⟩ = some (.int .i64 s17) ∧ w'.cell? ⟨wr.heap.size, 18, none⟩ = some (.int .i64 s18)) _ from ⟨HO5.out.cell 5, HO5.out.cell 6, HO5.out.cell 16, HO5.out.cell 17, HO5.out.cell 18⟩) ?_
              clear hK K hS
              have hS := (show (fun (w' : World) => w'.cell? ⟨wr.heap.size, 5, none⟩ = some (.int .i64 s5) ∧ w'.cell? ⟨wr.heap.size, 6, none⟩ = some (.int .u16 s6) ∧ w'.cell? ⟨wr.heap.size, 16, none⟩ = some (.int .i64 s16) ∧ w'.cell? ⟨wr.heap.size, 17, none⟩ = some (.int .i64 s17) ∧ w'.cell? ⟨wr.heap.size, 18, none⟩ = some (.int .i64 s18)) _ from ⟨HO5.out.cell 5, HO5.out.cell 6, HO5.out.cell 16, HO5.out.cell 17, HO5.out.cell 18⟩)
              refine Turns.take hS 21 _ rfl (by kernel_rfl) (by kernel_rfl) (by kernel_rfl) (by kernel_rfl) (fun _ _ _ h => h) (by rfl) (fun w' hS' => by (try dsimp only at hS'); go_split_ands; go_simp; (try with_reducible rfl)) ?_
              simp only [Act.put, List.getElem_toArray, List.getElem_cons_succ, List.getElem_cons_zero, List.setIfInBounds_toArray, List.set_cons_zero, List.set_cons_succ]
              refine Turns.rest (late_done (by kernel_rfl)) ?_
              refine any_tail 22 (by rfl) (by kernel_rfl) ?_
              simp only [List.drop_succ_cons, List.drop_zero]
              clear hS
              go_wp2
              go_meet
              case rel => exact ⟨b, n, _, _, _, _, rfl, by omega, HN5.out, HO5.out⟩
          · as_aux_lemma =>
              have hdr := sdrop_any _ _ a HN1.out.ls.src
              have HAd := Lib.hid HN.out.ls.ainv.drop
              have HDd := Lib.hid (fun V (h : Ds V wg.heap.size a) => h.drop HN.out.ls.ainv)
              have HCd := Lib.hid (fun V (h : Ds V wg.heap.size a) => (by obtain ⟨_, _, _, _, _, _, h1, _⟩ := h; exact ⟨h1.cell 7, h1.soft 7⟩ : V.cell? ⟨wg.heap.size, 7, none⟩ = some (.bool (afreshB a)) ∧ V.frozen? ⟨wg.heap.size, 7, none⟩ = false))
              go_wp2_with (go_at_call 9; refine hdr.mono ?_; rintro e w4 ⟨rfl, hg4⟩; obtain ⟨hN4, hK4⟩ := HN1.out.go1 hg4 HAd.out; have HO4 := Lib.hid (hK4 _ _ _ (by unfold Oth; decide) HO.out); obtain ⟨hN5, hK5⟩ := hN4.go2 (HDd.out _ hN4.ds); have HN5 := Lib.hid hN5; have HO5 := Lib.hid (hK5 _ _ _ (by unfold Oth; decide) HO4.out); obtain ⟨c7, f7'⟩ := HCd.out _ hN4.ds; clear hg4 hN4 hK4 hN5 hK5 hdr)
              go_meet
              case rel => exact ⟨b, n, _, _, _, _, rfl, by omega, HN5.out, HO5.out⟩
          · as_aux_lemma =>
              go_wp2
              go_meet
              case rel => exact ⟨b, n, f, a, A, c, rfl, by omega, HN1.out, HO.out⟩
        case rest =>
          obtain ⟨bz, nz, F, Z, Az, cz, rfl, hnz, hNz, hOz⟩ := hcut
          have HNz := Lib.hid hNz
          have HOz := Lib.hid hOz
          clear hkind HN1 HO hNz hOz HN f5 f6 f7 o0
          obtain ⟨t, hp, r, m, y, v, hs⟩ := stime_is F Z s1
          have HFr := Lib.hid (fun W (h : Nd w W gf g bz nz F F wa.heap.size Z Z wg.heap.size gd ge Az cz) => sfresh_any W _ Z h.ls.src)
          have HC7 := Lib.hid (fun W (h : Ds W wg.heap.size Z) => (by obtain ⟨_, _, _, _, _, _, h1, _⟩ := h; exact h1.cell 7 : W.cell? ⟨wg.heap.size, 7, none⟩ = some (.bool (afreshB Z))))
          have HT1 := Lib.hid (fun W (h : Nd w W gf g bz nz F F wa.heap.size Z Z wg.heap.size gd ge Az cz) => stell_any W _ gf g bz nz _ F Z h.ls.fo h.ls.src h.ls.inv h.ls.ainv s1 t hp r m y v hs)
          have HT2 := Lib.hid (fun W (h : Nd w W gf g bz nz F F wa.heap.size Z Z wg.heap.size gd ge Az cz) => dtell_any W gd ge _ Az cz F Z h.df h.ds h.ls.inv h.ls.ainv s1 t hp r m y v hs)
          obtain ⟨fr, hfr⟩ : ∃ fr, afreshB Z = fr := ⟨_, rfl⟩
          simp only [hfr] at HFr HC7
          have dfr : (fr != fr) = false := by cases fr <;> rfl
          have dv : (v != v) = false := by simp
          clear hs hfr
          have o1 := HOz.out.cell 1
          have ht1 := HT1.out _ HNz.out
          go_upto_region 41 with (go_at_call 11; (with_reducible refine ht1.mono ?_); rintro e w8 ⟨rfl, hb8⟩; replace HNz := Lib.hid (HNz.out.below hb8); replace HOz := Lib.hid (HOz.out.below hb8 HOz.out.lt); clear hb8 ht1 o1)
          have HX := Lib.hid (Holds.new w8 44 #[.int .i64 t, .int .i64 hp, .int .i64 r, .int .u16 m, .int .i64 y])
          replace HNz := Lib.hid (HNz.out.alloc (.cells #[.int .i64 t, .int .i64 hp, .int .i64 r, .int .u16 m, .int .i64 y] 44))
          replace HOz := Lib.hid (HOz.out.alloc (.cells #[.int .i64 t, .int .i64 hp, .int .i64 r, .int .u16 m, .int .i64 y] 44))
          have o1 := HOz.out.cell 1
          have ht2 := HT2.out _ HNz.out
          go_upto_region 42 with (go_at_call 21; (with_reducible refine ht2.mono ?_); rintro e w9 ⟨rfl, hb9⟩; replace HNz := Lib.hid (HNz.out.below hb9); replace HX := Lib.hid (HX.out.below hb9 HX.out.lt); clear hb9 ht2 o1)
          have HY := Lib.hid ((Holds.new w9 70 #[.int .i64 t, .int .i64 hp, .int .i64 r, .int .u16 m, .int .i64 y]).drewN 1)
          replace HNz := Lib.hid ((HNz.out.alloc (.cells #[.int .i64 t, .int .i64 hp, .int .i64 r, .int .u16 m, .int .i64 y] 70)).drewN 1)
          replace HX := Lib.hid ((HX.out.alloc (.cells #[.int .i64 t, .int .i64 hp, .int .i64 r, .int .u16 m, .int .i64 y] 70)).drewN 1)
          clear HOz HT1 HT2
          refine region_turns (fun (w' : World) => w'.cell? ⟨w8.heap.size, 0, none⟩ = some (.int .i64 t) ∧ w'.cell? ⟨w8.heap.size, 1, none⟩ = some (.int .i64 hp) ∧ w'.cell? ⟨w8.heap.size, 2, none⟩ = some (.int .i64 r) ∧ w'.cell? ⟨w8.heap.size, 3, none⟩ = some (.int .u16 m) ∧ w'.cell? ⟨w8.heap.size, 4, none⟩ = some (.int .i64 y) ∧ w'.cell? ⟨w9.heap.size, 0, none⟩ = some (.int .i64 t) ∧ w'.cell? ⟨w9.heap.size, 1, none⟩ = some (.int .i64 hp) ∧ w'.cell? ⟨w9.heap.size, 2, none⟩ = some (.int .i64 r) ∧ w'.cell? ⟨w9.heap.size, 3, none⟩ = some (.int .u16 m) ∧ w'.cell? ⟨w9.heap.size, 4, none⟩ = some (.int .i64 y) ∧ w'.cell? ⟨wg.heap.size, 7, none⟩ = some (.bool fr)) (fun j => decide (18 ≤ j)) (by kernel_rfl) (⟨HX.out.cell 0, HX.out.cell 1, HX.out.cell 2, HX.out.cell 3, HX.out.cell 4, HY.out.cell 0, HY.out.cell 1, HY.out.cell 2, HY.out.cell 3, HY.out.cell 4, HC7.out _ HNz.out.ds⟩) (fun hS => ?_)
          refine Turns.take hS 0 _ rfl (by kernel_rfl) (by kernel_rfl) (by kernel_rfl) (by kernel_rfl) (fun _ _ _ h => h) (by rfl) (fun w' hS' => by (try dsimp only at hS'); go_split_ands; go_simp; (try with_reducible rfl)) ?_
          simp only [Act.put, List.getElem_toArray, List.getElem_cons_succ, List.getElem_cons_zero, List.setIfInBounds_toArray, List.set_cons_zero, List.set_cons_succ]
          refine Turns.take hS 1 _ rfl (by kernel_rfl) (by kernel_rfl) (by kernel_rfl) (by kernel_rfl) (fun _ _ _ h => h) (by rfl) (fun w' hS' => by (try dsimp only at hS'); go_split_ands; go_simp; (try with_reducible rfl)) ?_
          simp only [Act.put, List.getElem_toArray, List.getElem_cons_succ, List.getElem_cons_zero, List.setIfInBounds_toArray, List.set_cons_zero, List.set_cons_succ]
          refine Turns.next 2 rfl (by kernel_rfl) (by rfl) (fun K hK => ?_)
          go_simp
          go_at_call 22
          refine (lsame_any _ _ _ _ _ _).mono ?_
          rintro e w10 ⟨rfl, hb⟩
          replace HX := Lib.hid (HX.out.below hb HX.out.lt)
          replace HY := Lib.hid (HY.out.below hb HY.out.lt)
          replace HNz := Lib.hid (HNz.out.below hb)
          clear hb
          refine hK.out _ _ (show (fun (w' : World) => w'.cell? ⟨w8.heap.size, 0, none⟩ = some (.int .i64 t) ∧ w'.cell? ⟨w8.heap.size, 1, none⟩ = some (.int .i64 hp) ∧ w'.cell? ⟨w8.heap.size, 2, none⟩ = some (.int .i64 r) ∧ w'.cell? ⟨w8.heap.size, 3, none⟩ = some (.int .u16 m) ∧ w'.cell? ⟨w8.heap.size, 4, none⟩ = some (.int .i64 y) ∧ w'.cell? ⟨w9.heap.size, 0, none⟩ = some (.int .i64 t) ∧ w'.cell? ⟨w9.heap.size, 1, none⟩ = some (.int .i64 hp) ∧ w'.cell? ⟨w9.heap.size, 2, none⟩ = some (.int .i64 r) ∧ w'.cell? ⟨w9.heap.size, 3, none⟩ = some (.int .u16 m) ∧ w'.cell? ⟨w9.heap.size, 4, none⟩ = some (.int .i64 y) ∧ w'.cell? ⟨wg.heap.size, 7, none⟩ = some (.bool fr)) _ from ⟨HX.out.cell 0, HX.out.cell 1, HX.out.cell 2, HX.out.cell 3, HX.out.cell 4, HY.out.cell 0, HY.out.cell 1, HY.out.cell 2, HY.out.cell 3, HY.out.cell 4, HC7.out _ HNz.out.ds⟩) ?_
          clear hK K hS
          have hS := (show (fun (w' : World) => w'.cell? ⟨w8.heap.size, 0, none⟩ = some (.int .i64 t) ∧ w'.cell? ⟨w8.heap.size, 1, none⟩ = some (.int .i64 hp) ∧ w'.cell? ⟨w8.heap.size, 2, none⟩ = some (.int .i64 r) ∧ w'.cell? ⟨w8.heap.size, 3, none⟩ = some (.int .u16 m) ∧ w'.cell? ⟨w8.heap.size, 4, none⟩ = some (.int .i64 y) ∧ w'.cell? ⟨w9.heap.size, 0, none⟩ = some (.int .i64 t) ∧ w'.cell? ⟨w9.heap.size, 1, none⟩ = some (.int .i64 hp) ∧ w'.cell? ⟨w9.heap.size, 2, none⟩ = some (.int .i64 r) ∧ w'.cell? ⟨w9.heap.size, 3, none⟩ = some (.int .u16 m) ∧ w'.cell? ⟨w9.heap.size, 4, none⟩ = some (.int .i64 y) ∧ w'.cell? ⟨wg.heap.size, 7, none⟩ = some (.bool fr)) _ from ⟨HX.out.cell 0, HX.out.cell 1, HX.out.cell 2, HX.out.cell 3, HX.out.cell 4, HY.out.cell 0, HY.out.cell 1, HY.out.cell 2, HY.out.cell 3, HY.out.cell 4, HC7.out _ HNz.out.ds⟩)
          refine Turns.take hS 3 _ rfl (by kernel_rfl) (by kernel_rfl) (by kernel_rfl) (by kernel_rfl) (fun _ _ _ h => h) (by rfl) (fun w' hS' => by (try dsimp only at hS'); go_split_ands; go_simp; (try with_reducible rfl)) ?_
          simp only [Act.put, List.getElem_toArray, List.getElem_cons_succ, List.getElem_cons_zero, List.setIfInBounds_toArray, List.set_cons_zero, List.set_cons_succ]
          refine Turns.take hS 4 _ rfl (by kernel_rfl) (by kernel_rfl) (by kernel_rfl) (by kernel_rfl) (fun _ _ _ h => h) (by rfl) (fun w' hS' => by (try dsimp only at hS'); go_split_ands; go_simp; (try with_reducible rfl)) ?_
          simp only [Act.put, List.getElem_toArray, List.getElem_cons_succ, List.getElem_cons_zero, List.setIfInBounds_toArray, List.set_cons_zero, List.set_cons_succ]
          refine Turns.take hS 5 _ rfl (by kernel_rfl) (by kernel_rfl) (by kernel_rfl) (by kernel_rfl) (fun _ _ _ h => h) (by rfl) (fun w' hS' => by (try dsimp only at hS'); go_split_ands; go_simp; (try with_reducible rfl)) ?_
          simp only [Act.put, List.getElem_toArray, List.getElem_cons_succ, List.getElem_cons_zero, List.setIfInBounds_toArray, List.set_cons_zero, List.set_cons_succ]
          refine Turns.take hS 6 _ rfl (by kernel_rfl) (by kernel_rfl) (by kernel_rfl) (by kernel_rfl) (fun _ _ _ h => h) (by rfl) (fun w' hS' => by (try dsimp only at hS'); go_split_ands; go_simp; (try with_reducible rfl)) ?_
          simp only [Act.put, List.getElem_toArray, List.getElem_cons_succ, List.getElem_cons_zero, List.setIfInBounds_toArray, List.set_cons_zero, List.set_cons_succ]
          refine Turns.take hS 7 _ rfl (by kernel_rfl) (by kernel_rfl) (by kernel_rfl) (by kernel_rfl) (fun _ _ _ h => h) (by rfl) (fun w' hS' => by (try dsimp only at hS'); go_split_ands; go_simp; (try with_reducible rfl)) ?_
          simp only [Act.put, List.getElem_toArray, List.getElem_cons_succ, List.getElem_cons_zero, List.setIfInBounds_toArray, List.set_cons_zero, List.set_cons_succ]
          refine Turns.take hS 8 _ rfl (by kernel_rfl) (by kernel_rfl) (by kernel_rfl) (by kernel_rfl) (fun _ _ _ h => h) (by rfl) (fun w' hS' => by (try dsimp only at hS'); go_split_ands; go_simp; (try with_reducible rfl)) ?_
          simp only [Act.put, List.getElem_toArray, List.getElem_cons_succ, List.getElem_cons_zero, List.setIfInBounds_toArray, List.set_cons_zero, List.set_cons_succ]
          refine Turns.take hS 9 _ rfl (by kernel_rfl) (by kernel_rfl) (by kernel_rfl) (by kernel_rfl) (fun _ _ _ h => h) (by rfl) (fun w' hS' => by (try dsimp only at hS'); go_split_ands; go_simp; (try with_reducible rfl)) ?_
          simp only [Act.put, List.getElem_toArray, List.getElem_cons_succ, List.getElem_cons_zero, List.setIfInBounds_toArray, List.set_cons_zero, List.set_cons_succ]
          refine Turns.take hS 10 _ rfl (by kernel_rfl) (by kernel_rfl) (by kernel_rfl) (by kernel_rfl) (fun _ _ _ h => h) (by rfl) (fun w' hS' => by (try dsimp only at hS'); go_split_ands; go_simp; (try with_reducible rfl)) ?_
          simp only [Act.put, List.getElem_toArray, List.getElem_cons_succ, List.getElem_cons_zero, List.setIfInBounds_toArray, List.set_cons_zero, List.set_cons_succ]
          refine Turns.take hS 12 _ rfl (by kernel_rfl) (by kernel_rfl) (by kernel_rfl) (by kernel_rfl) (fun _ _ _ h => h) (by rfl) (fun w' hS' => by (try dsimp only at hS'); go_split_ands; go_simp; (try with_reducible rfl)) ?_
          simp only [Act.put, List.getElem_toArray, List.getElem_cons_succ, List.getElem_cons_zero, List.setIfInBounds_toArray, List.set_cons_zero, List.set_cons_succ]
          refine Turns.take hS 13 _ rfl (by kernel_rfl) (by kernel_rfl) (by kernel_rfl) (by kernel_rfl) (fun _ _ _ h => h) (by rfl) (fun w' hS' => by (try dsimp only at hS'); go_split_ands; go_simp; (try with_reducible rfl)) ?_
          simp only [Act.put, List.getElem_toArray, List.getElem_cons_succ, List.getElem_cons_zero, List.setIfInBounds_toArray, List.set_cons_zero, List.set_cons_succ]
          refine Turns.take hS 14 _ rfl (by kernel_rfl) (by kernel_rfl) (by kernel_rfl) (by kernel_rfl) (fun _ _ _ h => h) (by rfl) (fun w' hS' => by (try dsimp only at hS'); go_split_ands; go_simp; (try with_reducible rfl)) ?_
          simp only [Act.put, List.getElem_toArray, List.getElem_cons_succ, List.getElem_cons_zero, List.setIfInBounds_toArray, List.set_cons_zero, List.set_cons_succ]
          refine Turns.take hS 15 _ rfl (by kernel_rfl) (by kernel_rfl) (by kernel_rfl) (by kernel_rfl) (fun _ _ _ h => h) (by rfl) (fun w' hS' => by (try dsimp only at hS'); go_split_ands; go_simp; (try with_reducible rfl)) ?_
          simp only [Act.put, List.getElem_toArray, List.getElem_cons_succ, List.getElem_cons_zero, List.setIfInBounds_toArray, List.set_cons_zero, List.set_cons_succ]
          refine Turns.next 11 rfl (by kernel_rfl) (by rfl) (fun K hK => ?_)
          go_simp
          go_at_call 12
          refine (HFr.out _ HNz.out).mono ?_
          rintro e wx ⟨rfl, hwx⟩
          subst wx
          refine hK.out _ _ (show (fun (w' : World) => w'.cell? ⟨w8.heap.size, 0, none⟩ = some (.int .i64 t) ∧ w'.cell? ⟨w8.heap.size, 1, none⟩ = some (.int .i64 hp) ∧ w'.cell? ⟨w8.heap.size, 2, none⟩ = some (.int .i64 r) ∧ w'.cell? ⟨w8.heap.size, 3, none⟩ = some (.int .u16 m) ∧ w'.cell? ⟨w8.heap.size, 4, none⟩ = some (.int .i64 y) ∧ w'.cell? ⟨w9.heap.size, 0, none⟩ = some (.int .i64 t) ∧ w'.cell? ⟨w9.heap.size, 1, none⟩ = some (.int .i64 hp) ∧ w'.cell? ⟨w9.heap.size, 2, none⟩ = some (.int .i64 r) ∧ w'.cell? ⟨w9.heap.size, 3, none⟩ = some (.int .u16 m) ∧ w'.cell? ⟨w9.heap.size, 4, none⟩ = some (.int .i64 y) ∧ w'.cell? ⟨wg.heap.size, 7, none⟩ = some (.bool fr)) _ from ⟨HX.out.cell 0, HX.out.cell 1, HX.out.cell 2, HX.out.cell 3, HX.out.cell 4, HY.out.cell 0, HY.out.cell 1, HY.out.cell 2, HY.out.cell 3, HY.out.cell 4, HC7.out _ HNz.out.ds⟩) ?_
          clear hK K hS
          have hS := (show (fun (w' : World) => w'.cell? ⟨w8.heap.size, 0, none⟩ = some (.int .i64 t) ∧ w'.cell? ⟨w8.heap.size, 1, none⟩ = some (.int .i64 hp) ∧ w'.cell? ⟨w8.heap.size, 2, none⟩ = some (.int .i64 r) ∧ w'.cell? ⟨w8.heap.size, 3, none⟩ = some (.int .u16 m) ∧ w'.cell? ⟨w8.heap.size, 4, none⟩ = some (.int .i64 y) ∧ w'.cell? ⟨w9.heap.size, 0, none⟩ = some (.int .i64 t) ∧ w'.cell? ⟨w9.heap.size, 1, none⟩ = some (.int .i64 hp) ∧ w'.cell? ⟨w9.heap.size, 2, none⟩ = some (.int .i64 r) ∧ w'.cell? ⟨w9.heap.size, 3, none⟩ = some (.int .u16 m) ∧ w'.cell? ⟨w9.heap.size, 4, none⟩ = some (.int .i64 y) ∧ w'.cell? ⟨wg.heap.size, 7, none⟩ = some (.bool fr)) _ from ⟨HX.out.cell 0, HX.out.cell 1, HX.out.cell 2, HX.out.cell 3, HX.out.cell 4, HY.out.cell 0, HY.out.cell 1, HY.out.cell 2, HY.out.cell 3, HY.out.cell 4, HC7.out _ HNz.out.ds⟩)
          refine Turns.take hS 16 _ rfl (by kernel_rfl) (by kernel_rfl) (by kernel_rfl) (by kernel_rfl) (fun _ _ _ h => h) (by rfl) (fun w' hS' => by (try dsimp only at hS'); go_split_ands; go_simp; (try with_reducible rfl)) ?_
          simp only [Act.put, List.getElem_toArray, List.getElem_cons_succ, List.getElem_cons_zero, List.setIfInBounds_toArray, List.set_cons_zero, List.set_cons_succ]
          refine Turns.take hS 17 _ rfl (by kernel_rfl) (by kernel_rfl) (by kernel_rfl) (by kernel_rfl) (fun _ _ _ h => h) (by rfl) (fun w' hS' => by (try dsimp only at hS'); go_split_ands; go_simp; (try with_reducible rfl)) ?_
          simp only [Act.put, List.getElem_toArray, List.getElem_cons_succ, List.getElem_cons_zero, List.setIfInBounds_toArray, List.set_cons_zero, List.set_cons_succ]
          refine Turns.rest (late_done (by kernel_rfl)) ?_
          refine any_tail 18 (by rfl) (by kernel_rfl) ?_
          simp only [List.drop_succ_cons, List.drop_zero]
          clear hS
          go_wp2
          go_roundw
          case rel => exact ⟨k + 1, bz, nz, F, Z, Az, cz, by omega, by go_num, hnz, HNz.out⟩
          case measure => simp [intOf]; omega
      · obtain rfl : k = n3 := by omega
        go_wp2
        go_ret
        exact ⟨rfl, HN.out.ls.law⟩

set_option maxRecDepth 100000 in
theorem lifted (os : Os) (started : os.Started) (H : Type) (enc : TypeId × Value → H) :
    ReturnsInHanded {} Tryz.checked os 3 .any (Rows.sourceDoesSpec.pre6 enc Tryz.prog Tryz.f3 Rows.sourceDoesRow.domain false) (Rows.sourceDoesSpec.post enc Tryz.prog Tryz.f3 false true false false) := by
  refine returnsInHanded_of_change (C := Tryz.checked) own started (by kernel_rfl) Tryz.func3
    (ChangeSpec.witness6 (enc := enc) (C := Tryz.checked) false ⟨#[], #[.int .i64 0, .agg #[.int .i64 0, .int .i64 0, .int .i64 0, .int .i64 0], .int .i64 0, .slice none 0 0], []⟩ 8 (by kernel_rfl) (by kernel_rfl) (by kernel_rfl) (by kernel_rfl)) ?_
  intro W base args ds gs before hval0 hW hcnd _
  have hval : ∀ (j : Nat) t v, Tryz.f3.params[j]? = some t → args[j]? = some v → Value.okWide Tryz.prog W .any base t v := hval0
  have hW' := hW
  obtain ⟨p, q, hA0, hV, rfl, hfz, hnd⟩ := hW
  have hA : DataW.TrodAll enc Tryz.prog W 0 (fun _ => true) true Tryz.f3.params.toList args.toList ds p := hA0
  have hAk := hA
  rw [Tryz.params3] at hA hval
  obtain ⟨v0, vs0, d0, ds0, p0, q0, hargs, rfl, hp, h0, r0⟩ := trodAll_cons hA
  obtain ⟨v1, vs1, d1, ds1, p1, q1, rfl, rfl, rfl, h1, r1⟩ := trodAll_cons r0
  obtain ⟨v2, vs2, d2, ds2, p2, q2, rfl, rfl, rfl, h2, r2⟩ := trodAll_cons r1
  obtain ⟨v3, vs3, d3, ds3, p3, q3, rfl, rfl, rfl, h3, r3⟩ := trodAll_cons r2
  obtain ⟨rfl, rfl, rfl⟩ := trodAll_nil r3
  obtain rfl : args = #[v0, v1, v2, v3] := by cases args; simp_all
  obtain ⟨rfl, rfl⟩ := trodVars_none hV
  clear hA0 hval0 hargs
  simp only [List.append_nil] at hW'
  have hend : ∀ W' : World, Below W.heap.size W W' → Rows.sourceDoesSpec.post enc Tryz.prog Tryz.f3 false true false false W #[v0, v1, v2, v3] (.bool true) W' := fun W' hb =>
    law_post (tb := 4) hW' hAk rfl (by kernel_rfl) (by kernel_rfl) (by kernel_rfl) Tryz.underlying4 rfl rfl rfl hb
  clear hW' hAk hp
  obtain ⟨a0, rfl, rfl, rfl, w0⟩ := open_int Tryz.underlying3 (hval 0 3 v0 rfl rfl) h0
  obtain ⟨ns1, rfl, hl1, hw1⟩ := ints_struct (ks := [.i64, .i64, .i64, .i64]) Tryz.underlying23 (by kernel_rfl) (by kernel_rfl) (by kernel_rfl) (hval 1 23 v1 rfl rfl) h1
  obtain ⟨s1_0, s1_1, s1_2, s1_3, rfl⟩ := split4 hl1
  clear hl1
  obtain ⟨a2, rfl, rfl, rfl, w2⟩ := open_int Tryz.underlying3 (hval 2 3 v2 rfl rfl) h2
  obtain ⟨A3, n3, c3, f3, rfl, w3⟩ := flats_arg (ks := [.int .i64, .int .i64, .int .i64, .int .i64, .int .i64, .int .i64, .int .u16, .int .u16, .int .i64, .int .i64, .int .i64, .int .i64, .int .i64, .int .i64, .int .i64, .int .i64, .int .i64, .int .i64, .int .i64]) 9 Tryz.underlying24 (by kernel_rfl) (by kernel_rfl) (by decide) (hval 3 24 v3 rfl rfl) h3
  refine (walk a0 s1_0 s1_1 s1_2 s1_3 a2 A3 n3 c3 f3 W w0 (hw1 0 _ _ rfl rfl) (hw1 1 _ _ rfl rfl) (hw1 2 _ _ rfl rfl) (hw1 3 _ _ rfl rfl) w2 w3).mono fun e W' ⟨he, hg⟩ => ?_
  subst he
  exact ⟨_, rfl, hend W' hg⟩

theorem over : Rows.sourceDoesRow.holds Tryz.pinned (OpenSpec.ofChange Rows.sourceDoesSpec) :=
  OpenClaim.holds_of_wide 3 Tryz.f3 rfl rfl rfl rfl rfl rfl rfl ⟨rfl, rfl, rfl, rfl, rfl⟩ rfl rfl rfl rfl rfl (by kernel_rfl) Tryz.func3 (by kernel_rfl)
    (of_decide_eq_true (by kernel_rfl)) (by unfold Func.isWrapper; first | (rw [if_pos (by decide +kernel)]; kernel_rfl) | (rw [if_neg (by decide +kernel)]; exact ⟨rfl, rfl⟩))
    (fun os started H enc _ => lifted os started H enc)

/-- THE STATEMENT -/
theorem proved : Rows.SourceDoesSaid :=
  over
#print axioms proved
end Go.Proofs.YtgmeakcfiaopcaaGreat.sourceDoes
