/-
  As long as the flood is synced, what was asked plays no part: for all numbers, rules, limits and scripts of up to 200 calls the law answers true; without conditions.
  The walk is the prover's own; the frame of the row's step follows the kit's template.
-/
import Derived.Test.YtgmeakcfiaopcaaRows
import Derived.Test.YtgmeakcfiaopcaaGrpSc1
import Derived.Test.YtgmeakcfiaopcaaGrpSourcePrefers5
import Derived.Test.YtgmeakcfiaopcaaGrpSc4
import Derived.LoopTactic
import Derived.Deep.QuietTactic
import Derived.BigQuiet
import Derived.Deep.CutBlock
import Derived.Deep.CutRange
import Derived.Laws.StructEq
namespace Go.Proofs.Ytgmeakcfiaopcaa.sourcePrefers
open Go.ChangeShapes Go.WideShapes Go.ChangeAt Go.RowKit Go.ChangeMaps Go.WideElems
set_option linter.unusedVariables false

theorem split4 {ns : List Int} (h : ns.length = 4) : ∃ s1_0 s1_1 s1_2 s1_3 : Int, ns = [s1_0, s1_1, s1_2, s1_3] := by
  match ns, h with
  | [y0, y1, y2, y3], _ => exact ⟨_, _, _, _, rfl⟩
theorem cells3 {W : World} {vs : List Value} (h : Fit W [.int .i64, .int .i64, .int .i64, .int .i64, .int .i64, .int .i64, .int .u16, .int .u16, .int .i64, .int .i64, .int .i64, .int .i64, .int .i64, .int .i64, .int .i64, .int .i64, .int .i64, .int .i64, .int .i64] vs) : ∃ (s0 : Int) (s1 : Int) (s2 : Int) (s3 : Int) (s4 : Int) (s5 : Int) (s6 : Int) (s7 : Int) (s8 : Int) (s9 : Int) (s10 : Int) (s11 : Int) (s12 : Int) (s13 : Int) (s14 : Int) (s15 : Int) (s16 : Int) (s17 : Int) (s18 : Int), vs = [.int .i64 s0, .int .i64 s1, .int .i64 s2, .int .i64 s3, .int .i64 s4, .int .i64 s5, .int .u16 s6, .int .u16 s7, .int .i64 s8, .int .i64 s9, .int .i64 s10, .int .i64 s11, .int .i64 s12, .int .i64 s13, .int .i64 s14, .int .i64 s15, .int .i64 s16, .int .i64 s17, .int .i64 s18] ∧ (Lit.int .i64 s0).wf = true ∧ (Lit.int .i64 s1).wf = true ∧ (Lit.int .i64 s2).wf = true ∧ (Lit.int .i64 s3).wf = true ∧ (Lit.int .i64 s4).wf = true ∧ (Lit.int .i64 s5).wf = true ∧ (Lit.int .u16 s6).wf = true ∧ (Lit.int .u16 s7).wf = true ∧ (Lit.int .i64 s8).wf = true ∧ (Lit.int .i64 s9).wf = true ∧ (Lit.int .i64 s10).wf = true ∧ (Lit.int .i64 s11).wf = true ∧ (Lit.int .i64 s12).wf = true ∧ (Lit.int .i64 s13).wf = true ∧ (Lit.int .i64 s14).wf = true ∧ (Lit.int .i64 s15).wf = true ∧ (Lit.int .i64 s16).wf = true ∧ (Lit.int .i64 s17).wf = true ∧ (Lit.int .i64 s18).wf = true := by
  match vs, h.length, h with
  | [y0, y1, y2, y3, y4, y5, y6, y7, y8, y9, y10, y11, y12, y13, y14, y15, y16, y17, y18], _, h =>
    obtain ⟨⟨x0, rfl, h0⟩, ⟨x1, rfl, h1⟩, ⟨x2, rfl, h2⟩, ⟨x3, rfl, h3⟩, ⟨x4, rfl, h4⟩, ⟨x5, rfl, h5⟩, ⟨x6, rfl, h6⟩, ⟨x7, rfl, h7⟩, ⟨x8, rfl, h8⟩, ⟨x9, rfl, h9⟩, ⟨x10, rfl, h10⟩, ⟨x11, rfl, h11⟩, ⟨x12, rfl, h12⟩, ⟨x13, rfl, h13⟩, ⟨x14, rfl, h14⟩, ⟨x15, rfl, h15⟩, ⟨x16, rfl, h16⟩, ⟨x17, rfl, h17⟩, ⟨x18, rfl, h18⟩, _⟩ := h
    exact ⟨x0, x1, x2, x3, x4, x5, x6, x7, x8, x9, x10, x11, x12, x13, x14, x15, x16, x17, x18, rfl, h0, h1, h2, h3, h4, h5, h6, h7, h8, h9, h10, h11, h12, h13, h14, h15, h16, h17, h18⟩
theorem own : ownKnob Try.prog.godebug = none := by kernel_rfl
set_option linter.unusedSimpArgs false in
set_option maxHeartbeats 16000000 in
set_option maxRecDepth 100000 in
theorem walk (a0 : Int) (s1_0 s1_1 s1_2 s1_3 : Int) (a2 : Int) (A3 : Option Addr) (n3 c3 : Nat) (f3 : Nat → List Value) (w : World) (w0 : (Lit.int .i64 a0).wf = true) (w1_0 : (Lit.int .i64 s1_0).wf = true) (w1_1 : (Lit.int .i64 s1_1).wf = true) (w1_2 : (Lit.int .i64 s1_2).wf = true) (w1_3 : (Lit.int .i64 s1_3).wf = true) (w2 : (Lit.int .i64 a2).wf = true) (w3 : FlatRow w [.int .i64, .int .i64, .int .i64, .int .i64, .int .i64, .int .i64, .int .u16, .int .u16, .int .i64, .int .i64, .int .i64, .int .i64, .int .i64, .int .i64, .int .i64, .int .i64, .int .i64, .int .i64, .int .i64] A3 n3 c3 f3) :
    Calls Try.prog 3 #[.int .i64 a0, .agg #[.int .i64 s1_0, .int .i64 s1_1, .int .i64 s1_2, .int .i64 s1_3], .int .i64 a2, .slice A3 n3 c3] w fun e w' => e = .returned (.bool true) ∧ Below w.heap.size w w' := by
  have HB := Lib.hid (Box.start w 23 #[.int .i64 s1_0, .int .i64 s1_1, .int .i64 s1_2, .int .i64 s1_3])
  by_cases h200 : 200 < n3
  · have d3 : decide ((200 : Int) < (n3 : Int)) = true := decide_eq_true (by omega)
    go_enter Try.func3, Try.ntmps3
    go_wp2_with (go_at_call 6; refine (alive_yes _).mono ?_; rintro e wa ⟨rfl, hb⟩; replace HB := Lib.hid (HB.out.next hb); clear hb)
    go_ret
    exact ⟨rfl, HB.out.below⟩
  have d3 : decide ((200 : Int) < (n3 : Int)) = false := decide_eq_false (by omega)
  have hcap := w3.cap_le
  have hmx := w3.max
  unfold maxLen at hmx
  have R := Lib.hid w3
  clear w3 w0 w2 w1_0 w1_1 w1_2 w1_3
  by_cases hlim : a2 < 1 ∨ 1000 < a2
  · cases hgd : fgoodB a0 s1_0 s1_1 s1_2 s1_3 with
    | false =>
      as_aux_lemma =>
        go_enter Try.func3, Try.ntmps3
        go_wp2_with (first
          | (go_at_call 6; refine (alive_yes _).mono ?_; rintro e wa ⟨rfl, hb⟩; replace HB := Lib.hid (HB.out.next hb); have x0 := HB.out.holds.cell 0; have x1 := HB.out.holds.cell 1; have x2 := HB.out.holds.cell 2; have x3 := HB.out.holds.cell 3; clear hb)
          | (go_at_call 9; refine (lrules_any _ _ _ _ _).mono ?_; rintro e wb ⟨rfl, hb⟩; replace HB := Lib.hid (HB.out.next hb); clear hb)
          | (go_at_call 8; (refine (fnew_no _ a0 s1_0 s1_1 s1_2 s1_3 hgd).mono ?_; rintro e wc ⟨rfl, hb⟩; replace HB := Lib.hid (HB.out.next hb); clear hb))
          | (go_at_call 7; (refine (snew_no _ a2 hlim).mono ?_; rintro e wd ⟨rfl, hwd⟩; subst hwd)))
        go_ret
        exact ⟨rfl, HB.out.below⟩
    | true =>
      as_aux_lemma =>
        go_enter Try.func3, Try.ntmps3
        go_wp2_with (first
          | (go_at_call 6; refine (alive_yes _).mono ?_; rintro e wa ⟨rfl, hb⟩; replace HB := Lib.hid (HB.out.next hb); have x0 := HB.out.holds.cell 0; have x1 := HB.out.holds.cell 1; have x2 := HB.out.holds.cell 2; have x3 := HB.out.holds.cell 3; clear hb)
          | (go_at_call 9; refine (lrules_any _ _ _ _ _).mono ?_; rintro e wb ⟨rfl, hb⟩; replace HB := Lib.hid (HB.out.next hb); clear hb)
          | (go_at_call 8; (refine (fnew_yes _ a0 s1_0 s1_1 s1_2 s1_3 hgd).mono ?_; rintro e wc ⟨gf, g, b, rfl, hF, hb⟩; replace HB := Lib.hid (HB.out.next hb); clear hF hb))
          | (go_at_call 7; (refine (snew_no _ a2 hlim).mono ?_; rintro e wd ⟨rfl, hwd⟩; subst hwd)))
        go_ret
        exact ⟨rfl, HB.out.below⟩
  replace hlim : 1 ≤ a2 ∧ a2 ≤ 1000 := by omega
  cases hgd : fgoodB a0 s1_0 s1_1 s1_2 s1_3 with
  | false =>
    as_aux_lemma =>
      go_enter Try.func3, Try.ntmps3
      go_wp2_with (first
        | (go_at_call 6; refine (alive_yes _).mono ?_; rintro e wa ⟨rfl, hb⟩; replace HB := Lib.hid (HB.out.next hb); have x0 := HB.out.holds.cell 0; have x1 := HB.out.holds.cell 1; have x2 := HB.out.holds.cell 2; have x3 := HB.out.holds.cell 3; clear hb)
        | (go_at_call 9; refine (lrules_any _ _ _ _ _).mono ?_; rintro e wb ⟨rfl, hb⟩; replace HB := Lib.hid (HB.out.next hb); clear hb)
        | (go_at_call 8; (refine (fnew_no _ a0 s1_0 s1_1 s1_2 s1_3 hgd).mono ?_; rintro e wc ⟨rfl, hb⟩; replace HB := Lib.hid (HB.out.next hb); clear hb))
        | (go_at_call 7; (refine (snew_yes _ a2 hlim).mono ?_; rintro e wd ⟨rfl, hS, hb⟩; replace HB := Lib.hid (HB.out.next hb); clear hS hb; skip); clear x0 x1 x2 x3; have x0 := HB.out.holds.cell 0; have x1 := HB.out.holds.cell 1; have x2 := HB.out.holds.cell 2; have x3 := HB.out.holds.cell 3; skip))
      go_ret
      exact ⟨rfl, HB.out.below⟩
  | true =>
    have HI := Lib.hid (FInv.new hgd (x := 0) ⟨by decide, by decide⟩)
    have HA := Lib.hid (AInv.new hlim)
    have hnew := fun W => fnew_yes W a0 s1_0 s1_1 s1_2 s1_3 hgd
    clear hgd
    go_enter Try.func3, Try.ntmps3
    go_upto_region 6 with (first
      | (go_at_call 6; refine (alive_yes _).mono ?_; rintro e wa ⟨rfl, hb⟩; replace HB := Lib.hid (HB.out.next hb); clear hb)
      | (go_at_call 7; refine (snew_yes _ a2 hlim).mono ?_; rintro e wb ⟨rfl, hS, hb⟩; have hg1 := HB.out.lt; have HS := Lib.hid hS; replace HB := Lib.hid (HB.out.next hb); clear hS hb))
    go_upto_region 7 with (go_at_call 7; refine (snew_yes _ a2 hlim).mono ?_; rintro e wc ⟨rfl, hS, hb⟩; have hg2 : w.heap.size < wb.heap.size ∧ wa.heap.size < wb.heap.size := ⟨HB.out.lt, Holds.lt HS.out⟩; have HT := Lib.hid hS; replace HS := Lib.hid (HS.out.below hb (Holds.lt HS.out)); replace HB := Lib.hid (HB.out.next hb); clear hS hb; have x0 := HB.out.holds.cell 0; have x1 := HB.out.holds.cell 1; have x2 := HB.out.holds.cell 2; have x3 := HB.out.holds.cell 3; skip)
    have HG : Hid (w.heap.size < wa.heap.size ∧ wa.heap.size < wb.heap.size) := Lib.hid ⟨hg1, hg2.2⟩
    clear hg1 hg2
    go_wp2_with (first
      | (go_at_call 9; refine (lrules_any _ _ _ _ _).mono ?_; rintro e wd ⟨rfl, hb⟩; replace HB := Lib.hid (HB.out.next hb); replace HS := Lib.hid (HS.out.below hb (Holds.lt HS.out)); replace HT := Lib.hid (HT.out.below hb (Holds.lt HT.out)); clear hb x0 x1 x2 x3)
      | (go_at_call 8; refine (hnew _).mono ?_; rintro e we ⟨gf, g, b, rfl, hF, hb⟩; have HL0 : Hid (Ls w we gf g b 0 (newF a0 s1_0 s1_1 s1_2 s1_3 0) wa.heap.size (newA a2)) := Lib.hid ⟨(HB.out.next hb).below, hF.at (Nat.le_of_lt HB.out.lt), HI.out, HS.out.below hb (Holds.lt HS.out), Nat.le_of_lt HG.out.1, HA.out⟩; have HT0 := Lib.hid (HT.out.below hb (Holds.lt HT.out)); clear hF hb hnew))
    clear HB HS HT HI HA
    go_loopw [52] (fun i wr => ∃ (k b n : Nat) (f : FS) (a : AS), k ≤ n3 ∧ i = .int .i64 k ∧ n ≤ k ∧ Ls w wr gf g b n f wa.heap.size a ∧ Sq wr wb.heap.size (newA a2)) (fun i _ => n3 - (intOf i).toNat)
    case atStart => exact ⟨0, b, 0, _, _, by omega, rfl, by omega, HL0.out, HT0.out⟩
    case round =>
      obtain ⟨k, b, n, f, a, hk, rfl, hn, hL, hT⟩ := hrel
      have HL := Lib.hid hL
      have HTr := Lib.hid hT
      clear hL hT HL0 HT0
      by_cases hlt : k < n3
      · skip
        obtain ⟨ca, off, rfl, hb', hc⟩ := (R.out.below HL.out.law).at 19 rfl hlt
        obtain ⟨s0, s1, s2, s3, s4, s5, s6, s7, s8, s9, s10, s11, s12, s13, s14, s15, s16, s17, s18, hf, hw0, hw1, hw2, hw3, hw4, hw5, hw6, hw7, hw8, hw9, hw10, hw11, hw12, hw13, hw14, hw15, hw16, hw17, hw18⟩ := cells3 (R.out.fit k hlt)
        rw [hf] at hc
        have f6 := f16_wf hw6
        have f7 := f16_wf hw7
        have f5 := fits_wf hw5
        have fl := fits_wf hw1
        have ew := IntWalk.i64_in ((k : Int) + 1) (by omega)
        have hsp : splice ([.int .i64 0, .int .i64 0, .int .i64 0, .int .i64 0, .int .i64 0, .int .i64 0, .int .u16 0, .int .u16 0, .int .i64 0, .int .i64 0, .int .i64 0, .int .i64 0, .int .i64 0, .int .i64 0, .int .i64 0, .int .i64 0, .int .i64 0, .int .i64 0, .int .i64 0] : List Value) 0 ([.int .i64 s0, .int .i64 s1, .int .i64 s2, .int .i64 s3, .int .i64 s4, .int .i64 s5, .int .u16 s6, .int .u16 s7, .int .i64 s8, .int .i64 s9, .int .i64 s10, .int .i64 s11, .int .i64 s12, .int .i64 s13, .int .i64 s14, .int .i64 s15, .int .i64 s16, .int .i64 s17, .int .i64 s18] : List Value) = [.int .i64 s0, .int .i64 s1, .int .i64 s2, .int .i64 s3, .int .i64 s4, .int .i64 s5, .int .u16 s6, .int .u16 s7, .int .i64 s8, .int .i64 s9, .int .i64 s10, .int .i64 s11, .int .i64 s12, .int .i64 s13, .int .i64 s14, .int .i64 s15, .int .i64 s16, .int .i64 s17, .int .i64 s18] := splice_all _ _ rfl
        clear hf hw0 hw1 hw2 hw3 hw4 hw5 hw6 hw7 hw8 hw9 hw10 hw11 hw12 hw13 hw14 hw15 hw16 hw17 hw18
        have one19 : ∀ v ∈ ([.int .i64 s0, .int .i64 s1, .int .i64 s2, .int .i64 s3, .int .i64 s4, .int .i64 s5, .int .u16 s6, .int .u16 s7, .int .i64 s8, .int .i64 s9, .int .i64 s10, .int .i64 s11, .int .i64 s12, .int .i64 s13, .int .i64 s14, .int .i64 s15, .int .i64 s16, .int .i64 s17, .int .i64 s18] : List Value), v.oneCell' = true := by
          intro v hv
          simp only [List.mem_cons, List.not_mem_nil, or_false] at hv
          rcases hv with rfl | rfl | rfl | rfl | rfl | rfl | rfl | rfl | rfl | rfl | rfl | rfl | rfl | rfl | rfl | rfl | rfl | rfl | rfl <;> rfl
        have hkind : (s0 = 0 ∨ s0 = 1) ∨ s0 = 2 ∨ s0 = 3 ∨ ((s0 == 0) = false ∧ (s0 == 1) = false ∧ (s0 == 2) = false ∧ (s0 == 3) = false) := by
          by_cases k0 : s0 = 0 <;> by_cases k1 : s0 = 1 <;> by_cases k2 : s0 = 2 <;> by_cases k3 : s0 = 3 <;> simp_all
        go_upto_block 2 with (first | (refine wpList_load_cells rfl 44 (.tmp 54) rfl ca (off + k * 19) rfl [.int .i64 s0, .int .i64 s1, .int .i64 s2, .int .i64 s3, .int .i64 s4, .int .i64 s5, .int .u16 s6, .int .u16 s7, .int .i64 s8, .int .i64 s9, .int .i64 s10, .int .i64 s11, .int .i64 s12, .int .i64 s13, .int .i64 s14, .int .i64 s15, .int .i64 s16, .int .i64 s17, .int .i64 s18] _ hc Try.underlying44 rfl (by kernel_rfl) ?_) | (refine wpList_store_at rfl 44 (.tmp 16) (.tmp 55) rfl wr.heap.size 0 [.int .i64 s0, .int .i64 s1, .int .i64 s2, .int .i64 s3, .int .i64 s4, .int .i64 s5, .int .u16 s6, .int .u16 s7, .int .i64 s8, .int .i64 s9, .int .i64 s10, .int .i64 s11, .int .i64 s12, .int .i64 s13, .int .i64 s14, .int .i64 s15, .int .i64 s16, .int .i64 s17, .int .i64 s18] rfl rfl 44 [.int .i64 0, .int .i64 0, .int .i64 0, .int .i64 0, .int .i64 0, .int .i64 0, .int .u16 0, .int .u16 0, .int .i64 0, .int .i64 0, .int .i64 0, .int .i64 0, .int .i64 0, .int .i64 0, .int .i64 0, .int .i64 0, .int .i64 0, .int .i64 0, .int .i64 0] (Holds.new _ _ _) (by kernel_rfl) (Nat.le_refl 19) one19 ?_; rw [hsp]; obtain ⟨hbe, hoe⟩ := elem_new wr 44 [.int .i64 0, .int .i64 0, .int .i64 0, .int .i64 0, .int .i64 0, .int .i64 0, .int .u16 0, .int .u16 0, .int .i64 0, .int .i64 0, .int .i64 0, .int .i64 0, .int .i64 0, .int .i64 0, .int .i64 0, .int .i64 0, .int .i64 0, .int .i64 0, .int .i64 0] [.int .i64 s0, .int .i64 s1, .int .i64 s2, .int .i64 s3, .int .i64 s4, .int .i64 s5, .int .u16 s6, .int .u16 s7, .int .i64 s8, .int .i64 s9, .int .i64 s10, .int .i64 s11, .int .i64 s12, .int .i64 s13, .int .i64 s14, .int .i64 s15, .int .i64 s16, .int .i64 s17, .int .i64 s18]; generalize World.setRow (World.alloc wr (.cells [.int .i64 0, .int .i64 0, .int .i64 0, .int .i64 0, .int .i64 0, .int .i64 0, .int .u16 0, .int .u16 0, .int .i64 0, .int .i64 0, .int .i64 0, .int .i64 0, .int .i64 0, .int .i64 0, .int .i64 0, .int .i64 0, .int .i64 0, .int .i64 0, .int .i64 0].toArray 44)) wr.heap.size [.int .i64 s0, .int .i64 s1, .int .i64 s2, .int .i64 s3, .int .i64 s4, .int .i64 s5, .int .u16 s6, .int .u16 s7, .int .i64 s8, .int .i64 s9, .int .i64 s10, .int .i64 s11, .int .i64 s12, .int .i64 s13, .int .i64 s14, .int .i64 s15, .int .i64 s16, .int .i64 s17, .int .i64 s18].toArray = W1 at hbe hoe ⊢; have HL1 := Lib.hid (HL.out.below hbe); have HO := Lib.hid hoe; have HT1 := Lib.hid (Sq.below HTr.out hbe (Holds.lt HTr.out)); have o0 := HO.out.cell 0; clear hbe hoe hc hsp one19))

        go_cut [17, 52] from 52 to 178 (fun _ i wx => ∃ (bz nz : Nat) (F : FS) (A : AS), i = .int .i64 k ∧ nz ≤ k + 1 ∧ Ls w wx gf g bz nz F wa.heap.size A ∧ Sq wx wb.heap.size (newA a2) ∧ Holds wx wr.heap.size 44 #[.int .i64 s0, .int .i64 s1, .int .i64 s2, .int .i64 s3, .int .i64 s4, .int .i64 s5, .int .u16 s6, .int .u16 s7, .int .i64 s8, .int .i64 s9, .int .i64 s10, .int .i64 s11, .int .i64 s12, .int .i64 s13, .int .i64 s14, .int .i64 s15, .int .i64 s16, .int .i64 s17, .int .i64 s18])
        case first =>
          rcases hkind with hkind | rfl | rfl | ⟨k0, k1, k2, k3⟩
          · focus
              have hhr0 := fun W (h : Ls w W gf g b n f wa.heap.size a) => fhear_any W _ gf g b n f h.fo h.inv (by omega) s3 s5 s6 s7 s8 s9 s1 f5 f6 f7
              unfold FHeard at hhr0
              have hIF := HL.out.inv.hear s5 s6 s7 s9 s8 s1 f6 f7
              obtain ⟨F, hF⟩ : ∃ F, hearFS f s5 s6 s7 s9 s8 s1 = F := ⟨_, rfl⟩
              obtain ⟨V, hV⟩ : ∃ V, hearFV f s5 s6 s7 s9 s8 s1 = V := ⟨_, rfl⟩
              rw [hF] at hIF
              simp only [hF, hV] at hhr0
              have HHr := Lib.hid hhr0
              have HIF := Lib.hid hIF
              clear hF hV hhr0 hIF
              have hpart : ∀ j v, ([.int .i64 s2, .int .i64 s3, .int .i64 s4, .int .i64 s5, .int .u16 s6, .int .u16 s7, .int .i64 s8, .int .i64 s9, .int .i64 s10, .int .i64 s11, .int .i64 s12, .int .i64 s13, .int .i64 s14, .int .i64 s15] : List Value)[j]? = some v → (#[.int .i64 s0, .int .i64 s1, .int .i64 s2, .int .i64 s3, .int .i64 s4, .int .i64 s5, .int .u16 s6, .int .u16 s7, .int .i64 s8, .int .i64 s9, .int .i64 s10, .int .i64 s11, .int .i64 s12, .int .i64 s13, .int .i64 s14, .int .i64 s15, .int .i64 s16, .int .i64 s17, .int .i64 s18] : Array Value)[2 + j]? = some v := fun j v h => part_get [.int .i64 s0, .int .i64 s1] [.int .i64 s2, .int .i64 s3, .int .i64 s4, .int .i64 s5, .int .u16 s6, .int .u16 s7, .int .i64 s8, .int .i64 s9, .int .i64 s10, .int .i64 s11, .int .i64 s12, .int .i64 s13, .int .i64 s14, .int .i64 s15] [.int .i64 s16, .int .i64 s17, .int .i64 s18] j v h
              have hsp14 : splice ([.int .i64 0, .int .i64 0, .int .i64 0, .int .i64 0, .int .u16 0, .int .u16 0, .int .i64 0, .int .i64 0, .int .i64 0, .int .i64 0, .int .i64 0, .int .i64 0, .int .i64 0, .int .i64 0] : List Value) 0 ([.int .i64 s2, .int .i64 s3, .int .i64 s4, .int .i64 s5, .int .u16 s6, .int .u16 s7, .int .i64 s8, .int .i64 s9, .int .i64 s10, .int .i64 s11, .int .i64 s12, .int .i64 s13, .int .i64 s14, .int .i64 s15] : List Value) = [.int .i64 s2, .int .i64 s3, .int .i64 s4, .int .i64 s5, .int .u16 s6, .int .u16 s7, .int .i64 s8, .int .i64 s9, .int .i64 s10, .int .i64 s11, .int .i64 s12, .int .i64 s13, .int .i64 s14, .int .i64 s15] := splice_all _ _ rfl
              have one14 : ∀ v ∈ ([.int .i64 s2, .int .i64 s3, .int .i64 s4, .int .i64 s5, .int .u16 s6, .int .u16 s7, .int .i64 s8, .int .i64 s9, .int .i64 s10, .int .i64 s11, .int .i64 s12, .int .i64 s13, .int .i64 s14, .int .i64 s15] : List Value), v.oneCell' = true := by
                intro v hv
                simp only [List.mem_cons, List.not_mem_nil, or_false] at hv
                rcases hv with rfl | rfl | rfl | rfl | rfl | rfl | rfl | rfl | rfl | rfl | rfl | rfl | rfl | rfl <;> rfl
              rcases hkind with rfl | rfl <;>
              · focus
                  go_upto_region 17 with (first
                    | (refine wpList_load_at rfl 40 (.tmp 61) rfl wr.heap.size 2 rfl 44 _ [.int .i64 s2, .int .i64 s3, .int .i64 s4, .int .i64 s5, .int .u16 s6, .int .u16 s7, .int .i64 s8, .int .i64 s9, .int .i64 s10, .int .i64 s11, .int .i64 s12, .int .i64 s13, .int .i64 s14, .int .i64 s15] _ HO.out hpart Try.underlying40 rfl (by kernel_rfl) ?_)
                    | (refine wpList_store_at rfl 40 (.tmp 17) (.tmp 62) rfl W1.heap.size 0 [.int .i64 s2, .int .i64 s3, .int .i64 s4, .int .i64 s5, .int .u16 s6, .int .u16 s7, .int .i64 s8, .int .i64 s9, .int .i64 s10, .int .i64 s11, .int .i64 s12, .int .i64 s13, .int .i64 s14, .int .i64 s15] rfl rfl 40 [.int .i64 0, .int .i64 0, .int .i64 0, .int .i64 0, .int .u16 0, .int .u16 0, .int .i64 0, .int .i64 0, .int .i64 0, .int .i64 0, .int .i64 0, .int .i64 0, .int .i64 0, .int .i64 0] (Holds.new _ _ _) (by kernel_rfl) (Nat.le_refl 14) one14 ?_; rw [hsp14]; obtain ⟨hbe, hoe⟩ := elem_new W1 40 [.int .i64 0, .int .i64 0, .int .i64 0, .int .i64 0, .int .u16 0, .int .u16 0, .int .i64 0, .int .i64 0, .int .i64 0, .int .i64 0, .int .i64 0, .int .i64 0, .int .i64 0, .int .i64 0] [.int .i64 s2, .int .i64 s3, .int .i64 s4, .int .i64 s5, .int .u16 s6, .int .u16 s7, .int .i64 s8, .int .i64 s9, .int .i64 s10, .int .i64 s11, .int .i64 s12, .int .i64 s13, .int .i64 s14, .int .i64 s15]; generalize World.setRow (World.alloc W1 (.cells [.int .i64 0, .int .i64 0, .int .i64 0, .int .i64 0, .int .u16 0, .int .u16 0, .int .i64 0, .int .i64 0, .int .i64 0, .int .i64 0, .int .i64 0, .int .i64 0, .int .i64 0, .int .i64 0].toArray 40)) W1.heap.size [.int .i64 s2, .int .i64 s3, .int .i64 s4, .int .i64 s5, .int .u16 s6, .int .u16 s7, .int .i64 s8, .int .i64 s9, .int .i64 s10, .int .i64 s11, .int .i64 s12, .int .i64 s13, .int .i64 s14, .int .i64 s15].toArray = W2 at hbe hoe ⊢; have HLd := Lib.hid (HL1.out.below hbe); have HOd := Lib.hid (HO.out.below hbe HO.out.lt); have HTd := Lib.hid (Sq.below HT1.out hbe (Holds.lt HT1.out)); have hhr := HHr.out _ HLd.out; have d1 := HOd.out.cell 1; have p1 := Holds.cell hoe 1; have p3 := Holds.cell hoe 3; have p4 := Holds.cell hoe 4; have p5 := Holds.cell hoe 5; have p6 := Holds.cell hoe 6; have p7 := Holds.cell hoe 7; clear hbe hoe hsp14 one14))
                  clear hpart
                  go_wp2_with (go_at_call 10; refine hhr.mono ?_; rintro e w4 ⟨rfl, hg4⟩; obtain ⟨b4, hL4, hc4⟩ := HLd.out.hear hg4 HIF.out; have HO4 := Lib.hid (HLd.out.keep1 HOd.out (by constructor <;> decide) hc4); have HT4 := Lib.hid (HLd.out.keep1 HTd.out (by constructor <;> decide) hc4); have HL4 := Lib.hid hL4; clear hg4 hL4 hc4)
                  go_meet
                  case rel => exact ⟨b4, n + 1, _, _, rfl, by omega, HL4.out, HT4.out, HO4.out⟩
          · as_aux_lemma =>
              obtain ⟨W, ok, F, hs⟩ := says_is (beatF f) s1
              have hbt := fbeat_any _ _ gf g b n f HL1.out.fo HL1.out.inv s1 fl W ok F hs
              have HIF := Lib.hid (HL.out.inv.beat.says hs)
              have HSb := Lib.hid (fun V n' b' f' (h : Ls w V gf g b' n' f' wa.heap.size a) => sbeat_any V _ a h.src h.ainv)
              have HAb := Lib.hid HL.out.ainv.beat
              have o1 := HO.out.cell 1
              clear hs
              go_wp2_with (first
                | (go_at_call 11; refine hbt.mono ?_; rintro e w4 ⟨rfl, hg4⟩; obtain ⟨b4, hL4, hc4⟩ := HL1.out.hear hg4 HIF.out; have HO4 := Lib.hid (HL1.out.keep1 HO.out (by constructor <;> decide) hc4); have HT4 := Lib.hid (HL1.out.keep1 HT1.out (by constructor <;> decide) hc4); have HL4 := Lib.hid hL4; have hsb := HSb.out _ _ _ _ hL4; clear hg4 hL4 hc4)
                | (go_at_call 12; refine hsb.mono ?_; rintro e w5 ⟨rfl, hg5⟩; have HO5 := Lib.hid (HL4.out.keep2 HO4.out (by decide) hg5); have HT5 := Lib.hid (HT4.out.chg hg5.2 (fun e => by have := HG.out; omega)); have HL5 := Lib.hid (HL4.out.go hg5 HAb.out); clear hg5))
              go_meet
              case rel => exact ⟨b4, n, _, _, rfl, by omega, HL5.out, HT5.out, HO5.out⟩
          · as_aux_lemma =>
              have hpt := sput_any _ _ a HL1.out.src s16 s17 s18 s5 s6
              have HAp := Lib.hid (HL.out.ainv.put s16 s17 s18 s5 s6)
              have o5 := HO.out.cell 5
              have o6 := HO.out.cell 6
              have o16 := HO.out.cell 16
              have o17 := HO.out.cell 17
              have o18 := HO.out.cell 18
              go_wp2_with (go_at_call 13; refine hpt.mono ?_; rintro e w5 ⟨rfl, hg5⟩; have HO5 := Lib.hid (HL1.out.keep2 HO.out (by decide) hg5); have HT5 := Lib.hid (Sq.chg HT1.out hg5.2 (fun e => by have := HG.out; omega)); have HL5 := Lib.hid (HL1.out.go hg5 HAp.out); clear hg5)
              go_meet
              case rel => exact ⟨b, n, _, _, rfl, by omega, HL5.out, HT5.out, HO5.out⟩
          · as_aux_lemma =>
              go_wp2
              go_meet
              case rel => exact ⟨b, n, f, a, rfl, by omega, HL1.out, HT1.out, HO.out⟩
        case rest =>
          obtain ⟨bz, nz, F, A, rfl, hnz, hLz, hTz, hOz⟩ := hcut
          have HLz := Lib.hid hLz
          have HTz := Lib.hid hTz
          have HOz := Lib.hid hOz
          clear hkind HL1 HO HT1 hLz hTz hOz HL HTr f5 f6 f7 o0
          have HSy := Lib.hid (fun W (h : Ls w W gf g bz nz F wa.heap.size A) => synced_any _ _ _ _ _ _ _ h.fo)
          have HRo := Lib.hid (fun W (h : Ls w W gf g bz nz F wa.heap.size A) => sroot_at h.fo.node rfl)
          have HMi := Lib.hid (fun W (h : Ls w W gf g bz nz F wa.heap.size A) => mine_at h.fo.node (v := minB F) rfl)
          have HFr := Lib.hid (fun W (h : Ls w W gf g bz nz F wa.heap.size A) => sfresh_any W _ A h.src)
          have HCe := Lib.hid (fun W (h : Ls w W gf g bz nz F wa.heap.size A) => h.fo.cells.1)
          have HT2 := Lib.hid (fun W t hp r m y v (hs : STime F (newA a2) s1 t hp r m y v) (h : Ls w W gf g bz nz F wa.heap.size A) (ht : Sq W wb.heap.size (newA a2)) => stell_any W _ gf g bz nz _ F (newA a2) h.fo ht h.inv (AInv.new hlim) s1 t hp r m y v hs)
          have HT1 := Lib.hid (fun W t hp r m y v (hs : STime F A s1 t hp r m y v) (h : Ls w W gf g bz nz F wa.heap.size A) => stell_any W _ gf g bz nz _ F A h.fo h.src h.inv h.ainv s1 t hp r m y v hs)
          have hways := prefer_ways F A a2 s1
          obtain ⟨sy, hsy⟩ : ∃ sy, synB F = sy := ⟨_, rfl⟩
          obtain ⟨mm, hmm⟩ : ∃ mm, minB F = mm := ⟨_, rfl⟩
          obtain ⟨fr, hfr⟩ : ∃ fr, afreshB A = fr := ⟨_, rfl⟩
          obtain ⟨rr, hrr⟩ : ∃ rr, F.s.root = rr := ⟨_, rfl⟩
          simp only [hsy] at HSy hways
          simp only [hmm] at HMi hways
          simp only [hfr] at HFr hways
          simp only [hrr] at HRo hways
          clear hsy hmm hfr hrr
          have o1 := HOz.out.cell 1
          rcases hways with ⟨t, hp, r, m, rfl, rfl, rfl, hs1, hs2⟩ | ⟨t, hp, r, m, rfl, rfl, rfl, hs1, hs2⟩ | ⟨v, rfl, dv, hs1, hs2⟩ | ⟨rfl, rfl, hs1, hs2⟩ | ⟨rfl, rfl, hs1, hs2⟩ | ⟨t, hp, r, m, rfl, rfl, hs1, hs2⟩
          · as_aux_lemma =>
              have e1 : (t == t) = true := by simp
              have e2 : (hp == hp) = true := by simp
              have e3 : (rr == rr) = true := by simp
              have e4 : (m == m) = true := by simp
              have e5 : (rr != rr) = false := by simp
              have ht1 := HT1.out _ _ _ _ _ _ _ hs1 HLz.out
              have HS2 := Lib.hid hs2
              clear hs1 hs2
              go_upto_region 24 with (go_at_call 14; (with_reducible refine ht1.mono ?_); rintro e w7 ⟨rfl, hb7⟩; replace HLz := Lib.hid (HLz.out.below hb7); replace HTz := Lib.hid (Sq.below HTz.out hb7 (Holds.lt HTz.out)); replace HOz := Lib.hid (HOz.out.below hb7 HOz.out.lt); clear hb7 ht1 o1)
              have HX := Lib.hid (Holds.new w7 56 #[.int .i64 t, .int .i64 hp, .int .i64 rr, .int .u16 m, .int .i64 1])
              replace HLz := Lib.hid (HLz.out.alloc (.cells #[.int .i64 t, .int .i64 hp, .int .i64 rr, .int .u16 m, .int .i64 1] 56))
              replace HTz := Lib.hid (Holds.alloc HTz.out (.cells #[.int .i64 t, .int .i64 hp, .int .i64 rr, .int .u16 m, .int .i64 1] 56))
              replace HOz := Lib.hid (HOz.out.alloc (.cells #[.int .i64 t, .int .i64 hp, .int .i64 rr, .int .u16 m, .int .i64 1] 56))
              have o1 := HOz.out.cell 1
              have ht2 := HT2.out _ _ _ _ _ _ _ HS2.out HLz.out HTz.out
              go_upto_region 25 with (go_at_call 14; (with_reducible refine ht2.mono ?_); rintro e w8 ⟨rfl, hb8⟩; replace HLz := Lib.hid (HLz.out.below hb8); replace HTz := Lib.hid (Holds.below HTz.out hb8 (Holds.lt HTz.out)); replace HX := Lib.hid (HX.out.below hb8 HX.out.lt); clear hb8 ht2 o1)
              have HY := Lib.hid (Holds.new w8 56 #[.int .i64 t, .int .i64 hp, .int .i64 rr, .int .u16 m, .int .i64 1])
              replace HLz := Lib.hid (HLz.out.alloc (.cells #[.int .i64 t, .int .i64 hp, .int .i64 rr, .int .u16 m, .int .i64 1] 56))
              replace HTz := Lib.hid (Holds.alloc HTz.out (.cells #[.int .i64 t, .int .i64 hp, .int .i64 rr, .int .u16 m, .int .i64 1] 56))
              replace HX := Lib.hid (HX.out.alloc (.cells #[.int .i64 t, .int .i64 hp, .int .i64 rr, .int .u16 m, .int .i64 1] 56))
              clear HOz HT1 HT2 HS2
              have k0 := HCe.out _ HLz.out
              have y0 := HX.out.cell 0
              have y1 := HX.out.cell 1
              have y2 := HX.out.cell 2
              have y3 := HX.out.cell 3
              have y4 := HX.out.cell 4
              have z0 := HY.out.cell 0
              have z1 := HY.out.cell 1
              have z2 := HY.out.cell 2
              have z3 := HY.out.cell 3
              have z4 := HY.out.cell 4
              have hSy := fun m => HSy.out _ (HLz.out.drewN m)
              have hRo := fun m => HRo.out _ (HLz.out.drewN m)
              have hMi := fun m => HMi.out _ (HLz.out.drewN m)
              have hFr := fun m => HFr.out _ (HLz.out.drewN m)
              go_quiet (first
                | (go_at_call 15; refine (hSy _).mono ?_; rintro e wx ⟨rfl, nq, rfl⟩; first | exact ⟨rfl, _, rfl⟩ | exact ⟨rfl, _, fdrew_two _ _ _⟩ | exact ⟨rfl, _, fdrew_drew _ _ _ _⟩)
                | (go_at_call 17; refine (hMi _).mono ?_; rintro e wx ⟨rfl, nq, rfl⟩; first | exact ⟨rfl, _, rfl⟩ | exact ⟨rfl, _, fdrew_two _ _ _⟩ | exact ⟨rfl, _, fdrew_drew _ _ _ _⟩)
                | (go_at_call 16; refine (hRo _).mono ?_; rintro e wx ⟨rfl, rfl⟩; exact ⟨rfl, _, rfl⟩))
              clear y0 y1 y2 y3 y4 z0 z1 z2 z3 z4 k0
              have y4 := (HX.out.drewN nq).cell 4
              have hsy1 := hSy nq
              go_wp2_with (first
                | (go_at_call 15; refine hsy1.mono ?_; rintro e wx ⟨rfl, mq, rfl⟩; have y5 := ((HX.out.drewN nq).drewN mq).cell 4; have y6 := (HX.out.drewN (nq + mq)).cell 4; first | rw [fdrew_two] | skip)
                | (go_at_call 18; refine (hFr _).mono ?_; rintro e wx ⟨rfl, hwx⟩; subst wx))
              go_roundw
              case rel => exact ⟨k + 1, bz, nz, F, A, by omega, by go_num, hnz, HLz.out.drewN _, Holds.drewN HTz.out _⟩
              case measure => simp [intOf]; omega
          · as_aux_lemma =>
              have e1 : (t == t) = true := by simp
              have e2 : (hp == hp) = true := by simp
              have e3 : (rr == rr) = true := by simp
              have e4 : (m == m) = true := by simp
              have e5 : (rr != rr) = false := by simp
              have ht1 := HT1.out _ _ _ _ _ _ _ hs1 HLz.out
              have HS2 := Lib.hid hs2
              clear hs1 hs2
              go_upto_region 24 with (go_at_call 14; (with_reducible refine ht1.mono ?_); rintro e w7 ⟨rfl, hb7⟩; replace HLz := Lib.hid (HLz.out.below hb7); replace HTz := Lib.hid (Sq.below HTz.out hb7 (Holds.lt HTz.out)); replace HOz := Lib.hid (HOz.out.below hb7 HOz.out.lt); clear hb7 ht1 o1)
              have HX := Lib.hid (Holds.new w7 56 #[.int .i64 t, .int .i64 hp, .int .i64 rr, .int .u16 m, .int .i64 2])
              replace HLz := Lib.hid (HLz.out.alloc (.cells #[.int .i64 t, .int .i64 hp, .int .i64 rr, .int .u16 m, .int .i64 2] 56))
              replace HTz := Lib.hid (Holds.alloc HTz.out (.cells #[.int .i64 t, .int .i64 hp, .int .i64 rr, .int .u16 m, .int .i64 2] 56))
              replace HOz := Lib.hid (HOz.out.alloc (.cells #[.int .i64 t, .int .i64 hp, .int .i64 rr, .int .u16 m, .int .i64 2] 56))
              have o1 := HOz.out.cell 1
              have ht2 := HT2.out _ _ _ _ _ _ _ HS2.out HLz.out HTz.out
              go_upto_region 25 with (go_at_call 14; (with_reducible refine ht2.mono ?_); rintro e w8 ⟨rfl, hb8⟩; replace HLz := Lib.hid (HLz.out.below hb8); replace HTz := Lib.hid (Holds.below HTz.out hb8 (Holds.lt HTz.out)); replace HX := Lib.hid (HX.out.below hb8 HX.out.lt); clear hb8 ht2 o1)
              have HY := Lib.hid (Holds.new w8 56 #[.int .i64 t, .int .i64 hp, .int .i64 rr, .int .u16 m, .int .i64 2])
              replace HLz := Lib.hid (HLz.out.alloc (.cells #[.int .i64 t, .int .i64 hp, .int .i64 rr, .int .u16 m, .int .i64 2] 56))
              replace HTz := Lib.hid (Holds.alloc HTz.out (.cells #[.int .i64 t, .int .i64 hp, .int .i64 rr, .int .u16 m, .int .i64 2] 56))
              replace HX := Lib.hid (HX.out.alloc (.cells #[.int .i64 t, .int .i64 hp, .int .i64 rr, .int .u16 m, .int .i64 2] 56))
              clear HOz HT1 HT2 HS2
              have k0 := HCe.out _ HLz.out
              have y0 := HX.out.cell 0
              have y1 := HX.out.cell 1
              have y2 := HX.out.cell 2
              have y3 := HX.out.cell 3
              have y4 := HX.out.cell 4
              have z0 := HY.out.cell 0
              have z1 := HY.out.cell 1
              have z2 := HY.out.cell 2
              have z3 := HY.out.cell 3
              have z4 := HY.out.cell 4
              have hSy := fun m => HSy.out _ (HLz.out.drewN m)
              have hRo := fun m => HRo.out _ (HLz.out.drewN m)
              have hMi := fun m => HMi.out _ (HLz.out.drewN m)
              have hFr := fun m => HFr.out _ (HLz.out.drewN m)
              go_quiet (first
                | (go_at_call 15; refine (hSy _).mono ?_; rintro e wx ⟨rfl, nq, rfl⟩; first | exact ⟨rfl, _, rfl⟩ | exact ⟨rfl, _, fdrew_two _ _ _⟩ | exact ⟨rfl, _, fdrew_drew _ _ _ _⟩)
                | (go_at_call 17; refine (hMi _).mono ?_; rintro e wx ⟨rfl, nq, rfl⟩; first | exact ⟨rfl, _, rfl⟩ | exact ⟨rfl, _, fdrew_two _ _ _⟩ | exact ⟨rfl, _, fdrew_drew _ _ _ _⟩)
                | (go_at_call 16; refine (hRo _).mono ?_; rintro e wx ⟨rfl, rfl⟩; exact ⟨rfl, _, rfl⟩))
              clear y0 y1 y2 y3 y4 z0 z1 z2 z3 z4 k0
              have y4 := (HX.out.drewN nq).cell 4
              have hsy1 := hSy nq
              go_wp2_with (first
                | (go_at_call 15; refine hsy1.mono ?_; rintro e wx ⟨rfl, mq, rfl⟩; have y5 := ((HX.out.drewN nq).drewN mq).cell 4; have y6 := (HX.out.drewN (nq + mq)).cell 4; first | rw [fdrew_two] | skip)
                | (go_at_call 18; refine (hFr _).mono ?_; rintro e wx ⟨rfl, hwx⟩; subst wx))
              go_roundw
              case rel => exact ⟨k + 1, bz, nz, F, A, by omega, by go_num, hnz, HLz.out.drewN _, Holds.drewN HTz.out _⟩
              case measure => simp [intOf]; omega
          · as_aux_lemma =>
              have e1 : (v == v) = true := by simp
              have e5 : (v != v) = false := by simp
              have ht1 := HT1.out _ _ _ _ _ _ _ hs1 HLz.out
              have HS2 := Lib.hid hs2
              clear hs1 hs2
              go_upto_region 24 with (go_at_call 14; (with_reducible refine ht1.mono ?_); rintro e w7 ⟨rfl, hb7⟩; replace HLz := Lib.hid (HLz.out.below hb7); replace HTz := Lib.hid (Sq.below HTz.out hb7 (Holds.lt HTz.out)); replace HOz := Lib.hid (HOz.out.below hb7 HOz.out.lt); clear hb7 ht1 o1)
              have HX := Lib.hid (Holds.new w7 56 #[.int .i64 0, .int .i64 0, .int .i64 0, .int .u16 0, .int .i64 0])
              replace HLz := Lib.hid (HLz.out.alloc (.cells #[.int .i64 0, .int .i64 0, .int .i64 0, .int .u16 0, .int .i64 0] 56))
              replace HTz := Lib.hid (Holds.alloc HTz.out (.cells #[.int .i64 0, .int .i64 0, .int .i64 0, .int .u16 0, .int .i64 0] 56))
              replace HOz := Lib.hid (HOz.out.alloc (.cells #[.int .i64 0, .int .i64 0, .int .i64 0, .int .u16 0, .int .i64 0] 56))
              have o1 := HOz.out.cell 1
              have ht2 := HT2.out _ _ _ _ _ _ _ HS2.out HLz.out HTz.out
              go_upto_region 25 with (go_at_call 14; (with_reducible refine ht2.mono ?_); rintro e w8 ⟨rfl, hb8⟩; replace HLz := Lib.hid (HLz.out.below hb8); replace HTz := Lib.hid (Holds.below HTz.out hb8 (Holds.lt HTz.out)); replace HX := Lib.hid (HX.out.below hb8 HX.out.lt); clear hb8 ht2 o1)
              have HY := Lib.hid (Holds.new w8 56 #[.int .i64 0, .int .i64 0, .int .i64 0, .int .u16 0, .int .i64 0])
              replace HLz := Lib.hid (HLz.out.alloc (.cells #[.int .i64 0, .int .i64 0, .int .i64 0, .int .u16 0, .int .i64 0] 56))
              replace HTz := Lib.hid (Holds.alloc HTz.out (.cells #[.int .i64 0, .int .i64 0, .int .i64 0, .int .u16 0, .int .i64 0] 56))
              replace HX := Lib.hid (HX.out.alloc (.cells #[.int .i64 0, .int .i64 0, .int .i64 0, .int .u16 0, .int .i64 0] 56))
              clear HOz HT1 HT2 HS2
              have k0 := HCe.out _ HLz.out
              have y0 := HX.out.cell 0
              have y1 := HX.out.cell 1
              have y2 := HX.out.cell 2
              have y3 := HX.out.cell 3
              have y4 := HX.out.cell 4
              have z0 := HY.out.cell 0
              have z1 := HY.out.cell 1
              have z2 := HY.out.cell 2
              have z3 := HY.out.cell 3
              have z4 := HY.out.cell 4
              have hSy := fun m => HSy.out _ (HLz.out.drewN m)
              have hRo := fun m => HRo.out _ (HLz.out.drewN m)
              have hMi := fun m => HMi.out _ (HLz.out.drewN m)
              have hFr := fun m => HFr.out _ (HLz.out.drewN m)
              go_quiet (first
                | (go_at_call 15; refine (hSy _).mono ?_; rintro e wx ⟨rfl, nq, rfl⟩; first | exact ⟨rfl, _, rfl⟩ | exact ⟨rfl, _, fdrew_two _ _ _⟩ | exact ⟨rfl, _, fdrew_drew _ _ _ _⟩)
                | (go_at_call 17; refine (hMi _).mono ?_; rintro e wx ⟨rfl, nq, rfl⟩; first | exact ⟨rfl, _, rfl⟩ | exact ⟨rfl, _, fdrew_two _ _ _⟩ | exact ⟨rfl, _, fdrew_drew _ _ _ _⟩)
                | (go_at_call 16; refine (hRo _).mono ?_; rintro e wx ⟨rfl, rfl⟩; exact ⟨rfl, _, rfl⟩))
              clear y0 y1 y2 y3 y4 z0 z1 z2 z3 z4 k0
              have y4 := (HX.out.drewN nq).cell 4
              have hsy1 := hSy nq
              go_wp2_with (first
                | (go_at_call 15; refine hsy1.mono ?_; rintro e wx ⟨rfl, mq, rfl⟩; have y5 := ((HX.out.drewN nq).drewN mq).cell 4; have y6 := (HX.out.drewN (nq + mq)).cell 4; first | rw [fdrew_two] | skip)
                | (go_at_call 18; refine (hFr _).mono ?_; rintro e wx ⟨rfl, hwx⟩; subst wx))
              go_roundw
              case rel => exact ⟨k + 1, bz, nz, F, A, by omega, by go_num, hnz, HLz.out.drewN _, Holds.drewN HTz.out _⟩
              case measure => simp [intOf]; omega
          · as_aux_lemma =>
              skip
              have ht1 := HT1.out _ _ _ _ _ _ _ hs1 HLz.out
              have HS2 := Lib.hid hs2
              clear hs1 hs2
              go_upto_region 24 with (go_at_call 14; (with_reducible refine ht1.mono ?_); rintro e w7 ⟨rfl, hb7⟩; replace HLz := Lib.hid (HLz.out.below hb7); replace HTz := Lib.hid (Sq.below HTz.out hb7 (Holds.lt HTz.out)); replace HOz := Lib.hid (HOz.out.below hb7 HOz.out.lt); clear hb7 ht1 o1)
              have HX := Lib.hid (Holds.new w7 56 #[.int .i64 0, .int .i64 0, .int .i64 0, .int .u16 0, .int .i64 0])
              replace HLz := Lib.hid (HLz.out.alloc (.cells #[.int .i64 0, .int .i64 0, .int .i64 0, .int .u16 0, .int .i64 0] 56))
              replace HTz := Lib.hid (Holds.alloc HTz.out (.cells #[.int .i64 0, .int .i64 0, .int .i64 0, .int .u16 0, .int .i64 0] 56))
              replace HOz := Lib.hid (HOz.out.alloc (.cells #[.int .i64 0, .int .i64 0, .int .i64 0, .int .u16 0, .int .i64 0] 56))
              have o1 := HOz.out.cell 1
              have ht2 := HT2.out _ _ _ _ _ _ _ HS2.out HLz.out HTz.out
              go_upto_region 25 with (go_at_call 14; (with_reducible refine ht2.mono ?_); rintro e w8 ⟨rfl, hb8⟩; replace HLz := Lib.hid (HLz.out.below hb8); replace HTz := Lib.hid (Holds.below HTz.out hb8 (Holds.lt HTz.out)); replace HX := Lib.hid (HX.out.below hb8 HX.out.lt); clear hb8 ht2 o1)
              have HY := Lib.hid (Holds.new w8 56 #[.int .i64 0, .int .i64 0, .int .i64 0, .int .u16 0, .int .i64 0])
              replace HLz := Lib.hid (HLz.out.alloc (.cells #[.int .i64 0, .int .i64 0, .int .i64 0, .int .u16 0, .int .i64 0] 56))
              replace HTz := Lib.hid (Holds.alloc HTz.out (.cells #[.int .i64 0, .int .i64 0, .int .i64 0, .int .u16 0, .int .i64 0] 56))
              replace HX := Lib.hid (HX.out.alloc (.cells #[.int .i64 0, .int .i64 0, .int .i64 0, .int .u16 0, .int .i64 0] 56))
              clear HOz HT1 HT2 HS2
              have k0 := HCe.out _ HLz.out
              have y0 := HX.out.cell 0
              have y1 := HX.out.cell 1
              have y2 := HX.out.cell 2
              have y3 := HX.out.cell 3
              have y4 := HX.out.cell 4
              have z0 := HY.out.cell 0
              have z1 := HY.out.cell 1
              have z2 := HY.out.cell 2
              have z3 := HY.out.cell 3
              have z4 := HY.out.cell 4
              have hSy := fun m => HSy.out _ (HLz.out.drewN m)
              have hRo := fun m => HRo.out _ (HLz.out.drewN m)
              have hMi := fun m => HMi.out _ (HLz.out.drewN m)
              have hFr := fun m => HFr.out _ (HLz.out.drewN m)
              go_quiet (first
                | (go_at_call 15; refine (hSy _).mono ?_; rintro e wx ⟨rfl, nq, rfl⟩; first | exact ⟨rfl, _, rfl⟩ | exact ⟨rfl, _, fdrew_two _ _ _⟩ | exact ⟨rfl, _, fdrew_drew _ _ _ _⟩)
                | (go_at_call 17; refine (hMi _).mono ?_; rintro e wx ⟨rfl, nq, rfl⟩; first | exact ⟨rfl, _, rfl⟩ | exact ⟨rfl, _, fdrew_two _ _ _⟩ | exact ⟨rfl, _, fdrew_drew _ _ _ _⟩)
                | (go_at_call 16; refine (hRo _).mono ?_; rintro e wx ⟨rfl, rfl⟩; exact ⟨rfl, _, rfl⟩))
              clear y0 y1 y2 y3 y4 z0 z1 z2 z3 z4 k0
              have y4 := (HX.out.drewN nq).cell 4
              have hsy1 := hSy nq
              go_wp2_with (first
                | (go_at_call 15; refine hsy1.mono ?_; rintro e wx ⟨rfl, mq, rfl⟩; have y5 := ((HX.out.drewN nq).drewN mq).cell 4; have y6 := (HX.out.drewN (nq + mq)).cell 4; first | rw [fdrew_two] | skip)
                | (go_at_call 18; refine (hFr _).mono ?_; rintro e wx ⟨rfl, hwx⟩; subst wx))
              go_roundw
              case rel => exact ⟨k + 1, bz, nz, F, A, by omega, by go_num, hnz, HLz.out.drewN _, Holds.drewN HTz.out _⟩
              case measure => simp [intOf]; omega
          · as_aux_lemma =>
              skip
              have ht1 := HT1.out _ _ _ _ _ _ _ hs1 HLz.out
              have HS2 := Lib.hid hs2
              clear hs1 hs2
              go_upto_region 24 with (go_at_call 14; (with_reducible refine ht1.mono ?_); rintro e w7 ⟨rfl, hb7⟩; replace HLz := Lib.hid (HLz.out.below hb7); replace HTz := Lib.hid (Sq.below HTz.out hb7 (Holds.lt HTz.out)); replace HOz := Lib.hid (HOz.out.below hb7 HOz.out.lt); clear hb7 ht1 o1)
              have HX := Lib.hid (Holds.new w7 56 #[.int .i64 0, .int .i64 0, .int .i64 0, .int .u16 0, .int .i64 0])
              replace HLz := Lib.hid (HLz.out.alloc (.cells #[.int .i64 0, .int .i64 0, .int .i64 0, .int .u16 0, .int .i64 0] 56))
              replace HTz := Lib.hid (Holds.alloc HTz.out (.cells #[.int .i64 0, .int .i64 0, .int .i64 0, .int .u16 0, .int .i64 0] 56))
              replace HOz := Lib.hid (HOz.out.alloc (.cells #[.int .i64 0, .int .i64 0, .int .i64 0, .int .u16 0, .int .i64 0] 56))
              have o1 := HOz.out.cell 1
              have ht2 := HT2.out _ _ _ _ _ _ _ HS2.out HLz.out HTz.out
              go_upto_region 25 with (go_at_call 14; (with_reducible refine ht2.mono ?_); rintro e w8 ⟨rfl, hb8⟩; replace HLz := Lib.hid (HLz.out.below hb8); replace HTz := Lib.hid (Holds.below HTz.out hb8 (Holds.lt HTz.out)); replace HX := Lib.hid (HX.out.below hb8 HX.out.lt); clear hb8 ht2 o1)
              have HY := Lib.hid (Holds.new w8 56 #[.int .i64 0, .int .i64 0, .int .i64 0, .int .u16 0, .int .i64 0])
              replace HLz := Lib.hid (HLz.out.alloc (.cells #[.int .i64 0, .int .i64 0, .int .i64 0, .int .u16 0, .int .i64 0] 56))
              replace HTz := Lib.hid (Holds.alloc HTz.out (.cells #[.int .i64 0, .int .i64 0, .int .i64 0, .int .u16 0, .int .i64 0] 56))
              replace HX := Lib.hid (HX.out.alloc (.cells #[.int .i64 0, .int .i64 0, .int .i64 0, .int .u16 0, .int .i64 0] 56))
              clear HOz HT1 HT2 HS2
              have k0 := HCe.out _ HLz.out
              have y0 := HX.out.cell 0
              have y1 := HX.out.cell 1
              have y2 := HX.out.cell 2
              have y3 := HX.out.cell 3
              have y4 := HX.out.cell 4
              have z0 := HY.out.cell 0
              have z1 := HY.out.cell 1
              have z2 := HY.out.cell 2
              have z3 := HY.out.cell 3
              have z4 := HY.out.cell 4
              have hSy := fun m => HSy.out _ (HLz.out.drewN m)
              have hRo := fun m => HRo.out _ (HLz.out.drewN m)
              have hMi := fun m => HMi.out _ (HLz.out.drewN m)
              have hFr := fun m => HFr.out _ (HLz.out.drewN m)
              go_quiet (first
                | (go_at_call 15; refine (hSy _).mono ?_; rintro e wx ⟨rfl, nq, rfl⟩; first | exact ⟨rfl, _, rfl⟩ | exact ⟨rfl, _, fdrew_two _ _ _⟩ | exact ⟨rfl, _, fdrew_drew _ _ _ _⟩)
                | (go_at_call 17; refine (hMi _).mono ?_; rintro e wx ⟨rfl, nq, rfl⟩; first | exact ⟨rfl, _, rfl⟩ | exact ⟨rfl, _, fdrew_two _ _ _⟩ | exact ⟨rfl, _, fdrew_drew _ _ _ _⟩)
                | (go_at_call 16; refine (hRo _).mono ?_; rintro e wx ⟨rfl, rfl⟩; exact ⟨rfl, _, rfl⟩))
              clear y0 y1 y2 y3 y4 z0 z1 z2 z3 z4 k0
              have y4 := (HX.out.drewN nq).cell 4
              have hsy1 := hSy nq
              go_wp2_with (first
                | (go_at_call 15; refine hsy1.mono ?_; rintro e wx ⟨rfl, mq, rfl⟩; have y5 := ((HX.out.drewN nq).drewN mq).cell 4; have y6 := (HX.out.drewN (nq + mq)).cell 4; first | rw [fdrew_two] | skip)
                | (go_at_call 18; refine (hFr _).mono ?_; rintro e wx ⟨rfl, hwx⟩; subst wx))
              go_roundw
              case rel => exact ⟨k + 1, bz, nz, F, A, by omega, by go_num, hnz, HLz.out.drewN _, Holds.drewN HTz.out _⟩
              case measure => simp [intOf]; omega
          · as_aux_lemma =>
              skip
              have ht1 := HT1.out _ _ _ _ _ _ _ hs1 HLz.out
              have HS2 := Lib.hid hs2
              clear hs1 hs2
              go_upto_region 24 with (go_at_call 14; (with_reducible refine ht1.mono ?_); rintro e w7 ⟨rfl, hb7⟩; replace HLz := Lib.hid (HLz.out.below hb7); replace HTz := Lib.hid (Sq.below HTz.out hb7 (Holds.lt HTz.out)); replace HOz := Lib.hid (HOz.out.below hb7 HOz.out.lt); clear hb7 ht1 o1)
              have HX := Lib.hid (Holds.new w7 56 #[.int .i64 t, .int .i64 hp, .int .i64 r, .int .u16 m, .int .i64 3])
              replace HLz := Lib.hid (HLz.out.alloc (.cells #[.int .i64 t, .int .i64 hp, .int .i64 r, .int .u16 m, .int .i64 3] 56))
              replace HTz := Lib.hid (Holds.alloc HTz.out (.cells #[.int .i64 t, .int .i64 hp, .int .i64 r, .int .u16 m, .int .i64 3] 56))
              replace HOz := Lib.hid (HOz.out.alloc (.cells #[.int .i64 t, .int .i64 hp, .int .i64 r, .int .u16 m, .int .i64 3] 56))
              have o1 := HOz.out.cell 1
              have ht2 := HT2.out _ _ _ _ _ _ _ HS2.out HLz.out HTz.out
              go_upto_region 25 with (go_at_call 14; (with_reducible refine ht2.mono ?_); rintro e w8 ⟨rfl, hb8⟩; replace HLz := Lib.hid (HLz.out.below hb8); replace HTz := Lib.hid (Holds.below HTz.out hb8 (Holds.lt HTz.out)); replace HX := Lib.hid (HX.out.below hb8 HX.out.lt); clear hb8 ht2 o1)
              have HY := Lib.hid (Holds.new w8 56 #[.int .i64 0, .int .i64 0, .int .i64 0, .int .u16 0, .int .i64 0])
              replace HLz := Lib.hid (HLz.out.alloc (.cells #[.int .i64 0, .int .i64 0, .int .i64 0, .int .u16 0, .int .i64 0] 56))
              replace HTz := Lib.hid (Holds.alloc HTz.out (.cells #[.int .i64 0, .int .i64 0, .int .i64 0, .int .u16 0, .int .i64 0] 56))
              replace HX := Lib.hid (HX.out.alloc (.cells #[.int .i64 0, .int .i64 0, .int .i64 0, .int .u16 0, .int .i64 0] 56))
              clear HOz HT1 HT2 HS2
              have k0 := HCe.out _ HLz.out
              have y0 := HX.out.cell 0
              have y1 := HX.out.cell 1
              have y2 := HX.out.cell 2
              have y3 := HX.out.cell 3
              have y4 := HX.out.cell 4
              have z0 := HY.out.cell 0
              have z1 := HY.out.cell 1
              have z2 := HY.out.cell 2
              have z3 := HY.out.cell 3
              have z4 := HY.out.cell 4
              have hSy := fun m => HSy.out _ (HLz.out.drewN m)
              have hRo := fun m => HRo.out _ (HLz.out.drewN m)
              have hMi := fun m => HMi.out _ (HLz.out.drewN m)
              have hFr := fun m => HFr.out _ (HLz.out.drewN m)
              go_quiet (first
                | (go_at_call 15; refine (hSy _).mono ?_; rintro e wx ⟨rfl, nq, rfl⟩; first | exact ⟨rfl, _, rfl⟩ | exact ⟨rfl, _, fdrew_two _ _ _⟩ | exact ⟨rfl, _, fdrew_drew _ _ _ _⟩)
                | (go_at_call 17; refine (hMi _).mono ?_; rintro e wx ⟨rfl, nq, rfl⟩; first | exact ⟨rfl, _, rfl⟩ | exact ⟨rfl, _, fdrew_two _ _ _⟩ | exact ⟨rfl, _, fdrew_drew _ _ _ _⟩)
                | (go_at_call 16; refine (hRo _).mono ?_; rintro e wx ⟨rfl, rfl⟩; exact ⟨rfl, _, rfl⟩))
              clear y0 y1 y2 y3 y4 z0 z1 z2 z3 z4 k0
              have y4 := (HX.out.drewN nq).cell 4
              have hsy1 := hSy nq
              go_wp2_with (first
                | (go_at_call 15; refine hsy1.mono ?_; rintro e wx ⟨rfl, mq, rfl⟩; have y5 := ((HX.out.drewN nq).drewN mq).cell 4; have y6 := (HX.out.drewN (nq + mq)).cell 4; first | rw [fdrew_two] | skip)
                | (go_at_call 18; refine (hFr _).mono ?_; rintro e wx ⟨rfl, hwx⟩; subst wx))
              go_roundw
              case rel => exact ⟨k + 1, bz, nz, F, A, by omega, by go_num, hnz, HLz.out.drewN _, Holds.drewN HTz.out _⟩
              case measure => simp [intOf]; omega
      · obtain rfl : k = n3 := by omega
        go_wp2
        go_ret
        exact ⟨rfl, HL.out.law⟩

set_option maxRecDepth 100000 in
theorem lifted (os : Os) (started : os.Started) (H : Type) (enc : TypeId × Value → H) :
    ReturnsInHanded {} Try.checked os 3 .any (Rows.sourcePrefersSpec.pre6 enc Try.prog Try.f3 Rows.sourcePrefersRow.domain false) (Rows.sourcePrefersSpec.post enc Try.prog Try.f3 false true false false) := by
  refine returnsInHanded_of_change (C := Try.checked) own started (by kernel_rfl) Try.func3
    (ChangeSpec.witness6 (enc := enc) (C := Try.checked) false ⟨#[], #[.int .i64 0, .agg #[.int .i64 0, .int .i64 0, .int .i64 0, .int .i64 0], .int .i64 0, .slice none 0 0], []⟩ 8 (by kernel_rfl) (by kernel_rfl) (by kernel_rfl) (by kernel_rfl)) ?_
  intro W base args ds gs before hval0 hW hcnd _
  have hval : ∀ (j : Nat) t v, Try.f3.params[j]? = some t → args[j]? = some v → Value.okWide Try.prog W .any base t v := hval0
  have hW' := hW
  obtain ⟨p, q, hA0, hV, rfl, hfz, hnd⟩ := hW
  have hA : DataW.TrodAll enc Try.prog W 0 (fun _ => true) true Try.f3.params.toList args.toList ds p := hA0
  have hAk := hA
  rw [Try.params3] at hA hval
  obtain ⟨v0, vs0, d0, ds0, p0, q0, hargs, rfl, hp, h0, r0⟩ := trodAll_cons hA
  obtain ⟨v1, vs1, d1, ds1, p1, q1, rfl, rfl, rfl, h1, r1⟩ := trodAll_cons r0
  obtain ⟨v2, vs2, d2, ds2, p2, q2, rfl, rfl, rfl, h2, r2⟩ := trodAll_cons r1
  obtain ⟨v3, vs3, d3, ds3, p3, q3, rfl, rfl, rfl, h3, r3⟩ := trodAll_cons r2
  obtain ⟨rfl, rfl, rfl⟩ := trodAll_nil r3
  obtain rfl : args = #[v0, v1, v2, v3] := by cases args; simp_all
  obtain ⟨rfl, rfl⟩ := trodVars_none hV
  clear hA0 hval0 hargs
  simp only [List.append_nil] at hW'
  have hend : ∀ W' : World, Below W.heap.size W W' → Rows.sourcePrefersSpec.post enc Try.prog Try.f3 false true false false W #[v0, v1, v2, v3] (.bool true) W' := fun W' hb =>
    law_post (tb := 4) hW' hAk rfl (by kernel_rfl) (by kernel_rfl) (by kernel_rfl) Try.underlying4 rfl rfl rfl hb
  clear hW' hAk hp
  obtain ⟨a0, rfl, rfl, rfl, w0⟩ := open_int Try.underlying3 (hval 0 3 v0 rfl rfl) h0
  obtain ⟨ns1, rfl, hl1, hw1⟩ := ints_struct (ks := [.i64, .i64, .i64, .i64]) Try.underlying23 (by kernel_rfl) (by kernel_rfl) (by kernel_rfl) (hval 1 23 v1 rfl rfl) h1
  obtain ⟨s1_0, s1_1, s1_2, s1_3, rfl⟩ := split4 hl1
  clear hl1
  obtain ⟨a2, rfl, rfl, rfl, w2⟩ := open_int Try.underlying3 (hval 2 3 v2 rfl rfl) h2
  obtain ⟨A3, n3, c3, f3, rfl, w3⟩ := flats_arg (ks := [.int .i64, .int .i64, .int .i64, .int .i64, .int .i64, .int .i64, .int .u16, .int .u16, .int .i64, .int .i64, .int .i64, .int .i64, .int .i64, .int .i64, .int .i64, .int .i64, .int .i64, .int .i64, .int .i64]) 9 Try.underlying24 (by kernel_rfl) (by kernel_rfl) (by decide) (hval 3 24 v3 rfl rfl) h3
  refine (walk a0 s1_0 s1_1 s1_2 s1_3 a2 A3 n3 c3 f3 W w0 (hw1 0 _ _ rfl rfl) (hw1 1 _ _ rfl rfl) (hw1 2 _ _ rfl rfl) (hw1 3 _ _ rfl rfl) w2 w3).mono fun e W' ⟨he, hg⟩ => ?_
  subst he
  exact ⟨_, rfl, hend W' hg⟩

theorem over : Rows.sourcePrefersRow.holds Try.pinned (OpenSpec.ofChange Rows.sourcePrefersSpec) :=
  OpenClaim.holds_of_wide 3 Try.f3 rfl rfl rfl rfl rfl rfl rfl ⟨rfl, rfl, rfl, rfl, rfl⟩ rfl rfl rfl rfl rfl (by kernel_rfl) Try.func3 (by kernel_rfl)
    (of_decide_eq_true (by kernel_rfl)) (by unfold Func.isWrapper; first | (rw [if_pos (by decide +kernel)]; kernel_rfl) | (rw [if_neg (by decide +kernel)]; exact ⟨rfl, rfl⟩))
    (fun os started H enc _ => lifted os started H enc)

/-- THE STATEMENT -/
theorem proved : Rows.SourcePrefersSaid :=
  over
#print axioms proved
end Go.Proofs.Ytgmeakcfiaopcaa.sourcePrefers
