/-
  What was asked tells the own time, and its offset, of all numbers: for all inputs the law answers true; without conditions.
  The walk is the prover's own; the frame of the row's step follows the kit's template.
-/
import Derived.Test.YtgmeakcfiaopcaaRows
import Derived.Test.YtgmeakcfiaopcaaGrpSc1
import Derived.Test.YtgmeakcfiaopcaaGrpSourceExact5
import Derived.Test.YtgmeakcfiaopcaaGrpSc4
import Derived.LoopTactic
import Derived.Deep.QuietTactic
import Derived.BigQuiet
import Derived.Deep.CutBlock
import Derived.Deep.CutRange
import Derived.Laws.StructEq
namespace Go.Proofs.Ytgmeakcfiaopcaa.sourceExact
open Go.ChangeShapes Go.WideShapes Go.ChangeAt Go.RowKit Go.ChangeMaps Go.WideElems
set_option linter.unusedVariables false

theorem split3 {ns : List Int} (h : ns.length = 3) : ∃ s1_0 s1_1 s1_2 : Int, ns = [s1_0, s1_1, s1_2] := by
  match ns, h with
  | [y0, y1, y2], _ => exact ⟨_, _, _, rfl⟩
theorem split2 {ns : List Int} (h : ns.length = 2) : ∃ s2_0 s2_1 : Int, ns = [s2_0, s2_1] := by
  match ns, h with
  | [y0, y1], _ => exact ⟨_, _, rfl⟩
theorem own : ownKnob Try.prog.godebug = none := by kernel_rfl
set_option linter.unusedSimpArgs false in
set_option maxHeartbeats 16000000 in
set_option maxRecDepth 100000 in
theorem walk (a0 : Int) (s1_0 s1_1 s1_2 : Int) (s2_0 s2_1 : Int) (a3 : Int) (w : World) (w0 : (Lit.int .i64 a0).wf = true) (w1_0 : (Lit.int .i64 s1_0).wf = true) (w1_1 : (Lit.int .i64 s1_1).wf = true) (w1_2 : (Lit.int .i64 s1_2).wf = true) (w2_0 : (Lit.int .i64 s2_0).wf = true) (w2_1 : (Lit.int .u16 s2_1).wf = true) (w3 : (Lit.int .i64 a3).wf = true) :
    Calls Try.prog 5 #[.int .i64 a0, .agg #[.int .i64 s1_0, .int .i64 s1_1, .int .i64 s1_2], .agg #[.int .i64 s2_0, .int .u16 s2_1], .int .i64 a3] w fun e w' => e = .returned (.bool true) ∧ Below w.heap.size w w' := by
  have HB := Lib.hid (Eb.start w #[.int .i64 s1_0, .int .i64 s1_1, .int .i64 s1_2] #[.int .i64 s2_0, .int .u16 s2_1])
  have fl := fits_wf w3
  have hfresh := fun W gs (h : Sq W gs (newA 1000)) => sfresh_any W gs (newA 1000) h
  have hz : afreshB (newA 1000) = false := by decide
  simp only [hz] at hfresh
  have HFr := Lib.hid hfresh
  clear hz hfresh w0 w1_0 w1_1 w1_2 w2_0 w2_1 w3
  cases hgd : fgoodB a0 1000 0 8 10 with
  | false =>
    have hnew := fun W => fnew_no W a0 1000 0 8 10 hgd
    clear hgd
    go_enter Try.func5, Try.ntmps5
    go_wp2_with (first
      | (go_at_call 6; refine (alive_yes _).mono ?_; rintro e wa ⟨rfl, hb⟩; replace HB := Lib.hid (HB.out.below hb); clear hb)
      | (go_at_call 9; refine (lrules_any _ _ _ _ _).mono ?_; rintro e wb ⟨rfl, hb⟩; replace HB := Lib.hid (HB.out.below hb); clear hb)
      | (go_at_call 8; refine (hnew _).mono ?_; rintro e wc ⟨rfl, hb⟩; replace HB := Lib.hid (HB.out.below hb); clear hb)
      | (go_at_call 7; refine (snew_yes _ 1000 (by decide)).mono ?_; rintro e wd ⟨rfl, hS, hb⟩; replace HB := Lib.hid (HB.out.below hb); clear hS hb; have c0 := HB.out.ent.cell 0; have c1 := HB.out.ent.cell 1; have c2 := HB.out.ent.cell 2; have u0 := HB.out.who.cell 0; have u1 := HB.out.who.cell 1;))
    go_ret
    exact ⟨rfl, HB.out.law⟩
  | true =>
    have hnew := fun W => fnew_yes W a0 1000 0 8 10 hgd
    have HI := Lib.hid (FInv.new hgd (x := 0) ⟨by decide, by decide⟩)
    have hsy : synB (newF a0 1000 0 8 10 0) = false := by
      unfold fgoodB goodB at hgd
      simp only [Bool.and_eq_true, decide_eq_true_eq] at hgd
      refine decide_eq_false (fun k => ?_)
      rcases k with k | k
      · have k' : (-1 : Int) = a0 := k
        omega
      · have k' : (8 : Int) ≤ ((([] : List Ent).length : Nat) : Int) := k
        simp at k'
    have HA := Lib.hid (AInv.new (lim := 1000) (by decide))
    have HAp := Lib.hid (HA.out.put s1_0 s1_1 s1_2 s2_0 s2_1)
    obtain ⟨f, hf⟩ : ∃ f, newF a0 1000 0 8 10 0 = f := ⟨_, rfl⟩
    rw [hf] at HI hsy
    simp only [hf] at hnew
    have hput := fun W gs (h : Sq W gs (newA 1000)) => sput_any W gs (newA 1000) h s1_0 s1_1 s1_2 s2_0 s2_1
    clear hgd hf
    cases hpb : putB s1_0 s1_1 s1_2 s2_0 with
    | false =>
      have e1 : putV s1_0 s1_1 s1_2 s2_0 = 1 := by unfold putV; rw [hpb]; rfl
      have e2 : putA (newA 1000) s1_0 s1_1 s1_2 s2_0 s2_1 = newA 1000 := by unfold putA; rw [hpb]; rfl
      simp only [e1, e2] at hput
      have HP := Lib.hid hput
      clear hpb e1 e2 hsy HAp hput
      go_enter Try.func5, Try.ntmps5
      go_wp2_with (first
        | (go_at_call 6; refine (alive_yes _).mono ?_; rintro e wa ⟨rfl, hb⟩; replace HB := Lib.hid (HB.out.below hb); clear hb)
        | (go_at_call 9; refine (lrules_any _ _ _ _ _).mono ?_; rintro e wb ⟨rfl, hb⟩; replace HB := Lib.hid (HB.out.below hb); clear hb)
        | (go_at_call 8; refine (hnew _).mono ?_; rintro e wc ⟨gf, g, b, rfl, hF, hb⟩; have HF := Lib.hid (hF.at HB.out.law.size); replace HB := Lib.hid (HB.out.below hb); clear hF hb)
        | (go_at_call 7; refine (snew_yes _ 1000 (by decide)).mono ?_; rintro e wd ⟨rfl, hS, hb⟩; have HL : Hid (Ls w wd gf g b 0 f wc.heap.size (newA 1000)) := Lib.hid ⟨HB.out.law.trans (hb.mono HB.out.law.size), (HF.out.below hb).at (by have := HB.out.law.size; omega), HI.out, hS, HB.out.law.size, HA.out⟩; replace HB := Lib.hid (HB.out.below hb); have hp := HP.out _ _ hS; clear hS hb; have c0 := HB.out.ent.cell 0; have c1 := HB.out.ent.cell 1; have c2 := HB.out.ent.cell 2; have u0 := HB.out.who.cell 0; have u1 := HB.out.who.cell 1;)
        | (go_at_call 13; refine hp.mono ?_; rintro e we ⟨rfl, hg⟩; have HL2 := Lib.hid (HL.out.go hg HA.out); have hfr := HFr.out _ _ HL2.out.src; clear hg hp c0 c1 c2 u0 u1)
        | (go_at_call 18; refine hfr.mono ?_; rintro e wx ⟨rfl, hwx⟩; subst wx))
      go_ret
      exact ⟨rfl, HL2.out.law⟩
    | true =>
      have hbd := (putB_iff _ _ _ _).1 hpb
      have e1 : putV s1_0 s1_1 s1_2 s2_0 = 0 := by unfold putV; rw [hpb]; rfl
      have e2 : putA (newA 1000) s1_0 s1_1 s1_2 s2_0 s2_1 = ⟨1000, s1_0, s1_1, s1_2, s2_0, s2_1, 1000⟩ := by unfold putA; rw [hpb]; rfl
      rw [e2] at HAp
      simp only [e1, e2] at hput
      have HP := Lib.hid hput
      obtain ⟨A, hA⟩ : ∃ A : AS, (⟨1000, s1_0, s1_1, s1_2, s2_0, s2_1, 1000⟩ : AS) = A := ⟨_, rfl⟩
      have hfr : afreshB A = true := by rw [← hA]; rfl
      have hways : (∃ c, (decide (a3 < 0) = true ∧ c = timeB a3 ∨ decide (a3 < 0) = false ∧ decide (1125899906842624 < a3) = true ∧ c = timeB a3 ∨
          decide (a3 < 0) = false ∧ decide (1125899906842624 < a3) = false ∧ IntKind.i64.wrap (a3 + s1_1) = a3 + s1_1 ∧ decide (a3 + s1_1 < 0) = true ∧ c = timeB a3 ∨
          decide (a3 < 0) = false ∧ decide (1125899906842624 < a3) = false ∧ IntKind.i64.wrap (a3 + s1_1) = a3 + s1_1 ∧ decide (a3 + s1_1 < 0) = false ∧ decide (1125899906842624 < a3 + s1_1) = true ∧ c = timeB a3) ∧ STime f A a3 0 0 0 0 0 8) ∨
          (decide (a3 < 0) = false ∧ decide (1125899906842624 < a3) = false ∧ IntKind.i64.wrap (a3 + s1_1) = a3 + s1_1 ∧ decide (a3 + s1_1 < 0) = false ∧ decide (1125899906842624 < a3 + s1_1) = false ∧ STime f A a3 (a3 + s1_1) s1_2 s2_0 s2_1 3 0) := by
        have hoff : A.off = s1_1 := by rw [← hA]
        by_cases k1 : a3 < 0
        · have t1 : timeB a3 = false := decide_eq_false (by omega)
          exact .inl ⟨_, .inl ⟨decide_eq_true k1, rfl⟩, .inr (.inr (.inl ⟨hsy, hfr, .inl t1, rfl, rfl, rfl, rfl, rfl, rfl⟩))⟩
        by_cases k2 : 1125899906842624 < a3
        · have t1 : timeB a3 = false := decide_eq_false (by omega)
          exact .inl ⟨_, .inr (.inl ⟨decide_eq_false k1, decide_eq_true k2, rfl⟩), .inr (.inr (.inl ⟨hsy, hfr, .inl t1, rfl, rfl, rfl, rfl, rfl, rfl⟩))⟩
        have t1 : timeB a3 = true := decide_eq_true (by omega)
        have ew := IntWalk.i64_in (a3 + s1_1) (by omega)
        by_cases k3 : a3 + s1_1 < 0
        · have t2 : timeB (a3 + A.off) = false := decide_eq_false (by rw [hoff]; omega)
          exact .inl ⟨_, .inr (.inr (.inl ⟨decide_eq_false k1, decide_eq_false k2, ew, decide_eq_true k3, rfl⟩)), .inr (.inr (.inl ⟨hsy, hfr, .inr ⟨t1, t2⟩, rfl, rfl, rfl, rfl, rfl, rfl⟩))⟩
        by_cases k4 : 1125899906842624 < a3 + s1_1
        · have t2 : timeB (a3 + A.off) = false := decide_eq_false (by rw [hoff]; omega)
          exact .inl ⟨_, .inr (.inr (.inr ⟨decide_eq_false k1, decide_eq_false k2, ew, decide_eq_false k3, decide_eq_true k4, rfl⟩)), .inr (.inr (.inl ⟨hsy, hfr, .inr ⟨t1, t2⟩, rfl, rfl, rfl, rfl, rfl, rfl⟩))⟩
        have t2 : timeB (a3 + A.off) = true := decide_eq_true (by rw [hoff]; omega)
        refine .inr ⟨decide_eq_false k1, decide_eq_false k2, ew, decide_eq_false k3, decide_eq_false k4, .inr (.inr (.inr ⟨hsy, hfr, t1, t2, by rw [hoff], by rw [← hA], by rw [← hA], by rw [← hA], rfl, rfl⟩))⟩
      simp only [hA] at HP
      rw [hA] at HAp
      clear hpb e1 e2 hput hA hfr hsy hbd
      rcases hways with ⟨c, hways, hs⟩ | ⟨k1, k2, ew, k3, k4, hs⟩
      · have HS := Lib.hid hs
        clear hs
        rcases hways with ⟨k1, rfl⟩ | ⟨k1, k2, rfl⟩ | ⟨k1, k2, ew, k3, rfl⟩ | ⟨k1, k2, ew, k3, k4, rfl⟩ <;>
        · as_aux_lemma =>
            go_enter Try.func5, Try.ntmps5
            go_wp2_with (first
              | (go_at_call 6; refine (alive_yes _).mono ?_; rintro e wa ⟨rfl, hb⟩; replace HB := Lib.hid (HB.out.below hb); clear hb)
              | (go_at_call 9; refine (lrules_any _ _ _ _ _).mono ?_; rintro e wb ⟨rfl, hb⟩; replace HB := Lib.hid (HB.out.below hb); clear hb)
              | (go_at_call 8; refine (hnew _).mono ?_; rintro e wc ⟨gf, g, b, rfl, hF, hb⟩; have HF := Lib.hid (hF.at HB.out.law.size); replace HB := Lib.hid (HB.out.below hb); clear hF hb)
              | (go_at_call 7; refine (snew_yes _ 1000 (by decide)).mono ?_; rintro e wd ⟨rfl, hS, hb⟩; have HL : Hid (Ls w wd gf g b 0 f wc.heap.size (newA 1000)) := Lib.hid ⟨HB.out.law.trans (hb.mono HB.out.law.size), (HF.out.below hb).at (by have := HB.out.law.size; omega), HI.out, hS, HB.out.law.size, HA.out⟩; replace HB := Lib.hid (HB.out.below hb); have hp := HP.out _ _ hS; clear hS hb; have c0 := HB.out.ent.cell 0; have c1 := HB.out.ent.cell 1; have c2 := HB.out.ent.cell 2; have u0 := HB.out.who.cell 0; have u1 := HB.out.who.cell 1;)
              | (go_at_call 13; refine hp.mono ?_; rintro e we ⟨rfl, hg⟩; have HL2 := Lib.hid (HL.out.go hg HAp.out); have h1 := HL.out.keep2 HB.out.ent (by decide) hg; have h2 := HL.out.keep2 HB.out.who (by decide) hg; replace HB : Hid (Eb w _ _ we) := Lib.hid ⟨h1, h2, HL2.out.law⟩; have ht := stell_any _ _ _ _ _ _ _ _ _ HL2.out.fo HL2.out.src HL2.out.inv HL2.out.ainv a3 _ _ _ _ _ _ HS.out; clear hg hp h1 h2 c0 c1 c2 u0 u1)
              | (go_at_call 14; refine ht.mono ?_; rintro e wf ⟨rfl, hb⟩; replace HB := Lib.hid (HB.out.below hb); clear hb; have ha := HB.out.below (below_alloc _ (.cells #[.int .i64 0, .int .i64 0, .int .i64 0, .int .u16 0, .int .i64 0] 56)); have c0 : (wf.alloc (.cells #[.int .i64 0, .int .i64 0, .int .i64 0, .int .u16 0, .int .i64 0] 56)).cell? ⟨w.heap.size, 0, none⟩ = some (.int .i64 s1_0) := (ha).ent.cell 0; have c1 : (wf.alloc (.cells #[.int .i64 0, .int .i64 0, .int .i64 0, .int .u16 0, .int .i64 0] 56)).cell? ⟨w.heap.size, 1, none⟩ = some (.int .i64 s1_1) := (ha).ent.cell 1; have c2 : (wf.alloc (.cells #[.int .i64 0, .int .i64 0, .int .i64 0, .int .u16 0, .int .i64 0] 56)).cell? ⟨w.heap.size, 2, none⟩ = some (.int .i64 s1_2) := (ha).ent.cell 2; have u0 : (wf.alloc (.cells #[.int .i64 0, .int .i64 0, .int .i64 0, .int .u16 0, .int .i64 0] 56)).cell? ⟨w.heap.size + 1, 0, none⟩ = some (.int .i64 s2_0) := (ha).who.cell 0; have u1 : (wf.alloc (.cells #[.int .i64 0, .int .i64 0, .int .i64 0, .int .u16 0, .int .i64 0] 56)).cell? ⟨w.heap.size + 1, 1, none⟩ = some (.int .u16 s2_1) := (ha).who.cell 1; clear ha))
            go_ret
            exact ⟨rfl, HB.out.law.alloc HB.out.law.size _⟩
      · have HS := Lib.hid hs
        have q1 : ((a3 + s1_1) == (a3 + s1_1)) = true := by simp
        have q2 : (s1_2 == s1_2) = true := by simp
        have q3 : (s2_0 == s2_0) = true := by simp
        have q4 : (s2_1 == s2_1) = true := by simp
        clear hs
        go_enter Try.func5, Try.ntmps5
        go_wp2_with (first
          | (go_at_call 6; refine (alive_yes _).mono ?_; rintro e wa ⟨rfl, hb⟩; replace HB := Lib.hid (HB.out.below hb); clear hb)
          | (go_at_call 9; refine (lrules_any _ _ _ _ _).mono ?_; rintro e wb ⟨rfl, hb⟩; replace HB := Lib.hid (HB.out.below hb); clear hb)
          | (go_at_call 8; refine (hnew _).mono ?_; rintro e wc ⟨gf, g, b, rfl, hF, hb⟩; have HF := Lib.hid (hF.at HB.out.law.size); replace HB := Lib.hid (HB.out.below hb); clear hF hb)
          | (go_at_call 7; refine (snew_yes _ 1000 (by decide)).mono ?_; rintro e wd ⟨rfl, hS, hb⟩; have HL : Hid (Ls w wd gf g b 0 f wc.heap.size (newA 1000)) := Lib.hid ⟨HB.out.law.trans (hb.mono HB.out.law.size), (HF.out.below hb).at (by have := HB.out.law.size; omega), HI.out, hS, HB.out.law.size, HA.out⟩; replace HB := Lib.hid (HB.out.below hb); have hp := HP.out _ _ hS; clear hS hb; have c0 := HB.out.ent.cell 0; have c1 := HB.out.ent.cell 1; have c2 := HB.out.ent.cell 2; have u0 := HB.out.who.cell 0; have u1 := HB.out.who.cell 1;)
          | (go_at_call 13; refine hp.mono ?_; rintro e we ⟨rfl, hg⟩; have HL2 := Lib.hid (HL.out.go hg HAp.out); have h1 := HL.out.keep2 HB.out.ent (by decide) hg; have h2 := HL.out.keep2 HB.out.who (by decide) hg; replace HB : Hid (Eb w _ _ we) := Lib.hid ⟨h1, h2, HL2.out.law⟩; have ht := stell_any _ _ _ _ _ _ _ _ _ HL2.out.fo HL2.out.src HL2.out.inv HL2.out.ainv a3 _ _ _ _ _ _ HS.out; clear hg hp h1 h2 c0 c1 c2 u0 u1)
          | (go_at_call 14; refine ht.mono ?_; rintro e wf ⟨rfl, hb⟩; replace HB := Lib.hid (HB.out.below hb); clear hb; have ha := HB.out.below (below_alloc _ (.cells #[.int .i64 (a3 + s1_1), .int .i64 s1_2, .int .i64 s2_0, .int .u16 s2_1, .int .i64 3] 56)); have c0 : (wf.alloc (.cells #[.int .i64 (a3 + s1_1), .int .i64 s1_2, .int .i64 s2_0, .int .u16 s2_1, .int .i64 3] 56)).cell? ⟨w.heap.size, 0, none⟩ = some (.int .i64 s1_0) := (ha).ent.cell 0; have c1 : (wf.alloc (.cells #[.int .i64 (a3 + s1_1), .int .i64 s1_2, .int .i64 s2_0, .int .u16 s2_1, .int .i64 3] 56)).cell? ⟨w.heap.size, 1, none⟩ = some (.int .i64 s1_1) := (ha).ent.cell 1; have c2 : (wf.alloc (.cells #[.int .i64 (a3 + s1_1), .int .i64 s1_2, .int .i64 s2_0, .int .u16 s2_1, .int .i64 3] 56)).cell? ⟨w.heap.size, 2, none⟩ = some (.int .i64 s1_2) := (ha).ent.cell 2; have u0 : (wf.alloc (.cells #[.int .i64 (a3 + s1_1), .int .i64 s1_2, .int .i64 s2_0, .int .u16 s2_1, .int .i64 3] 56)).cell? ⟨w.heap.size + 1, 0, none⟩ = some (.int .i64 s2_0) := (ha).who.cell 0; have u1 : (wf.alloc (.cells #[.int .i64 (a3 + s1_1), .int .i64 s1_2, .int .i64 s2_0, .int .u16 s2_1, .int .i64 3] 56)).cell? ⟨w.heap.size + 1, 1, none⟩ = some (.int .u16 s2_1) := (ha).who.cell 1; clear ha))
        go_ret
        exact ⟨rfl, HB.out.law.alloc HB.out.law.size _⟩

set_option maxRecDepth 100000 in
theorem lifted (os : Os) (started : os.Started) (H : Type) (enc : TypeId × Value → H) :
    ReturnsInHanded {} Try.checked os 5 .any (Rows.sourceExactSpec.pre6 enc Try.prog Try.f5 Rows.sourceExactRow.domain false) (Rows.sourceExactSpec.post enc Try.prog Try.f5 false true false false) := by
  refine returnsInHanded_of_change (C := Try.checked) own started (by kernel_rfl) Try.func5
    (ChangeSpec.witness6 (enc := enc) (C := Try.checked) false ⟨#[], #[.int .i64 0, .agg #[.int .i64 0, .int .i64 0, .int .i64 0], .agg #[.int .i64 0, .int .u16 0], .int .i64 0], []⟩ 8 (by kernel_rfl) (by kernel_rfl) (by kernel_rfl) (by kernel_rfl)) ?_
  intro W base args ds gs before hval0 hW hcnd _
  have hval : ∀ (j : Nat) t v, Try.f5.params[j]? = some t → args[j]? = some v → Value.okWide Try.prog W .any base t v := hval0
  have hW' := hW
  obtain ⟨p, q, hA0, hV, rfl, hfz, hnd⟩ := hW
  have hA : DataW.TrodAll enc Try.prog W 0 (fun _ => true) true Try.f5.params.toList args.toList ds p := hA0
  have hAk := hA
  rw [Try.params5] at hA hval
  obtain ⟨v0, vs0, d0, ds0, p0, q0, hargs, rfl, hp, h0, r0⟩ := trodAll_cons hA
  obtain ⟨v1, vs1, d1, ds1, p1, q1, rfl, rfl, rfl, h1, r1⟩ := trodAll_cons r0
  obtain ⟨v2, vs2, d2, ds2, p2, q2, rfl, rfl, rfl, h2, r2⟩ := trodAll_cons r1
  obtain ⟨v3, vs3, d3, ds3, p3, q3, rfl, rfl, rfl, h3, r3⟩ := trodAll_cons r2
  obtain ⟨rfl, rfl, rfl⟩ := trodAll_nil r3
  obtain rfl : args = #[v0, v1, v2, v3] := by cases args; simp_all
  obtain ⟨rfl, rfl⟩ := trodVars_none hV
  clear hA0 hval0 hargs
  simp only [List.append_nil] at hW'
  have hend : ∀ W' : World, Below W.heap.size W W' → Rows.sourceExactSpec.post enc Try.prog Try.f5 false true false false W #[v0, v1, v2, v3] (.bool true) W' := fun W' hb =>
    law_post (tb := 4) hW' hAk rfl (by kernel_rfl) (by kernel_rfl) (by kernel_rfl) Try.underlying4 rfl rfl rfl hb
  clear hW' hAk hp
  obtain ⟨a0, rfl, rfl, rfl, w0⟩ := open_int Try.underlying3 (hval 0 3 v0 rfl rfl) h0
  obtain ⟨ns1, rfl, hl1, hw1⟩ := ints_struct (ks := [.i64, .i64, .i64]) Try.underlying42 (by kernel_rfl) (by kernel_rfl) (by kernel_rfl) (hval 1 42 v1 rfl rfl) h1
  obtain ⟨s1_0, s1_1, s1_2, rfl⟩ := split3 hl1
  clear hl1
  obtain ⟨ns2, rfl, hl2, hw2⟩ := ints_struct (ks := [.i64, .u16]) Try.underlying53 (by kernel_rfl) (by kernel_rfl) (by kernel_rfl) (hval 2 53 v2 rfl rfl) h2
  obtain ⟨s2_0, s2_1, rfl⟩ := split2 hl2
  clear hl2
  obtain ⟨a3, rfl, rfl, rfl, w3⟩ := open_int Try.underlying3 (hval 3 3 v3 rfl rfl) h3
  refine (walk a0 s1_0 s1_1 s1_2 s2_0 s2_1 a3 W w0 (hw1 0 _ _ rfl rfl) (hw1 1 _ _ rfl rfl) (hw1 2 _ _ rfl rfl) (hw2 0 _ _ rfl rfl) (hw2 1 _ _ rfl rfl) w3).mono fun e W' ⟨he, hg⟩ => ?_
  subst he
  exact ⟨_, rfl, hend W' hg⟩

theorem over : Rows.sourceExactRow.holds Try.pinned (OpenSpec.ofChange Rows.sourceExactSpec) :=
  OpenClaim.holds_of_wide 5 Try.f5 rfl rfl rfl rfl rfl rfl rfl ⟨rfl, rfl, rfl, rfl, rfl⟩ rfl rfl rfl rfl rfl (by kernel_rfl) Try.func5 (by kernel_rfl)
    (of_decide_eq_true (by kernel_rfl)) (by unfold Func.isWrapper; first | (rw [if_pos (by decide +kernel)]; kernel_rfl) | (rw [if_neg (by decide +kernel)]; exact ⟨rfl, rfl⟩))
    (fun os started H enc _ => lifted os started H enc)

/-- THE STATEMENT -/
theorem proved : Rows.SourceExactSaid :=
  over
#print axioms proved
end Go.Proofs.Ytgmeakcfiaopcaa.sourceExact
