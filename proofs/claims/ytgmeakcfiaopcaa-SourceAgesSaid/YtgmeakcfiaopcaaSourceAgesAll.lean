/-
  What was asked is good for as many rounds as the limit, not longer: for all limits, entries, and whose they are the law answers true; without conditions.
  The walk is the prover's own; the frame of the row's step follows the kit's template.
-/
import Derived.Test.YtgmeakcfiaopcaaRows
import Derived.Test.YtgmeakcfiaopcaaGrpSc1
import Derived.Test.YtgmeakcfiaopcaaGrpSourceAges5
import Derived.Test.YtgmeakcfiaopcaaGrpSc4
import Derived.LoopTactic
import Derived.Deep.QuietTactic
import Derived.BigQuiet
import Derived.Deep.CutBlock
import Derived.Deep.CutRange
import Derived.Laws.StructEq
namespace Go.Proofs.Ytgmeakcfiaopcaa.sourceAges
open Go.ChangeShapes Go.WideShapes Go.ChangeAt Go.RowKit Go.ChangeMaps Go.WideElems
set_option linter.unusedVariables false

theorem split3 {ns : List Int} (h : ns.length = 3) : ∃ s1_0 s1_1 s1_2 : Int, ns = [s1_0, s1_1, s1_2] := by
  match ns, h with
  | [y0, y1, y2], _ => exact ⟨_, _, _, rfl⟩
theorem split2 {ns : List Int} (h : ns.length = 2) : ∃ s2_0 s2_1 : Int, ns = [s2_0, s2_1] := by
  match ns, h with
  | [y0, y1], _ => exact ⟨_, _, rfl⟩
theorem own : ownKnob Try.prog.godebug = none := by kernel_rfl
set_option linter.unusedSimpArgs false in
set_option maxHeartbeats 16000000 in
set_option maxRecDepth 100000 in
theorem walk (a0 : Int) (s1_0 s1_1 s1_2 : Int) (s2_0 s2_1 : Int) (w : World) (w0 : (Lit.int .i64 a0).wf = true) (w1_0 : (Lit.int .i64 s1_0).wf = true) (w1_1 : (Lit.int .i64 s1_1).wf = true) (w1_2 : (Lit.int .i64 s1_2).wf = true) (w2_0 : (Lit.int .i64 s2_0).wf = true) (w2_1 : (Lit.int .u16 s2_1).wf = true) :
    Calls Try.prog 4 #[.int .i64 a0, .agg #[.int .i64 s1_0, .int .i64 s1_1, .int .i64 s1_2], .agg #[.int .i64 s2_0, .int .u16 s2_1]] w fun e w' => e = .returned (.bool true) ∧ Below w.heap.size w w' := by
  have HB := Lib.hid (Eb.start w #[.int .i64 s1_0, .int .i64 s1_1, .int .i64 s1_2] #[.int .i64 s2_0, .int .u16 s2_1])
  have HFr := Lib.hid (fun W gs a (h : Sq W gs a) => sfresh_any W gs a h)
  have fl := fits_wf w0
  clear w0 w1_0 w1_1 w1_2 w2_0 w2_1
  by_cases hlim : a0 < 1 ∨ 1000 < a0
  · have hnew := fun W => snew_no W a0 hlim
    clear hlim
    go_enter Try.func4, Try.ntmps4
    go_wp2_with (first
      | (go_at_call 6; refine (alive_yes _).mono ?_; rintro e wa ⟨rfl, hb⟩; replace HB := Lib.hid (HB.out.below hb); clear hb)
      | (go_at_call 7; refine (hnew _).mono ?_; rintro e wd ⟨rfl, hwd⟩; subst hwd))
    go_ret
    exact ⟨rfl, HB.out.law⟩
  have hlim2 : 1 ≤ a0 ∧ a0 ≤ 1000 := by omega
  clear hlim
  have HA := Lib.hid (AInv.new hlim2)
  have HAp := Lib.hid (HA.out.put s1_0 s1_1 s1_2 s2_0 s2_1)
  have hput := fun W gs (h : Sq W gs (newA a0)) => sput_any W gs (newA a0) h s1_0 s1_1 s1_2 s2_0 s2_1
  cases hpb : putB s1_0 s1_1 s1_2 s2_0 with
  | false =>
    have e1 : putV s1_0 s1_1 s1_2 s2_0 = 1 := by unfold putV; rw [hpb]; rfl
    have e2 : putA (newA a0) s1_0 s1_1 s1_2 s2_0 s2_1 = newA a0 := by unfold putA; rw [hpb]; rfl
    simp only [e1, e2] at hput
    have HP := Lib.hid hput
    have hz : afreshB (newA a0) = false := rfl
    clear hpb e1 e2 HAp hput
    go_enter Try.func4, Try.ntmps4
    go_wp2_with (first
      | (go_at_call 6; refine (alive_yes _).mono ?_; rintro e wa ⟨rfl, hb⟩; replace HB := Lib.hid (HB.out.below hb); clear hb)
      | (go_at_call 7; refine (snew_yes _ a0 hlim2).mono ?_; rintro e wd ⟨rfl, hS, hb⟩; have hge := HB.out.law.size; replace HB := Lib.hid (HB.out.below hb); have HG := Lib.hid hge; have hp := HP.out _ _ hS; clear hS hb hge; have c0 := HB.out.ent.cell 0; have c1 := HB.out.ent.cell 1; have c2 := HB.out.ent.cell 2; have u0 := HB.out.who.cell 0; have u1 := HB.out.who.cell 1;)
      | (go_at_call 13; refine hp.mono ?_; rintro e we ⟨rfl, hg⟩; have HL2 : Hid (Below w.heap.size w we) := Lib.hid (Below.chg HB.out.law hg.2 HB.out.law.size (fun k e => by have := HG.out; omega)); have hfr := HFr.out _ _ _ hg.1; rw [hz] at hfr; clear hg hp c0 c1 c2 u0 u1)
      | (go_at_call 18; refine hfr.mono ?_; rintro e wx ⟨rfl, hwx⟩; subst wx))
    go_ret
    exact ⟨rfl, HL2.out⟩
  | true =>
    have e1 : putV s1_0 s1_1 s1_2 s2_0 = 0 := by unfold putV; rw [hpb]; rfl
    have e2 : putA (newA a0) s1_0 s1_1 s1_2 s2_0 s2_1 = ⟨a0, s1_0, s1_1, s1_2, s2_0, s2_1, a0⟩ := by unfold putA; rw [hpb]; rfl
    rw [e2] at HAp
    simp only [e1, e2] at hput
    have HP := Lib.hid hput
    clear hpb e1 e2 hput
    go_enter Try.func4, Try.ntmps4
    go_wp2_with (first
      | (go_at_call 6; refine (alive_yes _).mono ?_; rintro e wa ⟨rfl, hb⟩; replace HB := Lib.hid (HB.out.below hb); clear hb)
      | (go_at_call 7; refine (snew_yes _ a0 hlim2).mono ?_; rintro e wd ⟨rfl, hS, hb⟩; have hge := HB.out.law.size; replace HB := Lib.hid (HB.out.below hb); have HG := Lib.hid hge; have hp := HP.out _ _ hS; clear hS hb hge; have c0 := HB.out.ent.cell 0; have c1 := HB.out.ent.cell 1; have c2 := HB.out.ent.cell 2; have u0 := HB.out.who.cell 0; have u1 := HB.out.who.cell 1;)
      | (go_at_call 13; refine hp.mono ?_; rintro e we ⟨rfl, hg⟩; have HL2 : Hid (Below w.heap.size w we) := Lib.hid (Below.chg HB.out.law hg.2 HB.out.law.size (fun k e => by have := HG.out; omega)); have HS2 := Lib.hid hg.1; clear hg hp c0 c1 c2 u0 u1))
    obtain ⟨gs, hgs⟩ : ∃ gs, wa.heap.size = gs := ⟨_, rfl⟩
    rw [hgs] at HG HS2
    simp only [hgs]
    clear hgs HB HA HP
    have HAp0 := Lib.hid HAp.out
    go_loopw [9] (fun i wr => ∃ (k : Nat) (l : Int), i = .int .i64 k ∧ (k : Int) + l = a0 ∧ 0 ≤ l ∧ Sq wr gs ⟨a0, s1_0, s1_1, s1_2, s2_0, s2_1, l⟩ ∧ AInv ⟨a0, s1_0, s1_1, s1_2, s2_0, s2_1, l⟩ ∧ Below w.heap.size w wr) (fun i _ => (a0 - intOf i).toNat)
    case atStart => exact ⟨0, a0, rfl, by omega, by omega, HS2.out, HAp.out, HL2.out⟩
    case round =>
      obtain ⟨k, l, rfl, hk, hl0, hS, hA, hL⟩ := hrel
      have HSr := Lib.hid hS
      have HAr := Lib.hid hA
      have HLr := Lib.hid hL
      clear hS hA hL HS2 HL2 HAp HAp0
      have hfr := HFr.out _ _ _ HSr.out
      by_cases hlt : (k : Int) < a0
      · have d1 : decide ((k : Int) < a0) = true := decide_eq_true hlt
        have hz : afreshB ⟨a0, s1_0, s1_1, s1_2, s2_0, s2_1, l⟩ = true := decide_eq_true (by show 0 < l; omega)
        rw [hz] at hfr
        have ew := IntWalk.i64_in ((k : Int) + 1) (by omega)
        have hbt := sbeat_any _ _ _ HSr.out HAr.out
        have e2 : beatA ⟨a0, s1_0, s1_1, s1_2, s2_0, s2_1, l⟩ = ⟨a0, s1_0, s1_1, s1_2, s2_0, s2_1, l - 1⟩ := if_pos (by show 0 < l; omega)
        have HA2 := Lib.hid HAr.out.beat
        rw [e2] at hbt HA2
        clear hz e2
        go_wp2_with (first
          | (go_at_call 18; refine hfr.mono ?_; rintro e wx ⟨rfl, hwx⟩; subst wx)
          | (go_at_call 12; refine hbt.mono ?_; rintro e wz ⟨rfl, hg⟩; have HLz : Hid (Below w.heap.size w wz) := Lib.hid (Below.chg HLr.out hg.2 HLr.out.size (fun k e => by have := HG.out; omega)); have HSz := Lib.hid hg.1; clear hg))
        go_roundw
        case rel => exact ⟨k + 1, l - 1, by go_num, by omega, by omega, HSz.out, HA2.out, HLz.out⟩
        case measure => simp [intOf]; omega
      · have d1 : decide ((k : Int) < a0) = false := decide_eq_false hlt
        have hz : afreshB ⟨a0, s1_0, s1_1, s1_2, s2_0, s2_1, l⟩ = false := decide_eq_false (by show ¬ 0 < l; have := HAr.out.left; dsimp only at this; omega)
        rw [hz] at hfr
        clear hz
        go_wp2_with (go_at_call 18; refine hfr.mono ?_; rintro e wx ⟨rfl, hwx⟩; subst wx)
        go_ret
        exact ⟨rfl, HLr.out⟩

set_option maxRecDepth 100000 in
theorem lifted (os : Os) (started : os.Started) (H : Type) (enc : TypeId × Value → H) :
    ReturnsInHanded {} Try.checked os 4 .any (Rows.sourceAgesSpec.pre6 enc Try.prog Try.f4 Rows.sourceAgesRow.domain false) (Rows.sourceAgesSpec.post enc Try.prog Try.f4 false true false false) := by
  refine returnsInHanded_of_change (C := Try.checked) own started (by kernel_rfl) Try.func4
    (ChangeSpec.witness6 (enc := enc) (C := Try.checked) false ⟨#[], #[.int .i64 0, .agg #[.int .i64 0, .int .i64 0, .int .i64 0], .agg #[.int .i64 0, .int .u16 0]], []⟩ 8 (by kernel_rfl) (by kernel_rfl) (by kernel_rfl) (by kernel_rfl)) ?_
  intro W base args ds gs before hval0 hW hcnd _
  have hval : ∀ (j : Nat) t v, Try.f4.params[j]? = some t → args[j]? = some v → Value.okWide Try.prog W .any base t v := hval0
  have hW' := hW
  obtain ⟨p, q, hA0, hV, rfl, hfz, hnd⟩ := hW
  have hA : DataW.TrodAll enc Try.prog W 0 (fun _ => true) true Try.f4.params.toList args.toList ds p := hA0
  have hAk := hA
  rw [Try.params4] at hA hval
  obtain ⟨v0, vs0, d0, ds0, p0, q0, hargs, rfl, hp, h0, r0⟩ := trodAll_cons hA
  obtain ⟨v1, vs1, d1, ds1, p1, q1, rfl, rfl, rfl, h1, r1⟩ := trodAll_cons r0
  obtain ⟨v2, vs2, d2, ds2, p2, q2, rfl, rfl, rfl, h2, r2⟩ := trodAll_cons r1
  obtain ⟨rfl, rfl, rfl⟩ := trodAll_nil r2
  obtain rfl : args = #[v0, v1, v2] := by cases args; simp_all
  obtain ⟨rfl, rfl⟩ := trodVars_none hV
  clear hA0 hval0 hargs
  simp only [List.append_nil] at hW'
  have hend : ∀ W' : World, Below W.heap.size W W' → Rows.sourceAgesSpec.post enc Try.prog Try.f4 false true false false W #[v0, v1, v2] (.bool true) W' := fun W' hb =>
    law_post (tb := 4) hW' hAk rfl (by kernel_rfl) (by kernel_rfl) (by kernel_rfl) Try.underlying4 rfl rfl rfl hb
  clear hW' hAk hp
  obtain ⟨a0, rfl, rfl, rfl, w0⟩ := open_int Try.underlying3 (hval 0 3 v0 rfl rfl) h0
  obtain ⟨ns1, rfl, hl1, hw1⟩ := ints_struct (ks := [.i64, .i64, .i64]) Try.underlying42 (by kernel_rfl) (by kernel_rfl) (by kernel_rfl) (hval 1 42 v1 rfl rfl) h1
  obtain ⟨s1_0, s1_1, s1_2, rfl⟩ := split3 hl1
  clear hl1
  obtain ⟨ns2, rfl, hl2, hw2⟩ := ints_struct (ks := [.i64, .u16]) Try.underlying53 (by kernel_rfl) (by kernel_rfl) (by kernel_rfl) (hval 2 53 v2 rfl rfl) h2
  obtain ⟨s2_0, s2_1, rfl⟩ := split2 hl2
  clear hl2
  refine (walk a0 s1_0 s1_1 s1_2 s2_0 s2_1 W w0 (hw1 0 _ _ rfl rfl) (hw1 1 _ _ rfl rfl) (hw1 2 _ _ rfl rfl) (hw2 0 _ _ rfl rfl) (hw2 1 _ _ rfl rfl)).mono fun e W' ⟨he, hg⟩ => ?_
  subst he
  exact ⟨_, rfl, hend W' hg⟩

theorem over : Rows.sourceAgesRow.holds Try.pinned (OpenSpec.ofChange Rows.sourceAgesSpec) :=
  OpenClaim.holds_of_wide 4 Try.f4 rfl rfl rfl rfl rfl rfl rfl ⟨rfl, rfl, rfl, rfl, rfl⟩ rfl rfl rfl rfl rfl (by kernel_rfl) Try.func4 (by kernel_rfl)
    (of_decide_eq_true (by kernel_rfl)) (by unfold Func.isWrapper; first | (rw [if_pos (by decide +kernel)]; kernel_rfl) | (rw [if_neg (by decide +kernel)]; exact ⟨rfl, rfl⟩))
    (fun os started H enc _ => lifted os started H enc)

/-- THE STATEMENT -/
theorem proved : Rows.SourceAgesSaid :=
  over
#print axioms proved
end Go.Proofs.Ytgmeakcfiaopcaa.sourceAges
