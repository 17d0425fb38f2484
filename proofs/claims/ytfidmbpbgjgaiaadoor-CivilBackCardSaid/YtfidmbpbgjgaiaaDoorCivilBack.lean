/-
  Package civil: from dates to numbers and back, to texts and back, one comes to what was, and the day behind a date has the next number: the law answers true for every date. Condition: the library's tables lie as the program's text lays them (the card ties them).
  The walk is the prover's own; the frame of the row's step follows the kit's template.
-/
import Derived.Test.YtfidmbpbgjgaiaaDoorRows
import Derived.Test.YtfidmbpbgjgaiaaDoorLawKit
import Derived.Test.YtfidmbpbgjgaiaaDoorCards
import Derived.Test.YtfidmbpbgjgaiaaDoorTie
import Derived.SevenTiedAt
import Derived.Test.YtfidmbpbgjgaiaaDoorStructArg
import Derived.Test.YtfidmbpbgjgaiaaDoorCvY
namespace Go.Proofs.YtfidmbpbgjgaiaaDoor.civilBack
open Go.ChangeShapes Go.WideShapes Go.ChangeAt Go.RowKit Go.ChangeMaps Go.WideElems
set_option linter.unusedVariables false

theorem split3 {ns : List Int} (h : ns.length = 3) : ∃ s0_0 s0_1 s0_2 : Int, ns = [s0_0, s0_1, s0_2] := by
  match ns, h with
  | [y0, y1, y2], _ => exact ⟨_, _, _, rfl⟩
theorem own : ownKnob Tryd.prog.godebug = none := by kernel_rfl
theorem of_is {y m d : Int} (h : CanD y m d) (w : World) :
    Calls Tryd.prog 15 #[.int .i64 (numV y m d)] w fun e w' => e = .returned (.tuple #[.agg #[.int .i64 y, .int .i64 m, .int .i64 d], .bool true]) ∧ Below w.heap.size w w' := by
  have hb := num_bd h
  refine (of_yes (numV y m d) w hb.1 hb.2).mono ?_
  rintro e w' ⟨⟨y', m', d', k, hn, he⟩, hw⟩
  obtain ⟨rfl, rfl, rfl⟩ := num_same k h hn
  exact ⟨he, hw⟩
set_option maxHeartbeats 1000000 in
theorem walk (s0_0 s0_1 s0_2 : Int) (w : World) (w0_0 : (Lit.int .i64 s0_0).wf = true) (w0_1 : (Lit.int .i64 s0_1).wf = true) (w0_2 : (Lit.int .i64 s0_2).wf = true) (hT : Tab w) :
    Calls Tryd.prog 5 #[.agg #[.int .i64 s0_0, .int .i64 s0_1, .int .i64 s0_2]] w fun e w' => e = .returned (.bool true) ∧ Below w.heap.size w w' := by
  have HT := Lib.hid hT
  clear hT
  have HB := Lib.hid (Box.start w 23 #[.int .i64 s0_0, .int .i64 s0_1, .int .i64 s0_2])
  obtain ⟨c0, c1, c2, _⟩ := HB.out.cells3
  have kg := fun W => rgood_any s0_0 s0_1 s0_2 W
  have HT1 := Lib.hid (HT.out.below (below_alloc w (.cells #[.int .i64 s0_0, .int .i64 s0_1, .int .i64 s0_2] 23)))
  by_cases hc : ¬ CanD s0_0 s0_1 s0_2
  · rw [goodD_no hc] at kg
    clear hc
    go_enter Tryd.func5, Tryd.ntmps5
    go_wp2_with (first
      | (go_at_call 8; refine (alive_yes _ HT1.out).mono ?_; rintro e wx ⟨rfl, hb⟩; replace HB := Lib.hid (HB.out.next hb); clear c0 c1 c2; obtain ⟨c0, c1, c2, _⟩ := HB.out.cells3; clear hb)
      | (go_at_call 9; refine (kg _).mono ?_; rintro e wx ⟨rfl, hb⟩; replace HB := Lib.hid (HB.out.next hb); clear c0 c1 c2; obtain ⟨c0, c1, c2, _⟩ := HB.out.cells3; clear hb)
      | (go_at_call 10; refine (k1 _).mono ?_; rintro e wx ⟨rfl, hb⟩; replace HB := Lib.hid (HB.out.next hb); clear c0 c1 c2; obtain ⟨c0, c1, c2, _⟩ := HB.out.cells3; clear hb)
      | (go_at_call 15; with_reducible refine (k2 _).mono ?_; rintro e w2 ⟨rfl, hb⟩; have HX := Lib.hid (mk1 w2); replace HB := Lib.hid ((HB.out.next hb).next (mk1 w2).below); clear c0 c1 c2; obtain ⟨c0, c1, c2, _⟩ := HB.out.cells3; clear hb)
      | (go_at_call 12; refine (k3 _ (HT.out.below HB.out.below)).mono ?_; rintro e w3 ⟨rfl, hb⟩; replace HB := Lib.hid (HB.out.next hb); replace HX := Lib.hid (HX.out.next hb); clear c0 c1 c2 hb)
      | (go_at_call 16; refine (k4 _).mono ?_; rintro e w4 ⟨rfl, hb⟩; have HY := Lib.hid (mk1 w4); replace HB := Lib.hid ((HB.out.next hb).next (mk1 w4).below); replace HX := Lib.hid ((HX.out.next hb).next (mk1 w4).below); obtain ⟨c0, c1, c2, _⟩ := HB.out.cells3; obtain ⟨x0, x1, x2, _⟩ := HX.out.cells3; obtain ⟨y0, y1, y2, _⟩ := HY.out.cells3; clear hb)
      | (go_at_call 18; refine (k5 _).mono ?_; rintro e w5 ⟨rfl, hb⟩; have HZ := Lib.hid (mk2 w5); replace HB := Lib.hid ((HB.out.next hb).next (mk2 w5).below); clear c0 c1 c2 x0 x1 x2 y0 y1 y2 hb)
      | (go_at_call 15; with_reducible refine (k6 _).mono ?_; rintro e w6 ⟨rfl, hb⟩; have HV := Lib.hid (mk3 w6); replace HB := Lib.hid ((HB.out.next hb).next (mk3 w6).below); replace HZ := Lib.hid ((HZ.out.next hb).next (mk3 w6).below); obtain ⟨z0, z1, z2, _⟩ := HZ.out.cells3; obtain ⟨v0, v1, v2, _⟩ := HV.out.cells3; clear hb))
    go_ret
    exact ⟨rfl, HB.out.below⟩
  replace hc := Classical.not_not.1 hc
  rw [goodD_yes hc] at kg
  have mk1 := fun W => Box.start W 23 #[.int .i64 s0_0, .int .i64 s0_1, .int .i64 s0_2]
  have k1 := fun W => number_yes s0_0 s0_1 s0_2 W hc
  have k2 := fun W => of_is hc W
  have k3 := fun W hW => text_yes s0_0 s0_1 s0_2 W hc hW
  have k4 := fun W => parse_yes _ s0_0 s0_1 s0_2 W (text_is hc)
  have k5 := fun W => rnext_any s0_0 s0_1 s0_2 W hc
  have hn := next_num hc
  have nb := num_bd hc
  have e1 := IntWalk.i64_in (numV s0_0 s0_1 s0_2 + 1) (by omega)
  by_cases g : 9999 < (nextD s0_0 s0_1 s0_2).1
  · have hf := next_far hc g
    have k6 := fun W => of_no (numV s0_0 s0_1 s0_2 + 1) W (.inr hf)
    unfold GaveDate at k6
    obtain ⟨N, hN⟩ : ∃ N, numV s0_0 s0_1 s0_2 = N := ⟨_, rfl⟩
    rw [hN] at k1 k2 k6 e1
    obtain ⟨A, hA⟩ : ∃ N, (nextD s0_0 s0_1 s0_2).1 = N := ⟨_, rfl⟩
    obtain ⟨B, hB⟩ : ∃ N, (nextD s0_0 s0_1 s0_2).2.1 = N := ⟨_, rfl⟩
    obtain ⟨C, hC⟩ : ∃ N, (nextD s0_0 s0_1 s0_2).2.2 = N := ⟨_, rfl⟩
    simp only [hA, hB, hC] at k5 g
    have mk2 := fun W => Box.start W 25 #[.int .i64 A, .int .i64 B, .int .i64 C]
    have mk3 := fun W => Box.start W 23 #[.int .i64 0, .int .i64 0, .int .i64 0]
    clear hN hA hB hC hc hn nb hf
    go_enter Tryd.func5, Tryd.ntmps5
    go_wp2_with (first
      | (go_at_call 8; refine (alive_yes _ HT1.out).mono ?_; rintro e wx ⟨rfl, hb⟩; replace HB := Lib.hid (HB.out.next hb); clear c0 c1 c2; obtain ⟨c0, c1, c2, _⟩ := HB.out.cells3; clear hb)
      | (go_at_call 9; refine (kg _).mono ?_; rintro e wx ⟨rfl, hb⟩; replace HB := Lib.hid (HB.out.next hb); clear c0 c1 c2; obtain ⟨c0, c1, c2, _⟩ := HB.out.cells3; clear hb)
      | (go_at_call 10; refine (k1 _).mono ?_; rintro e wx ⟨rfl, hb⟩; replace HB := Lib.hid (HB.out.next hb); clear c0 c1 c2; obtain ⟨c0, c1, c2, _⟩ := HB.out.cells3; clear hb)
      | (go_at_call 15; with_reducible refine (k2 _).mono ?_; rintro e w2 ⟨rfl, hb⟩; have HX := Lib.hid (mk1 w2); replace HB := Lib.hid ((HB.out.next hb).next (mk1 w2).below); clear c0 c1 c2; obtain ⟨c0, c1, c2, _⟩ := HB.out.cells3; clear hb)
      | (go_at_call 12; refine (k3 _ (HT.out.below HB.out.below)).mono ?_; rintro e w3 ⟨rfl, hb⟩; replace HB := Lib.hid (HB.out.next hb); replace HX := Lib.hid (HX.out.next hb); clear c0 c1 c2 hb)
      | (go_at_call 16; refine (k4 _).mono ?_; rintro e w4 ⟨rfl, hb⟩; have HY := Lib.hid (mk1 w4); replace HB := Lib.hid ((HB.out.next hb).next (mk1 w4).below); replace HX := Lib.hid ((HX.out.next hb).next (mk1 w4).below); obtain ⟨c0, c1, c2, _⟩ := HB.out.cells3; obtain ⟨x0, x1, x2, _⟩ := HX.out.cells3; obtain ⟨y0, y1, y2, _⟩ := HY.out.cells3; clear hb)
      | (go_at_call 18; refine (k5 _).mono ?_; rintro e w5 ⟨rfl, hb⟩; have HZ := Lib.hid (mk2 w5); replace HB := Lib.hid ((HB.out.next hb).next (mk2 w5).below); clear c0 c1 c2 x0 x1 x2 y0 y1 y2 hb)
      | (go_at_call 15; with_reducible refine (k6 _).mono ?_; rintro e w6 ⟨rfl, hb⟩; have HV := Lib.hid (mk3 w6); replace HB := Lib.hid ((HB.out.next hb).next (mk3 w6).below); replace HZ := Lib.hid ((HZ.out.next hb).next (mk3 w6).below); obtain ⟨z0, z1, z2, _⟩ := HZ.out.cells3; obtain ⟨v0, v1, v2, _⟩ := HV.out.cells3; clear hb))
    go_ret
    exact ⟨rfl, HB.out.below⟩
  · have d9 : decide (9999 < (nextD s0_0 s0_1 s0_2).1) = false := decide_eq_false g
    have hcn := next_can hc g
    have k6 := fun W => of_is hcn W
    rw [hn] at k6
    obtain ⟨N, hN⟩ : ∃ N, numV s0_0 s0_1 s0_2 = N := ⟨_, rfl⟩
    rw [hN] at k1 k2 k6 e1
    obtain ⟨A, hA⟩ : ∃ N, (nextD s0_0 s0_1 s0_2).1 = N := ⟨_, rfl⟩
    obtain ⟨B, hB⟩ : ∃ N, (nextD s0_0 s0_1 s0_2).2.1 = N := ⟨_, rfl⟩
    obtain ⟨C, hC⟩ : ∃ N, (nextD s0_0 s0_1 s0_2).2.2 = N := ⟨_, rfl⟩
    simp only [hA, hB, hC] at k5 k6 g d9
    have mk2 := fun W => Box.start W 25 #[.int .i64 A, .int .i64 B, .int .i64 C]
    have mk3 := fun W => Box.start W 23 #[.int .i64 A, .int .i64 B, .int .i64 C]
    clear hN hA hB hC hc hn nb hcn
    go_enter Tryd.func5, Tryd.ntmps5
    go_wp2_with (first
      | (go_at_call 8; refine (alive_yes _ HT1.out).mono ?_; rintro e wx ⟨rfl, hb⟩; replace HB := Lib.hid (HB.out.next hb); clear c0 c1 c2; obtain ⟨c0, c1, c2, _⟩ := HB.out.cells3; clear hb)
      | (go_at_call 9; refine (kg _).mono ?_; rintro e wx ⟨rfl, hb⟩; replace HB := Lib.hid (HB.out.next hb); clear c0 c1 c2; obtain ⟨c0, c1, c2, _⟩ := HB.out.cells3; clear hb)
      | (go_at_call 10; refine (k1 _).mono ?_; rintro e wx ⟨rfl, hb⟩; replace HB := Lib.hid (HB.out.next hb); clear c0 c1 c2; obtain ⟨c0, c1, c2, _⟩ := HB.out.cells3; clear hb)
      | (go_at_call 15; with_reducible refine (k2 _).mono ?_; rintro e w2 ⟨rfl, hb⟩; have HX := Lib.hid (mk1 w2); replace HB := Lib.hid ((HB.out.next hb).next (mk1 w2).below); clear c0 c1 c2; obtain ⟨c0, c1, c2, _⟩ := HB.out.cells3; clear hb)
      | (go_at_call 12; refine (k3 _ (HT.out.below HB.out.below)).mono ?_; rintro e w3 ⟨rfl, hb⟩; replace HB := Lib.hid (HB.out.next hb); replace HX := Lib.hid (HX.out.next hb); clear c0 c1 c2 hb)
      | (go_at_call 16; refine (k4 _).mono ?_; rintro e w4 ⟨rfl, hb⟩; have HY := Lib.hid (mk1 w4); replace HB := Lib.hid ((HB.out.next hb).next (mk1 w4).below); replace HX := Lib.hid ((HX.out.next hb).next (mk1 w4).below); obtain ⟨c0, c1, c2, _⟩ := HB.out.cells3; obtain ⟨x0, x1, x2, _⟩ := HX.out.cells3; obtain ⟨y0, y1, y2, _⟩ := HY.out.cells3; clear hb)
      | (go_at_call 18; refine (k5 _).mono ?_; rintro e w5 ⟨rfl, hb⟩; have HZ := Lib.hid (mk2 w5); replace HB := Lib.hid ((HB.out.next hb).next (mk2 w5).below); clear c0 c1 c2 x0 x1 x2 y0 y1 y2 hb)
      | (go_at_call 15; with_reducible refine (k6 _).mono ?_; rintro e w6 ⟨rfl, hb⟩; have HV := Lib.hid (mk3 w6); replace HB := Lib.hid ((HB.out.next hb).next (mk3 w6).below); replace HZ := Lib.hid ((HZ.out.next hb).next (mk3 w6).below); obtain ⟨z0, z1, z2, _⟩ := HZ.out.cells3; obtain ⟨v0, v1, v2, _⟩ := HV.out.cells3; clear hb))
    go_ret
    exact ⟨rfl, HB.out.below⟩

set_option maxRecDepth 100000 in
theorem lifted (os : Os) (started : os.Started) (H : Type) (enc : TypeId × Value → H) :
    ReturnsInHanded {} Tryd.checked os 5 .any (fun w args => (Rows.civilBackSpec.pre enc Tryd.prog Tryd.f5 [] false w args ∧ laidMetH Tryd.prog laidTab w) ∧ sizedMet enc Tryd.prog Tryd.f5 (OpenSpec.ofChange Rows.civilBackSpec) false w args) (Rows.civilBackSpec.post enc Tryd.prog Tryd.f5 false true false false) := by
  refine returnsInHanded_of_change_and (C := Tryd.checked) (X := fun w _ => laidMetH Tryd.prog laidTab w) (fun _ _ _ hh h => h.of_heap hh) own started (by kernel_rfl) Tryd.func5
    (ChangeSpec.witness_shaped (enc := enc) (C := Tryd.checked) (os := os) (X := fun w _ => laidMetH Tryd.prog laidTab w) false (World.doorLaid Tryd.prog 14 os) #[.agg #[.int .i64 0, .int .i64 0, .int .i64 0]] 8 rfl (World.shaped_of_RefB (by kernel_rfl) (by kernel_rfl)) (by kernel_rfl) (by kernel_rfl) (by kernel_rfl) (door_met os _)) ?_
  intro W base args ds gs before hval0 hW _ _ hL _
  have hval : ∀ (j : Nat) t v, Tryd.f5.params[j]? = some t → args[j]? = some v → Value.okWide Tryd.prog W .any base t v := hval0
  have hW' := hW
  obtain ⟨p, q, hA0, hV, rfl, hfz, hnd⟩ := hW
  have hA : DataW.TrodAll enc Tryd.prog W 0 (fun _ => true) true Tryd.f5.params.toList args.toList ds p := hA0
  have hAk := hA
  rw [Tryd.params5] at hA hval
  obtain ⟨v0, vs0, d0, ds0, p0, q0, hargs, rfl, hp, h0, r0⟩ := trodAll_cons hA
  obtain ⟨rfl, rfl, rfl⟩ := trodAll_nil r0
  obtain rfl : args = #[v0] := by cases args; simp_all
  obtain ⟨rfl, rfl⟩ := trodVars_none hV
  clear hA0 hval0 hargs
  simp only [List.append_nil] at hW'
  have hend : ∀ W' : World, Below W.heap.size W W' → Rows.civilBackSpec.post enc Tryd.prog Tryd.f5 false true false false W #[v0] (.bool true) W' := fun W' hb =>
    law_post (tb := 4) hW' hAk rfl (by kernel_rfl) (by kernel_rfl) (by kernel_rfl) Tryd.underlying4 rfl rfl rfl hb
  clear hW' hAk hp
  obtain ⟨ns0, rfl, hl0, hw0⟩ := ints_struct (ks := [.i64, .i64, .i64]) Tryd.underlying23 (by kernel_rfl) (by kernel_rfl) (by kernel_rfl) (hval 0 23 v0 rfl rfl) h0
  obtain ⟨s0_0, s0_1, s0_2, rfl⟩ := split3 hl0
  clear hl0
  refine (walk s0_0 s0_1 s0_2 W (hw0 0 _ _ rfl rfl) (hw0 1 _ _ rfl rfl) (hw0 2 _ _ rfl rfl) (tab_of_laid hL)).mono fun e W' ⟨he, hg⟩ => ?_
  subst he
  exact ⟨_, rfl, hend W' hg⟩

theorem over : Rows.civilBackRow.holds Tryd.pinned (OpenSpec.ofChange Rows.civilBackSpec) :=
  OpenClaim.holds_of_wide 5 Tryd.f5 rfl rfl rfl rfl rfl rfl rfl ⟨rfl, rfl, rfl, rfl, rfl⟩ rfl rfl rfl rfl rfl (by kernel_rfl) Tryd.func5 (by kernel_rfl)
    (of_decide_eq_true (by kernel_rfl)) (by unfold Func.isWrapper; first | (rw [if_pos (by decide +kernel)]; kernel_rfl) | (rw [if_neg (by decide +kernel)]; exact ⟨rfl, rfl⟩))
    (fun os started H enc _ => lifted os started H enc)

/-- THE STATEMENT: the tied card -/
theorem proved : Rows.CivilBackCardSaid :=
  Claim7.holds_tied_plain_at .later [] [.data, .data, .data] true (true, "1eb08ae58e5a573565d0be32814ac72911309f6115d4ae61345bb52bf53f26a3") false
    over (fun _ h => by cases h) (by kernel_rfl) (fun _ h => by cases h) civilBack_row_tie rfl ⟨rfl, rfl⟩ (by kernel_rfl) rfl
    (fun f fn hf hfn => by
      obtain rfl : f = 5 := Option.some.inj ((show Tryd.prog.funcNamed "angelus/angeluslaw20.CivilBack" = some 5 by kernel_rfl).symm.trans hf) |>.symm
      obtain rfl : fn = Tryd.f5 := (Option.some.inj (Tryd.func5.symm.trans hfn)).symm
      exact ⟨by kernel_rfl, fun j t ht => by
        rw [Tryd.params5] at ht
        have hm : t ∈ [23] := by simpa using Array.mem_of_getElem? ht
        have hall : ([23].all fun u => !Tryd.prog.wantsStandIn u) = true := by kernel_rfl
        exact (show Tryd.prog.wantsStandIn t = false by simpa using List.all_eq_true.1 hall t hm)⟩)
    (by kernel_rfl)
#print axioms proved
end Go.Proofs.YtfidmbpbgjgaiaaDoor.civilBack
