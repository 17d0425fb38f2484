/-
  Package civil: a year has 365 days, one more if 4 divides it, and 100 doesn't, or 400 does; four hundred years have 146097: the law answers true for every year of 64 bits. Condition: the library's tables lie as the program's text lays them (the card ties them).
  The walk is the prover's own; the frame of the row's step follows the kit's template.
-/
import Derived.Test.YtfidmbpbgjgaiaaDoorRows
import Derived.Test.YtfidmbpbgjgaiaaDoorLawKit
import Derived.Test.YtfidmbpbgjgaiaaDoorCards
import Derived.Test.YtfidmbpbgjgaiaaDoorTie
import Derived.SevenTiedAt
import Derived.Test.YtfidmbpbgjgaiaaDoorCvY
namespace Go.Proofs.YtfidmbpbgjgaiaaDoor.civilYears
open Go.ChangeShapes Go.WideShapes Go.ChangeAt Go.RowKit Go.ChangeMaps Go.WideElems
set_option linter.unusedVariables false

theorem own : ownKnob Tryd.prog.godebug = none := by kernel_rfl
theorem num_year (y : Int) : numV y 1 1 = aheadV y - 719162 := by
  unfold numV
  show -719162 + aheadV y + 0 + 1 - 1 = _
  omega
theorem can_year {y : Int} (h1 : 1 ≤ y) (h2 : y ≤ 9999) : CanD y 1 1 := ⟨h1, h2, by decide, by decide, by decide, by have := (days_bd y 1).1; omega⟩
theorem good_feb {y : Int} (h1 : 1 ≤ y) (h2 : y ≤ 9999) : goodD y 2 29 = longB y := by
  have h := feb y
  cases hl : longB y
  · rw [hl] at h
    refine goodD_no fun k => ?_
    have := k.d2
    rw [h] at this
    revert this
    decide
  · rw [hl] at h
    exact goodD_yes ⟨h1, h2, by decide, by decide, by decide, by rw [h]; decide⟩
set_option maxHeartbeats 1000000 in
theorem walk (a0 : Int) (w : World) (w0 : (Lit.int .i64 a0).wf = true) (hT : Tab w) :
    Calls Tryd.prog 7 #[.int .i64 a0] w fun e w' => e = .returned (.bool true) ∧ Below w.heap.size w w' := by
  have hf := fits_wf w0
  obtain ⟨y1, y2⟩ := hf
  have HT := Lib.hid hT
  clear hT
  by_cases h1 : a0 < 1
  · go_enter Tryd.func7, Tryd.ntmps7
    go_wp2_with (first
      | (go_at_call 8; refine (alive_yes _ HT.out).mono ?_; rintro e wx ⟨rfl, hb⟩)
      | (go_at_call 10; with_reducible refine (k1 _).mono ?_; rintro e w1 ⟨rfl, hb1⟩; replace hb := hb.trans (hb1.mono hb.size); clear hb1)
      | (go_at_call 10; with_reducible refine (k2 _).mono ?_; rintro e w1 ⟨rfl, hb1⟩; replace hb := hb.trans (hb1.mono hb.size); clear hb1)
      | (go_at_call 10; with_reducible refine (k5 _).mono ?_; rintro e w1 ⟨rfl, hb1⟩; replace hb := hb.trans (hb1.mono hb.size); clear hb1)
      | (go_at_call 11; with_reducible refine (k3 _).mono ?_; rintro e w1 ⟨rfl, hb1⟩; replace hb := hb.trans (hb1.mono hb.size); clear hb1)
      | (go_at_call 19; with_reducible refine (k4 _).mono ?_; rintro e w1 ⟨rfl, rfl⟩))
    go_ret
    exact ⟨rfl, hb⟩
  have d1 : decide (a0 < 1) = false := decide_eq_false h1
  by_cases h2 : 9998 < a0
  · go_enter Tryd.func7, Tryd.ntmps7
    go_wp2_with (first
      | (go_at_call 8; refine (alive_yes _ HT.out).mono ?_; rintro e wx ⟨rfl, hb⟩)
      | (go_at_call 10; with_reducible refine (k1 _).mono ?_; rintro e w1 ⟨rfl, hb1⟩; replace hb := hb.trans (hb1.mono hb.size); clear hb1)
      | (go_at_call 10; with_reducible refine (k2 _).mono ?_; rintro e w1 ⟨rfl, hb1⟩; replace hb := hb.trans (hb1.mono hb.size); clear hb1)
      | (go_at_call 10; with_reducible refine (k5 _).mono ?_; rintro e w1 ⟨rfl, hb1⟩; replace hb := hb.trans (hb1.mono hb.size); clear hb1)
      | (go_at_call 11; with_reducible refine (k3 _).mono ?_; rintro e w1 ⟨rfl, hb1⟩; replace hb := hb.trans (hb1.mono hb.size); clear hb1)
      | (go_at_call 19; with_reducible refine (k4 _).mono ?_; rintro e w1 ⟨rfl, rfl⟩))
    go_ret
    exact ⟨rfl, hb⟩
  have d2 : decide (9998 < a0) = false := decide_eq_false h2
  have hld := long_day a0
  have k1 := fun W => number_yes a0 1 1 W (can_year (by omega) (by omega))
  have k2 := fun W => number_yes (a0 + 1) 1 1 W (can_year (by omega) (by omega))
  have k3 := fun W => good_any a0 2 29 W
  have k4 := fun W => rlong_any a0 W (by omega)
  have e1 := IntWalk.i64_in (a0 + 1) (by omega)
  have e2 := IntWalk.i64_in (a0 + 400) (by omega)
  rw [good_feb (by omega) (by omega)] at k3
  simp only [num_year] at k1 k2
  obtain ⟨N1, hN1⟩ : ∃ N, aheadV a0 - 719162 = N := ⟨_, rfl⟩
  obtain ⟨N2, hN2⟩ : ∃ N, aheadV (a0 + 1) - 719162 = N := ⟨_, rfl⟩
  rw [hN1] at k1
  rw [hN2] at k2
  have h4 : aheadV (a0 + 400) - 719162 - N1 = 146097 := by rw [← hN1]; unfold aheadV; omega
  by_cases g : 9999 < a0 + 400
  · have k5 := fun W => number_no (a0 + 400) 1 1 W (fun k => by have := k.y2; omega)
    cases hl : longB a0
    all_goals
      rw [hl] at hld k3 k4
      simp at hld
    · have dn : N2 - N1 = 365 := by omega
      clear hN1 hN2 hld h4 h1 h2
      go_enter Tryd.func7, Tryd.ntmps7
      go_wp2_with (first
        | (go_at_call 8; refine (alive_yes _ HT.out).mono ?_; rintro e wx ⟨rfl, hb⟩)
        | (go_at_call 10; with_reducible refine (k1 _).mono ?_; rintro e w1 ⟨rfl, hb1⟩; replace hb := hb.trans (hb1.mono hb.size); clear hb1)
        | (go_at_call 10; with_reducible refine (k2 _).mono ?_; rintro e w1 ⟨rfl, hb1⟩; replace hb := hb.trans (hb1.mono hb.size); clear hb1)
        | (go_at_call 10; with_reducible refine (k5 _).mono ?_; rintro e w1 ⟨rfl, hb1⟩; replace hb := hb.trans (hb1.mono hb.size); clear hb1)
        | (go_at_call 11; with_reducible refine (k3 _).mono ?_; rintro e w1 ⟨rfl, hb1⟩; replace hb := hb.trans (hb1.mono hb.size); clear hb1)
        | (go_at_call 19; with_reducible refine (k4 _).mono ?_; rintro e w1 ⟨rfl, rfl⟩))
      go_ret
      exact ⟨rfl, hb⟩
    · have dn : N2 - N1 = 366 := by omega
      clear hN1 hN2 hld h4 h1 h2
      go_enter Tryd.func7, Tryd.ntmps7
      go_wp2_with (first
        | (go_at_call 8; refine (alive_yes _ HT.out).mono ?_; rintro e wx ⟨rfl, hb⟩)
        | (go_at_call 10; with_reducible refine (k1 _).mono ?_; rintro e w1 ⟨rfl, hb1⟩; replace hb := hb.trans (hb1.mono hb.size); clear hb1)
        | (go_at_call 10; with_reducible refine (k2 _).mono ?_; rintro e w1 ⟨rfl, hb1⟩; replace hb := hb.trans (hb1.mono hb.size); clear hb1)
        | (go_at_call 10; with_reducible refine (k5 _).mono ?_; rintro e w1 ⟨rfl, hb1⟩; replace hb := hb.trans (hb1.mono hb.size); clear hb1)
        | (go_at_call 11; with_reducible refine (k3 _).mono ?_; rintro e w1 ⟨rfl, hb1⟩; replace hb := hb.trans (hb1.mono hb.size); clear hb1)
        | (go_at_call 19; with_reducible refine (k4 _).mono ?_; rintro e w1 ⟨rfl, rfl⟩))
      go_ret
      exact ⟨rfl, hb⟩
  · have d3 : decide (9999 < a0 + 400) = false := decide_eq_false g
    have k5 := fun W => number_yes (a0 + 400) 1 1 W (can_year (by omega) (by omega))
    simp only [num_year] at k5
    obtain ⟨N3, hN3⟩ : ∃ N, aheadV (a0 + 400) - 719162 = N := ⟨_, rfl⟩
    rw [hN3] at k5 h4
    cases hl : longB a0
    all_goals
      rw [hl] at hld k3 k4
      simp at hld
    · have dn : N2 - N1 = 365 := by omega
      clear hN1 hN2 hN3 hld h1 h2
      go_enter Tryd.func7, Tryd.ntmps7
      go_wp2_with (first
        | (go_at_call 8; refine (alive_yes _ HT.out).mono ?_; rintro e wx ⟨rfl, hb⟩)
        | (go_at_call 10; with_reducible refine (k1 _).mono ?_; rintro e w1 ⟨rfl, hb1⟩; replace hb := hb.trans (hb1.mono hb.size); clear hb1)
        | (go_at_call 10; with_reducible refine (k2 _).mono ?_; rintro e w1 ⟨rfl, hb1⟩; replace hb := hb.trans (hb1.mono hb.size); clear hb1)
        | (go_at_call 10; with_reducible refine (k5 _).mono ?_; rintro e w1 ⟨rfl, hb1⟩; replace hb := hb.trans (hb1.mono hb.size); clear hb1)
        | (go_at_call 11; with_reducible refine (k3 _).mono ?_; rintro e w1 ⟨rfl, hb1⟩; replace hb := hb.trans (hb1.mono hb.size); clear hb1)
        | (go_at_call 19; with_reducible refine (k4 _).mono ?_; rintro e w1 ⟨rfl, rfl⟩))
      go_ret
      exact ⟨rfl, hb⟩
    · have dn : N2 - N1 = 366 := by omega
      clear hN1 hN2 hN3 hld h1 h2
      go_enter Tryd.func7, Tryd.ntmps7
      go_wp2_with (first
        | (go_at_call 8; refine (alive_yes _ HT.out).mono ?_; rintro e wx ⟨rfl, hb⟩)
        | (go_at_call 10; with_reducible refine (k1 _).mono ?_; rintro e w1 ⟨rfl, hb1⟩; replace hb := hb.trans (hb1.mono hb.size); clear hb1)
        | (go_at_call 10; with_reducible refine (k2 _).mono ?_; rintro e w1 ⟨rfl, hb1⟩; replace hb := hb.trans (hb1.mono hb.size); clear hb1)
        | (go_at_call 10; with_reducible refine (k5 _).mono ?_; rintro e w1 ⟨rfl, hb1⟩; replace hb := hb.trans (hb1.mono hb.size); clear hb1)
        | (go_at_call 11; with_reducible refine (k3 _).mono ?_; rintro e w1 ⟨rfl, hb1⟩; replace hb := hb.trans (hb1.mono hb.size); clear hb1)
        | (go_at_call 19; with_reducible refine (k4 _).mono ?_; rintro e w1 ⟨rfl, rfl⟩))
      go_ret
      exact ⟨rfl, hb⟩

set_option maxRecDepth 100000 in
theorem lifted (os : Os) (started : os.Started) (H : Type) (enc : TypeId × Value → H) :
    ReturnsInHanded {} Tryd.checked os 7 .any (fun w args => (Rows.civilYearsSpec.pre enc Tryd.prog Tryd.f7 [] false w args ∧ laidMetH Tryd.prog laidTab w) ∧ sizedMet enc Tryd.prog Tryd.f7 (OpenSpec.ofChange Rows.civilYearsSpec) false w args) (Rows.civilYearsSpec.post enc Tryd.prog Tryd.f7 false true false false) := by
  refine returnsInHanded_of_change_and (C := Tryd.checked) (X := fun w _ => laidMetH Tryd.prog laidTab w) (fun _ _ _ hh h => h.of_heap hh) own started (by kernel_rfl) Tryd.func7
    (ChangeSpec.witness_shaped (enc := enc) (C := Tryd.checked) (os := os) (X := fun w _ => laidMetH Tryd.prog laidTab w) false (World.doorLaid Tryd.prog 14 os) #[.int .i64 0] 8 rfl (World.shaped_of_RefB (by kernel_rfl) (by kernel_rfl)) (by kernel_rfl) (by kernel_rfl) (by kernel_rfl) (door_met os _)) ?_
  intro W base args ds gs before hval0 hW _ _ hL _
  have hval : ∀ (j : Nat) t v, Tryd.f7.params[j]? = some t → args[j]? = some v → Value.okWide Tryd.prog W .any base t v := hval0
  have hW' := hW
  obtain ⟨p, q, hA0, hV, rfl, hfz, hnd⟩ := hW
  have hA : DataW.TrodAll enc Tryd.prog W 0 (fun _ => true) true Tryd.f7.params.toList args.toList ds p := hA0
  have hAk := hA
  rw [Tryd.params7] at hA hval
  obtain ⟨v0, vs0, d0, ds0, p0, q0, hargs, rfl, hp, h0, r0⟩ := trodAll_cons hA
  obtain ⟨rfl, rfl, rfl⟩ := trodAll_nil r0
  obtain rfl : args = #[v0] := by cases args; simp_all
  obtain ⟨rfl, rfl⟩ := trodVars_none hV
  clear hA0 hval0 hargs
  simp only [List.append_nil] at hW'
  have hend : ∀ W' : World, Below W.heap.size W W' → Rows.civilYearsSpec.post enc Tryd.prog Tryd.f7 false true false false W #[v0] (.bool true) W' := fun W' hb =>
    law_post (tb := 4) hW' hAk rfl (by kernel_rfl) (by kernel_rfl) (by kernel_rfl) Tryd.underlying4 rfl rfl rfl hb
  clear hW' hAk hp
  obtain ⟨a0, rfl, rfl, rfl, w0⟩ := open_int Tryd.underlying3 (hval 0 3 v0 rfl rfl) h0
  refine (walk a0 W w0 (tab_of_laid hL)).mono fun e W' ⟨he, hg⟩ => ?_
  subst he
  exact ⟨_, rfl, hend W' hg⟩

theorem over : Rows.civilYearsRow.holds Tryd.pinned (OpenSpec.ofChange Rows.civilYearsSpec) :=
  OpenClaim.holds_of_wide 7 Tryd.f7 rfl rfl rfl rfl rfl rfl rfl ⟨rfl, rfl, rfl, rfl, rfl⟩ rfl rfl rfl rfl rfl (by kernel_rfl) Tryd.func7 (by kernel_rfl)
    (of_decide_eq_true (by kernel_rfl)) (by unfold Func.isWrapper; first | (rw [if_pos (by decide +kernel)]; kernel_rfl) | (rw [if_neg (by decide +kernel)]; exact ⟨rfl, rfl⟩))
    (fun os started H enc _ => lifted os started H enc)

/-- THE STATEMENT: the tied card -/
theorem proved : Rows.CivilYearsCardSaid :=
  Claim7.holds_tied_plain_at .later [] [.data, .data, .data] true (true, "1eb08ae58e5a573565d0be32814ac72911309f6115d4ae61345bb52bf53f26a3") false
    over (fun _ h => by cases h) (by kernel_rfl) (fun _ h => by cases h) civilYears_row_tie rfl ⟨rfl, rfl⟩ (by kernel_rfl) rfl
    (fun f fn hf hfn => by
      obtain rfl : f = 7 := Option.some.inj ((show Tryd.prog.funcNamed "angelus/angeluslaw20.CivilYears" = some 7 by kernel_rfl).symm.trans hf) |>.symm
      obtain rfl : fn = Tryd.f7 := (Option.some.inj (Tryd.func7.symm.trans hfn)).symm
      exact ⟨by kernel_rfl, fun j t ht => by
        rw [Tryd.params7] at ht
        have hm : t ∈ [3] := by simpa using Array.mem_of_getElem? ht
        have hall : ([3].all fun u => !Tryd.prog.wantsStandIn u) = true := by kernel_rfl
        exact (show Tryd.prog.wantsStandIn t = false by simpa using List.all_eq_true.1 hall t hm)⟩)
    (by kernel_rfl)
#print axioms proved
end Go.Proofs.YtfidmbpbgjgaiaaDoor.civilYears
