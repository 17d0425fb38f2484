/-
  Behind Rest a node is awake, without any guard, and ahead of that it is not: for every plan, time and number the law answers true; without conditions.
  The walk is the prover's own; the frame of the row's step follows the kit's template.
-/
import Derived.Test.YthkpalfpohhmoaaRows
import Derived.Test.YthkpalfpohhmoaaLawKit
import Derived.Test.YthkpalfpohhmoaaStructArg
import Derived.Test.YthkpalfpohhmoaaDtD
import Derived.Test.YthkpalfpohhmoaaDtE
namespace Go.Proofs.Ythkpalfpohhmoaa.dutyWakes
open Go.ChangeShapes Go.WideShapes Go.ChangeAt Go.RowKit Go.ChangeMaps Go.WideElems
set_option linter.unusedVariables false

theorem split3 {ns : List Int} (h : ns.length = 3) : ∃ s0_0 s0_1 s0_2 : Int, ns = [s0_0, s0_1, s0_2] := by
  match ns, h with
  | [y0, y1, y2], _ => exact ⟨_, _, _, rfl⟩
theorem own : ownKnob Try.prog.godebug = none := by kernel_rfl
set_option maxHeartbeats 2000000 in
theorem walk (s0_0 s0_1 s0_2 : Int) (a1 : Int) (a2 : Int) (w : World) (w0_0 : (Lit.int .i64 s0_0).wf = true) (w0_1 : (Lit.int .i64 s0_1).wf = true) (w0_2 : (Lit.int .i64 s0_2).wf = true) (w1 : (Lit.int .i64 a1).wf = true) (w2 : (Lit.int .i64 a2).wf = true) :
    Calls Try.prog 5 #[.agg #[.int .i64 s0_0, .int .i64 s0_1, .int .i64 s0_2], .int .i64 a1, .int .i64 a2] w fun e w' => e = .returned (.bool true) ∧ Below w.heap.size w w' := by
  have HB := Lib.hid (Box.start w 23 #[.int .i64 s0_0, .int .i64 s0_1, .int .i64 s0_2])
  obtain ⟨c0, c1, c2, _⟩ := HB.out.cells3
  have ht := fits_wf w1
  obtain ⟨t1, t2⟩ := ht
  have hy := fits_wf w2
  obtain ⟨y1, y2⟩ := hy
  by_cases hc : ¬ Can s0_0 s0_1 s0_2
  · go_enter Try.func5, Try.ntmps5
    go_wp2_with (first
      | (go_at_call 7; refine (alive_yes _).mono ?_; rintro e wx ⟨rfl, hb⟩; replace HB := Lib.hid (HB.out.next hb); obtain ⟨c0, c1, c2, _⟩ := HB.out.cells3; clear hb)
      | (go_at_call 9; refine (good_yes _ _ _ _ hc).mono ?_; rintro e wx ⟨rfl, hb⟩; replace HB := Lib.hid (HB.out.next hb); obtain ⟨c0, c1, c2, _⟩ := HB.out.cells3; clear hb)
      | (go_at_call 9; refine (good_no _ _ _ _ hc).mono ?_; rintro e wx ⟨rfl, hb⟩; replace HB := Lib.hid (HB.out.next hb); obtain ⟨c0, c1, c2, _⟩ := HB.out.cells3; clear hb)
      | (go_at_call 13; refine (rest_any _ _ _ _ _ hc ⟨by omega, by omega⟩).mono ?_; rintro e wx ⟨rfl, hb⟩; replace HB := Lib.hid (HB.out.next hb); obtain ⟨c0, c1, c2, _⟩ := HB.out.cells3; clear hb)
      | (go_at_call 10; refine (awake_any _ _ _ _ _ _ hc ⟨by omega, by omega⟩ ⟨by decide, by decide⟩).mono ?_; rintro e wx ⟨rfl, hb⟩; replace HB := Lib.hid (HB.out.next hb); obtain ⟨c0, c1, c2, _⟩ := HB.out.cells3; clear hb))
    go_ret
    exact ⟨rfl, HB.out.below⟩
  replace hc := Classical.not_not.1 hc
  by_cases h0 : a1 < 0
  · go_enter Try.func5, Try.ntmps5
    go_wp2_with (first
      | (go_at_call 7; refine (alive_yes _).mono ?_; rintro e wx ⟨rfl, hb⟩; replace HB := Lib.hid (HB.out.next hb); obtain ⟨c0, c1, c2, _⟩ := HB.out.cells3; clear hb)
      | (go_at_call 9; refine (good_yes _ _ _ _ hc).mono ?_; rintro e wx ⟨rfl, hb⟩; replace HB := Lib.hid (HB.out.next hb); obtain ⟨c0, c1, c2, _⟩ := HB.out.cells3; clear hb)
      | (go_at_call 9; refine (good_no _ _ _ _ hc).mono ?_; rintro e wx ⟨rfl, hb⟩; replace HB := Lib.hid (HB.out.next hb); obtain ⟨c0, c1, c2, _⟩ := HB.out.cells3; clear hb)
      | (go_at_call 13; refine (rest_any _ _ _ _ _ hc ⟨by omega, by omega⟩).mono ?_; rintro e wx ⟨rfl, hb⟩; replace HB := Lib.hid (HB.out.next hb); obtain ⟨c0, c1, c2, _⟩ := HB.out.cells3; clear hb)
      | (go_at_call 10; refine (awake_any _ _ _ _ _ _ hc ⟨by omega, by omega⟩ ⟨by decide, by decide⟩).mono ?_; rintro e wx ⟨rfl, hb⟩; replace HB := Lib.hid (HB.out.next hb); obtain ⟨c0, c1, c2, _⟩ := HB.out.cells3; clear hb))
    go_ret
    exact ⟨rfl, HB.out.below⟩
  have d0 : decide (a1 < 0) = false := decide_eq_false h0
  by_cases h1 : 1125899906842624 < a1
  · go_enter Try.func5, Try.ntmps5
    go_wp2_with (first
      | (go_at_call 7; refine (alive_yes _).mono ?_; rintro e wx ⟨rfl, hb⟩; replace HB := Lib.hid (HB.out.next hb); obtain ⟨c0, c1, c2, _⟩ := HB.out.cells3; clear hb)
      | (go_at_call 9; refine (good_yes _ _ _ _ hc).mono ?_; rintro e wx ⟨rfl, hb⟩; replace HB := Lib.hid (HB.out.next hb); obtain ⟨c0, c1, c2, _⟩ := HB.out.cells3; clear hb)
      | (go_at_call 9; refine (good_no _ _ _ _ hc).mono ?_; rintro e wx ⟨rfl, hb⟩; replace HB := Lib.hid (HB.out.next hb); obtain ⟨c0, c1, c2, _⟩ := HB.out.cells3; clear hb)
      | (go_at_call 13; refine (rest_any _ _ _ _ _ hc ⟨by omega, by omega⟩).mono ?_; rintro e wx ⟨rfl, hb⟩; replace HB := Lib.hid (HB.out.next hb); obtain ⟨c0, c1, c2, _⟩ := HB.out.cells3; clear hb)
      | (go_at_call 10; refine (awake_any _ _ _ _ _ _ hc ⟨by omega, by omega⟩ ⟨by decide, by decide⟩).mono ?_; rintro e wx ⟨rfl, hb⟩; replace HB := Lib.hid (HB.out.next hb); obtain ⟨c0, c1, c2, _⟩ := HB.out.cells3; clear hb))
    go_ret
    exact ⟨rfl, HB.out.below⟩
  have d1 : decide (1125899906842624 < a1) = false := decide_eq_false h1
  have hr := rest_bd hc a1
  have ha := rest_awake hc a1
  have hs := rest_asleep hc a1 a2
  obtain ⟨M, hM⟩ : ∃ M, restV s0_0 s0_1 a1 = M := ⟨_, rfl⟩
  rw [hM] at hr ha hs
  obtain ⟨r1, r2⟩ := hr
  by_cases g0 : a2 < 0
  · clear hs
    go_enter Try.func5, Try.ntmps5
    go_wp2_with (first
      | (go_at_call 7; refine (alive_yes _).mono ?_; rintro e wx ⟨rfl, hb⟩; replace HB := Lib.hid (HB.out.next hb); obtain ⟨c0, c1, c2, _⟩ := HB.out.cells3; clear hb)
      | (go_at_call 9; refine (good_yes _ _ _ _ hc).mono ?_; rintro e wx ⟨rfl, hb⟩; replace HB := Lib.hid (HB.out.next hb); obtain ⟨c0, c1, c2, _⟩ := HB.out.cells3; clear hb)
      | (go_at_call 9; refine (good_no _ _ _ _ hc).mono ?_; rintro e wx ⟨rfl, hb⟩; replace HB := Lib.hid (HB.out.next hb); obtain ⟨c0, c1, c2, _⟩ := HB.out.cells3; clear hb)
      | (go_at_call 13; refine (rest_any _ _ _ _ _ hc ⟨by omega, by omega⟩).mono ?_; rintro e wx ⟨rfl, hb⟩; replace HB := Lib.hid (HB.out.next hb); obtain ⟨c0, c1, c2, _⟩ := HB.out.cells3; clear hb)
      | (go_at_call 10; refine (awake_any _ _ _ _ _ _ hc ⟨by omega, by omega⟩ ⟨by decide, by decide⟩).mono ?_; rintro e wx ⟨rfl, hb⟩; replace HB := Lib.hid (HB.out.next hb); obtain ⟨c0, c1, c2, _⟩ := HB.out.cells3; clear hb))
    go_ret
    exact ⟨rfl, HB.out.below⟩
  have d2 : decide (a2 < 0) = false := decide_eq_false g0
  by_cases g1 : M ≤ a2
  · clear hs
    go_enter Try.func5, Try.ntmps5
    go_wp2_with (first
      | (go_at_call 7; refine (alive_yes _).mono ?_; rintro e wx ⟨rfl, hb⟩; replace HB := Lib.hid (HB.out.next hb); obtain ⟨c0, c1, c2, _⟩ := HB.out.cells3; clear hb)
      | (go_at_call 9; refine (good_yes _ _ _ _ hc).mono ?_; rintro e wx ⟨rfl, hb⟩; replace HB := Lib.hid (HB.out.next hb); obtain ⟨c0, c1, c2, _⟩ := HB.out.cells3; clear hb)
      | (go_at_call 9; refine (good_no _ _ _ _ hc).mono ?_; rintro e wx ⟨rfl, hb⟩; replace HB := Lib.hid (HB.out.next hb); obtain ⟨c0, c1, c2, _⟩ := HB.out.cells3; clear hb)
      | (go_at_call 13; refine (rest_any _ _ _ _ _ hc ⟨by omega, by omega⟩).mono ?_; rintro e wx ⟨rfl, hb⟩; replace HB := Lib.hid (HB.out.next hb); obtain ⟨c0, c1, c2, _⟩ := HB.out.cells3; clear hb)
      | (go_at_call 10; refine (awake_any _ _ _ _ _ _ hc ⟨by omega, by omega⟩ ⟨by decide, by decide⟩).mono ?_; rintro e wx ⟨rfl, hb⟩; replace HB := Lib.hid (HB.out.next hb); obtain ⟨c0, c1, c2, _⟩ := HB.out.cells3; clear hb))
    go_ret
    exact ⟨rfl, HB.out.below⟩
  have d3 : decide (M ≤ a2) = false := decide_eq_false g1
  replace hs := hs (by omega) (by omega)
  go_enter Try.func5, Try.ntmps5
  go_wp2_with (first
    | (go_at_call 7; refine (alive_yes _).mono ?_; rintro e wx ⟨rfl, hb⟩; replace HB := Lib.hid (HB.out.next hb); obtain ⟨c0, c1, c2, _⟩ := HB.out.cells3; clear hb)
    | (go_at_call 9; refine (good_yes _ _ _ _ hc).mono ?_; rintro e wx ⟨rfl, hb⟩; replace HB := Lib.hid (HB.out.next hb); obtain ⟨c0, c1, c2, _⟩ := HB.out.cells3; clear hb)
    | (go_at_call 9; refine (good_no _ _ _ _ hc).mono ?_; rintro e wx ⟨rfl, hb⟩; replace HB := Lib.hid (HB.out.next hb); obtain ⟨c0, c1, c2, _⟩ := HB.out.cells3; clear hb)
    | (go_at_call 13; refine (rest_any _ _ _ _ _ hc ⟨by omega, by omega⟩).mono ?_; rintro e wx ⟨rfl, hb⟩; replace HB := Lib.hid (HB.out.next hb); obtain ⟨c0, c1, c2, _⟩ := HB.out.cells3; clear hb)
    | (go_at_call 10; refine (awake_any _ _ _ _ _ _ hc ⟨by omega, by omega⟩ ⟨by decide, by decide⟩).mono ?_; rintro e wx ⟨rfl, hb⟩; replace HB := Lib.hid (HB.out.next hb); obtain ⟨c0, c1, c2, _⟩ := HB.out.cells3; clear hb))
  go_ret
  exact ⟨rfl, HB.out.below⟩

set_option maxRecDepth 100000 in
theorem lifted (os : Os) (started : os.Started) (H : Type) (enc : TypeId × Value → H) :
    ReturnsInHanded {} Try.checked os 5 .any (Rows.dutyWakesSpec.pre6 enc Try.prog Try.f5 Rows.dutyWakesRow.domain false) (Rows.dutyWakesSpec.post enc Try.prog Try.f5 false true false false) := by
  refine returnsInHanded_of_change (C := Try.checked) own started (by kernel_rfl) Try.func5
    (ChangeSpec.witness6 (enc := enc) (C := Try.checked) false ⟨#[], #[.agg #[.int .i64 0, .int .i64 0, .int .i64 0], .int .i64 0, .int .i64 0], []⟩ 8 (by kernel_rfl) (by kernel_rfl) (by kernel_rfl) (by kernel_rfl)) ?_
  intro W base args ds gs before hval0 hW hcnd _
  have hval : ∀ (j : Nat) t v, Try.f5.params[j]? = some t → args[j]? = some v → Value.okWide Try.prog W .any base t v := hval0
  have hW' := hW
  obtain ⟨p, q, hA0, hV, rfl, hfz, hnd⟩ := hW
  have hA : DataW.TrodAll enc Try.prog W 0 (fun _ => true) true Try.f5.params.toList args.toList ds p := hA0
  have hAk := hA
  rw [Try.params5] at hA hval
  obtain ⟨v0, vs0, d0, ds0, p0, q0, hargs, rfl, hp, h0, r0⟩ := trodAll_cons hA
  obtain ⟨v1, vs1, d1, ds1, p1, q1, rfl, rfl, rfl, h1, r1⟩ := trodAll_cons r0
  obtain ⟨v2, vs2, d2, ds2, p2, q2, rfl, rfl, rfl, h2, r2⟩ := trodAll_cons r1
  obtain ⟨rfl, rfl, rfl⟩ := trodAll_nil r2
  obtain rfl : args = #[v0, v1, v2] := by cases args; simp_all
  obtain ⟨rfl, rfl⟩ := trodVars_none hV
  clear hA0 hval0 hargs
  simp only [List.append_nil] at hW'
  have hend : ∀ W' : World, Below W.heap.size W W' → Rows.dutyWakesSpec.post enc Try.prog Try.f5 false true false false W #[v0, v1, v2] (.bool true) W' := fun W' hb =>
    law_post (tb := 4) hW' hAk rfl (by kernel_rfl) (by kernel_rfl) (by kernel_rfl) Try.underlying4 rfl rfl rfl hb
  clear hW' hAk hp
  obtain ⟨ns0, rfl, hl0, hw0⟩ := ints_struct (ks := [.i64, .i64, .i64]) Try.underlying23 (by kernel_rfl) (by kernel_rfl) (by kernel_rfl) (hval 0 23 v0 rfl rfl) h0
  obtain ⟨s0_0, s0_1, s0_2, rfl⟩ := split3 hl0
  clear hl0
  obtain ⟨a1, rfl, rfl, rfl, w1⟩ := open_int Try.underlying3 (hval 1 3 v1 rfl rfl) h1
  obtain ⟨a2, rfl, rfl, rfl, w2⟩ := open_int Try.underlying3 (hval 2 3 v2 rfl rfl) h2
  refine (walk s0_0 s0_1 s0_2 a1 a2 W (hw0 0 _ _ rfl rfl) (hw0 1 _ _ rfl rfl) (hw0 2 _ _ rfl rfl) w1 w2).mono fun e W' ⟨he, hg⟩ => ?_
  subst he
  exact ⟨_, rfl, hend W' hg⟩

theorem over : Rows.dutyWakesRow.holds Try.pinned (OpenSpec.ofChange Rows.dutyWakesSpec) :=
  OpenClaim.holds_of_wide 5 Try.f5 rfl rfl rfl rfl rfl rfl rfl ⟨rfl, rfl, rfl, rfl, rfl⟩ rfl rfl rfl rfl rfl (by kernel_rfl) Try.func5 (by kernel_rfl)
    (of_decide_eq_true (by kernel_rfl)) (by unfold Func.isWrapper; first | (rw [if_pos (by decide +kernel)]; kernel_rfl) | (rw [if_neg (by decide +kernel)]; exact ⟨rfl, rfl⟩))
    (fun os started H enc _ => lifted os started H enc)

/-- THE STATEMENT -/
theorem proved : Rows.DutyWakesSaid :=
  over
#print axioms proved
end Go.Proofs.Ythkpalfpohhmoaa.dutyWakes
