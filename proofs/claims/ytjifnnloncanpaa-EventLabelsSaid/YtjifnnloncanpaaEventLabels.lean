/-
  Package event: Good answers whether a text is a label, of any text: the law answers true for every string. No condition.
  The walk is the prover's own; the frame of the row's step follows the kit's template.
-/
import Derived.Test.YtjifnnloncanpaaRows
import Derived.Test.YtjifnnloncanpaaLawKit
import Derived.Test.YtjifnnloncanpaaEvH
namespace Go.Proofs.Ytjifnnloncanpaa.eventLabels
open Go.ChangeShapes Go.WideShapes Go.ChangeAt Go.RowKit Go.ChangeMaps Go.WideElems
set_option linter.unusedVariables false

theorem own : ownKnob Try.prog.godebug = none := by kernel_rfl
set_option maxHeartbeats 1000000 in
theorem walk (a0 : ByteArray) (w : World) (w0 : a0.size ≤ maxLen) :
    Calls Try.prog 5 #[.string a0] w fun e w' => e = .returned (.bool true) ∧ Below w.heap.size w w' := by
  by_cases h1 : 1000 < a0.size
  · have d1 : decide (1000 < (a0.size : Int)) = true := decide_eq_true (by omega)
    go_enter Try.func5, Try.ntmps5
    go_wp2_with (first
      | (go_at_call 6; refine (alive_yes _).mono ?_; rintro e wx ⟨rfl, hb⟩)
      | (go_at_call 14; refine (k1 _).mono ?_; rintro e w2 ⟨rfl, hb2⟩; replace hb := hb.trans (hb2.mono hb.size); clear hb2)
      | (go_at_call 15; refine (k2 _).mono ?_; rintro e w3 ⟨rfl, hw3⟩; subst w3))
    go_ret
    exact ⟨rfl, hb⟩
  have d1 : decide (1000 < (a0.size : Int)) = false := decide_eq_false (by omega)
  have hs : a0.size ≤ 1000 := by omega
  have k1 := fun W => good_any a0 W
  have k2 := fun W => rgood_any a0 W hs
  obtain ⟨v, hv⟩ : ∃ v, goodL a0 = v := ⟨_, rfl⟩
  simp only [hv] at k1 k2
  have hvv : (v == v) = true := by cases v <;> rfl
  clear hv h1 hs
  go_enter Try.func5, Try.ntmps5
  go_wp2_with (first
    | (go_at_call 6; refine (alive_yes _).mono ?_; rintro e wx ⟨rfl, hb⟩)
    | (go_at_call 14; refine (k1 _).mono ?_; rintro e w2 ⟨rfl, hb2⟩; replace hb := hb.trans (hb2.mono hb.size); clear hb2)
    | (go_at_call 15; refine (k2 _).mono ?_; rintro e w3 ⟨rfl, hw3⟩; subst w3))
  go_ret
  exact ⟨rfl, hb⟩

set_option maxRecDepth 100000 in
theorem lifted (os : Os) (started : os.Started) (H : Type) (enc : TypeId × Value → H) :
    ReturnsInHanded {} Try.checked os 5 .any (Rows.eventLabelsSpec.pre6 enc Try.prog Try.f5 Rows.eventLabelsRow.domain false) (Rows.eventLabelsSpec.post enc Try.prog Try.f5 false true false false) := by
  refine returnsInHanded_of_change (C := Try.checked) own started (by kernel_rfl) Try.func5
    (ChangeSpec.witness6 (enc := enc) (C := Try.checked) false ⟨#[], #[.string ⟨#[]⟩], []⟩ 8 (by kernel_rfl) (by kernel_rfl) (by kernel_rfl) (by kernel_rfl)) ?_
  intro W base args ds gs before hval0 hW hcnd _
  have hval : ∀ (j : Nat) t v, Try.f5.params[j]? = some t → args[j]? = some v → Value.okWide Try.prog W .any base t v := hval0
  have hW' := hW
  obtain ⟨p, q, hA0, hV, rfl, hfz, hnd⟩ := hW
  have hA : DataW.TrodAll enc Try.prog W 0 (fun _ => true) true Try.f5.params.toList args.toList ds p := hA0
  have hAk := hA
  rw [Try.params5] at hA hval
  obtain ⟨v0, vs0, d0, ds0, p0, q0, hargs, rfl, hp, h0, r0⟩ := trodAll_cons hA
  obtain ⟨rfl, rfl, rfl⟩ := trodAll_nil r0
  obtain rfl : args = #[v0] := by cases args; simp_all
  obtain ⟨rfl, rfl⟩ := trodVars_none hV
  clear hA0 hval0 hargs
  simp only [List.append_nil] at hW'
  have hend : ∀ W' : World, Below W.heap.size W W' → Rows.eventLabelsSpec.post enc Try.prog Try.f5 false true false false W #[v0] (.bool true) W' := fun W' hb =>
    law_post (tb := 4) hW' hAk rfl (by kernel_rfl) (by kernel_rfl) (by kernel_rfl) Try.underlying4 rfl rfl rfl hb
  clear hW' hAk hp
  obtain ⟨a0, rfl, rfl, rfl, w0⟩ := open_string Try.underlying9 (hval 0 9 v0 rfl rfl) h0
  refine (walk a0 W w0).mono fun e W' ⟨he, hg⟩ => ?_
  subst he
  exact ⟨_, rfl, hend W' hg⟩

theorem over : Rows.eventLabelsRow.holds Try.pinned (OpenSpec.ofChange Rows.eventLabelsSpec) :=
  OpenClaim.holds_of_wide 5 Try.f5 rfl rfl rfl rfl rfl rfl rfl ⟨rfl, rfl, rfl, rfl, rfl⟩ rfl rfl rfl rfl rfl (by kernel_rfl) Try.func5 (by kernel_rfl)
    (of_decide_eq_true (by kernel_rfl)) (by unfold Func.isWrapper; first | (rw [if_pos (by decide +kernel)]; kernel_rfl) | (rw [if_neg (by decide +kernel)]; exact ⟨rfl, rfl⟩))
    (fun os started H enc _ => lifted os started H enc)

/-- THE STATEMENT -/
theorem proved : Rows.EventLabelsSaid :=
  over
#print axioms proved
end Go.Proofs.Ytjifnnloncanpaa.eventLabels
