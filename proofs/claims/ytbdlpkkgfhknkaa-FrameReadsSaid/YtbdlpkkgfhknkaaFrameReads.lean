/-
  Decode answers the frame of bytes, or which error, as the document says, for every row of bytes, nil too; longer ones than 200 bytes the statement lets through.
  The walk is the prover's own; the frame of the row's step follows the kit's template.
-/
import Derived.Test.YtbdlpkkgfhknkaaRows
import Derived.Test.YtbdlpkkgfhknkaaLawKit
import Derived.Test.YtbdlpkkgfhknkaaFrmU
import Derived.Deep.RegionWith
namespace Go.Proofs.Ytbdlpkkgfhknkaa.frameReads
open Go.ChangeShapes Go.WideShapes Go.ChangeAt Go.RowKit Go.ChangeMaps Go.WideElems
set_option linter.unusedVariables false

theorem own : ownKnob Try.prog.godebug = none := by kernel_rfl
set_option maxHeartbeats 4000000 in
set_option maxRecDepth 100000 in
theorem walk (A0 : Option Addr) (n0 c0 : Nat) (z0 : List Int) (w : World) (w0 : IntRow w .u8 A0 n0 c0 z0) :
    Calls Try.prog 4 #[.slice A0 n0 c0] w fun e w' => e = .returned (.bool true) ∧ Below w.heap.size w w' := by
  by_cases h200 : 200 < n0
  · go_enter Try.func4, Try.ntmps4
    go_wp2_with (first
      | ((go_at_call 9; refine (alive_yes _).mono ?_; rintro e w1 ⟨rfl, hb1⟩)))
    go_ret
    exact ⟨rfl, hb1⟩
  have hdec := fun W (hb : Below w.heap.size w W) => decode_any A0 n0 c0 z0 W (w0.below hb)
  have hread := fun W (hb : Below w.heap.size w W) => rread_any A0 n0 c0 z0 W (w0.below hb)
  rcases dec_cases z0 with ⟨f, hf⟩ | h3
  · simp only [hf] at hdec hread
    have hpl := fun W => plain_any f W
    have hdec2 : ∀ W, Below w.heap.size w W → Calls Try.prog 15 #[.slice A0 n0 c0] W fun e w' => e = .returned (.tuple #[f.val, .int .i64 0]) ∧ Below W.heap.size W w' := hdec
    have hread2 : ∀ W, Below w.heap.size w W → Calls Try.prog 16 #[.slice A0 n0 c0] W fun e w' => e = .returned (.tuple #[f.plain.val, .int .i64 0]) ∧ Below W.heap.size W w' := hread
    obtain ⟨p, hp⟩ : ∃ p, f.plain = p := ⟨_, rfl⟩
    obtain ⟨v, hv⟩ : ∃ v, f.val = v := ⟨_, rfl⟩
    simp only [hp, hv] at hdec2 hread2 hpl
    have heq := fun W => eq_same p W
    obtain ⟨a0, a1, a2, a3, a4, a5, a6, a7, a8, a9, a10, a11, a12, a13⟩ := p
    simp only [Pl.val] at heq hread2 hpl
    clear hf hdec hread hp hv w0
    go_enter Try.func4, Try.ntmps4
    go_wp2_with (first
      | (go_at_call 9; refine (alive_yes _).mono ?_; rintro e w1 ⟨rfl, hb1⟩)
      | (go_at_call 15; refine (hdec2 _ hb1).mono ?_; rintro e w2 ⟨rfl, hb2⟩; have hb12 := hb1.trans (hb2.mono hb1.size))
      | (go_at_call 16; refine (hread2 _ hb12).mono ?_; rintro e w3 ⟨rfl, hb3⟩; have hb13 := hb12.trans (hb3.mono hb12.size)))
    have hvar := (Holds.new w3 24 #[.int .i64 a0, .int .i64 a1, .int .i64 a2, .int .i64 a3, .int .u16 a4, .int .u16 a5, .int .i64 a6, .int .i64 a7, .int .i64 a8, .int .i64 a9, .int .i64 a10, .int .i64 a11, .int .i64 a12, .int .i64 a13]).drewN 1
    have HV := Lib.hid hvar
    clear hvar
    go_region_with (go_at_call 17; refine (hpl _).mono ?_; rintro e w4 ⟨rfl, hb4⟩; have HC := Lib.hid (plain_cells (HV.out.below hb4 HV.out.lt)); obtain ⟨k0, k1, k2, k3, k4, k5, k6, k7, k8, k9, k10, k11, k12, k13⟩ := HC.out)
    all_goals
      go_wp2
      go_ret
      exact ⟨rfl, below_on ((hb13.alloc hb13.size _).drew) hb4⟩
  · obtain ⟨E, hE, e1, e2⟩ := dec_none h3
    simp only [hE] at hdec hread
    have hdec2 : ∀ W, Below w.heap.size w W → Calls Try.prog 15 #[.slice A0 n0 c0] W fun e w' => e = .returned (.tuple #[.nilIface, .int .i64 E]) ∧ Below W.heap.size W w' := hdec
    have hread2 : ∀ W, Below w.heap.size w W → Calls Try.prog 16 #[.slice A0 n0 c0] W fun e w' => e = .returned (.tuple #[.agg Z14, .int .i64 E]) ∧ Below W.heap.size W w' := hread
    have hnil := nil_eq
    have e3 : (E == 0) = false := by simp; omega
    have e4 : (E != 0) = true := by simp; omega
    clear hdec hread w0 h3 hE
    go_enter Try.func4, Try.ntmps4
    go_wp2_with (first
      | (go_at_call 9; refine (alive_yes _).mono ?_; rintro e w1 ⟨rfl, hb1⟩)
      | (go_at_call 15; refine (hdec2 _ hb1).mono ?_; rintro e w2 ⟨rfl, hb2⟩; have hb12 := hb1.trans (hb2.mono hb1.size))
      | (go_at_call 16; refine (hread2 _ hb12).mono ?_; rintro e w3 ⟨rfl, hb3⟩; have hb13 := hb12.trans (hb3.mono hb12.size)))
    go_ret
    exact ⟨rfl, hb13.alloc hb13.size _⟩

set_option maxRecDepth 100000 in
theorem lifted (os : Os) (started : os.Started) (H : Type) (enc : TypeId × Value → H) :
    ReturnsInHanded {} Try.checked os 4 .any (Rows.frameReadsSpec.pre6 enc Try.prog Try.f4 Rows.frameReadsRow.domain false) (Rows.frameReadsSpec.post enc Try.prog Try.f4 false true false false) := by
  refine returnsInHanded_of_change (C := Try.checked) own started (by kernel_rfl) Try.func4
    (ChangeSpec.witness6 (enc := enc) (C := Try.checked) false ⟨#[], #[.slice none 0 0], []⟩ 8 (by kernel_rfl) (by kernel_rfl) (by kernel_rfl) (by kernel_rfl)) ?_
  intro W base args ds gs before hval0 hW hcnd _
  have hval : ∀ (j : Nat) t v, Try.f4.params[j]? = some t → args[j]? = some v → Value.okWide Try.prog W .any base t v := hval0
  have hW' := hW
  obtain ⟨p, q, hA0, hV, rfl, hfz, hnd⟩ := hW
  have hA : DataW.TrodAll enc Try.prog W 0 (fun _ => true) true Try.f4.params.toList args.toList ds p := hA0
  have hAk := hA
  rw [Try.params4] at hA hval
  obtain ⟨v0, vs0, d0, ds0, p0, q0, hargs, rfl, hp, h0, r0⟩ := trodAll_cons hA
  obtain ⟨rfl, rfl, rfl⟩ := trodAll_nil r0
  obtain rfl : args = #[v0] := by cases args; simp_all
  obtain ⟨rfl, rfl⟩ := trodVars_none hV
  clear hA0 hval0 hargs
  simp only [List.append_nil] at hW'
  have hend : ∀ W' : World, Below W.heap.size W W' → Rows.frameReadsSpec.post enc Try.prog Try.f4 false true false false W #[v0] (.bool true) W' := fun W' hb =>
    law_post (tb := 4) hW' hAk rfl (by kernel_rfl) (by kernel_rfl) (by kernel_rfl) Try.underlying4 rfl rfl rfl hb
  clear hW' hAk hp
  obtain ⟨A0, n0, c0, z0, rfl, w0⟩ := ints_arg Try.underlying29 Try.underlying5 (by kernel_rfl) (hval 0 29 v0 rfl rfl) h0
  refine (walk A0 n0 c0 z0 W w0).mono fun e W' ⟨he, hg⟩ => ?_
  subst he
  exact ⟨_, rfl, hend W' hg⟩

theorem over : Rows.frameReadsRow.holds Try.pinned (OpenSpec.ofChange Rows.frameReadsSpec) :=
  OpenClaim.holds_of_wide 4 Try.f4 rfl rfl rfl rfl rfl rfl rfl ⟨rfl, rfl, rfl, rfl, rfl⟩ rfl rfl rfl rfl rfl (by kernel_rfl) Try.func4 (by kernel_rfl)
    (of_decide_eq_true (by kernel_rfl)) (by unfold Func.isWrapper; first | (rw [if_pos (by decide +kernel)]; kernel_rfl) | (rw [if_neg (by decide +kernel)]; exact ⟨rfl, rfl⟩))
    (fun os started H enc _ => lifted os started H enc)

/-- THE STATEMENT -/
theorem proved : Rows.FrameReadsSaid :=
  over
#print axioms proved
end Go.Proofs.Ytbdlpkkgfhknkaa.frameReads
