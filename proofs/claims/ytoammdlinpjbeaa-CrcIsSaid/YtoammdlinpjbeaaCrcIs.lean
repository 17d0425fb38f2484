/-
  Sum and Goes answer what the document says, of all rows of up to 2^12 bytes and from all sums on; in parts as at once.
  The walk is the prover's own; the frame of the row's step follows the kit's template.
-/
import Derived.Test.YtoammdlinpjbeaaRows
import Derived.Test.YtoammdlinpjbeaaLawKit
import Derived.Test.YtoammdlinpjbeaaCrcE
namespace Go.Proofs.Ytoammdlinpjbeaa.crcIs
open Go.ChangeShapes Go.WideShapes Go.ChangeAt Go.RowKit Go.ChangeMaps Go.WideElems
set_option linter.unusedVariables false

theorem own : ownKnob Try.prog.godebug = none := by kernel_rfl

theorem walk (A0 : Option Addr) (n0 c0 : Nat) (z0 : List Int) (A1 : Option Addr) (n1 c1 : Nat) (z1 : List Int) (a2 : Int) (w : World) (w0 : IntRow w .u8 A0 n0 c0 z0) (w1 : IntRow w .u8 A1 n1 c1 z1) (w2 : (Lit.int .u16 a2).wf = true) :
    Calls Try.prog 3 #[.slice A0 n0 c0, .slice A1 n1 c1, .int .u16 a2] w fun e w' => e = .returned (.bool true) ∧ Below w.heap.size w w' := by
  obtain ⟨s, rfl⟩ := as_sum (f16_wf w2)
  by_cases h0 : 4096 < n0
  · go_enter Try.func3, Try.ntmps3
    go_wp2_with (go_at_call 8; refine (alive_yes _).mono ?_; rintro e w1 ⟨rfl, hb1⟩)
    go_ret
    exact ⟨rfl, hb1⟩
  · by_cases h1 : 4096 < n1
    · go_enter Try.func3, Try.ntmps3
      go_wp2_with (go_at_call 8; refine (alive_yes _).mono ?_; rintro e w1 ⟨rfl, hb1⟩)
      go_ret
      exact ⟨rfl, hb1⟩
    · obtain ⟨i0, hi, hz0, hz1, hz2⟩ := info_parts byte_info
      have H2 := Lib.hid hz2
      have H1 := Lib.hid hz1
      have H0 := Lib.hid hz0
      have R0 := Lib.hid w0
      have R1 := Lib.hid w1
      have HW : ∀ n ∈ z0 ++ z1, (Lit.int .u8 n).wf = true := fun n hn => (List.mem_append.1 hn).elim (w0.wf n) (w1.wf n)
      have HV := Lib.hid HW
      have k1 := fun W h => sum_any A0 n0 c0 z0 W h
      have k2 := fun W h => rsum_any A0 n0 c0 z0 W h
      have k3 := fun W h => goes_any s A1 n1 c1 z1 W h
      have k4 := fun W h => rgoes_any s A1 n1 c1 z1 W h
      have k5 := fun W h => goes_any (sumOf z0) A1 n1 c1 z1 W h
      have k6 := fun A c W h => sum_any A (n0 + n1) c (z0 ++ z1) W h
      rw [goes_both z0 z1] at k5
      obtain ⟨T, hT⟩ : ∃ T, sumOf z0 = T := ⟨_, rfl⟩
      obtain ⟨U, hU⟩ : ∃ U, sumOf (z0 ++ z1) = U := ⟨_, rfl⟩
      obtain ⟨V, hV⟩ : ∃ V, goes s z1 = V := ⟨_, rfl⟩
      rw [hT] at k1 k2 k5
      rw [hU] at k5 k6
      rw [hV] at k3 k4
      clear hT hU hV
      clear hz0 hz1 hz2 w0 w1 HW
      go_enter Try.func3, Try.ntmps3
      go_wp2_with (first
        | (go_at_call 8; refine (alive_yes _).mono ?_; rintro e w1 ⟨rfl, hb1⟩)
        | (at_builtin; refine wpList_append_row _ rfl (.tmp 18) (.tmp 19) _ rfl w.heap.size 5 i0 _ 1 Try.underlying22 hi H0.out H1.out H2.out rfl _ 0 [] rfl (World.ownsRow_lit (base := w.heap.size) (size := 1) w1 #[] 0 hb1.size (by simp [maxLen]) (by simp)) .u8 _ n0 c0 _ rfl ((R0.out.below hb1).alloc _) (by unfold maxLen; omega) (by omega) (by simp; have := hb1.size; omega) ?_; intro A3 c3 w3 hown3 hb3; simp only [Nat.zero_add, List.nil_append] at hown3)
        | (at_builtin; refine wpList_append_row _ rfl (.tmp 20) (.tmp 21) _ rfl w.heap.size 5 i0 _ 1 Try.underlying22 hi H0.out H1.out H2.out rfl _ n0 _ rfl hown3 .u8 _ n1 c1 _ rfl (R1.out.below ((hb1.alloc hb1.size _).trans hb3)) (by unfold maxLen; omega) (by omega) (by have := hb1.size; have := hb3.size; simp at this; omega) ?_; intro A4 c4 w4 hown4 hb4; rw [← List.map_append] at hown4; have hb5 : Below w.heap.size w w4 := ((hb1.alloc hb1.size _).trans hb3).trans hb4)
        | (go_at_call 9; ((with_reducible refine (k1 _ (R0.out.below hb5)).mono ?_); rintro e w' ⟨rfl, rfl⟩))
        | (go_at_call 10; ((with_reducible refine (k2 _ (R0.out.below hb5)).mono ?_); rintro e w' ⟨rfl, rfl⟩))
        | (go_at_call 11; ((with_reducible refine (k3 _ (R1.out.below hb5)).mono ?_); rintro e w' ⟨rfl, rfl⟩))
        | (go_at_call 12; ((with_reducible refine (k4 _ (R1.out.below hb5)).mono ?_); rintro e w' ⟨rfl, rfl⟩))
        | (go_at_call 11; ((with_reducible refine (k5 _ (R1.out.below hb5)).mono ?_); rintro e w' ⟨rfl, rfl⟩))
        | (go_at_call 9; ((with_reducible refine (k6 A4 c4 _ (IntRow.of_own hown4 HV.out)).mono ?_); rintro e w' ⟨rfl, rfl⟩)))
      go_ret
      exact ⟨rfl, hb5⟩

set_option maxRecDepth 100000 in
theorem lifted (os : Os) (started : os.Started) (H : Type) (enc : TypeId × Value → H) :
    ReturnsInHanded {} Try.checked os 3 .any (Rows.crcIsSpec.pre6 enc Try.prog Try.f3 Rows.crcIsRow.domain false) (Rows.crcIsSpec.post enc Try.prog Try.f3 false true false false) := by
  refine returnsInHanded_of_change (C := Try.checked) own started (by kernel_rfl) Try.func3
    (ChangeSpec.witness6 (enc := enc) (C := Try.checked) false ⟨#[], #[.slice none 0 0, .slice none 0 0, .int .u16 0], []⟩ 8 (by kernel_rfl) (by kernel_rfl) (by kernel_rfl) (by kernel_rfl)) ?_
  intro W base args ds gs before hval0 hW hcnd _
  have hval : ∀ (j : Nat) t v, Try.f3.params[j]? = some t → args[j]? = some v → Value.okWide Try.prog W .any base t v := hval0
  have hW' := hW
  obtain ⟨p, q, hA0, hV, rfl, hfz, hnd⟩ := hW
  have hA : DataW.TrodAll enc Try.prog W 0 (fun _ => true) true Try.f3.params.toList args.toList ds p := hA0
  have hAk := hA
  rw [Try.params3] at hA hval
  obtain ⟨v0, vs0, d0, ds0, p0, q0, hargs, rfl, hp, h0, r0⟩ := trodAll_cons hA
  obtain ⟨v1, vs1, d1, ds1, p1, q1, rfl, rfl, rfl, h1, r1⟩ := trodAll_cons r0
  obtain ⟨v2, vs2, d2, ds2, p2, q2, rfl, rfl, rfl, h2, r2⟩ := trodAll_cons r1
  obtain ⟨rfl, rfl, rfl⟩ := trodAll_nil r2
  obtain rfl : args = #[v0, v1, v2] := by cases args; simp_all
  obtain ⟨rfl, rfl⟩ := trodVars_none hV
  clear hA0 hval0 hargs
  simp only [List.append_nil] at hW'
  have hend : ∀ W' : World, Below W.heap.size W W' → Rows.crcIsSpec.post enc Try.prog Try.f3 false true false false W #[v0, v1, v2] (.bool true) W' := fun W' hb =>
    law_post (tb := 4) hW' hAk rfl (by kernel_rfl) (by kernel_rfl) (by kernel_rfl) Try.underlying4 rfl rfl rfl hb
  clear hW' hAk hp
  obtain ⟨A0, n0, c0, z0, rfl, w0⟩ := ints_arg Try.underlying22 Try.underlying5 (by kernel_rfl) (hval 0 22 v0 rfl rfl) h0
  obtain ⟨A1, n1, c1, z1, rfl, w1⟩ := ints_arg Try.underlying22 Try.underlying5 (by kernel_rfl) (hval 1 22 v1 rfl rfl) h1
  obtain ⟨a2, rfl, rfl, rfl, w2⟩ := open_int Try.underlying23 (hval 2 23 v2 rfl rfl) h2
  refine (walk A0 n0 c0 z0 A1 n1 c1 z1 a2 W w0 w1 w2).mono fun e W' ⟨he, hg⟩ => ?_
  subst he
  exact ⟨_, rfl, hend W' hg⟩

theorem over : Rows.crcIsRow.holds Try.pinned (OpenSpec.ofChange Rows.crcIsSpec) :=
  OpenClaim.holds_of_wide 3 Try.f3 rfl rfl rfl rfl rfl rfl rfl ⟨rfl, rfl, rfl, rfl, rfl⟩ rfl rfl rfl rfl rfl (by kernel_rfl) Try.func3 (by kernel_rfl)
    (of_decide_eq_true (by kernel_rfl)) (by unfold Func.isWrapper; first | (rw [if_pos (by decide +kernel)]; kernel_rfl) | (rw [if_neg (by decide +kernel)]; exact ⟨rfl, rfl⟩))
    (fun os started H enc _ => lifted os started H enc)

/-- THE STATEMENT -/
theorem proved : Rows.CrcIsSaid :=
  over
#print axioms proved
end Go.Proofs.Ytoammdlinpjbeaa.crcIs
