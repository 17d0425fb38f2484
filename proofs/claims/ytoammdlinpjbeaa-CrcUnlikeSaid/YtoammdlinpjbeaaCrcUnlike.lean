/-
  Two rows of up to 2^12 bytes that differ in no more than two bytes, side by side, have unlike sums.
  The walk is the prover's own; the frame of the row's step follows the kit's template.
-/
import Derived.Test.YtoammdlinpjbeaaRows
import Derived.Test.YtoammdlinpjbeaaLawKit
import Derived.Test.YtoammdlinpjbeaaCrcE
import Derived.Test.YtoammdlinpjbeaaCrcN
namespace Go.Proofs.Ytoammdlinpjbeaa.crcUnlike
open Go.ChangeShapes Go.WideShapes Go.ChangeAt Go.RowKit Go.ChangeMaps Go.WideElems
set_option linter.unusedVariables false

theorem own : ownKnob Try.prog.godebug = none := by kernel_rfl

theorem walk (A0 : Option Addr) (n0 c0 : Nat) (z0 : List Int) (a1 : Int) (a2 : Int) (a3 : Int) (w : World) (w0 : IntRow w .u8 A0 n0 c0 z0) (w1 : (Lit.int .i64 a1).wf = true) (w2 : (Lit.int .u8 a2).wf = true) (w3 : (Lit.int .u8 a3).wf = true) :
    Calls Try.prog 7 #[.slice A0 n0 c0, .int .i64 a1, .int .u8 a2, .int .u8 a3] w fun e w' => e = .returned (.bool true) ∧ Below w.heap.size w w' := by
  have f1 := fits_wf w1
  have f2 := f8_wf w2
  have f3 := f8_wf w3
  by_cases h0 : 4096 < n0
  · go_enter Try.func7, Try.ntmps7
    go_wp2_with (go_at_call 8; refine (alive_yes _).mono ?_; rintro e w1 ⟨rfl, hb1⟩)
    go_ret
    exact ⟨rfl, hb1⟩
  by_cases h1 : a1 < 0
  · go_enter Try.func7, Try.ntmps7
    go_wp2_with (go_at_call 8; refine (alive_yes _).mono ?_; rintro e w1 ⟨rfl, hb1⟩)
    go_ret
    exact ⟨rfl, hb1⟩
  obtain ⟨p, rfl⟩ := Int.eq_ofNat_of_zero_le (Int.not_lt.1 h1)
  by_cases h2 : (n0 : Int) - 1 ≤ p
  · go_enter Try.func7, Try.ntmps7
    go_wp2_with (go_at_call 8; refine (alive_yes _).mono ?_; rintro e w1 ⟨rfl, hb1⟩)
    go_ret
    exact ⟨rfl, hb1⟩
  by_cases h3 : a2 = 0 ∧ a3 = 0
  · obtain ⟨rfl, rfl⟩ := h3
    go_enter Try.func7, Try.ntmps7
    go_wp2_with (go_at_call 8; refine (alive_yes _).mono ?_; rintro e w1 ⟨rfl, hb1⟩)
    go_ret
    exact ⟨rfl, hb1⟩
  have hp : p + 1 < n0 := by omega
  have h4 : (a2 = 0 ∧ (a3 == 0) = false) ∨ (a2 == 0) = false := by
    by_cases e2 : a2 = 0
    · by_cases e3 : a3 = 0
      · exact absurd ⟨e2, e3⟩ h3
      · exact .inl ⟨e2, by simpa using e3⟩
    · exact .inr (by simpa using e2)
  obtain ⟨i0, hi, hz0, hz1, hz2⟩ := info_parts byte_info
  have H2 := Lib.hid hz2
  have H1 := Lib.hid hz1
  have H0 := Lib.hid hz0
  have R0 := Lib.hid w0
  have x1 : F8 (z0[p]?.getD 0) := range_u8 w0.wf p
  have y1 : F8 (z0[p + 1]?.getD 0) := range_u8 w0.wf (p + 1)
  obtain ⟨a, ha⟩ : ∃ a, bits .xor .u8 (z0[p]?.getD 0) a2 = a := ⟨_, rfl⟩
  obtain ⟨b, hb⟩ : ∃ b, bits .xor .u8 (z0[p + 1]?.getD 0) a3 = b := ⟨_, rfl⟩
  have g1 : F8 a := by rw [← ha]; exact f8_xor x1 f2
  have g2 : F8 b := by rw [← hb]; exact f8_xor y1 f3
  have hne : sumOf ((z0.set p a).set (p + 1) b) ≠ sumOf z0 := fun he =>
    h3 (goes_unlike _ z0 p (by rw [w0.len_eq]; exact hp) a2 a3 a b f2 f3 (by rw [← ha, bz_xor x1 f2]) (by rw [← hb, bz_xor y1 f3]) he)
  have hwf : ∀ n ∈ (z0.set p a).set (p + 1) b, (Lit.int .u8 n).wf = true := wf_set (wf_set w0.wf (WalkArith.wf_u8 g1) _) (WalkArith.wf_u8 g2) _
  have HV := Lib.hid hwf
  have k1 := fun A c W h => sum_any A n0 c ((z0.set p a).set (p + 1) b) W h
  have k2 := fun W h => sum_any A0 n0 c0 z0 W h
  obtain ⟨S, hS⟩ : ∃ S, sumOf ((z0.set p a).set (p + 1) b) = S := ⟨_, rfl⟩
  obtain ⟨T, hT⟩ : ∃ T, sumOf z0 = T := ⟨_, rfl⟩
  rw [hS, hT] at hne
  rw [hS] at k1
  rw [hT] at k2
  have hd : ((S.toNat : Int) != (T.toNat : Int)) = true := by
    rw [bne_iff_ne]
    intro he
    exact hne (BitVec.eq_of_toNat_eq (by omega))
  clear hz0 hz1 hz2 w0 hwf hS hT hne h3
  obtain ⟨X, hX⟩ : ∃ X, z0[p]?.getD 0 = X := ⟨_, rfl⟩
  obtain ⟨Y, hY⟩ : ∃ Y, z0[p + 1]?.getD 0 = Y := ⟨_, rfl⟩
  rw [hX] at ha x1
  rw [hY] at hb y1
  have HX := Lib.hid hX
  have HY := Lib.hid hY
  clear hX hY
  rcases h4 with ⟨rfl, h5⟩ | h5
  all_goals
    go_enter Try.func7, Try.ntmps7
    go_wp2_with (first
      | (go_at_call 8; refine (alive_yes _).mono ?_; rintro e w1 ⟨rfl, hb1⟩)
      | (at_builtin; refine wpList_append_row _ rfl (.tmp 34) (.tmp 35) _ rfl w.heap.size 5 i0 _ 1 Try.underlying22 hi H0.out H1.out H2.out rfl _ 0 [] rfl (World.ownsRow_lit (base := w.heap.size) (size := 1) w1 #[] 0 hb1.size (by simp [maxLen]) (by simp)) .u8 _ n0 c0 _ rfl ((R0.out.below hb1).alloc _) (by unfold maxLen; omega) (by omega) (by simp; have := hb1.size; omega) ?_; intro A3 c3 w3 hown3 hb3; simp only [Nat.zero_add, List.nil_append] at hown3; have hb5 : Below w.heap.size w w3 := (hb1.alloc hb1.size _).trans hb3; obtain ⟨g, rfl, hg1, hg2⟩ := own_form hown3 (by omega); have q1 := own_cell hown3 (j := p) (by omega); have q2 := own_cell hown3 (j := p + 1) (by omega); have q3 := hown3.frozenAt p; have q4 := hown3.frozenAt (p + 1); rw [HX.out] at q1; rw [HY.out] at q2)
      | (go_at_call 9; ((with_reducible refine (k1 _ c3 _ (IntRow.of_own (own_set (own_set hown3 p a) (p + 1) b) HV.out)).mono ?_); rintro e w' ⟨rfl, rfl⟩))
      | (go_at_call 9; ((with_reducible refine (k2 _ (R0.out.below ((hb5.setCell (p := ⟨g, p, none⟩) hg1 _).setCell (p := ⟨g, p + 1, none⟩) hg1 _))).mono ?_); rintro e w' ⟨rfl, rfl⟩)))
    go_ret
    exact ⟨rfl, (hb5.setCell (p := ⟨g, p, none⟩) hg1 _).setCell (p := ⟨g, p + 1, none⟩) hg1 _⟩

set_option maxRecDepth 100000 in
theorem lifted (os : Os) (started : os.Started) (H : Type) (enc : TypeId × Value → H) :
    ReturnsInHanded {} Try.checked os 7 .any (Rows.crcUnlikeSpec.pre6 enc Try.prog Try.f7 Rows.crcUnlikeRow.domain false) (Rows.crcUnlikeSpec.post enc Try.prog Try.f7 false true false false) := by
  refine returnsInHanded_of_change (C := Try.checked) own started (by kernel_rfl) Try.func7
    (ChangeSpec.witness6 (enc := enc) (C := Try.checked) false ⟨#[], #[.slice none 0 0, .int .i64 0, .int .u8 0, .int .u8 0], []⟩ 8 (by kernel_rfl) (by kernel_rfl) (by kernel_rfl) (by kernel_rfl)) ?_
  intro W base args ds gs before hval0 hW hcnd _
  have hval : ∀ (j : Nat) t v, Try.f7.params[j]? = some t → args[j]? = some v → Value.okWide Try.prog W .any base t v := hval0
  have hW' := hW
  obtain ⟨p, q, hA0, hV, rfl, hfz, hnd⟩ := hW
  have hA : DataW.TrodAll enc Try.prog W 0 (fun _ => true) true Try.f7.params.toList args.toList ds p := hA0
  have hAk := hA
  rw [Try.params7] at hA hval
  obtain ⟨v0, vs0, d0, ds0, p0, q0, hargs, rfl, hp, h0, r0⟩ := trodAll_cons hA
  obtain ⟨v1, vs1, d1, ds1, p1, q1, rfl, rfl, rfl, h1, r1⟩ := trodAll_cons r0
  obtain ⟨v2, vs2, d2, ds2, p2, q2, rfl, rfl, rfl, h2, r2⟩ := trodAll_cons r1
  obtain ⟨v3, vs3, d3, ds3, p3, q3, rfl, rfl, rfl, h3, r3⟩ := trodAll_cons r2
  obtain ⟨rfl, rfl, rfl⟩ := trodAll_nil r3
  obtain rfl : args = #[v0, v1, v2, v3] := by cases args; simp_all
  obtain ⟨rfl, rfl⟩ := trodVars_none hV
  clear hA0 hval0 hargs
  simp only [List.append_nil] at hW'
  have hend : ∀ W' : World, Below W.heap.size W W' → Rows.crcUnlikeSpec.post enc Try.prog Try.f7 false true false false W #[v0, v1, v2, v3] (.bool true) W' := fun W' hb =>
    law_post (tb := 4) hW' hAk rfl (by kernel_rfl) (by kernel_rfl) (by kernel_rfl) Try.underlying4 rfl rfl rfl hb
  clear hW' hAk hp
  obtain ⟨A0, n0, c0, z0, rfl, w0⟩ := ints_arg Try.underlying22 Try.underlying5 (by kernel_rfl) (hval 0 22 v0 rfl rfl) h0
  obtain ⟨a1, rfl, rfl, rfl, w1⟩ := open_int Try.underlying3 (hval 1 3 v1 rfl rfl) h1
  obtain ⟨a2, rfl, rfl, rfl, w2⟩ := open_int Try.underlying5 (hval 2 5 v2 rfl rfl) h2
  obtain ⟨a3, rfl, rfl, rfl, w3⟩ := open_int Try.underlying5 (hval 3 5 v3 rfl rfl) h3
  refine (walk A0 n0 c0 z0 a1 a2 a3 W w0 w1 w2 w3).mono fun e W' ⟨he, hg⟩ => ?_
  subst he
  exact ⟨_, rfl, hend W' hg⟩

theorem over : Rows.crcUnlikeRow.holds Try.pinned (OpenSpec.ofChange Rows.crcUnlikeSpec) :=
  OpenClaim.holds_of_wide 7 Try.f7 rfl rfl rfl rfl rfl rfl rfl ⟨rfl, rfl, rfl, rfl, rfl⟩ rfl rfl rfl rfl rfl (by kernel_rfl) Try.func7 (by kernel_rfl)
    (of_decide_eq_true (by kernel_rfl)) (by unfold Func.isWrapper; first | (rw [if_pos (by decide +kernel)]; kernel_rfl) | (rw [if_neg (by decide +kernel)]; exact ⟨rfl, rfl⟩))
    (fun os started H enc _ => lifted os started H enc)

/-- THE STATEMENT -/
theorem proved : Rows.CrcUnlikeSaid :=
  over
#print axioms proved
end Go.Proofs.Ytoammdlinpjbeaa.crcUnlike
