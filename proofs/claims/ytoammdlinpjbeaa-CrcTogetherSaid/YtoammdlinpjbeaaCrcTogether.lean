/-
  Of three rows of up to 2^12 bytes, of one length, the sum of what all three turn is what the three sums turn.
  The walk is the prover's own; the frame of the row's step follows the kit's template.
-/
import Derived.Test.YtoammdlinpjbeaaRows
import Derived.Test.YtoammdlinpjbeaaLawKit
import Derived.Test.YtoammdlinpjbeaaCrcE
import Derived.Test.YtoammdlinpjbeaaCrcN
import Derived.StillTailTactics
namespace Go.Proofs.Ytoammdlinpjbeaa.crcTogether
open Go.ChangeShapes Go.WideShapes Go.ChangeAt Go.RowKit Go.ChangeMaps Go.WideElems
set_option linter.unusedVariables false

theorem own : ownKnob Try.prog.godebug = none := by kernel_rfl
/-- The row behind k rounds. -/
def SoFar (a b c : List Int) (g n k : Nat) (zs : List Int) (W wr : World) : Prop :=
  Below W.heap.size W wr ∧ wr.ownsRow W.heap.size 5 1 (.slice (some ⟨g, 0, none⟩) n n) n (zs.map (.int .u8)) ∧ (∀ n ∈ zs, (Lit.int .u8 n).wf = true) ∧
    ∀ j : Nat, j < k → bz (zs[j]?.getD 0) = bz (a[j]?.getD 0) ^^^ bz (b[j]?.getD 0) ^^^ bz (c[j]?.getD 0)
theorem so_step {g n : Nat} {a b c zs : List Int} {k : Nat} {W wr : World} (h1 : Below W.heap.size W wr) (h2 : wr.ownsRow W.heap.size 5 1 (.slice (some ⟨g, 0, none⟩) n n) n (zs.map (.int .u8)))
    (h3 : ∀ n ∈ zs, (Lit.int .u8 n).wf = true) (h4 : ∀ j : Nat, j < k → bz (zs[j]?.getD 0) = bz (a[j]?.getD 0) ^^^ bz (b[j]?.getD 0) ^^^ bz (c[j]?.getD 0)) (hk : k < n) (hg : W.heap.size ≤ g) {X Y Z : Int}
    (hX : a[k]?.getD 0 = X) (hY : b[k]?.getD 0 = Y) (hZ : c[k]?.getD 0 = Z) (fX : F8 X) (fY : F8 Y) (fZ : F8 Z) :
    SoFar a b c g n (k + 1) (zs.set k (bits .xor .u8 (bits .xor .u8 X Y) Z)) W (wr.setCell ⟨g, k, none⟩ (.int .u8 (bits .xor .u8 (bits .xor .u8 X Y) Z))).drew := by
  have hl : zs.length = n := by have := h2.1; simpa using this
  refine ⟨(h1.setCell (p := ⟨g, k, none⟩) hg _).drew, (own_set h2 k _).drew, wf_set h3 (WalkArith.wf_u8 (f8_xor (f8_xor fX fY) fZ)) k, fun j hj => ?_⟩
  by_cases hjk : j = k
  · subst hjk
    rw [List.getElem?_set_self (by omega), hX, hY, hZ]
    rw [Option.getD_some, bz_xor (f8_xor fX fY) fZ, bz_xor fX fY]
  · rw [List.getElem?_set_ne (by omega)]
    exact h4 j (by omega)
theorem three_ones : (65535#16 ^^^ 65535#16 ^^^ 65535#16 : BitVec 16) = 65535#16 := by decide
theorem start_cells (n : Nat) : (madeCells (Value.int IntKind.u8 0).cells (n * 1)).toList = (List.replicate n (0 : Int)).map (.int .u8) := by
  rw [Nat.mul_one, List.map_replicate]
  exact toList_madeCells_one _ _
theorem wf_zeros (n : Nat) : ∀ m ∈ List.replicate n (0 : Int), (Lit.int .u8 m).wf = true := by
  intro m hm
  obtain ⟨_, rfl⟩ := List.mem_replicate.1 hm
  rfl
theorem walk (A0 : Option Addr) (n0 c0 : Nat) (z0 : List Int) (A1 : Option Addr) (n1 c1 : Nat) (z1 : List Int) (A2 : Option Addr) (n2 c2 : Nat) (z2 : List Int) (w : World) (w0 : IntRow w .u8 A0 n0 c0 z0) (w1 : IntRow w .u8 A1 n1 c1 z1) (w2 : IntRow w .u8 A2 n2 c2 z2) :
    Calls Try.prog 6 #[.slice A0 n0 c0, .slice A1 n1 c1, .slice A2 n2 c2] w fun e w' => e = .returned (.bool true) ∧ Below w.heap.size w w' := by
  by_cases h0 : 4096 < n0
  · go_enter Try.func6, Try.ntmps6
    go_wp2_with (go_at_call 8; refine (alive_yes _).mono ?_; rintro e w1 ⟨rfl, hb1⟩)
    go_ret
    exact ⟨rfl, hb1⟩
  by_cases h1 : n1 ≠ n0
  · have h2 : ((n1 : Int) != (n0 : Int)) = true := by rw [bne_iff_ne]; omega
    go_enter Try.func6, Try.ntmps6
    go_wp2_with (go_at_call 8; refine (alive_yes _).mono ?_; rintro e w1 ⟨rfl, hb1⟩)
    go_ret
    exact ⟨rfl, hb1⟩
  obtain rfl : n0 = n1 := by omega
  clear h1
  by_cases h1 : n2 ≠ n0
  · have h2 : ((n2 : Int) != (n0 : Int)) = true := by rw [bne_iff_ne]; omega
    go_enter Try.func6, Try.ntmps6
    go_wp2_with (go_at_call 8; refine (alive_yes _).mono ?_; rintro e w1 ⟨rfl, hb1⟩)
    go_ret
    exact ⟨rfl, hb1⟩
  obtain rfl : n0 = n2 := by omega
  clear h1
  obtain ⟨i0, hi, hz0, hz1, hz2⟩ := info_parts byte_info
  have H2 := Lib.hid hz2
  have H1 := Lib.hid hz1
  have H0 := Lib.hid hz0
  have R0 := Lib.hid w0
  have R1 := Lib.hid w1
  have R2 := Lib.hid w2
  clear hz0 hz1 hz2 w0 w1 w2
  go_enter Try.func6, Try.ntmps6
  go_wp2_with (first
    | (go_at_call 8; refine (alive_yes _).mono ?_; rintro e w1 ⟨rfl, hb1⟩)
    | (at_make; refine wpList_make_full _ rfl _ _ 22 rfl w.heap.size 5 i0 (.int .u8 0) 1 Try.underlying22 hi H0.out H1.out .i64 .i64 _ _ n0 rfl rfl rfl rfl (by rw [H2.out]; omega) (by unfold maxLen; omega) hb1.size ?_; intro w3 hown3 hgrow3; rw [start_cells] at hown3; have hb3 : Below w.heap.size w w3 := hb1.grown hgrow3 hb1.size (by simp)))
  go_loopw [33] (fun i wr => ∃ (k : Nat) (zs : List Int), k ≤ n0 ∧ i = .int .i64 k ∧ SoFar z0 z1 z2 w1.heap.size n0 k zs w wr) (fun i _ => n0 - (intOf i).toNat)
  case atStart => exact ⟨0, _, Nat.zero_le _, rfl, hb3, hown3, wf_zeros _, fun j hj => absurd hj (Nat.not_lt_zero _)⟩
  case round =>
    obtain ⟨k, zs, hk, rfl, hbr, hownr, hwz, hsf⟩ := hrel
    have HW := Lib.hid hwz
    have HF := Lib.hid hsf
    have HO := Lib.hid hownr
    clear hwz hsf hownr
    by_cases hlt : k < n0
    · obtain ⟨b0, o0, rfl, hb0, hc0⟩ := (R0.out.below hbr).cell (by omega)
      obtain ⟨b1, o1, rfl, hb1', hc1⟩ := (R1.out.below hbr).cell (by omega)
      obtain ⟨b2, o2, rfl, hb2, hc2⟩ := (R2.out.below hbr).cell (by omega)
      have q0 := hc0 k hlt
      have q1 := hc1 k hlt
      have q2 := hc2 k hlt
      have q3 := own_cell HO.out (j := k) hlt
      have q4 := HO.out.frozenAt k
      rw [List.getD_eq_getElem?_getD] at q0 q1 q2
      clear hc0 hc1 hc2
      obtain ⟨X, hX⟩ : ∃ X, z0[k]?.getD 0 = X := ⟨_, rfl⟩
      obtain ⟨Y, hY⟩ : ∃ Y, z1[k]?.getD 0 = Y := ⟨_, rfl⟩
      obtain ⟨Z, hZ⟩ : ∃ Z, z2[k]?.getD 0 = Z := ⟨_, rfl⟩
      obtain ⟨U, hU⟩ : ∃ U, zs[k]?.getD 0 = U := ⟨_, rfl⟩
      rw [hX] at q0
      rw [hY] at q1
      rw [hZ] at q2
      rw [hU] at q3
      have HX := Lib.hid hX
      have HY := Lib.hid hY
      have HZ := Lib.hid hZ
      have fX : F8 X := by rw [← hX]; exact range_u8 R0.out.wf k
      have fY : F8 Y := by rw [← hY]; exact range_u8 R1.out.wf k
      have fZ : F8 Z := by rw [← hZ]; exact range_u8 R2.out.wf k
      clear hX hY hZ hU
      go_wp2
      go_still_tail 17, (by kernel_rfl)
      change wpList _ _ _ _ _ wr.drew
      go_wp2
      go_roundw
      case rel =>
        exact ⟨k + 1, _, by omega, by go_num, so_step hbr HO.out HW.out HF.out hlt hb1.size HX.out HY.out HZ.out fX fY fZ⟩
      case measure => simp [intOf]; omega
    · obtain rfl : k = n0 := by omega
      have he := goes_three 65535#16 65535#16 65535#16 z0 z1 z2 zs k R0.out.len_eq R1.out.len_eq R2.out.len_eq (by have := HO.out.1; simpa using this) HF.out
      rw [three_ones] at he
      have k0 := sum_any A0 k c0 z0 wr (R0.out.below hbr)
      have k1 := sum_any A1 k c1 z1 wr (R1.out.below hbr)
      have k2 := sum_any A2 k c2 z2 wr (R2.out.below hbr)
      have k3 := sum_any _ k k zs wr (IntRow.of_own HO.out HW.out)
      have he' : sumOf zs = sumOf z0 ^^^ sumOf z1 ^^^ sumOf z2 := he
      have e1 := xor_toNat (sumOf z0) (sumOf z1)
      have e2 := xor_toNat (sumOf z0 ^^^ sumOf z1) (sumOf z2)
      rw [← he'] at e2
      obtain ⟨S0, h0'⟩ : ∃ S : Int, ((sumOf z0).toNat : Int) = S := ⟨_, rfl⟩
      obtain ⟨S1, h1'⟩ : ∃ S : Int, ((sumOf z1).toNat : Int) = S := ⟨_, rfl⟩
      obtain ⟨S2, h2'⟩ : ∃ S : Int, ((sumOf z2).toNat : Int) = S := ⟨_, rfl⟩
      obtain ⟨S3, h3'⟩ : ∃ S : Int, ((sumOf zs).toNat : Int) = S := ⟨_, rfl⟩
      obtain ⟨S4, h4'⟩ : ∃ S : Int, ((sumOf z0 ^^^ sumOf z1).toNat : Int) = S := ⟨_, rfl⟩
      rw [h0'] at k0 e1
      rw [h1'] at k1 e1
      rw [h2'] at k2 e2
      rw [h3'] at k3 e2
      rw [h4'] at e1 e2
      clear he he' h0' h1' h2' h3' h4'
      go_wp2_with (first
        | (go_at_call 9; ((with_reducible refine k0.mono ?_); rintro e w' ⟨rfl, rfl⟩))
        | (go_at_call 9; ((with_reducible refine k1.mono ?_); rintro e w' ⟨rfl, rfl⟩))
        | (go_at_call 9; ((with_reducible refine k2.mono ?_); rintro e w' ⟨rfl, rfl⟩))
        | (go_at_call 9; ((with_reducible refine k3.mono ?_); rintro e w' ⟨rfl, rfl⟩)))
      go_ret
      exact ⟨rfl, hbr⟩

set_option maxRecDepth 100000 in
theorem lifted (os : Os) (started : os.Started) (H : Type) (enc : TypeId × Value → H) :
    ReturnsInHanded {} Try.checked os 6 .any (Rows.crcTogetherSpec.pre6 enc Try.prog Try.f6 Rows.crcTogetherRow.domain false) (Rows.crcTogetherSpec.post enc Try.prog Try.f6 false true false false) := by
  refine returnsInHanded_of_change (C := Try.checked) own started (by kernel_rfl) Try.func6
    (ChangeSpec.witness6 (enc := enc) (C := Try.checked) false ⟨#[], #[.slice none 0 0, .slice none 0 0, .slice none 0 0], []⟩ 8 (by kernel_rfl) (by kernel_rfl) (by kernel_rfl) (by kernel_rfl)) ?_
  intro W base args ds gs before hval0 hW hcnd _
  have hval : ∀ (j : Nat) t v, Try.f6.params[j]? = some t → args[j]? = some v → Value.okWide Try.prog W .any base t v := hval0
  have hW' := hW
  obtain ⟨p, q, hA0, hV, rfl, hfz, hnd⟩ := hW
  have hA : DataW.TrodAll enc Try.prog W 0 (fun _ => true) true Try.f6.params.toList args.toList ds p := hA0
  have hAk := hA
  rw [Try.params6] at hA hval
  obtain ⟨v0, vs0, d0, ds0, p0, q0, hargs, rfl, hp, h0, r0⟩ := trodAll_cons hA
  obtain ⟨v1, vs1, d1, ds1, p1, q1, rfl, rfl, rfl, h1, r1⟩ := trodAll_cons r0
  obtain ⟨v2, vs2, d2, ds2, p2, q2, rfl, rfl, rfl, h2, r2⟩ := trodAll_cons r1
  obtain ⟨rfl, rfl, rfl⟩ := trodAll_nil r2
  obtain rfl : args = #[v0, v1, v2] := by cases args; simp_all
  obtain ⟨rfl, rfl⟩ := trodVars_none hV
  clear hA0 hval0 hargs
  simp only [List.append_nil] at hW'
  have hend : ∀ W' : World, Below W.heap.size W W' → Rows.crcTogetherSpec.post enc Try.prog Try.f6 false true false false W #[v0, v1, v2] (.bool true) W' := fun W' hb =>
    law_post (tb := 4) hW' hAk rfl (by kernel_rfl) (by kernel_rfl) (by kernel_rfl) Try.underlying4 rfl rfl rfl hb
  clear hW' hAk hp
  obtain ⟨A0, n0, c0, z0, rfl, w0⟩ := ints_arg Try.underlying22 Try.underlying5 (by kernel_rfl) (hval 0 22 v0 rfl rfl) h0
  obtain ⟨A1, n1, c1, z1, rfl, w1⟩ := ints_arg Try.underlying22 Try.underlying5 (by kernel_rfl) (hval 1 22 v1 rfl rfl) h1
  obtain ⟨A2, n2, c2, z2, rfl, w2⟩ := ints_arg Try.underlying22 Try.underlying5 (by kernel_rfl) (hval 2 22 v2 rfl rfl) h2
  refine (walk A0 n0 c0 z0 A1 n1 c1 z1 A2 n2 c2 z2 W w0 w1 w2).mono fun e W' ⟨he, hg⟩ => ?_
  subst he
  exact ⟨_, rfl, hend W' hg⟩

theorem over : Rows.crcTogetherRow.holds Try.pinned (OpenSpec.ofChange Rows.crcTogetherSpec) :=
  OpenClaim.holds_of_wide 6 Try.f6 rfl rfl rfl rfl rfl rfl rfl ⟨rfl, rfl, rfl, rfl, rfl⟩ rfl rfl rfl rfl rfl (by kernel_rfl) Try.func6 (by kernel_rfl)
    (of_decide_eq_true (by kernel_rfl)) (by unfold Func.isWrapper; first | (rw [if_pos (by decide +kernel)]; kernel_rfl) | (rw [if_neg (by decide +kernel)]; exact ⟨rfl, rfl⟩))
    (fun os started H enc _ => lifted os started H enc)

/-- THE STATEMENT -/
theorem proved : Rows.CrcTogetherSaid :=
  over
#print axioms proved
end Go.Proofs.Ytoammdlinpjbeaa.crcTogether
