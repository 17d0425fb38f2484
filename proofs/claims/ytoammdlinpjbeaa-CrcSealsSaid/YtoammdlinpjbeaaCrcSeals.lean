/-
  Seal and Open answer what the document says, of all rows of up to 2^12 bytes; what is handed in stays.
  The walk is the prover's own; the frame of the row's step follows the kit's template.
-/
import Derived.Test.YtoammdlinpjbeaaRows
import Derived.Test.YtoammdlinpjbeaaLawKit
import Derived.Test.YtoammdlinpjbeaaCrcE
import Derived.Test.YtoammdlinpjbeaaCrcN
namespace Go.Proofs.Ytoammdlinpjbeaa.crcSeals
open Go.ChangeShapes Go.WideShapes Go.ChangeAt Go.RowKit Go.ChangeMaps Go.WideElems
set_option linter.unusedVariables false

theorem own : ownKnob Try.prog.godebug = none := by kernel_rfl
set_option maxRecDepth 100000 in
theorem walk (A0 : Option Addr) (n0 c0 : Nat) (z0 : List Int) (w : World) (w0 : IntRow w .u8 A0 n0 c0 z0) :
    Calls Try.prog 4 #[.slice A0 n0 c0] w fun e w' => e = .returned (.bool true) ∧ Below w.heap.size w w' := by
  by_cases h0 : 4096 < n0
  · go_enter Try.func4, Try.ntmps4
    go_wp2_with (go_at_call 8; refine (alive_yes _).mono ?_; rintro e w1 ⟨rfl, hb1⟩)
    go_ret
    exact ⟨rfl, hb1⟩
  obtain ⟨i0, hi, hz0, hz1, hz2⟩ := info_parts byte_info
  have H2 := Lib.hid hz2
  have H1 := Lib.hid hz1
  have H0 := Lib.hid hz0
  have R0 := Lib.hid w0
  have k1 := fun A c W h => seal_any A n0 c z0 W h (by omega)
  have k2 := fun W h => rsum_any A0 n0 c0 z0 W h
  have hs := (sumOf z0).isLt
  obtain ⟨S, hS⟩ : ∃ S : Int, ((sumOf z0).toNat : Int) = S := ⟨_, rfl⟩
  have s1 : 0 ≤ S := by omega
  have s2 : S ≤ 65535 := by omega
  rw [hS] at k2
  have HS := Lib.hid hS
  obtain ⟨str, hstr⟩ : ∃ str, strOfNums z0 = str := ⟨_, rfl⟩
  have HSTR := Lib.hid hstr
  clear hz0 hz1 hz2 w0 hs hS hstr
  go_enter Try.func4, Try.ntmps4
  go_wp2_with (first
    | (go_at_call 8; refine (alive_yes _).mono ?_; rintro e w1 ⟨rfl, hb1⟩)
    | (at_builtin; refine wpList_append_row _ rfl (.tmp 16) (.tmp 17) _ rfl w.heap.size 5 i0 _ 1 Try.underlying22 hi H0.out H1.out H2.out rfl _ 0 [] rfl (World.ownsRow_lit (base := w.heap.size) (size := 1) w1 #[] 0 hb1.size (by simp [maxLen]) (by simp)) .u8 _ n0 c0 _ rfl ((R0.out.below hb1).alloc _) (by unfold maxLen; omega) (by omega) (by simp; have := hb1.size; omega) ?_; intro A3 c3 w3 hown3 hb3; simp only [Nat.zero_add, List.nil_append] at hown3; have hb4 : Below w.heap.size w w3 := (hb1.alloc hb1.size _).trans hb3)
    | (go_at_call 13; ((with_reducible refine (k1 A3 c3 _ (IntRow.of_own hown3 R0.out.wf)).mono ?_); rintro e w4 ⟨A4, c4, rfl, hown4, hb5⟩; have hb6 : Below w.heap.size w w4 := hb4.trans (hb5.mono hb4.size); obtain ⟨g4, rfl, hg1, hg2⟩ := own_form hown4 (by omega)))
    | (go_at_call 10; ((with_reducible refine (k2 _ (R0.out.below hb6)).mono ?_); rintro e w' ⟨rfl, rfl⟩)))
  have hz0 := R0.out.len_eq
  have ro4 : Bytes w4 (some ⟨g4, 0, none⟩) (n0 + 2) c4 (sealed z0) := IntRow.of_own hown4 (sealed_wf R0.out.wf)
  have rb4 : Bytes w4 A0 n0 c0 z0 := R0.out.below hb6
  have rl4 : Bytes w4 A3 n0 c3 z0 := IntRow.of_own (own_keep hown3 hb5) R0.out.wf
  have cap4 := ro4.cap_le
  have max4 := ro4.max
  unfold maxLen at max4
  have cb := fun m : Nat => run_convert_row (P := Try.prog) (w4.drewN m) 22 5 9 Try.underlying22 Try.underlying5 Try.underlying9 A0 n0 c0 z0 (rb4.drewN m)
  have cl := fun m : Nat => run_convert_row (P := Try.prog) (w4.drewN m) 22 5 9 Try.underlying22 Try.underlying5 Try.underlying9 A3 n0 c3 z0 (rl4.drewN m)
  have cs := fun m : Nat => run_convert_row (P := Try.prog) (w4.drewN m) 22 5 9 Try.underlying22 Try.underlying5 Try.underlying9 (some ⟨g4, 0, none⟩) n0 c4 _ ((ro4.pre (m := n0) (by omega)).drewN m)
  have q1 := own_cell hown4 (j := n0) (by omega)
  have q2 := own_cell hown4 (j := n0 + 1) (by omega)
  have ht : (sealed z0).take n0 = z0 := by rw [← hz0]; exact sealed_take _
  rw [ht] at cs
  rw [← hz0, sealed_hi, hz0, HS.out] at q1
  rw [← hz0, sealed_lo, hz0, HS.out] at q2
  simp only [HSTR.out] at cb cl cs
  have RO4 := Lib.hid ro4
  have RL4 := Lib.hid rl4
  clear hz0 ro4 rb4 rl4 ht
  have e1 : IntKind.i64.wrap ((n0 : Int) + 2) = n0 + 2 := IntWalk.i64_in _ (by omega)
  have e2 : IntKind.i64.wrap ((n0 : Int) + 1) = n0 + 1 := IntWalk.i64_in _ (by omega)
  have e3 : (0 : Int) ≤ n0 + 1 := by omega
  have e4 : ((n0 : Int) + 1).toNat = n0 + 1 := by omega
  have e5 : S.tdiv 256 = S / 256 := Int.tdiv_eq_ediv_of_nonneg s1
  have e6 : S.tmod 256 = S % 256 := Int.tmod_eq_emod_of_nonneg s1
  have e7 : IntKind.u16.wrap (S / 256) = S / 256 := by rw [wrap_u16]; omega
  have e8 : IntKind.u8.wrap (S / 256) = S / 256 := by rw [wrap_u8]; omega
  have e9 : IntKind.u16.wrap (S % 256) = S % 256 := by rw [wrap_u16]; omega
  have ea : IntKind.u8.wrap (S % 256) = S % 256 := by rw [wrap_u8]; omega
  have b1 : (0 : Int) ≤ n0 := by omega
  have b2 : (n0 : Int) ≤ c4 := by omega
  have b3 : ¬ c4 = 0 := by omega
  have b4 : n0 ≤ c4 := by omega
  have b5 : (n0 : Int) < n0 + 2 := by omega
  have b6 : (n0 : Int) + 1 < n0 + 2 := by omega
  have b7 : n0 < n0 + 2 := by omega
  go_quiet (fail)
  clear e1 e2 e3 e4 e5 e6 e7 e8 e9 ea b1 b2 b3 b4 b5 b6 b7 q1 q2 cb cl cs
  have k3 : ∀ m : Nat, Calls Try.prog 14 #[.slice (some ⟨g4, 0, none⟩) (n0 + 2) c4] (w4.drewN m) (OpenYes 5 (w4.drewN m) n0 z0) := fun m => by
    have h := open_yes (some ⟨g4, 0, none⟩) (n0 + 2) c4 (sealed z0) (w4.drewN m) (RO4.out.drewN m) (by omega) (opens_sealed z0)
    rw [Nat.add_sub_cancel, show (sealed z0).take n0 = z0 by rw [← R0.out.len_eq]; exact sealed_take _] at h
    exact h
  by_cases hn : n0 < 2
  · go_wp2_with (first
      | (go_at_call 14; ((with_reducible refine (k3 _).mono ?_); rintro e w5 ⟨A5, c5, rfl, hown5, hb7⟩))
      | (go_at_call 14; ((with_reducible refine (open_short A3 n0 c3 _ hn).mono ?_); rintro e w6 ⟨rfl, hb8⟩)))
    have hb9 : Below w.heap.size w w6 := ((below_drewN hb6 _).trans (hb7.mono hb6.size)).trans (hb8.mono (Nat.le_trans hb6.size hb7.size))
    have d1 : decide (2 ≤ (n0 : Int)) = false := decide_eq_false (by omega)
    go_quiet (fail)
    have cb := fun m : Nat => run_convert_row (P := Try.prog) (w6.drewN m) 22 5 9 Try.underlying22 Try.underlying5 Try.underlying9 A0 n0 c0 z0 ((R0.out.below hb9).drewN m)
    have cx := fun m : Nat => run_convert_row (P := Try.prog) (w6.drewN m) 22 5 9 Try.underlying22 Try.underlying5 Try.underlying9 A5 n0 c5 z0 (IntRow.drewN (IntRow.of_own (own_keep hown5 hb8) R0.out.wf) m)
    simp only [HSTR.out] at cb cx
    go_wp2
    go_quiet (fail)
    go_wp2
    go_ret
    exact ⟨rfl, below_drewN (below_drewN hb9 _) _⟩
  obtain ⟨X, hX⟩ : ∃ X : Int, z0[n0 - 2]?.getD 0 = X := ⟨_, rfl⟩
  obtain ⟨Y, hY⟩ : ∃ Y : Int, z0[n0 - 1]?.getD 0 = Y := ⟨_, rfl⟩
  obtain ⟨T, hT⟩ : ∃ T : Int, ((sumOf (z0.take (n0 - 2))).toNat : Int) = T := ⟨_, rfl⟩
  obtain ⟨str2, hstr2⟩ : ∃ str, strOfNums (z0.take (n0 - 2)) = str := ⟨_, rfl⟩
  obtain ⟨x1, x2⟩ := range_u8 R0.out.wf (n0 - 2)
  obtain ⟨y1, y2⟩ := range_u8 R0.out.wf (n0 - 1)
  rw [hX] at x1 x2
  rw [hY] at y1 y2
  have hop : opens z0 = (T == X * 256 + Y) := by
    unfold opens lastTwo
    rw [R0.out.len_eq, hX, hY, hT, decide_eq_true (by omega), Bool.true_and]
  have HX := Lib.hid hX
  have HY := Lib.hid hY
  have HT := Lib.hid hT
  have HSTR2 := Lib.hid hstr2
  clear hX hY hT hstr2
  have hn2 : 2 ≤ n0 := by omega
  cases ho : opens z0 with
  | false =>
    rw [ho] at hop
    have HOP := Lib.hid hop
    have HO := Lib.hid ho
    clear hop ho hn
    go_wp2_with (first
      | (go_at_call 14; ((with_reducible refine (k3 _).mono ?_); rintro e w5 ⟨A5, c5, rfl, hown5, hb7⟩))
      | (go_at_call 14; ((with_reducible refine (open_no A3 n0 c3 z0 _ ((RL4.out.drewN _).below hb7) (by omega) HO.out).mono ?_); rintro e w6 ⟨rfl, hb8⟩)))
    have hb9 : Below w.heap.size w w6 := ((below_drewN hb6 _).trans (hb7.mono hb6.size)).trans (hb8.mono (Nat.le_trans hb6.size hb7.size))
    have hq : (T == X * 256 + Y) = false := HOP.out.symm
    obtain ⟨b, off, rfl, hb, hc⟩ := (R0.out.below hb9).cell (by omega)
    have c1 := hc (n0 - 2) (by omega)
    have c2 := hc (n0 - 1) (by omega)
    rw [List.getD_eq_getElem?_getD] at c1 c2
    have cap0 := R0.out.cap_le
    have max0 := R0.out.max
    unfold maxLen at max0
    rw [HX.out] at c1
    rw [HY.out] at c2
    have k5 : ∀ m : Nat, Calls Try.prog 10 #[.slice (some ⟨b, off, none⟩) (n0 - 2) c0] (w6.drewN m) fun e w' => e = .returned (.int .u16 T) ∧ w' = w6.drewN m := fun m => by
      have h := rsum_any (some ⟨b, off, none⟩) (n0 - 2) c0 _ (w6.drewN m) (((R0.out.below hb9).drewN m).pre (m := n0 - 2) (by omega))
      rw [HT.out] at h
      exact h.mono fun _ _ ⟨he, hw⟩ => ⟨he, hw.symm⟩
    clear hc
    have d1 : decide (2 ≤ (n0 : Int)) = true := decide_eq_true (by omega)
    have e1 : IntKind.i64.wrap ((n0 : Int) - 2) = n0 - 2 := IntWalk.i64_in _ (by omega)
    have e2 : IntKind.i64.wrap ((n0 : Int) - 1) = n0 - 1 := IntWalk.i64_in _ (by omega)
    have e3 : ((n0 : Int) - 2).toNat = n0 - 2 := by omega
    have e4 : ((n0 : Int) - 1).toNat = n0 - 1 := by omega
    have e5 : IntKind.u16.wrap (X * 256) = X * 256 := by rw [wrap_u16]; omega
    have e6 : IntKind.u16.wrap (X * 256 + Y) = X * 256 + Y := by rw [wrap_u16]; omega
    have b1 : (0 : Int) ≤ n0 - 2 := by omega
    have b2 : (0 : Int) ≤ n0 - 1 := by omega
    have b3 : (n0 : Int) - 2 ≤ c0 := by omega
    have b4 : (n0 : Int) - 2 < n0 := by omega
    have b5 : (n0 : Int) - 1 < n0 := by omega
    have b6 : ¬ c0 = 0 := by omega
    have b7 : n0 - 2 ≤ c0 := by omega
    have b8 : n0 - 2 < n0 := by omega
    have b9 : n0 - 1 < n0 := by omega
    have ba : (2 : Int) ≤ n0 := by omega
    have bb : (1 : Int) ≤ n0 := by omega
    go_quiet ((go_at_call 10; exact Calls.quiet_of_same (k5 _)))
    have cb := fun m : Nat => run_convert_row (P := Try.prog) (w6.drewN m) 22 5 9 Try.underlying22 Try.underlying5 Try.underlying9 (some ⟨b, off, none⟩) n0 c0 z0 ((R0.out.below hb9).drewN m)
    have cx := fun m : Nat => run_convert_row (P := Try.prog) (w6.drewN m) 22 5 9 Try.underlying22 Try.underlying5 Try.underlying9 A5 n0 c5 z0 (IntRow.drewN (IntRow.of_own (own_keep hown5 hb8) R0.out.wf) m)
    simp only [HSTR.out] at cb cx
    go_wp2
    go_quiet (fail)
    go_wp2
    go_ret
    exact ⟨rfl, below_drewN (below_drewN hb9 _) _⟩
  | true =>
    rw [ho] at hop
    have HOP := Lib.hid hop
    have HO := Lib.hid ho
    clear hop ho hn
    go_wp2_with (first
      | (go_at_call 14; ((with_reducible refine (k3 _).mono ?_); rintro e w5 ⟨A5, c5, rfl, hown5, hb7⟩))
      | (go_at_call 14; ((with_reducible refine (open_yes A3 n0 c3 z0 _ ((RL4.out.drewN _).below hb7) (by omega) HO.out).mono ?_); rintro e w6 ⟨A6, c6, rfl, hown6, hb8⟩)))
    have hb9 : Below w.heap.size w w6 := ((below_drewN hb6 _).trans (hb7.mono hb6.size)).trans (hb8.mono (Nat.le_trans hb6.size hb7.size))
    have hq : (T == X * 256 + Y) = true := HOP.out.symm
    obtain ⟨b, off, rfl, hb, hc⟩ := (R0.out.below hb9).cell (by omega)
    have c1 := hc (n0 - 2) (by omega)
    have c2 := hc (n0 - 1) (by omega)
    rw [List.getD_eq_getElem?_getD] at c1 c2
    have cap0 := R0.out.cap_le
    have max0 := R0.out.max
    unfold maxLen at max0
    rw [HX.out] at c1
    rw [HY.out] at c2
    have k5 : ∀ m : Nat, Calls Try.prog 10 #[.slice (some ⟨b, off, none⟩) (n0 - 2) c0] (w6.drewN m) fun e w' => e = .returned (.int .u16 T) ∧ w' = w6.drewN m := fun m => by
      have h := rsum_any (some ⟨b, off, none⟩) (n0 - 2) c0 _ (w6.drewN m) (((R0.out.below hb9).drewN m).pre (m := n0 - 2) (by omega))
      rw [HT.out] at h
      exact h.mono fun _ _ ⟨he, hw⟩ => ⟨he, hw.symm⟩
    clear hc
    have d1 : decide (2 ≤ (n0 : Int)) = true := decide_eq_true (by omega)
    have e1 : IntKind.i64.wrap ((n0 : Int) - 2) = n0 - 2 := IntWalk.i64_in _ (by omega)
    have e2 : IntKind.i64.wrap ((n0 : Int) - 1) = n0 - 1 := IntWalk.i64_in _ (by omega)
    have e3 : ((n0 : Int) - 2).toNat = n0 - 2 := by omega
    have e4 : ((n0 : Int) - 1).toNat = n0 - 1 := by omega
    have e5 : IntKind.u16.wrap (X * 256) = X * 256 := by rw [wrap_u16]; omega
    have e6 : IntKind.u16.wrap (X * 256 + Y) = X * 256 + Y := by rw [wrap_u16]; omega
    have b1 : (0 : Int) ≤ n0 - 2 := by omega
    have b2 : (0 : Int) ≤ n0 - 1 := by omega
    have b3 : (n0 : Int) - 2 ≤ c0 := by omega
    have b4 : (n0 : Int) - 2 < n0 := by omega
    have b5 : (n0 : Int) - 1 < n0 := by omega
    have b6 : ¬ c0 = 0 := by omega
    have b7 : n0 - 2 ≤ c0 := by omega
    have b8 : n0 - 2 < n0 := by omega
    have b9 : n0 - 1 < n0 := by omega
    have ba : (2 : Int) ≤ n0 := by omega
    have bb : (1 : Int) ≤ n0 := by omega
    go_quiet ((go_at_call 10; exact Calls.quiet_of_same (k5 _)))
    have cb := fun m : Nat => run_convert_row (P := Try.prog) (w6.drewN m) 22 5 9 Try.underlying22 Try.underlying5 Try.underlying9 (some ⟨b, off, none⟩) n0 c0 z0 ((R0.out.below hb9).drewN m)
    have cx := fun m : Nat => run_convert_row (P := Try.prog) (w6.drewN m) 22 5 9 Try.underlying22 Try.underlying5 Try.underlying9 A5 n0 c5 z0 (IntRow.drewN (IntRow.of_own (own_keep hown5 hb8) R0.out.wf) m)
    simp only [HSTR.out] at cb cx
    have cy := fun m : Nat => run_convert_row (P := Try.prog) (w6.drewN m) 22 5 9 Try.underlying22 Try.underlying5 Try.underlying9 (some ⟨b, off, none⟩) (n0 - 2) c0 _ (((R0.out.below hb9).drewN m).pre (m := n0 - 2) (by omega))
    have cz := fun m : Nat => run_convert_row (P := Try.prog) (w6.drewN m) 22 5 9 Try.underlying22 Try.underlying5 Try.underlying9 A6 (n0 - 2) c6 _ (IntRow.drewN (IntRow.of_own hown6 (fun n hn => R0.out.wf n (List.mem_of_mem_take hn))) m)
    simp only [HSTR2.out] at cy cz
    go_wp2
    go_quiet (fail)
    go_wp2
    go_ret
    exact ⟨rfl, below_drewN (below_drewN hb9 _) _⟩

set_option maxRecDepth 100000 in
theorem lifted (os : Os) (started : os.Started) (H : Type) (enc : TypeId × Value → H) :
    ReturnsInHanded {} Try.checked os 4 .any (Rows.crcSealsSpec.pre6 enc Try.prog Try.f4 Rows.crcSealsRow.domain false) (Rows.crcSealsSpec.post enc Try.prog Try.f4 false true false false) := by
  refine returnsInHanded_of_change (C := Try.checked) own started (by kernel_rfl) Try.func4
    (ChangeSpec.witness6 (enc := enc) (C := Try.checked) false ⟨#[], #[.slice none 0 0], []⟩ 8 (by kernel_rfl) (by kernel_rfl) (by kernel_rfl) (by kernel_rfl)) ?_
  intro W base args ds gs before hval0 hW hcnd _
  have hval : ∀ (j : Nat) t v, Try.f4.params[j]? = some t → args[j]? = some v → Value.okWide Try.prog W .any base t v := hval0
  have hW' := hW
  obtain ⟨p, q, hA0, hV, rfl, hfz, hnd⟩ := hW
  have hA : DataW.TrodAll enc Try.prog W 0 (fun _ => true) true Try.f4.params.toList args.toList ds p := hA0
  have hAk := hA
  rw [Try.params4] at hA hval
  obtain ⟨v0, vs0, d0, ds0, p0, q0, hargs, rfl, hp, h0, r0⟩ := trodAll_cons hA
  obtain ⟨rfl, rfl, rfl⟩ := trodAll_nil r0
  obtain rfl : args = #[v0] := by cases args; simp_all
  obtain ⟨rfl, rfl⟩ := trodVars_none hV
  clear hA0 hval0 hargs
  simp only [List.append_nil] at hW'
  have hend : ∀ W' : World, Below W.heap.size W W' → Rows.crcSealsSpec.post enc Try.prog Try.f4 false true false false W #[v0] (.bool true) W' := fun W' hb =>
    law_post (tb := 4) hW' hAk rfl (by kernel_rfl) (by kernel_rfl) (by kernel_rfl) Try.underlying4 rfl rfl rfl hb
  clear hW' hAk hp
  obtain ⟨A0, n0, c0, z0, rfl, w0⟩ := ints_arg Try.underlying22 Try.underlying5 (by kernel_rfl) (hval 0 22 v0 rfl rfl) h0
  refine (walk A0 n0 c0 z0 W w0).mono fun e W' ⟨he, hg⟩ => ?_
  subst he
  exact ⟨_, rfl, hend W' hg⟩

theorem over : Rows.crcSealsRow.holds Try.pinned (OpenSpec.ofChange Rows.crcSealsSpec) :=
  OpenClaim.holds_of_wide 4 Try.f4 rfl rfl rfl rfl rfl rfl rfl ⟨rfl, rfl, rfl, rfl, rfl⟩ rfl rfl rfl rfl rfl (by kernel_rfl) Try.func4 (by kernel_rfl)
    (of_decide_eq_true (by kernel_rfl)) (by unfold Func.isWrapper; first | (rw [if_pos (by decide +kernel)]; kernel_rfl) | (rw [if_neg (by decide +kernel)]; exact ⟨rfl, rfl⟩))
    (fun os started H enc _ => lifted os started H enc)

/-- THE STATEMENT -/
theorem proved : Rows.CrcSealsSaid :=
  over
#print axioms proved
end Go.Proofs.Ytoammdlinpjbeaa.crcSeals
