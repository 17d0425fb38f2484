/-
  With up to sixteen bits in a row turned what was sealed is not opened, of all rows of up to 2^12 bytes.
  The walk is the prover's own; the frame of the row's step follows the kit's template.
-/
import Derived.Test.YtoammdlinpjbeaaRows
import Derived.Test.YtoammdlinpjbeaaLawKit
import Derived.Test.YtoammdlinpjbeaaCrcE
import Derived.Test.YtoammdlinpjbeaaCrcN
namespace Go.Proofs.Ytoammdlinpjbeaa.crcTurned
open Go.ChangeShapes Go.WideShapes Go.ChangeAt Go.RowKit Go.ChangeMaps Go.WideElems
set_option linter.unusedVariables false

theorem own : ownKnob Try.prog.godebug = none := by kernel_rfl
/-- The row behind k rounds. -/
def SoTurned (b : BitVec 16) (p g n c k : Nat) (zs : List Int) (W wr : World) : Prop :=
  Below W.heap.size W wr ∧ wr.ownsRow W.heap.size 5 1 (.slice (some ⟨g, 0, none⟩) n c) n (zs.map (.int .u8)) ∧ (∀ n ∈ zs, (Lit.int .u8 n).wf = true) ∧ Turned b n p k zs
theorem so_turn {b : BitVec 16} {p g n c k : Nat} {zs : List Int} {W wr : World} {X : Int} (h1 : Below W.heap.size W wr) (h2 : wr.ownsRow W.heap.size 5 1 (.slice (some ⟨g, 0, none⟩) n c) n (zs.map (.int .u8))) (h3 : ∀ n ∈ zs, (Lit.int .u8 n).wf = true)
    (h4 : Turned b n p k zs) (hX : zs[(p + k) / 8]?.getD 0 = X) (hb : b.getLsbD (15 - k) = true) (hk : k < 16) (hp : p + 16 ≤ 8 * n) (hg : W.heap.size ≤ g) :
    SoTurned b p g n c (k + 1) (zs.set ((p + k) / 8) (bits .xor .u8 X ((128 : Int) / 2 ^ ((p + k) % 8)))) W (wr.setCell ⟨g, (p + k) / 8, none⟩ (.int .u8 (bits .xor .u8 X ((128 : Int) / 2 ^ ((p + k) % 8))))) := by
  obtain ⟨t1, t2⟩ := turn_byte ((p + k) % 8)
  have hl : zs.length = n := by have := h2.1; simpa using this
  have fX : F8 X := by rw [← hX]; exact range_u8 h3 _
  refine ⟨h1.setCell (p := ⟨g, (p + k) / 8, none⟩) hg _, own_set h2 _ _, wf_set h3 (WalkArith.wf_u8 (f8_xor fX t1)) _, turned_turn h4 hb hk hp hl _ ?_⟩
  rw [bz_xor fX t1, t2, hX]
theorem walk (A0 : Option Addr) (n0 c0 : Nat) (z0 : List Int) (a1 : Int) (a2 : Int) (w : World) (w0 : IntRow w .u8 A0 n0 c0 z0) (w1 : (Lit.int .i64 a1).wf = true) (w2 : (Lit.int .u16 a2).wf = true) :
    Calls Try.prog 5 #[.slice A0 n0 c0, .int .i64 a1, .int .u16 a2] w fun e w' => e = .returned (.bool true) ∧ Below w.heap.size w w' := by
  obtain ⟨s, rfl⟩ := as_sum (f16_wf w2)
  have f1 := fits_wf w1
  by_cases h0 : 4096 < n0
  · go_enter Try.func5, Try.ntmps5
    go_wp2_with (go_at_call 8; refine (alive_yes _).mono ?_; rintro e w1 ⟨rfl, hb1⟩)
    go_ret
    exact ⟨rfl, hb1⟩
  by_cases h1 : s = 0#16
  · subst h1
    go_enter Try.func5, Try.ntmps5
    go_wp2_with (go_at_call 8; refine (alive_yes _).mono ?_; rintro e w1 ⟨rfl, hb1⟩)
    go_ret
    exact ⟨rfl, hb1⟩
  have h1' : ((s.toNat : Int) == 0) = false := by
    rw [beq_eq_false_iff_ne]
    intro he
    exact h1 (BitVec.eq_of_toNat_eq (by simpa using he))
  by_cases h2 : a1 < 0
  · go_enter Try.func5, Try.ntmps5
    go_wp2_with (go_at_call 8; refine (alive_yes _).mono ?_; rintro e w1 ⟨rfl, hb1⟩)
    go_ret
    exact ⟨rfl, hb1⟩
  obtain ⟨p, rfl⟩ := Int.eq_ofNat_of_zero_le (Int.not_lt.1 h2)
  by_cases h3 : 8 * (n0 : Int) < p
  · go_enter Try.func5, Try.ntmps5
    go_wp2_with (go_at_call 8; refine (alive_yes _).mono ?_; rintro e w1 ⟨rfl, hb1⟩)
    go_ret
    exact ⟨rfl, hb1⟩
  have hp : p ≤ 8 * n0 := by omega
  have R0 := Lib.hid w0
  have k1 := fun W h => seal_any A0 n0 c0 z0 W h (by omega)
  have K2 := Lib.hid (turned_none (b := s) (N := n0 + 2) (p := p) w0.wf)
  have K3 := Lib.hid (sealed_wf w0.wf)
  clear w0
  go_enter Try.func5, Try.ntmps5
  go_wp2_with (first
    | (go_at_call 8; refine (alive_yes _).mono ?_; rintro e w1 ⟨rfl, hb1⟩)
    | (go_at_call 13; refine (k1 _ (R0.out.below hb1)).mono ?_; rintro e w3 ⟨A3, c3, rfl, hown3, hb3⟩; obtain ⟨g, rfl, hg1, hg2⟩ := own_form hown3 (by omega); have hb5 : Below w.heap.size w w3 := hb1.trans (hb3.mono hb1.size)))
  have hs := s.isLt
  go_loopw [8] (fun i wr => ∃ (k : Nat) (zs : List Int), k ≤ 16 ∧ i = .int .i64 k ∧ SoTurned s p g (n0 + 2) c3 k zs w wr) (fun i _ => 16 - (intOf i).toNat)
  case atStart => exact ⟨0, _, Nat.zero_le _, rfl, hb5, own_mono hown3 hb1.size, K3.out, K2.out⟩
  case round =>
    obtain ⟨k, zs, hk, rfl, hbr, hownr, hwz, htu⟩ := hrel
    have HW := Lib.hid hwz
    have HT := Lib.hid htu
    have HO := Lib.hid hownr
    clear hwz htu hownr
    by_cases hlt : k < 16
    · have hbit := bit_of s (15 - k)
      cases hb : s.getLsbD (15 - k) with
      | false =>
        rw [hb] at hbit
        have HB := Lib.hid hb
        clear hb
        go_wp2
        go_roundw
        case rel => exact ⟨k + 1, zs, by omega, by go_num, hbr, HO.out, HW.out, turned_keep HT.out HB.out⟩
        case measure => simp [intOf]; omega
      | true =>
        rw [hb] at hbit
        have HB := Lib.hid hb
        have q3 := own_cell HO.out (j := (p + k) / 8) (by omega)
        have q4 := HO.out.frozenAt ((p + k) / 8)
        obtain ⟨X, hX⟩ : ∃ X, zs[(p + k) / 8]?.getD 0 = X := ⟨_, rfl⟩
        rw [hX] at q3
        have HX := Lib.hid hX
        clear hb hX
        go_wp2
        go_roundw
        case rel => exact ⟨k + 1, _, by omega, by go_num, so_turn hbr HO.out HW.out HT.out HX.out HB.out hlt (by omega) (by have := hb1.size; omega)⟩
        case measure => simp [intOf]; omega
    · obtain rfl : k = 16 := by omega
      have hop := turned_shut HT.out HW.out h1
      have k4 := open_no _ (n0 + 2) c3 zs wr (IntRow.of_own HO.out HW.out) (by omega) hop
      clear hop
      go_wp2_with (go_at_call 14; ((with_reducible refine k4.mono ?_); rintro e w' ⟨rfl, hb6⟩))
      go_ret
      exact ⟨rfl, hbr.trans (hb6.mono hbr.size)⟩

set_option maxRecDepth 100000 in
theorem lifted (os : Os) (started : os.Started) (H : Type) (enc : TypeId × Value → H) :
    ReturnsInHanded {} Try.checked os 5 .any (Rows.crcTurnedSpec.pre6 enc Try.prog Try.f5 Rows.crcTurnedRow.domain false) (Rows.crcTurnedSpec.post enc Try.prog Try.f5 false true false false) := by
  refine returnsInHanded_of_change (C := Try.checked) own started (by kernel_rfl) Try.func5
    (ChangeSpec.witness6 (enc := enc) (C := Try.checked) false ⟨#[], #[.slice none 0 0, .int .i64 0, .int .u16 0], []⟩ 8 (by kernel_rfl) (by kernel_rfl) (by kernel_rfl) (by kernel_rfl)) ?_
  intro W base args ds gs before hval0 hW hcnd _
  have hval : ∀ (j : Nat) t v, Try.f5.params[j]? = some t → args[j]? = some v → Value.okWide Try.prog W .any base t v := hval0
  have hW' := hW
  obtain ⟨p, q, hA0, hV, rfl, hfz, hnd⟩ := hW
  have hA : DataW.TrodAll enc Try.prog W 0 (fun _ => true) true Try.f5.params.toList args.toList ds p := hA0
  have hAk := hA
  rw [Try.params5] at hA hval
  obtain ⟨v0, vs0, d0, ds0, p0, q0, hargs, rfl, hp, h0, r0⟩ := trodAll_cons hA
  obtain ⟨v1, vs1, d1, ds1, p1, q1, rfl, rfl, rfl, h1, r1⟩ := trodAll_cons r0
  obtain ⟨v2, vs2, d2, ds2, p2, q2, rfl, rfl, rfl, h2, r2⟩ := trodAll_cons r1
  obtain ⟨rfl, rfl, rfl⟩ := trodAll_nil r2
  obtain rfl : args = #[v0, v1, v2] := by cases args; simp_all
  obtain ⟨rfl, rfl⟩ := trodVars_none hV
  clear hA0 hval0 hargs
  simp only [List.append_nil] at hW'
  have hend : ∀ W' : World, Below W.heap.size W W' → Rows.crcTurnedSpec.post enc Try.prog Try.f5 false true false false W #[v0, v1, v2] (.bool true) W' := fun W' hb =>
    law_post (tb := 4) hW' hAk rfl (by kernel_rfl) (by kernel_rfl) (by kernel_rfl) Try.underlying4 rfl rfl rfl hb
  clear hW' hAk hp
  obtain ⟨A0, n0, c0, z0, rfl, w0⟩ := ints_arg Try.underlying22 Try.underlying5 (by kernel_rfl) (hval 0 22 v0 rfl rfl) h0
  obtain ⟨a1, rfl, rfl, rfl, w1⟩ := open_int Try.underlying3 (hval 1 3 v1 rfl rfl) h1
  obtain ⟨a2, rfl, rfl, rfl, w2⟩ := open_int Try.underlying23 (hval 2 23 v2 rfl rfl) h2
  refine (walk A0 n0 c0 z0 a1 a2 W w0 w1 w2).mono fun e W' ⟨he, hg⟩ => ?_
  subst he
  exact ⟨_, rfl, hend W' hg⟩

theorem over : Rows.crcTurnedRow.holds Try.pinned (OpenSpec.ofChange Rows.crcTurnedSpec) :=
  OpenClaim.holds_of_wide 5 Try.f5 rfl rfl rfl rfl rfl rfl rfl ⟨rfl, rfl, rfl, rfl, rfl⟩ rfl rfl rfl rfl rfl (by kernel_rfl) Try.func5 (by kernel_rfl)
    (of_decide_eq_true (by kernel_rfl)) (by unfold Func.isWrapper; first | (rw [if_pos (by decide +kernel)]; kernel_rfl) | (rw [if_neg (by decide +kernel)]; exact ⟨rfl, rfl⟩))
    (fun os started H enc _ => lifted os started H enc)

/-- THE STATEMENT -/
theorem proved : Rows.CrcTurnedSaid :=
  over
#print axioms proved
end Go.Proofs.Ytoammdlinpjbeaa.crcTurned
