/-
  The statement WrapLong: for every start of 32 bits and every row of steps of 32 bits, however long, the law answers true and changes nothing; without conditions.
  The walk is the prover's own; the frame of the row's step follows the kit's template.
-/
import Derived.Test.YtmckbgnafpinmaaRows
import Derived.Test.YtmckbgnafpinmaaLawKit
import Derived.LoopTactic
import Derived.Test.YtmckbgnafpinmaaWrapB
namespace Go.Proofs.Ytmckbgnafpinmaa.wrapLong
open Go.ChangeShapes Go.WideShapes Go.ChangeAt Go.RowKit Go.ChangeMaps Go.WideElems
set_option linter.unusedVariables false

theorem own : ownKnob Try.prog.godebug = none := by kernel_rfl
/-- What went by behind so many steps. -/
def went (s : Int) (zs : List Int) (k : Nat) : Int := s + (zs.take k).sum
theorem went_step (s : Int) (zs : List Int) (k : Nat) (h : k < zs.length) : went s zs (k + 1) = went s zs k + zs[k]?.getD 0 := by
  unfold went
  rw [List.take_add_one, List.sum_append]
  simp [List.getElem?_eq_getElem h]; omega
theorem went_bd (s : Int) (zs : List Int) (h0 : F32 s) (hz : ∀ j : Nat, (0 : Int) ≤ zs[j]?.getD 0 ∧ zs[j]?.getD 0 ≤ 4294967295) : ∀ k : Nat, k ≤ zs.length → 0 ≤ went s zs k ∧ went s zs k ≤ 4294967295 * (k + 1)
  | 0, _ => by obtain ⟨h1, h2⟩ := h0; unfold went; simp; omega
  | k + 1, h => by
    have ih := went_bd s zs h0 hz k (by omega)
    have hk := hz k
    rw [went_step s zs k (by omega)]
    omega
theorem ext_step (a z : Int) : extV a ((a % 4294967296 + z) % 4294967296) = a + z % 4294967296 := by unfold extV; omega
theorem long_ext (a z : Int) (h1 : 0 ≤ z ∧ z ≤ 4294967295) : extV a ((a + z) % 4294967296) = a + z := by unfold extV; omega
theorem walk (a0 : Int) (A1 : Option Addr) (n1 c1 : Nat) (z1 : List Int) (w : World) (w0 : (Lit.int .u32 a0).wf = true) (w1 : IntRow w .u32 A1 n1 c1 z1) :
    Calls Try.prog 7 #[.int .u32 a0, .slice A1 n1 c1] w fun e w' => e = .returned (.bool true) ∧ Below w.heap.size w w' := by
  have f0 := f32_wf w0
  have hz : ∀ j : Nat, (0 : Int) ≤ z1[j]?.getD 0 ∧ z1[j]?.getD 0 ≤ 4294967295 := range_u32 w1.wf
  have hlen := w1.len_eq
  have hcell := w1.cell
  have hbd := went_bd a0 z1 f0 hz
  have hst := went_step a0 z1
  have hmx := w1.max
  have hcap := w1.cap_le
  unfold maxLen at hmx
  obtain ⟨g1, g2⟩ := f0
  by_cases h : 200 < n1
  · clear hz hlen hcell hbd hst
    go_enter Try.func7, Try.ntmps7
    go_wp2_with (go_at_call 9; refine (alive_yes _).mono ?_; rintro e w' ⟨rfl, rfl⟩)
    go_ret
    exact ⟨rfl, Below.refl _ _⟩
  · have hn : n1 ≤ 200 := by omega
    have h0 : went a0 z1 0 = a0 := by unfold went; simp
    have HL := Lib.hid hlen
    have HC := Lib.hid hcell
    have HB := Lib.hid hbd
    have HS := Lib.hid hst
    have H0 := Lib.hid h0
    have HZ := Lib.hid hz
    clear h hz hlen hcell hbd hst h0
    go_enter Try.func7, Try.ntmps7
    go_wp2_with (go_at_call 9; refine (alive_yes _).mono ?_; rintro e w' ⟨rfl, rfl⟩)
    go_loop [5, 6, 7, 24] (fun now want raw i => ∃ k : Nat, k ≤ n1 ∧ i = .int .i64 k ∧ now = .int .i64 (went a0 z1 k) ∧ want = .int .i64 (went a0 z1 k) ∧ raw = .int .u32 (went a0 z1 k % 4294967296)) (fun _ _ _ i => n1 - (intOf i).toNat)
    case atStart => exact ⟨0, Nat.zero_le _, rfl, by rw [H0.out], by rw [H0.out], by rw [H0.out]; congr 1; omega⟩
    case round =>
      obtain ⟨k, hk, rfl, rfl, rfl, rfl⟩ := hrel
      by_cases hlt : k < n1
      · obtain ⟨b, off, rfl, hb, hc⟩ := HC.out (by omega)
        have hck := hc k hlt
        have hbk := HB.out k (by have := HL.out; omega)
        have hbs := HB.out (k + 1) (by have := HL.out; omega)
        have HK := Lib.hid (HS.out k (by have := HL.out; omega))
        obtain ⟨z2, z3⟩ := HZ.out k
        rw [HK.out] at hbs
        clear hc
        obtain ⟨y1, y2⟩ := hbk
        obtain ⟨y3, y4⟩ := hbs
        obtain ⟨Y, hY⟩ : ∃ Y, went a0 z1 k = Y := ⟨_, rfl⟩
        obtain ⟨Z, hZ⟩ : ∃ Z, z1[k]?.getD 0 = Z := ⟨_, rfl⟩
        have e1 := long_ext Y Z (by omega)
        have hle : extV Y ((Y + Z) % 4294967296) ≤ 1125899906842624 := by omega
        rw [hY] at y1 y2 y3 y4
        rw [hZ] at z2 z3 y3 y4
        go_wp2_with (go_at_call 16; (with_reducible refine (ext_yes Y _ _ (by omega) (by omega) hle).mono ?_); rintro e w' ⟨rfl, rfl⟩)
        go_round
        case rel => exact ⟨k + 1, by omega, by go_num, by rw [HK.out, hY, hZ], by rw [HK.out, hY, hZ], by rw [HK.out, hY, hZ]⟩
        case measure => simp [intOf]; omega
      · go_wp2
        go_ret
        exact ⟨rfl, Below.refl _ _⟩

set_option maxRecDepth 100000 in
theorem lifted (os : Os) (started : os.Started) (H : Type) (enc : TypeId × Value → H) :
    ReturnsInHanded {} Try.checked os 7 .any (Rows.wrapLongSpec.pre6 enc Try.prog Try.f7 Rows.wrapLongRow.domain false) (Rows.wrapLongSpec.post enc Try.prog Try.f7 false true false false) := by
  refine returnsInHanded_of_change (C := Try.checked) own started (by kernel_rfl) Try.func7
    (ChangeSpec.witness6 (enc := enc) (C := Try.checked) false ⟨#[], #[.int .u32 0, .slice none 0 0], []⟩ 8 (by kernel_rfl) (by kernel_rfl) (by kernel_rfl) (by kernel_rfl)) ?_
  intro W base args ds gs before hval0 hW hcnd _
  have hval : ∀ (j : Nat) t v, Try.f7.params[j]? = some t → args[j]? = some v → Value.okWide Try.prog W .any base t v := hval0
  have hW' := hW
  obtain ⟨p, q, hA0, hV, rfl, hfz, hnd⟩ := hW
  have hA : DataW.TrodAll enc Try.prog W 0 (fun _ => true) true Try.f7.params.toList args.toList ds p := hA0
  have hAk := hA
  rw [Try.params7] at hA hval
  obtain ⟨v0, vs0, d0, ds0, p0, q0, hargs, rfl, hp, h0, r0⟩ := trodAll_cons hA
  obtain ⟨v1, vs1, d1, ds1, p1, q1, rfl, rfl, rfl, h1, r1⟩ := trodAll_cons r0
  obtain ⟨rfl, rfl, rfl⟩ := trodAll_nil r1
  obtain rfl : args = #[v0, v1] := by cases args; simp_all
  obtain ⟨rfl, rfl⟩ := trodVars_none hV
  clear hA0 hval0 hargs
  simp only [List.append_nil] at hW'
  have hend : ∀ W' : World, Below W.heap.size W W' → Rows.wrapLongSpec.post enc Try.prog Try.f7 false true false false W #[v0, v1] (.bool true) W' := fun W' hb =>
    law_post (tb := 4) hW' hAk rfl (by kernel_rfl) (by kernel_rfl) (by kernel_rfl) Try.underlying4 rfl rfl rfl hb
  clear hW' hAk hp
  obtain ⟨a0, rfl, rfl, rfl, w0⟩ := open_int Try.underlying22 (hval 0 22 v0 rfl rfl) h0
  obtain ⟨A1, n1, c1, z1, rfl, w1⟩ := ints_arg Try.underlying32 Try.underlying22 (by kernel_rfl) (hval 1 32 v1 rfl rfl) h1
  refine (walk a0 A1 n1 c1 z1 W w0 w1).mono fun e W' ⟨he, hg⟩ => ?_
  subst he
  exact ⟨_, rfl, hend W' hg⟩

theorem over : Rows.wrapLongRow.holds Try.pinned (OpenSpec.ofChange Rows.wrapLongSpec) :=
  OpenClaim.holds_of_wide 7 Try.f7 rfl rfl rfl rfl rfl rfl rfl ⟨rfl, rfl, rfl, rfl, rfl⟩ rfl rfl rfl rfl rfl (by kernel_rfl) Try.func7 (by kernel_rfl)
    (of_decide_eq_true (by kernel_rfl)) (by unfold Func.isWrapper; first | (rw [if_pos (by decide +kernel)]; kernel_rfl) | (rw [if_neg (by decide +kernel)]; exact ⟨rfl, rfl⟩))
    (fun os started H enc _ => lifted os started H enc)

/-- THE STATEMENT -/
theorem proved : Rows.WrapLongSaid :=
  over
#print axioms proved
end Go.Proofs.Ytmckbgnafpinmaa.wrapLong
