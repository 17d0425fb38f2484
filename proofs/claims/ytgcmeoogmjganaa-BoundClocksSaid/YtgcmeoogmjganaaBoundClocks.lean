/-
  Two clocks, as many steps on both, go apart by no more than Lag of the rounds that went by: for all terms and rows of steps the law answers true; without conditions.
  The walk is the prover's own; the frame of the row's step follows the kit's template.
-/
import Derived.Test.YtgcmeoogmjganaaRows
import Derived.Test.YtgcmeoogmjganaaLawKit
import Derived.Test.YtgcmeoogmjganaaStructArg
import Derived.Test.YtgcmeoogmjganaaBdH
import Derived.IntWalk
import Derived.LoopTactic
import Derived.Deep.CutBlock
import Derived.Deep.CutRange
import Derived.BigQuiet
namespace Go.Proofs.Ytgcmeoogmjganaa.boundClocks
open Go.ChangeShapes Go.WideShapes Go.ChangeAt Go.RowKit Go.ChangeMaps Go.WideElems
set_option linter.unusedVariables false

theorem split4 {ns : List Int} (h : ns.length = 4) : ∃ s0_0 s0_1 s0_2 s0_3 : Int, ns = [s0_0, s0_1, s0_2, s0_3] := by
  match ns, h with
  | [y0, y1, y2, y3], _ => exact ⟨_, _, _, _, rfl⟩
theorem own : ownKnob Try.prog.godebug = none := by kernel_rfl
theorem range_fits {zs : List Int} (h : ∀ n ∈ zs, (Lit.int .i64 n).wf = true) (k : Nat) : Fits (zs[k]?.getD 0) := by
  rcases Nat.lt_or_ge k zs.length with hk | hk
  · rw [List.getElem?_eq_getElem hk]
    exact fits_wf (h _ (List.getElem_mem hk))
  · rw [List.getElem?_eq_none hk]
    exact ⟨by decide, by decide⟩
theorem clocks {d j t r n X Y N : Int} (g : bdGood d j t r = true) (n0 : 0 ≤ n) (n1 : n ≤ 300) (x0 : n * (1000 - d) ≤ X) (x1 : X ≤ n * (1000 + d)) (y0 : n * (1000 - d) ≤ Y) (y1 : Y ≤ n * (1000 + d)) (hN : (n + r - 1) / r = N) :
    X ≤ bdTicks d j t r N ∧ X - Y ≤ bdLag d j t r N ∧ -(X - Y) ≤ bdLag d j t r N := by
  have c := bdGood_iff.1 g
  have d0 := c.d0
  have d1 := c.d1
  have r0 := c.r0
  have r1 := c.r1
  have e := Int.mul_ediv_add_emod (n + r - 1) r
  have m0 := Int.emod_nonneg (n + r - 1) (by omega : r ≠ 0)
  have m1 := Int.emod_lt_of_pos (n + r - 1) (by omega : 0 < r)
  have b := bd_div (n := n + r - 1) (s := r) (N := 363) (by omega) (by omega) (by omega)
  rw [hN] at e b
  have e1 : r * N = N * r := Int.mul_comm _ _
  have hT : bdTicks d j t r N = N * r * (1000 + d) := by unfold bdTicks; rw [if_pos ⟨g, bdIn_iff.2 ⟨b.1, by omega⟩⟩]
  have h1 : n ≤ N * r := by omega
  have h2 : n * (1000 + d) ≤ N * r * (1000 + d) := Int.mul_le_mul_of_nonneg_right h1 (by omega)
  have h3 : n * (1000 - d) ≤ n * (1000 + d) := Int.mul_le_mul_of_nonneg_left (by omega) n0
  have hL : bdLag d j t r N = (2 * d * bdTicks d j t r N + (1000 - d) - 1) / (1000 - d) := by unfold bdLag; rw [if_pos g]
  rw [← hT] at h2
  have h4 : 2 * d * (n * (1000 - d)) ≤ 2 * d * bdTicks d j t r N := Int.mul_le_mul_of_nonneg_left (by omega) (by omega)
  have h5 : 2 * d * n * (1000 - d) = 2 * d * (n * (1000 - d)) := Int.mul_assoc _ _ _
  have h6 : 2 * d * n ≤ bdLag d j t r N := by rw [hL]; exact Int.le_ediv_of_mul_le (by omega) (by omega)
  have h7 : n * (1000 + d) - n * (1000 - d) = 2 * d * n := by grind
  omega
theorem went_more {k : Nat} {m X Z : Int} (h : (k : Int) * m ≤ X) (h1 : m ≤ Z) : ((k + 1 : Nat) : Int) * m ≤ X + Z := by
  rw [Int.natCast_succ, Int.add_mul, Int.one_mul]
  omega
theorem went_less {k : Nat} {m X Z : Int} (h : X ≤ (k : Int) * m) (h1 : Z ≤ m) : X + Z ≤ ((k + 1 : Nat) : Int) * m := by
  rw [Int.natCast_succ, Int.add_mul, Int.one_mul]
  omega
set_option linter.unusedSimpArgs false in
set_option maxHeartbeats 8000000 in
set_option maxRecDepth 100000 in
theorem walk (s0_0 s0_1 s0_2 s0_3 : Int) (A1 : Option Addr) (n1 c1 : Nat) (z1 : List Int) (A2 : Option Addr) (n2 c2 : Nat) (z2 : List Int) (w : World) (w0_0 : (Lit.int .i64 s0_0).wf = true) (w0_1 : (Lit.int .i64 s0_1).wf = true) (w0_2 : (Lit.int .i64 s0_2).wf = true) (w0_3 : (Lit.int .i64 s0_3).wf = true) (w1 : IntRow w .i64 A1 n1 c1 z1) (w2 : IntRow w .i64 A2 n2 c2 z2) :
    Calls Try.prog 5 #[.agg #[.int .i64 s0_0, .int .i64 s0_1, .int .i64 s0_2, .int .i64 s0_3], .slice A1 n1 c1, .slice A2 n2 c2] w fun e w' => e = .returned (.bool true) ∧ Below w.heap.size w w' := by
  have HB := Lib.hid (Box.start w 23 #[.int .i64 s0_0, .int .i64 s0_1, .int .i64 s0_2, .int .i64 s0_3])
  obtain ⟨c0, c1, c2, c3, _⟩ := HB.out.bd4
  have hg := fun W => bgood_any s0_0 s0_1 s0_2 s0_3 W
  cases eg : bdGood s0_0 s0_1 s0_2 s0_3
  · simp only [eg] at hg
    clear eg
    go_enter Try.func5, Try.ntmps5
    go_wp2_with (first
      | (go_at_call 9; refine (alive_yes _).mono ?_; rintro e wx ⟨rfl, hb⟩; replace HB := Lib.hid (HB.out.next hb); obtain ⟨c0, c1, c2, c3, _⟩ := HB.out.bd4; clear hb)
      | (go_at_call 11; refine (hg _).mono ?_; rintro e wx ⟨rfl, hb⟩; replace HB := Lib.hid (HB.out.next hb); obtain ⟨c0, c1, c2, c3, _⟩ := HB.out.bd4; clear hb))
    go_ret
    exact ⟨rfl, HB.out.below⟩
  simp only [eg] at hg
  by_cases h2 : 300 < n1
  · clear eg
    go_enter Try.func5, Try.ntmps5
    go_wp2_with (first
      | (go_at_call 9; refine (alive_yes _).mono ?_; rintro e wx ⟨rfl, hb⟩; replace HB := Lib.hid (HB.out.next hb); obtain ⟨c0, c1, c2, c3, _⟩ := HB.out.bd4; clear hb)
      | (go_at_call 11; refine (hg _).mono ?_; rintro e wx ⟨rfl, hb⟩; replace HB := Lib.hid (HB.out.next hb); obtain ⟨c0, c1, c2, c3, _⟩ := HB.out.bd4; clear hb))
    go_ret
    exact ⟨rfl, HB.out.below⟩
  by_cases h3 : n2 < n1
  · clear eg
    go_enter Try.func5, Try.ntmps5
    go_wp2_with (first
      | (go_at_call 9; refine (alive_yes _).mono ?_; rintro e wx ⟨rfl, hb⟩; replace HB := Lib.hid (HB.out.next hb); obtain ⟨c0, c1, c2, c3, _⟩ := HB.out.bd4; clear hb)
      | (go_at_call 11; refine (hg _).mono ?_; rintro e wx ⟨rfl, hb⟩; replace HB := Lib.hid (HB.out.next hb); obtain ⟨c0, c1, c2, c3, _⟩ := HB.out.bd4; clear hb))
    go_ret
    exact ⟨rfl, HB.out.below⟩
  have R1 := Lib.hid w1
  have R2 := Lib.hid w2
  have hmx := w1.max
  have hcap := w1.cap_le
  have hmx2 := w2.max
  have hcap2 := w2.cap_le
  unfold maxLen at hmx hmx2
  clear w1 w2
  have k := bdGood_iff.1 eg
  have k1 := k.d0
  have k2 := k.d1
  have k3 := k.r0
  have k4 := k.r1
  have HG := Lib.hid eg
  clear k eg
  have q1 : IntKind.i64.wrap (1000 - s0_0) = 1000 - s0_0 := IntWalk.i64_in _ (by omega)
  have q2 : IntKind.i64.wrap (1000 + s0_0) = 1000 + s0_0 := IntWalk.i64_in _ (by omega)
  go_enter Try.func5, Try.ntmps5
  go_wp2_with (first
    | (go_at_call 9; refine (alive_yes _).mono ?_; rintro e wx ⟨rfl, hb⟩; replace HB := Lib.hid (HB.out.next hb); obtain ⟨c0, c1, c2, c3, _⟩ := HB.out.bd4; clear hb)
    | (go_at_call 11; refine (hg _).mono ?_; rintro e wx ⟨rfl, hb⟩; replace HB := Lib.hid (HB.out.next hb); obtain ⟨c0, c1, c2, c3, _⟩ := HB.out.bd4; clear hb))
  clear c0 c1 c2 c3
  go_loopw [7, 8, 31] (fun x y i wr => ∃ (k : Nat) (X Y : Int), k ≤ n1 ∧ i = .int .i64 k ∧ x = .int .i64 X ∧ y = .int .i64 Y ∧ (k : Int) * (1000 - s0_0) ≤ X ∧ X ≤ (k : Int) * (1000 + s0_0) ∧ (k : Int) * (1000 - s0_0) ≤ Y ∧ Y ≤ (k : Int) * (1000 + s0_0) ∧ Box w 23 #[.int .i64 s0_0, .int .i64 s0_1, .int .i64 s0_2, .int .i64 s0_3] wr) (fun _ _ i _ => n1 - (intOf i).toNat)
  case atStart => exact ⟨0, 0, 0, Nat.zero_le _, rfl, rfl, rfl, by omega, by omega, by omega, by omega, HB.out⟩
  case round =>
    obtain ⟨k, X, Y, hk, rfl, rfl, rfl, x0, x1, y0, y1, hbx⟩ := hrel
    have HX := Lib.hid hbx
    obtain ⟨c0, c1, c2, c3, _⟩ := hbx.bd4
    clear hbx
    have kb := bd_mul (by omega : (0 : Int) ≤ k) (by omega : (k : Int) ≤ 300) (by omega : 0 ≤ 1000 - s0_0) (by omega : 1000 - s0_0 ≤ 1000)
    have kc := bd_mul (by omega : (0 : Int) ≤ k) (by omega : (k : Int) ≤ 300) (by omega : 0 ≤ 1000 + s0_0) (by omega : 1000 + s0_0 ≤ 1010)
    have X0 : 0 ≤ X := by omega
    have X1 : X ≤ 303000 := by omega
    have Y0 : 0 ≤ Y := by omega
    have Y1 : Y ≤ 303000 := by omega
    have HR := Lib.hid (And.intro x0 (And.intro x1 (And.intro y0 y1)))
    clear x0 x1 y0 y1 kb kc
    by_cases hlt : k < n1
    · obtain ⟨b, off, rfl, hb', hc⟩ := (R1.out.below HX.out.below).cell (by omega)
      obtain ⟨b2, off2, rfl, hb2', hc2⟩ := (R2.out.below HX.out.below).cell (by omega)
      have hck := hc k hlt
      have hck2 := hc2 k (by omega)
      rw [List.getD_eq_getElem?_getD] at hck hck2
      obtain ⟨z1a, z1b⟩ := range_fits R1.out.wf k
      obtain ⟨z2a, z2b⟩ := range_fits R2.out.wf k
      obtain ⟨Z1, hZ1⟩ : ∃ Z, z1[k]?.getD 0 = Z := ⟨_, rfl⟩
      obtain ⟨Z2, hZ2⟩ : ∃ Z, z2[k]?.getD 0 = Z := ⟨_, rfl⟩
      rw [hZ1] at hck z1a z1b
      rw [hZ2] at hck2 z2a z2b
      clear hc hc2 hZ1 hZ2
      by_cases g0 : Z1 < 1000 - s0_0
      · have d0 : decide (Z1 < 1000 - s0_0) = true := decide_eq_true g0
        go_upto_region 9 with (fail)
        go_quiet (fail)
        go_wp2
        go_ret
        exact ⟨rfl, (HX.out.drewN _).below⟩
      have d0 : decide (Z1 < 1000 - s0_0) = false := decide_eq_false g0
      by_cases g1 : 1000 + s0_0 < Z1
      · have d1 : decide (1000 + s0_0 < Z1) = true := decide_eq_true g1
        go_upto_region 9 with (fail)
        go_quiet (fail)
        go_wp2
        go_ret
        exact ⟨rfl, (HX.out.drewN _).below⟩
      have d1 : decide (1000 + s0_0 < Z1) = false := decide_eq_false g1
      by_cases g2 : Z2 < 1000 - s0_0
      · have d2 : decide (Z2 < 1000 - s0_0) = true := decide_eq_true g2
        go_upto_region 9 with (fail)
        go_quiet (fail)
        go_wp2
        go_ret
        exact ⟨rfl, (HX.out.drewN _).below⟩
      have d2 : decide (Z2 < 1000 - s0_0) = false := decide_eq_false g2
      by_cases g3 : 1000 + s0_0 < Z2
      · have d3 : decide (1000 + s0_0 < Z2) = true := decide_eq_true g3
        go_upto_region 9 with (fail)
        go_quiet (fail)
        go_wp2
        go_ret
        exact ⟨rfl, (HX.out.drewN _).below⟩
      have d3 : decide (1000 + s0_0 < Z2) = false := decide_eq_false g3
      go_upto_region 9 with (fail)
      go_quiet (fail)
      go_wp2
      go_roundw
      case rel => exact ⟨k + 1, X + Z1, Y + Z2, by omega, by go_num, by go_num, by go_num, went_more HR.out.1 (by omega), went_less HR.out.2.1 (by omega), went_more HR.out.2.2.1 (by omega), went_less HR.out.2.2.2 (by omega), HX.out.drewN _⟩
      case measure => simp [intOf]; omega
    · obtain rfl : k = n1 := by omega
      have hnr : (0 : Int) ≤ (k : Int) + s0_3 - 1 := by omega
      have et : ((k : Int) + s0_3 - 1).tdiv s0_3 = ((k : Int) + s0_3 - 1) / s0_3 := Int.tdiv_eq_ediv_of_nonneg hnr
      have bq := bd_div (n := (k : Int) + s0_3 - 1) (s := s0_3) (N := 363) (by omega) (by omega) (by omega)
      obtain ⟨N, hN⟩ : ∃ N, ((k : Int) + s0_3 - 1) / s0_3 = N := ⟨_, rfl⟩
      have hc := clocks HG.out (by omega) (by omega) HR.out.1 HR.out.2.1 HR.out.2.2.1 HR.out.2.2.2 hN
      rw [hN] at et bq
      clear hN
      obtain ⟨bq1, bq2⟩ := bq
      have ht := fun W => ticks_any s0_0 s0_1 s0_2 s0_3 N W
      have hl := fun W => lag_any s0_0 s0_1 s0_2 s0_3 N W
      obtain ⟨TK, eT⟩ : ∃ T, bdTicks s0_0 s0_1 s0_2 s0_3 N = T := ⟨_, rfl⟩
      obtain ⟨LG, eL⟩ : ∃ T, bdLag s0_0 s0_1 s0_2 s0_3 N = T := ⟨_, rfl⟩
      simp only [eT] at ht hc
      simp only [eL] at hl hc
      clear eT eL
      obtain ⟨hc1, hc2, hc3⟩ := hc
      have d1 : decide (X ≤ TK) = true := decide_eq_true hc1
      have d2 : decide (X - Y ≤ LG) = true := decide_eq_true hc2
      have d3 : decide (-(X - Y) ≤ LG) = true := decide_eq_true hc3
      have r0 : (s0_3 == 0) = false := by simp; omega
      have r1 : ¬ s0_3 = 0 := by omega
      go_wp2_with (first
        | (go_at_call 13; refine (ht _).mono ?_; rintro e wx ⟨rfl, hb⟩; replace HX := Lib.hid (HX.out.next hb); obtain ⟨c0, c1, c2, c3, _⟩ := HX.out.bd4; clear hb)
        | (go_at_call 15; refine (hl _).mono ?_; rintro e wx ⟨rfl, hb⟩; replace HX := Lib.hid (HX.out.next hb); obtain ⟨c0, c1, c2, c3, _⟩ := HX.out.bd4; clear hb))
      go_ret
      exact ⟨rfl, HX.out.below⟩

set_option maxRecDepth 100000 in
theorem lifted (os : Os) (started : os.Started) (H : Type) (enc : TypeId × Value → H) :
    ReturnsInHanded {} Try.checked os 5 .any (Rows.boundClocksSpec.pre6 enc Try.prog Try.f5 Rows.boundClocksRow.domain false) (Rows.boundClocksSpec.post enc Try.prog Try.f5 false true false false) := by
  refine returnsInHanded_of_change (C := Try.checked) own started (by kernel_rfl) Try.func5
    (ChangeSpec.witness6 (enc := enc) (C := Try.checked) false ⟨#[], #[.agg #[.int .i64 0, .int .i64 0, .int .i64 0, .int .i64 0], .slice none 0 0, .slice none 0 0], []⟩ 8 (by kernel_rfl) (by kernel_rfl) (by kernel_rfl) (by kernel_rfl)) ?_
  intro W base args ds gs before hval0 hW hcnd _
  have hval : ∀ (j : Nat) t v, Try.f5.params[j]? = some t → args[j]? = some v → Value.okWide Try.prog W .any base t v := hval0
  have hW' := hW
  obtain ⟨p, q, hA0, hV, rfl, hfz, hnd⟩ := hW
  have hA : DataW.TrodAll enc Try.prog W 0 (fun _ => true) true Try.f5.params.toList args.toList ds p := hA0
  have hAk := hA
  rw [Try.params5] at hA hval
  obtain ⟨v0, vs0, d0, ds0, p0, q0, hargs, rfl, hp, h0, r0⟩ := trodAll_cons hA
  obtain ⟨v1, vs1, d1, ds1, p1, q1, rfl, rfl, rfl, h1, r1⟩ := trodAll_cons r0
  obtain ⟨v2, vs2, d2, ds2, p2, q2, rfl, rfl, rfl, h2, r2⟩ := trodAll_cons r1
  obtain ⟨rfl, rfl, rfl⟩ := trodAll_nil r2
  obtain rfl : args = #[v0, v1, v2] := by cases args; simp_all
  obtain ⟨rfl, rfl⟩ := trodVars_none hV
  clear hA0 hval0 hargs
  simp only [List.append_nil] at hW'
  have hend : ∀ W' : World, Below W.heap.size W W' → Rows.boundClocksSpec.post enc Try.prog Try.f5 false true false false W #[v0, v1, v2] (.bool true) W' := fun W' hb =>
    law_post (tb := 4) hW' hAk rfl (by kernel_rfl) (by kernel_rfl) (by kernel_rfl) Try.underlying4 rfl rfl rfl hb
  clear hW' hAk hp
  obtain ⟨ns0, rfl, hl0, hw0⟩ := ints_struct (ks := [.i64, .i64, .i64, .i64]) Try.underlying23 (by kernel_rfl) (by kernel_rfl) (by kernel_rfl) (hval 0 23 v0 rfl rfl) h0
  obtain ⟨s0_0, s0_1, s0_2, s0_3, rfl⟩ := split4 hl0
  clear hl0
  obtain ⟨A1, n1, c1, z1, rfl, w1⟩ := ints_arg Try.underlying46 Try.underlying3 (by kernel_rfl) (hval 1 46 v1 rfl rfl) h1
  obtain ⟨A2, n2, c2, z2, rfl, w2⟩ := ints_arg Try.underlying46 Try.underlying3 (by kernel_rfl) (hval 2 46 v2 rfl rfl) h2
  refine (walk s0_0 s0_1 s0_2 s0_3 A1 n1 c1 z1 A2 n2 c2 z2 W (hw0 0 _ _ rfl rfl) (hw0 1 _ _ rfl rfl) (hw0 2 _ _ rfl rfl) (hw0 3 _ _ rfl rfl) w1 w2).mono fun e W' ⟨he, hg⟩ => ?_
  subst he
  exact ⟨_, rfl, hend W' hg⟩

theorem over : Rows.boundClocksRow.holds Try.pinned (OpenSpec.ofChange Rows.boundClocksSpec) :=
  OpenClaim.holds_of_wide 5 Try.f5 rfl rfl rfl rfl rfl rfl rfl ⟨rfl, rfl, rfl, rfl, rfl⟩ rfl rfl rfl rfl rfl (by kernel_rfl) Try.func5 (by kernel_rfl)
    (of_decide_eq_true (by kernel_rfl)) (by unfold Func.isWrapper; first | (rw [if_pos (by decide +kernel)]; kernel_rfl) | (rw [if_neg (by decide +kernel)]; exact ⟨rfl, rfl⟩))
    (fun os started H enc _ => lifted os started H enc)

/-- THE STATEMENT -/
theorem proved : Rows.BoundClocksSaid :=
  over
#print axioms proved
end Go.Proofs.Ytgcmeoogmjganaa.boundClocks
