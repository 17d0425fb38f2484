/-
  Of all drifts, counters and rows of up to 300 steps: a clock's time is where its counter began and all its steps, and the counter that, going round 2^32.
  The walk is the prover's own; the frame of the row's step follows the kit's template.
-/
import Derived.Test.YtmocgdnikoaeiaaRows
import Derived.Test.YtmocgdnikoaeiaaLawKit
import Derived.Test.YtmocgdnikoaeiaaTickC
import Derived.LoopTactic
namespace Go.Proofs.Ytmocgdnikoaeiaa.tickSums
open Go.ChangeShapes Go.WideShapes Go.ChangeAt Go.RowKit Go.ChangeMaps Go.WideElems
set_option linter.unusedVariables false

theorem own : ownKnob Try.prog.godebug = none := by kernel_rfl
/-- Where a clock's time is behind so many steps. -/
def came (d r : Int) (zs : List Int) : Nat → Int
  | 0 => r
  | k + 1 => if fitsB d (zs[k]?.getD 0) = true then came d r zs k + zs[k]?.getD 0 else came d r zs k
theorem came_bd (d r : Int) (zs : List Int) (h0 : 0 ≤ d) (h1 : d ≤ 10) (hr : F32 r) : ∀ k : Nat, 0 ≤ came d r zs k ∧ came d r zs k ≤ 4294967295 + 1010 * k
  | 0 => by obtain ⟨h1, h2⟩ := hr; unfold came; simp; omega
  | k + 1 => by
    have ih := came_bd d r zs h0 h1 hr k
    unfold came
    split
    · rename_i h
      have := fitsB_yes h
      omega
    · omega
theorem walk (a0 : Int) (a1 : Int) (A2 : Option Addr) (n2 c2 : Nat) (z2 : List Int) (w : World) (w0 : (Lit.int .i64 a0).wf = true) (w1 : (Lit.int .u32 a1).wf = true) (w2 : IntRow w .i64 A2 n2 c2 z2) :
    Calls Try.prog 5 #[.int .i64 a0, .int .u32 a1, .slice A2 n2 c2] w fun e w' => e = .returned (.bool true) ∧ Below w.heap.size w w' := by
  by_cases h300 : 300 < n2
  · go_enter Try.func5, Try.ntmps5
    go_wp2_with (first
      | ((go_at_call 6; refine (alive_yes _).mono ?_; rintro e w1 ⟨rfl, hb1⟩))
      | ((go_at_call 7; refine (new_yes a0 _ (by omega) (by omega)).mono ?_; rintro e w2 ⟨rfl, hc2, hb2⟩))
      | ((go_at_call 8; refine (boot_any _ a0 0 _ _ hc2 ⟨r1, r2⟩).mono ?_; rintro e w3 ⟨rfl, hc3, hb3⟩)))
    go_ret
    exact ⟨rfl, hb1⟩
  by_cases h0 : a0 < 0
  · go_enter Try.func5, Try.ntmps5
    go_wp2_with (first
      | ((go_at_call 6; refine (alive_yes _).mono ?_; rintro e w1 ⟨rfl, hb1⟩))
      | ((go_at_call 7; refine (new_yes a0 _ (by omega) (by omega)).mono ?_; rintro e w2 ⟨rfl, hc2, hb2⟩))
      | ((go_at_call 8; refine (boot_any _ a0 0 _ _ hc2 ⟨r1, r2⟩).mono ?_; rintro e w3 ⟨rfl, hc3, hb3⟩)))
    go_ret
    exact ⟨rfl, hb1⟩
  by_cases h1 : 10 < a0
  · go_enter Try.func5, Try.ntmps5
    go_wp2_with (first
      | ((go_at_call 6; refine (alive_yes _).mono ?_; rintro e w1 ⟨rfl, hb1⟩))
      | ((go_at_call 7; refine (new_yes a0 _ (by omega) (by omega)).mono ?_; rintro e w2 ⟨rfl, hc2, hb2⟩))
      | ((go_at_call 8; refine (boot_any _ a0 0 _ _ hc2 ⟨r1, r2⟩).mono ?_; rintro e w3 ⟨rfl, hc3, hb3⟩)))
    go_ret
    exact ⟨rfl, hb1⟩
  have f1 := f32_wf w1
  obtain ⟨r1, r2⟩ := f1
  have hbd := came_bd a0 a1 z2 (by omega) (by omega) ⟨r1, r2⟩
  have HB := Lib.hid hbd
  have R := Lib.hid w2
  have hmx := w2.max
  have hcap := w2.cap_le
  unfold maxLen at hmx
  clear hbd w2
  go_enter Try.func5, Try.ntmps5
  go_wp2_with (first
    | ((go_at_call 6; refine (alive_yes _).mono ?_; rintro e w1 ⟨rfl, hb1⟩))
    | ((go_at_call 7; refine (new_yes a0 _ (by omega) (by omega)).mono ?_; rintro e w2 ⟨rfl, hc2, hb2⟩))
    | ((go_at_call 8; refine (boot_any _ a0 0 _ _ hc2 ⟨r1, r2⟩).mono ?_; rintro e w3 ⟨rfl, hc3, hb3⟩)))
  have hbb : Below w.heap.size w w3 := (hb1.trans (hb2.mono hb1.size)).grown hb3 (Nat.le_trans hb1.size hb2.size) (fun k hk => by simp at hk; have := hb1.size; omega)
  go_loopw [9, 37] (fun want i wr => ∃ k : Nat, k ≤ n2 ∧ i = .int .i64 k ∧ want = .int .i64 (came a0 a1 z2 k) ∧ Clk wr w1.heap.size a0 (came a0 a1 z2 k) ∧ Below w.heap.size w wr) (fun _ i _ => n2 - (intOf i).toNat)
  case atStart => exact ⟨0, Nat.zero_le _, rfl, rfl, hc3, hbb⟩
  case round =>
    obtain ⟨k, hk, rfl, rfl, hclk, hb⟩ := hrel
    have HC := Lib.hid hclk
    have hg1 := hb1.size
    clear hclk hc3 hbb hb3 hb2
    by_cases hlt : k < n2
    · obtain ⟨b, off, rfl, hb', hc⟩ := (R.out.below hb).cell (by omega)
      have hck := hc k hlt
      rw [List.getD_eq_getElem?_getD] at hck
      have hbk := HB.out k
      obtain ⟨y1, y2⟩ := hbk
      obtain ⟨Y, hY⟩ : ∃ Y, came a0 a1 z2 k = Y := ⟨_, rfl⟩
      obtain ⟨Z, hZ⟩ : ∃ Z, z2[k]?.getD 0 = Z := ⟨_, rfl⟩
      rw [hZ] at hck
      rw [hY] at y1 y2
      have hnext : came a0 a1 z2 (k + 1) = if fitsB a0 Z = true then Y + Z else Y := by rw [← hZ, ← hY]; rfl
      have HY := Lib.hid hY
      have HN := Lib.hid hnext
      have hgo := go_any w1.heap.size a0 Y Z _ (by have := HC.out; rw [hY] at this; exact this) (by omega) (by omega) y1 (by omega)
      clear hc hZ hnext
      cases hf : fitsB a0 Z with
      | true =>
        obtain ⟨t1, t2⟩ := fitsB_yes hf
        have ev : goV a0 Y Z = 0 := by simp [goV, hf]; omega
        have en : goN a0 Y Z = Y + Z := by simp [goN, hf]; omega
        have hn := HN.out
        rw [if_pos hf] at hn
        have HN2 := Lib.hid hn
        unfold Stepped at hgo
        rw [ev, en] at hgo
        clear ev en hn hf HN
        go_wp2_with (first
          | (go_at_call 9; refine hgo.mono ?_; rintro e w4 ⟨rfl, hc4, hb4⟩)
          | (go_at_call 11; refine (now_any _ _ _ _ hc4).mono ?_; rintro e w5 ⟨rfl, rfl⟩)
          | (go_at_call 12; refine (counter_any _ _ _ _ hc4).mono ?_; rintro e w5 ⟨rfl, rfl⟩))
        go_roundw
        case rel => exact ⟨k + 1, by omega, by go_num, by rw [HN2.out], by rw [HN2.out]; exact hc4, hb.grown hb4 hb.size (fun k hk => by simp at hk; omega)⟩
        case measure => simp [intOf]; omega
      | false =>
        have ev : goV a0 Y Z = 1 := by simp [goV, hf]
        have en : goN a0 Y Z = Y := by simp [goN, hf]
        have hn := HN.out
        rw [if_neg (by rw [hf]; decide)] at hn
        have HN2 := Lib.hid hn
        unfold Stepped at hgo
        rw [ev, en] at hgo
        have hno := fitsB_no hf
        clear ev en hn hf HN
        by_cases hz : 1000 - a0 ≤ Z
        · have hz2 : decide (Z ≤ 1000 + a0) = false := decide_eq_false (by omega)
          go_wp2_with (first
            | (go_at_call 9; refine hgo.mono ?_; rintro e w4 ⟨rfl, hc4, hb4⟩)
            | (go_at_call 11; refine (now_any _ _ _ _ hc4).mono ?_; rintro e w5 ⟨rfl, rfl⟩)
            | (go_at_call 12; refine (counter_any _ _ _ _ hc4).mono ?_; rintro e w5 ⟨rfl, rfl⟩))
          go_roundw
          case rel => exact ⟨k + 1, by omega, by go_num, by rw [HN2.out], by rw [HN2.out]; exact hc4, hb.grown hb4 hb.size (fun k hk => by simp at hk; omega)⟩
          case measure => simp [intOf]; omega
        · have hz2 : decide (1000 - a0 ≤ Z) = false := decide_eq_false (by omega)
          go_wp2_with (first
            | (go_at_call 9; refine hgo.mono ?_; rintro e w4 ⟨rfl, hc4, hb4⟩)
            | (go_at_call 11; refine (now_any _ _ _ _ hc4).mono ?_; rintro e w5 ⟨rfl, rfl⟩)
            | (go_at_call 12; refine (counter_any _ _ _ _ hc4).mono ?_; rintro e w5 ⟨rfl, rfl⟩))
          go_roundw
          case rel => exact ⟨k + 1, by omega, by go_num, by rw [HN2.out], by rw [HN2.out]; exact hc4, hb.grown hb4 hb.size (fun k hk => by simp at hk; omega)⟩
          case measure => simp [intOf]; omega
    · go_wp2
      go_ret
      exact ⟨rfl, hb⟩

set_option maxRecDepth 100000 in
theorem lifted (os : Os) (started : os.Started) (H : Type) (enc : TypeId × Value → H) :
    ReturnsInHanded {} Try.checked os 5 .any (Rows.tickSumsSpec.pre6 enc Try.prog Try.f5 Rows.tickSumsRow.domain false) (Rows.tickSumsSpec.post enc Try.prog Try.f5 false true false false) := by
  refine returnsInHanded_of_change (C := Try.checked) own started (by kernel_rfl) Try.func5
    (ChangeSpec.witness6 (enc := enc) (C := Try.checked) false ⟨#[], #[.int .i64 0, .int .u32 0, .slice none 0 0], []⟩ 8 (by kernel_rfl) (by kernel_rfl) (by kernel_rfl) (by kernel_rfl)) ?_
  intro W base args ds gs before hval0 hW hcnd _
  have hval : ∀ (j : Nat) t v, Try.f5.params[j]? = some t → args[j]? = some v → Value.okWide Try.prog W .any base t v := hval0
  have hW' := hW
  obtain ⟨p, q, hA0, hV, rfl, hfz, hnd⟩ := hW
  have hA : DataW.TrodAll enc Try.prog W 0 (fun _ => true) true Try.f5.params.toList args.toList ds p := hA0
  have hAk := hA
  rw [Try.params5] at hA hval
  obtain ⟨v0, vs0, d0, ds0, p0, q0, hargs, rfl, hp, h0, r0⟩ := trodAll_cons hA
  obtain ⟨v1, vs1, d1, ds1, p1, q1, rfl, rfl, rfl, h1, r1⟩ := trodAll_cons r0
  obtain ⟨v2, vs2, d2, ds2, p2, q2, rfl, rfl, rfl, h2, r2⟩ := trodAll_cons r1
  obtain ⟨rfl, rfl, rfl⟩ := trodAll_nil r2
  obtain rfl : args = #[v0, v1, v2] := by cases args; simp_all
  obtain ⟨rfl, rfl⟩ := trodVars_none hV
  clear hA0 hval0 hargs
  simp only [List.append_nil] at hW'
  have hend : ∀ W' : World, Below W.heap.size W W' → Rows.tickSumsSpec.post enc Try.prog Try.f5 false true false false W #[v0, v1, v2] (.bool true) W' := fun W' hb =>
    law_post (tb := 4) hW' hAk rfl (by kernel_rfl) (by kernel_rfl) (by kernel_rfl) Try.underlying4 rfl rfl rfl hb
  clear hW' hAk hp
  obtain ⟨a0, rfl, rfl, rfl, w0⟩ := open_int Try.underlying3 (hval 0 3 v0 rfl rfl) h0
  obtain ⟨a1, rfl, rfl, rfl, w1⟩ := open_int Try.underlying29 (hval 1 29 v1 rfl rfl) h1
  obtain ⟨A2, n2, c2, z2, rfl, w2⟩ := ints_arg Try.underlying41 Try.underlying3 (by kernel_rfl) (hval 2 41 v2 rfl rfl) h2
  refine (walk a0 a1 A2 n2 c2 z2 W w0 w1 w2).mono fun e W' ⟨he, hg⟩ => ?_
  subst he
  exact ⟨_, rfl, hend W' hg⟩

theorem over : Rows.tickSumsRow.holds Try.pinned (OpenSpec.ofChange Rows.tickSumsSpec) :=
  OpenClaim.holds_of_wide 5 Try.f5 rfl rfl rfl rfl rfl rfl rfl ⟨rfl, rfl, rfl, rfl, rfl⟩ rfl rfl rfl rfl rfl (by kernel_rfl) Try.func5 (by kernel_rfl)
    (of_decide_eq_true (by kernel_rfl)) (by unfold Func.isWrapper; first | (rw [if_pos (by decide +kernel)]; kernel_rfl) | (rw [if_neg (by decide +kernel)]; exact ⟨rfl, rfl⟩))
    (fun os started H enc _ => lifted os started H enc)

/-- THE STATEMENT -/
theorem proved : Rows.TickSumsSaid :=
  over
#print axioms proved
end Go.Proofs.Ytmocgdnikoaeiaa.tickSums
