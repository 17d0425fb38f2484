/- Package pair: times that can be, their offset and delay; the document's. -/
import Derived.Test.YtoggpdfkklombaaTbM
import Derived.Test.YtoggpdfkklombaaFxA
import Derived.Test.YtoggpdfkklombaaFxR
import Derived.Test.YtoggpdfkklombaaBox
import Derived.Test.YtoggpdfkklombaaTurn
import Derived.LoopTactic
import Derived.LoopN
import Derived.Deep.RegionLaw
import Derived.Deep.CutBlock
namespace Go.Proofs.Ytoggpdfkklombaa
open Go.RowKit
set_option linter.unusedVariables false
set_option linter.unusedSimpArgs false

/-- Can times be? -/
def timeP (n : Int) : Prop := 0 ≤ n ∧ n ≤ 1125899906842624
instance (n : Int) : Decidable (timeP n) := by unfold timeP; infer_instance
def goodT (a b c d : Int) : Bool := decide (timeP a ∧ timeP b ∧ timeP c ∧ timeP d ∧ a ≤ d)
theorem goodT_iff (a b c d : Int) : goodT a b c d = true ↔ timeP a ∧ timeP b ∧ timeP c ∧ timeP d ∧ a ≤ d := decide_eq_true_iff
theorem goodT_no {a b c d : Int} (h : ¬ (timeP a ∧ timeP b ∧ timeP c ∧ timeP d ∧ a ≤ d)) : goodT a b c d = false := decide_eq_false h
def offV (a b c d : Int) : Int := if goodT a b c d = true then ((b - a) + (c - d)) / 2 else 0
def delV (a b c d : Int) : Int := if goodT a b c d = true then ((d - a) - (c - b)) / 2 else 0
theorem not_time {n : Int} (h : ¬ timeP n) : decide (n < 0) = true ∨ decide (n < 0) = false ∧ decide (1125899906842624 < n) = true := by
  unfold timeP at h
  by_cases e : n < 0
  · exact .inl (decide_eq_true e)
  · exact .inr ⟨decide_eq_false e, decide_eq_true (by omega)⟩
theorem is_time {n : Int} (h : timeP n) : decide (n < 0) = false ∧ decide (1125899906842624 < n) = false := ⟨decide_eq_false (by have := h.1; omega), decide_eq_false (by have := h.2; omega)⟩

/-- Times as a value. -/
def timV (a b c d : Int) : Value := .agg #[.int .i64 a, .int .i64 b, .int .i64 c, .int .i64 d]
theorem tall_any (a b c d : Int) (w : World) : Calls Try.prog 26 #[timV a b c d] w fun e w' => e = .returned (.agg #[.int .i64 a, .int .i64 b, .int .i64 c, .int .i64 d]) ∧ Below w.heap.size w w' := by
  have k := (Box.start w 23 #[.int .i64 a, .int .i64 b, .int .i64 c, .int .i64 d])
  have c0 := k.holds.cell 0
  have c1 := k.holds.cell 1
  have c2 := k.holds.cell 2
  have c3 := k.holds.cell 3
  clear k
  unfold timV
  go_enter Try.func26, Try.ntmps26
  go_wp2
  refine bodyPost_ret (results_cell_row rfl _ _ (w.heap.size + 1) 62 _ (0, 0) _ rfl (by have := heap_alloc_new (w.alloc (.cells #[.int .i64 a, .int .i64 b, .int .i64 c, .int .i64 d] 23)) (.cells #[.int .i64 a, .int .i64 b, .int .i64 c, .int .i64 d] 62); simpa using this) Try.underlying62 rfl (by kernel_rfl)) rfl ?_
  exact ⟨rfl, ((Below.refl _ _).alloc (Nat.le_refl _) _).alloc (by simp) _⟩
set_option maxHeartbeats 2000000 in
set_option maxRecDepth 100000 in
theorem tgood_any (a b c d : Int) (w : World) : Calls Try.prog 10 #[timV a b c d] w fun e w' => e = .returned (.bool (goodT a b c d)) ∧ Below w.heap.size w w' := by
  have hall := fun W => tall_any a b c d W
  unfold timV at hall ⊢
  have HB := Lib.hid (Box.start w 23 #[.int .i64 a, .int .i64 b, .int .i64 c, .int .i64 d])
  have c0 := HB.out.holds.cell 0
  have c1 := HB.out.holds.cell 1
  have c2 := HB.out.holds.cell 2
  have c3 := HB.out.holds.cell 3
  have i0 : ∀ W : World, (Instr.index 62 (.agg #[.int .i64 a, .int .i64 b, .int .i64 c, .int .i64 d]) (.int .i64 0)).run Try.prog W = .ok (.int .i64 a) W := fun _ => by kernel_rfl
  have i1 : ∀ W : World, (Instr.index 62 (.agg #[.int .i64 a, .int .i64 b, .int .i64 c, .int .i64 d]) (.int .i64 1)).run Try.prog W = .ok (.int .i64 b) W := fun _ => by kernel_rfl
  have i2 : ∀ W : World, (Instr.index 62 (.agg #[.int .i64 a, .int .i64 b, .int .i64 c, .int .i64 d]) (.int .i64 2)).run Try.prog W = .ok (.int .i64 c) W := fun _ => by kernel_rfl
  have i3 : ∀ W : World, (Instr.index 62 (.agg #[.int .i64 a, .int .i64 b, .int .i64 c, .int .i64 d]) (.int .i64 3)).run Try.prog W = .ok (.int .i64 d) W := fun _ => by kernel_rfl
  by_cases ha : timeP a
  · obtain ⟨a1, a2⟩ := is_time ha
    by_cases hb : timeP b
    · obtain ⟨b1, b2⟩ := is_time hb
      by_cases hc : timeP c
      · obtain ⟨e1, e2⟩ := is_time hc
        by_cases hd : timeP d
        · obtain ⟨d1, d2⟩ := is_time hd
          have hV : goodT a b c d = decide (a ≤ d) := by unfold goodT; simp [ha, hb, hc, hd]
          rw [hV]
          clear hV ha hb hc hd
          cases hle : decide (a ≤ d) with
          | true =>
            go_enter Try.func10, Try.ntmps10
            go_wp2_with (go_at_call 26; refine (hall _).mono ?_; rintro e w1 ⟨rfl, hb1⟩; replace HB := Lib.hid (HB.out.next hb1); clear hb1 c0 c1 c2 c3; have c0 := HB.out.holds.cell 0; have c3 := HB.out.holds.cell 3)
            refine wp_loop_rounds 5 ?_
            rw [rounds_succ]
            go_wp2
            rw [rounds_succ]
            go_wp2
            rw [rounds_succ]
            go_wp2
            rw [rounds_succ]
            go_wp2
            rw [rounds_succ]
            go_wp2
            go_ret
            exact ⟨rfl, HB.out.below⟩
          | false =>
            go_enter Try.func10, Try.ntmps10
            go_wp2_with (go_at_call 26; refine (hall _).mono ?_; rintro e w1 ⟨rfl, hb1⟩; replace HB := Lib.hid (HB.out.next hb1); clear hb1 c0 c1 c2 c3; have c0 := HB.out.holds.cell 0; have c3 := HB.out.holds.cell 3)
            refine wp_loop_rounds 5 ?_
            rw [rounds_succ]
            go_wp2
            rw [rounds_succ]
            go_wp2
            rw [rounds_succ]
            go_wp2
            rw [rounds_succ]
            go_wp2
            rw [rounds_succ]
            go_wp2
            go_ret
            exact ⟨rfl, HB.out.below⟩
        · rw [goodT_no (fun h => hd h.2.2.2.1)]
          clear ha hb hc
          rcases not_time hd with d1 | ⟨d1, d2⟩ <;>
          · clear hd
            go_enter Try.func10, Try.ntmps10
            go_wp2_with (go_at_call 26; refine (hall _).mono ?_; rintro e w1 ⟨rfl, hb1⟩; replace HB := Lib.hid (HB.out.next hb1); clear hb1 c0 c1 c2 c3; have c0 := HB.out.holds.cell 0; have c3 := HB.out.holds.cell 3)
            refine wp_loop_rounds 5 ?_
            rw [rounds_succ]
            go_wp2
            rw [rounds_succ]
            go_wp2
            rw [rounds_succ]
            go_wp2
            rw [rounds_succ]
            go_wp2
            go_ret
            exact ⟨rfl, HB.out.below⟩
      · rw [goodT_no (fun h => hc h.2.2.1)]
        clear ha hb
        rcases not_time hc with e1 | ⟨e1, e2⟩ <;>
        · clear hc
          go_enter Try.func10, Try.ntmps10
          go_wp2_with (go_at_call 26; refine (hall _).mono ?_; rintro e w1 ⟨rfl, hb1⟩; replace HB := Lib.hid (HB.out.next hb1); clear hb1 c0 c1 c2 c3; have c0 := HB.out.holds.cell 0; have c3 := HB.out.holds.cell 3)
          refine wp_loop_rounds 5 ?_
          rw [rounds_succ]
          go_wp2
          rw [rounds_succ]
          go_wp2
          rw [rounds_succ]
          go_wp2
          go_ret
          exact ⟨rfl, HB.out.below⟩
    · rw [goodT_no (fun h => hb h.2.1)]
      clear ha
      rcases not_time hb with b1 | ⟨b1, b2⟩ <;>
      · clear hb
        go_enter Try.func10, Try.ntmps10
        go_wp2_with (go_at_call 26; refine (hall _).mono ?_; rintro e w1 ⟨rfl, hb1⟩; replace HB := Lib.hid (HB.out.next hb1); clear hb1 c0 c1 c2 c3; have c0 := HB.out.holds.cell 0; have c3 := HB.out.holds.cell 3)
        refine wp_loop_rounds 5 ?_
        rw [rounds_succ]
        go_wp2
        rw [rounds_succ]
        go_wp2
        go_ret
        exact ⟨rfl, HB.out.below⟩
  · rw [goodT_no (fun h => ha h.1)]
    rcases not_time ha with a1 | ⟨a1, a2⟩ <;>
    · clear ha
      go_enter Try.func10, Try.ntmps10
      go_wp2_with (go_at_call 26; refine (hall _).mono ?_; rintro e w1 ⟨rfl, hb1⟩; replace HB := Lib.hid (HB.out.next hb1); clear hb1 c0 c1 c2 c3; have c0 := HB.out.holds.cell 0; have c3 := HB.out.holds.cell 3)
      refine wp_loop_rounds 5 ?_
      rw [rounds_succ]
      go_wp2
      go_ret
      exact ⟨rfl, HB.out.below⟩
theorem half_any (n : Int) (w : World) (h : Fits n) : Calls Try.prog 27 #[.int .i64 n] w fun e w' => e = .returned (.int .i64 (n / 2)) ∧ ∃ m, w' = w.drewN m := by
  have hf := fun W => floor_yes n 2 W h (by omega) (by omega)
  go_enter Try.func27, Try.ntmps27
  go_wp2_with (go_at_call 35; refine (hf _).mono ?_; rintro e w1 ⟨rfl, m, rfl⟩)
  go_ret
  exact ⟨rfl, _, rfl⟩
theorem good_bd {a b c d : Int} (h : goodT a b c d = true) : (0 ≤ a ∧ a ≤ 1125899906842624) ∧ (0 ≤ b ∧ b ≤ 1125899906842624) ∧ (0 ≤ c ∧ c ≤ 1125899906842624) ∧ (0 ≤ d ∧ d ≤ 1125899906842624) ∧ a ≤ d := (goodT_iff a b c d).1 h
theorem toff_any (a b c d : Int) (w : World) : Calls Try.prog 11 #[timV a b c d] w fun e w' => e = .returned (.int .i64 (offV a b c d)) ∧ Below w.heap.size w w' := by
  have hg := fun W => tgood_any a b c d W
  unfold timV at hg ⊢
  have HB := Lib.hid (Box.start w 23 #[.int .i64 a, .int .i64 b, .int .i64 c, .int .i64 d])
  have c0 := HB.out.holds.cell 0
  have c1 := HB.out.holds.cell 1
  have c2 := HB.out.holds.cell 2
  have c3 := HB.out.holds.cell 3
  unfold offV
  cases e : goodT a b c d with
  | false =>
    rw [e] at hg
    rw [if_neg (by decide)]
    clear e
    go_enter Try.func11, Try.ntmps11
    go_wp2_with (go_at_call 10; refine (hg _).mono ?_; rintro e w1 ⟨rfl, hb1⟩; replace HB := Lib.hid (HB.out.next hb1); clear hb1)
    go_ret
    exact ⟨rfl, HB.out.below⟩
  | true =>
    rw [e] at hg
    rw [if_pos rfl]
    obtain ⟨⟨a0, a1⟩, ⟨b0, b1⟩, ⟨e0, e1⟩, ⟨d0, d1⟩, le⟩ := good_bd e
    have x1 := IntWalk.i64_in (b - a) (by omega)
    have x2 := IntWalk.i64_in (c - d) (by omega)
    have x3 := IntWalk.i64_in ((b - a) + (c - d)) (by omega)
    have hh := fun W => half_any ((b - a) + (c - d)) W ⟨by omega, by omega⟩
    clear e a0 a1 b0 b1 e0 e1 d0 d1 le
    go_enter Try.func11, Try.ntmps11
    go_wp2_with (first
      | (go_at_call 10; refine (hg _).mono ?_; rintro e w1 ⟨rfl, hb1⟩; replace HB := Lib.hid (HB.out.next hb1); clear hb1 c0 c1 c2 c3; have c0 := HB.out.holds.cell 0; have c1 := HB.out.holds.cell 1; have c2 := HB.out.holds.cell 2; have c3 := HB.out.holds.cell 3)
      | (go_at_call 27; refine (hh _).mono ?_; rintro e w2 ⟨rfl, m, rfl⟩))
    go_ret
    exact ⟨rfl, (HB.out.drewN m).below⟩
theorem tdel_any (a b c d : Int) (w : World) : Calls Try.prog 12 #[timV a b c d] w fun e w' => e = .returned (.int .i64 (delV a b c d)) ∧ Below w.heap.size w w' := by
  have hg := fun W => tgood_any a b c d W
  unfold timV at hg ⊢
  have HB := Lib.hid (Box.start w 23 #[.int .i64 a, .int .i64 b, .int .i64 c, .int .i64 d])
  have c0 := HB.out.holds.cell 0
  have c1 := HB.out.holds.cell 1
  have c2 := HB.out.holds.cell 2
  have c3 := HB.out.holds.cell 3
  unfold delV
  cases e : goodT a b c d with
  | false =>
    rw [e] at hg
    rw [if_neg (by decide)]
    clear e
    go_enter Try.func12, Try.ntmps12
    go_wp2_with (go_at_call 10; refine (hg _).mono ?_; rintro e w1 ⟨rfl, hb1⟩; replace HB := Lib.hid (HB.out.next hb1); clear hb1)
    go_ret
    exact ⟨rfl, HB.out.below⟩
  | true =>
    rw [e] at hg
    rw [if_pos rfl]
    obtain ⟨⟨a0, a1⟩, ⟨b0, b1⟩, ⟨e0, e1⟩, ⟨d0, d1⟩, le⟩ := good_bd e
    have x1 := IntWalk.i64_in (d - a) (by omega)
    have x2 := IntWalk.i64_in (c - b) (by omega)
    have x3 := IntWalk.i64_in ((d - a) - (c - b)) (by omega)
    have hh := fun W => half_any ((d - a) - (c - b)) W ⟨by omega, by omega⟩
    clear e a0 a1 b0 b1 e0 e1 d0 d1 le
    go_enter Try.func12, Try.ntmps12
    go_wp2_with (first
      | (go_at_call 10; refine (hg _).mono ?_; rintro e w1 ⟨rfl, hb1⟩; replace HB := Lib.hid (HB.out.next hb1); clear hb1 c0 c1 c2 c3; have c0 := HB.out.holds.cell 0; have c1 := HB.out.holds.cell 1; have c2 := HB.out.holds.cell 2; have c3 := HB.out.holds.cell 3)
      | (go_at_call 27; refine (hh _).mono ?_; rintro e w2 ⟨rfl, m, rfl⟩))
    go_ret
    exact ⟨rfl, (HB.out.drewN m).below⟩
theorem not_time2 {n : Int} (h : ¬ timeP n) : decide (0 ≤ n) = false ∨ decide (0 ≤ n) = true ∧ decide (n ≤ 1125899906842624) = false := by
  unfold timeP at h
  by_cases e : 0 ≤ n
  · exact .inr ⟨decide_eq_true e, decide_eq_false (by omega)⟩
  · exact .inl (decide_eq_false e)
theorem is_time2 {n : Int} (h : timeP n) : decide (0 ≤ n) = true ∧ decide (n ≤ 1125899906842624) = true := ⟨decide_eq_true h.1, decide_eq_true h.2⟩
set_option maxHeartbeats 2000000 in
set_option maxRecDepth 100000 in
theorem rgoodT_any (a b c d : Int) (w : World) : Calls Try.prog 9 #[.int .i64 a, .int .i64 b, .int .i64 c, .int .i64 d] w fun e w' => e = .returned (.bool (goodT a b c d)) ∧ w = w' := by
  by_cases ha : timeP a
  · obtain ⟨a1, a2⟩ := is_time2 ha
    by_cases hb : timeP b
    · obtain ⟨b1, b2⟩ := is_time2 hb
      by_cases hc : timeP c
      · obtain ⟨e1, e2⟩ := is_time2 hc
        by_cases hd : timeP d
        · obtain ⟨d1, d2⟩ := is_time2 hd
          have hV : goodT a b c d = decide (a ≤ d) := by unfold goodT; simp [ha, hb, hc, hd]
          rw [hV]
          clear hV ha hb hc hd
          cases hle : decide (a ≤ d) with
          | true =>
            go_enter Try.func9, Try.ntmps9
            go_wp2
            go_ret
            exact ⟨rfl, rfl⟩
          | false =>
            go_enter Try.func9, Try.ntmps9
            go_wp2
            go_ret
            exact ⟨rfl, rfl⟩
        · rw [goodT_no (fun h => hd h.2.2.2.1)]
          clear ha hb hc
          rcases not_time2 hd with d1 | ⟨d1, d2⟩ <;>
          · clear hd
            go_enter Try.func9, Try.ntmps9
            go_wp2
            go_ret
            exact ⟨rfl, rfl⟩
      · rw [goodT_no (fun h => hc h.2.2.1)]
        clear ha hb
        rcases not_time2 hc with e1 | ⟨e1, e2⟩ <;>
        · clear hc
          go_enter Try.func9, Try.ntmps9
          go_wp2
          go_ret
          exact ⟨rfl, rfl⟩
    · rw [goodT_no (fun h => hb h.2.1)]
      clear ha
      rcases not_time2 hb with b1 | ⟨b1, b2⟩ <;>
      · clear hb
        go_enter Try.func9, Try.ntmps9
        go_wp2
        go_ret
        exact ⟨rfl, rfl⟩
  · rw [goodT_no (fun h => ha h.1)]
    rcases not_time2 ha with a1 | ⟨a1, a2⟩ <;>
    · clear ha
      go_enter Try.func9, Try.ntmps9
      go_wp2
      go_ret
      exact ⟨rfl, rfl⟩
theorem roff_any (a b c d : Int) (w : World) (h : goodT a b c d = true) : Calls Try.prog 13 #[.int .i64 a, .int .i64 b, .int .i64 c, .int .i64 d] w fun e w' => e = .returned (.int .i64 (offV a b c d)) ∧ ∃ m, w' = w.drewN m := by
  obtain ⟨⟨a0, a1⟩, ⟨b0, b1⟩, ⟨e0, e1⟩, ⟨d0, d1⟩, le⟩ := good_bd h
  have x1 := IntWalk.i64_in (b - a) (by omega)
  have x2 := IntWalk.i64_in (b - a + c) (by omega)
  have x3 := IntWalk.i64_in (b - a + c - d) (by omega)
  have hV : offV a b c d = (b - a + c - d) / 2 := by
    unfold offV
    rw [if_pos h]
    congr 1
    omega
  rw [hV]
  have hh := fun W => rfloor_yes (b - a + c - d) 2 W ⟨by omega, by omega⟩ (by omega) (by omega)
  clear h a0 a1 b0 b1 e0 e1 d0 d1 le hV
  go_enter Try.func13, Try.ntmps13
  go_wp2_with (go_at_call 28; refine (hh _).mono ?_; rintro e w1 ⟨rfl, m, rfl⟩)
  go_ret
  exact ⟨rfl, _, rfl⟩
theorem rdel_any (a b c d : Int) (w : World) (h : goodT a b c d = true) : Calls Try.prog 14 #[.int .i64 a, .int .i64 b, .int .i64 c, .int .i64 d] w fun e w' => e = .returned (.int .i64 (delV a b c d)) ∧ ∃ m, w' = w.drewN m := by
  obtain ⟨⟨a0, a1⟩, ⟨b0, b1⟩, ⟨e0, e1⟩, ⟨d0, d1⟩, le⟩ := good_bd h
  have x1 := IntWalk.i64_in (d - a) (by omega)
  have x2 := IntWalk.i64_in (d - a - c) (by omega)
  have x3 := IntWalk.i64_in (d - a - c + b) (by omega)
  have hV : delV a b c d = (d - a - c + b) / 2 := by
    unfold delV
    rw [if_pos h]
    congr 1
    omega
  rw [hV]
  have hh := fun W => rfloor_yes (d - a - c + b) 2 W ⟨by omega, by omega⟩ (by omega) (by omega)
  clear h a0 a1 b0 b1 e0 e1 d0 d1 le hV
  go_enter Try.func14, Try.ntmps14
  go_wp2_with (go_at_call 28; refine (hh _).mono ?_; rintro e w1 ⟨rfl, m, rfl⟩)
  go_ret
  exact ⟨rfl, _, rfl⟩
end Go.Proofs.Ytoggpdfkklombaa
