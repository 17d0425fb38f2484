/- Package civil: what the document's Parse answers where the strokes stand. -/
import Derived.Test.YtcknllkbeadmlaaDoorCvR
namespace Go.Proofs.YtcknllkbeadmlaaDoor
open Go.RowKit
set_option linter.unusedSimpArgs false
set_option linter.unusedVariables false

set_option maxHeartbeats 4000000 in
theorem rparse_ten (s : ByteArray) (w : World) (h : s.size = 10) (h4 : byt s 4 = 45) (h7 : byt s 7 = 45) :
    Calls Tryd.prog 43 #[.string s] w fun e w' => ((CanD (numD s 0 4) (numD s 5 2) (numD s 8 2) ∧ e = .returned (.tuple #[.agg #[.int .i64 (numD s 0 4), .int .i64 (numD s 5 2), .int .i64 (numD s 8 2)], .bool true])) ∨ (¬ CanD (numD s 0 4) (numD s 5 2) (numD s 8 2) ∧ e = .returned (.tuple #[.agg #[.int .i64 0, .int .i64 0, .int .i64 0], .bool false]))) ∧ Below w.heap.size w w' := by
  have hR := Box.start w 26 #[.int .i64 0, .int .i64 0, .int .i64 0]
  have HR := Lib.hid hR
  have hne : (s.size : Int) = 10 := by omega
  have hq1 := fun W => number_of s (s.extract 0 4) 0 4 W (by omega) (by rw [size_cut s 0 4 (by omega) (by omega)]) (fun j hj => byt_cut s 0 4 j (by omega) (by omega))
  have hq2 := fun W => number_of s (s.extract 5 7) 5 2 W (by omega) (by rw [size_cut s 5 7 (by omega) (by omega)]) (fun j hj => byt_cut s 5 7 j (by omega) (by omega))
  have hq3 := fun W => number_of s (s.extract 8 10) 8 2 W (by omega) (by rw [size_cut s 8 10 (by omega) (by omega)]) (fun j hj => byt_cut s 8 10 j (by omega) (by omega))
  have i4 : (Instr.index 9 (.string s) (.int .i64 4)).run Tryd.prog (w.alloc (.cells #[.int .i64 0, .int .i64 0, .int .i64 0] 26)) = .ok (.int .u8 (byt s 4)) (w.alloc (.cells #[.int .i64 0, .int .i64 0, .int .i64 0] 26)) := run_byte s 4 (by omega) _
  have i7 : (Instr.index 9 (.string s) (.int .i64 7)).run Tryd.prog (w.alloc (.cells #[.int .i64 0, .int .i64 0, .int .i64 0] 26)) = .ok (.int .u8 (byt s 7)) (w.alloc (.cells #[.int .i64 0, .int .i64 0, .int .i64 0] 26)) := run_byte s 7 (by omega) _
  rw [h4] at i4
  rw [h7] at i7
  obtain ⟨Y, hY⟩ : ∃ Y, numD s 0 4 = Y := ⟨_, rfl⟩
  obtain ⟨M, hM⟩ : ∃ Y, numD s 5 2 = Y := ⟨_, rfl⟩
  obtain ⟨D, hD⟩ : ∃ Y, numD s 8 2 = Y := ⟨_, rfl⟩
  simp only [hY, hM, hD] at hq1 hq2 hq3 ⊢
  clear hY hM hD h4 h7 hR
  go_enter Tryd.func43, Tryd.ntmps43
  go_upto_region 3 with fail
  go_region_with ((first
    | (go_at_call 59; with_reducible refine (hq1 _).mono ?_; rintro e wx ⟨rfl, rfl⟩)
    | (go_at_call 59; with_reducible refine (hq2 _).mono ?_; rintro e wx ⟨rfl, rfl⟩)
    | (go_at_call 59; with_reducible refine (hq3 _).mono ?_; rintro e wx ⟨rfl, rfl⟩)))
  all_goals
    clear i4 i7 hq1 hq2 hq3 hne
    have hA := (Box.start (w.alloc (.cells #[.int .i64 0, .int .i64 0, .int .i64 0] 26)) 26 #[.int .i64 Y, .int .i64 M, .int .i64 D]).drew
    have hR1 := ((HR.out.alloc (.cells #[.int .i64 Y, .int .i64 M, .int .i64 D] 26)).drew)
    have hsz := size_alloc w (.cells #[.int .i64 0, .int .i64 0, .int .i64 0] 26)
    obtain ⟨d0, d1, d2, _⟩ := hA.cells3
    rw [hsz] at d0 d1 d2
    have HA := Lib.hid hA
    have HR1 := Lib.hid hR1
    have hhA := hA.holds
    rw [hsz] at hhA
    have HHA := Lib.hid hhA
    clear hA hR1 hsz hhA
    generalize ((w.alloc (.cells #[.int .i64 0, .int .i64 0, .int .i64 0] 26)).alloc (.cells #[.int .i64 Y, .int .i64 M, .int .i64 D] 26)).drew = V at HA HR1 HHA d0 d1 d2 ⊢
    by_cases hc : CanD Y M D
    · go_wp2_with (go_at_call 38; refine (rgood_any Y M D _).mono ?_; rintro e w1 ⟨rfl, hb1⟩; rw [goodD_yes hc]; have hh1 := HHA.out.below hb1 HHA.out.lt; clear d0 d1 d2; have d0 := hh1.cell 0; have d1 := hh1.cell 1; have d2 := hh1.cell 2; clear hh1; have HR2 := Lib.hid (HR1.out.next hb1); have hr1 := HR2.out.holds; have r0 := hr1.cell 0; have r1 := hr1.cell 1; have r2 := hr1.cell 2; have g0 := hr1.soft 0; have g1 := hr1.soft 1; have g2 := hr1.soft 2; clear hr1)
      refine bodyPost_ret (results_row_tmp rfl _ _ w.heap.size 26 [.int .i64 Y, .int .i64 M, .int .i64 D] _ _ rfl (((HR2.out.holds.put 0 _).put 1 _).put 2 _) Tryd.underlying26 rfl rdate_size rfl) rfl ?_
      exact ⟨.inl ⟨hc, rfl⟩, ((HR2.out.below.setCell (Nat.le_refl _) _).setCell (Nat.le_refl _) _).setCell (Nat.le_refl _) _⟩
    · go_wp2_with (go_at_call 38; refine (rgood_any Y M D _).mono ?_; rintro e w1 ⟨rfl, hb1⟩; rw [goodD_no hc]; clear d0 d1 d2; have HR2 := Lib.hid (HR1.out.next hb1); have hr1 := HR2.out.holds; have r0 := hr1.cell 0; have r1 := hr1.cell 1; have r2 := hr1.cell 2; have g0 := hr1.soft 0; have g1 := hr1.soft 1; have g2 := hr1.soft 2; clear hr1)
      refine bodyPost_ret (results_row_tmp rfl _ _ w.heap.size 26 [.int .i64 0, .int .i64 0, .int .i64 0] _ _ rfl (((HR2.out.holds.put 0 _).put 1 _).put 2 _) Tryd.underlying26 rfl rdate_size rfl) rfl ?_
      exact ⟨.inr ⟨hc, rfl⟩, ((HR2.out.below.setCell (Nat.le_refl _) _).setCell (Nat.le_refl _) _).setCell (Nat.le_refl _) _⟩
theorem rparse_yes (s : ByteArray) (y m d : Int) (w : World) (h : IsDate s y m d) :
    Calls Tryd.prog 43 #[.string s] w fun e w' => e = .returned (.tuple #[.agg #[.int .i64 y, .int .i64 m, .int .i64 d], .bool true]) ∧ Below w.heap.size w w' := by
  obtain ⟨b4, b7, e1, e2, e3⟩ := doc_yes h
  refine (rparse_ten s w h.ten b4 b7).mono ?_
  rintro e w' ⟨⟨_, he⟩ | ⟨k, _⟩, hb⟩
  · rw [e1, e2, e3] at he
    exact ⟨he, hb⟩
  · rw [e1, e2, e3] at k
    exact absurd h.can k
theorem rparse_no (s : ByteArray) (w : World) (hs : s.size ≤ maxLen) (h : ¬ ∃ y m d, IsDate s y m d) :
    Calls Tryd.prog 43 #[.string s] w fun e w' => e = .returned (.tuple #[.agg #[.int .i64 0, .int .i64 0, .int .i64 0], .bool false]) ∧ Below w.heap.size w w' := by
  by_cases h10 : s.size = 10
  · by_cases h4 : byt s 4 = 45
    · by_cases h7 : byt s 7 = 45
      · refine (rparse_ten s w h10 h4 h7).mono ?_
        rintro e w' ⟨⟨k, _⟩ | ⟨_, he⟩, hb⟩
        · exact absurd ⟨_, _, _, doc_back h10 h4 h7 k⟩ h
        · exact ⟨he, hb⟩
      · exact rparse_bad s w hs (.inr ⟨h10, .inr ⟨h4, h7⟩⟩)
    · exact rparse_bad s w hs (.inr ⟨h10, .inl h4⟩)
  · exact rparse_bad s w hs (.inl h10)
end Go.Proofs.YtcknllkbeadmlaaDoor
