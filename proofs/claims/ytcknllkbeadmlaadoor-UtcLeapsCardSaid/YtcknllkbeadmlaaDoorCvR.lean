/- Package civil: what the document's Parse answers, of any text. -/
import Derived.Test.YtcknllkbeadmlaaDoorCvQ
import Derived.Laws.DeepStrings4
namespace Go.Proofs.YtcknllkbeadmlaaDoor
open Go.RowKit
set_option linter.unusedSimpArgs false
set_option linter.unusedVariables false

/-- The number of k digits from a on; -1: there is something else. -/
def numD (s : ByteArray) (a k : Nat) : Int := if ∀ j, j < k → 48 ≤ byt s (a + j) ∧ byt s (a + j) ≤ 57 then numS s a k else -1
theorem run_byte (t : ByteArray) (j : Nat) (h : j < t.size) (W : World) : (Instr.index 9 (.string t) (.int .i64 (j : Int))).run Tryd.prog W = .ok (.int .u8 (byt t j)) W := by
  have hj : 0 ≤ (j : Int) ∧ (j : Int) < (t.size : Int) := by omega
  rw [run_index_string W 9 t .i64 (j : Int) Tryd.underlying9, dif_pos hj, byt_at h]
  rfl
theorem number_of (s t : ByteArray) (a k : Nat) (w : World) (hk : k ≤ 4) (ht : t.size = k) (hb : ∀ j, j < k → byt t j = byt s (a + j)) :
    Calls Tryd.prog 59 #[.string t] w fun e w' => e = .returned (.int .i64 (numD s a k)) ∧ w' = w := by
  have HB := Lib.hid hb
  have HT := Lib.hid ht
  clear hb
  go_enter Tryd.func59, Tryd.ntmps59
  go_wp2
  go_loopw [3, 4] (fun n i wr => ∃ j : Nat, j ≤ k ∧ (∀ x, x < j → 48 ≤ byt s (a + x) ∧ byt s (a + x) ≤ 57) ∧ n = .int .i64 (numS s a j) ∧ i = .int .i64 (j : Int) ∧ wr = w) (fun _ i _ => k - (intOf i).toNat)
  case atStart => exact ⟨0, Nat.zero_le _, fun x hx => absurd hx (Nat.not_lt_zero _), rfl, rfl, rfl⟩
  case round =>
    obtain ⟨j, hj, hd, rfl, rfl, hw⟩ := hrel
    have hw' := hw.symm
    subst hw'
    clear hw
    have HD := Lib.hid hd
    clear hd
    have hts : t.size = k := ht
    by_cases hlt : j < k
    · have hidx := run_byte t j (by omega) w
      have b2 := byt_bd s (a + j)
      rw [HB.out j hlt] at hidx
      have nb := numS_bd s a (k := j) (by omega)
      have HN := Lib.hid (numS_next s a j)
      obtain ⟨N, hN⟩ : ∃ N, numS s a j = N := ⟨_, rfl⟩
      rw [hN] at nb HN
      simp only [hN]
      clear hN
      obtain ⟨B, hB⟩ : ∃ B, byt s (a + j) = B := ⟨_, rfl⟩
      rw [hB] at hidx b2 HN
      have HBB := Lib.hid hB
      clear hB
      have hlj : (j : Int) < (t.size : Int) := by omega
      by_cases hg : 48 ≤ B ∧ B ≤ 57
      · have d1 : decide (B < 48) = false := decide_eq_false (by omega)
        have d2 : decide (57 < B) = false := decide_eq_false (by omega)
        have e1 := IntWalk.i64_in (10 * N) (by omega)
        have e2 : IntKind.u8.wrap (B - 48) = B - 48 := by rw [wrap_u8]; omega
        have e3 := IntWalk.i64_in (B - 48) (by omega)
        have e4 := IntWalk.i64_in (10 * N + (B - 48)) (by omega)
        go_wp2
        go_roundw
        case rel =>
          refine ⟨j + 1, by omega, fun x hx => ?_, by rw [HN.out, Int.mul_comm N 10], by go_num, trivial⟩
          by_cases e : x = j
          · subst e
            rw [HBB.out]
            exact hg
          · exact HD.out x (by omega)
        case measure => simp [intOf]; omega
      · have hv : numD s a k = -1 := if_neg (fun h => hg (by rw [← HBB.out]; exact h j hlt))
        have HV := Lib.hid hv
        clear hv
        by_cases hl : B < 48
        · go_wp2
          go_ret
          exact ⟨ret_int HV.out.symm, rfl⟩
        · have d1 : decide (B < 48) = false := decide_eq_false hl
          have d2 : 57 < B := by omega
          go_wp2
          go_ret
          exact ⟨ret_int HV.out.symm, rfl⟩
    · have hjk : j = k := by omega
      have hv : numD s a k = numS s a k := if_pos (by rw [← hjk]; exact HD.out)
      have HV := Lib.hid hv
      have HJ := Lib.hid hjk
      have hlj : decide ((j : Int) < (t.size : Int)) = false := decide_eq_false (by omega)
      clear hv hjk
      go_wp2
      go_ret
      exact ⟨ret_int (by rw [HV.out, HJ.out]), rfl⟩
theorem byt_cut (s : ByteArray) (a b j : Nat) (hb : b ≤ s.size) (hj : a + j < b) : byt (s.extract a b) j = byt s (a + j) := by
  have h1 : (s.extract a b).data.toList = (s.data.toList.drop a).take (b - a) := by
    have := Lib.extract_toList s a b
    rwa [Lib.toList_data] at this
  unfold byt
  rw [h1]
  congr 2
  rw [List.getD_eq_getElem?_getD, List.getD_eq_getElem?_getD, List.getElem?_take_of_lt (by omega), List.getElem?_drop]
theorem size_cut (s : ByteArray) (a b : Nat) (hb : b ≤ s.size) (ha : a ≤ b) : (s.extract a b).size = b - a := by
  rw [ByteArray.size_extract]
  omega
/-- The document's three numbers tell a date where the text is one. -/
theorem doc_yes {s : ByteArray} {y m d : Int} (h : IsDate s y m d) : byt s 4 = 45 ∧ byt s 7 = 45 ∧ numD s 0 4 = y ∧ numD s 5 2 = m ∧ numD s 8 2 = d := by
  have hc := h.conf
  have hd : ∀ j, j < 10 → j ≠ 4 → j ≠ 7 → 48 ≤ byt s j ∧ byt s j ≤ 57 := fun j h1 h2 h3 => by
    have := hc j h1
    unfold confB at this
    rw [if_neg (by omega)] at this
    exact this
  have hs : ∀ j, j = 4 ∨ j = 7 → byt s j = 45 := fun j h1 => by
    have := hc j (by omega)
    unfold confB at this
    rw [if_pos h1] at this
    exact this
  refine ⟨hs 4 (.inl rfl), hs 7 (.inr rfl), ?_, ?_, ?_⟩
  · rw [h.y_eq]; exact if_pos (fun j hj => hd (0 + j) (by omega) (by omega) (by omega))
  · rw [h.m_eq]; exact if_pos (fun j hj => hd (5 + j) (by omega) (by omega) (by omega))
  · rw [h.d_eq]; exact if_pos (fun j hj => hd (8 + j) (by omega) (by omega) (by omega))
theorem doc_back {s : ByteArray} (h10 : s.size = 10) (h4 : byt s 4 = 45) (h7 : byt s 7 = 45) (hc : CanD (numD s 0 4) (numD s 5 2) (numD s 8 2)) : IsDate s (numD s 0 4) (numD s 5 2) (numD s 8 2) := by
  have a0 : ∀ j, j < 4 → 48 ≤ byt s (0 + j) ∧ byt s (0 + j) ≤ 57 := Classical.byContradiction fun k => by
    have := hc.y1
    unfold numD at this
    rw [if_neg k] at this
    omega
  have a1 : ∀ j, j < 2 → 48 ≤ byt s (5 + j) ∧ byt s (5 + j) ≤ 57 := Classical.byContradiction fun k => by
    have := hc.m1
    unfold numD at this
    rw [if_neg k] at this
    omega
  have a2 : ∀ j, j < 2 → 48 ≤ byt s (8 + j) ∧ byt s (8 + j) ≤ 57 := Classical.byContradiction fun k => by
    have := hc.d1
    unfold numD at this
    rw [if_neg k] at this
    omega
  refine ⟨h10, fun j hj => ?_, if_pos a0, if_pos a1, if_pos a2, hc⟩
  unfold confB
  by_cases h47 : j = 4 ∨ j = 7
  · rw [if_pos h47]
    rcases h47 with rfl | rfl
    · exact h4
    · exact h7
  · rw [if_neg h47]
    by_cases g4 : j < 4
    · have := a0 j g4
      rwa [Nat.zero_add] at this
    · by_cases g7 : j < 7
      · have := a1 (j - 5) (by omega)
        rwa [show 5 + (j - 5) = j from by omega] at this
      · have := a2 (j - 8) (by omega)
        rwa [show 8 + (j - 8) = j from by omega] at this
set_option maxRecDepth 20000 in
theorem rparse_bad (s : ByteArray) (w : World) (hs : s.size ≤ maxLen) (h : ¬ s.size = 10 ∨ (s.size = 10 ∧ (¬ byt s 4 = 45 ∨ (byt s 4 = 45 ∧ ¬ byt s 7 = 45)))) :
    Calls Tryd.prog 43 #[.string s] w fun e w' => e = .returned (.tuple #[.agg #[.int .i64 0, .int .i64 0, .int .i64 0], .bool false]) ∧ Below w.heap.size w w' := by
  have hb := Holds.new w 26 #[.int .i64 0, .int .i64 0, .int .i64 0]
  have HH := Lib.hid hb
  have HB := Lib.hid (below_alloc w (.cells #[.int .i64 0, .int .i64 0, .int .i64 0] 26))
  have c0 := hb.cell 0
  have c1 := hb.cell 1
  have c2 := hb.cell 2
  have f0 := hb.soft 0
  have f1 := hb.soft 1
  have f2 := hb.soft 2
  clear hb
  rcases h with h | ⟨h, h4 | ⟨h4, h7⟩⟩
  · have hne : ¬ (s.size : Int) = 10 := by omega
    have hnb := beq_no hne
    clear h
    go_enter Tryd.func43, Tryd.ntmps43
    go_wp2
    refine bodyPost_ret (results_row_tmp rfl _ _ w.heap.size 26 [.int .i64 0, .int .i64 0, .int .i64 0] _ _ rfl HH.out Tryd.underlying26 rfl rdate_size rfl) rfl ?_
    exact ⟨rfl, HB.out⟩
  · have hne : (s.size : Int) = 10 := by omega
    have i4 : (Instr.index 9 (.string s) (.int .i64 4)).run Tryd.prog (w.alloc (.cells #[.int .i64 0, .int .i64 0, .int .i64 0] 26)) = .ok (.int .u8 (byt s 4)) (w.alloc (.cells #[.int .i64 0, .int .i64 0, .int .i64 0] 26)) := run_byte s 4 (by omega) _
    have n4 := beq_no h4
    clear h
    go_enter Tryd.func43, Tryd.ntmps43
    go_wp2
    refine bodyPost_ret (results_row_tmp rfl _ _ w.heap.size 26 [.int .i64 0, .int .i64 0, .int .i64 0] _ _ rfl HH.out Tryd.underlying26 rfl rdate_size rfl) rfl ?_
    exact ⟨rfl, HB.out⟩
  · have hne : (s.size : Int) = 10 := by omega
    have i4 : (Instr.index 9 (.string s) (.int .i64 4)).run Tryd.prog (w.alloc (.cells #[.int .i64 0, .int .i64 0, .int .i64 0] 26)) = .ok (.int .u8 (byt s 4)) (w.alloc (.cells #[.int .i64 0, .int .i64 0, .int .i64 0] 26)) := run_byte s 4 (by omega) _
    have i7 : (Instr.index 9 (.string s) (.int .i64 7)).run Tryd.prog (w.alloc (.cells #[.int .i64 0, .int .i64 0, .int .i64 0] 26)) = .ok (.int .u8 (byt s 7)) (w.alloc (.cells #[.int .i64 0, .int .i64 0, .int .i64 0] 26)) := run_byte s 7 (by omega) _
    have n7 := beq_no h7
    clear h
    go_enter Tryd.func43, Tryd.ntmps43
    go_wp2
    refine bodyPost_ret (results_row_tmp rfl _ _ w.heap.size 26 [.int .i64 0, .int .i64 0, .int .i64 0] _ _ rfl HH.out Tryd.underlying26 rfl rdate_size rfl) rfl ?_
    exact ⟨rfl, HB.out⟩
end Go.Proofs.YtcknllkbeadmlaaDoor
