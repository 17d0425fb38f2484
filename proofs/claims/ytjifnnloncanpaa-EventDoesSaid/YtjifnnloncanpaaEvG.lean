/- Package event: Good; the document's. -/
import Derived.Test.YtjifnnloncanpaaEvM
import Derived.Test.YtjifnnloncanpaaBox
import Derived.Test.YtjifnnloncanpaaProg
import Derived.Outline
import Derived.LoopTactic
import Derived.Deep.RegionLaw
namespace Go.Proofs.Ytjifnnloncanpaa
open Go.RowKit
set_option linter.unusedVariables false
set_option linter.unusedSimpArgs false

/-- Where a letter lies. -/
theorem letter_ways (c : Int) : (letB c = true ∧ ((97 ≤ c ∧ c ≤ 122) ∨ (48 ≤ c ∧ c ≤ 57) ∨ c = 95)) ∨ (letB c = false ∧ (122 < c ∨ (57 < c ∧ c < 97 ∧ ¬ c = 95) ∨ c < 48)) := by
  unfold letB
  by_cases h : (97 ≤ c ∧ c ≤ 122) ∨ (48 ≤ c ∧ c ≤ 57) ∨ c = 95
  · exact .inl ⟨by simp only [Bool.or_eq_true, decide_eq_true_eq]; omega, h⟩
  · refine .inr ⟨?_, by omega⟩
    rw [decide_eq_false (by omega), decide_eq_false (by omega), decide_eq_false (by omega)]
    rfl
/-- Outcomes of the tests that a letter meets. -/
theorem let_low {c : Int} (h1 : 97 ≤ c) (h2 : c ≤ 122) : decide (97 ≤ c) = true ∧ decide (c ≤ 122) = true ∧ (c == 95) = false := ⟨decide_eq_true h1, decide_eq_true h2, by simp; omega⟩
theorem let_dig {c : Int} (h1 : 48 ≤ c) (h2 : c ≤ 57) : decide (97 ≤ c) = false ∧ decide (48 ≤ c) = true ∧ decide (c ≤ 57) = true ∧ (c == 95) = false := ⟨decide_eq_false (by omega), decide_eq_true h1, decide_eq_true h2, by simp; omega⟩
theorem let_high {c : Int} (h1 : 122 < c) : decide (97 ≤ c) = true ∧ decide (c ≤ 122) = false ∧ decide (48 ≤ c) = true ∧ decide (c ≤ 57) = false ∧ (c == 95) = false := ⟨decide_eq_true (by omega), decide_eq_false (by omega), decide_eq_true (by omega), decide_eq_false (by omega), by simp; omega⟩
theorem let_mid {c : Int} (h1 : 57 < c) (h2 : c < 97) (h3 : ¬ c = 95) : decide (97 ≤ c) = false ∧ decide (48 ≤ c) = true ∧ decide (c ≤ 57) = false ∧ (c == 95) = false := ⟨decide_eq_false (by omega), decide_eq_true (by omega), decide_eq_false (by omega), by simp; omega⟩
theorem let_less {c : Int} (h1 : c < 48) : decide (97 ≤ c) = false ∧ decide (48 ≤ c) = false ∧ (c == 95) = false := ⟨decide_eq_false (by omega), decide_eq_false (by omega), by simp; omega⟩
theorem letter_any (c : Int) (w : World) : Calls Try.prog 24 #[.int .i32 c] w fun e w' => e = .returned (.bool (letB c)) ∧ w' = w := by
  rcases letter_ways c with ⟨e, h⟩ | ⟨e, h⟩
  · rw [e]
    rcases h with ⟨h1, h2⟩ | ⟨h1, h2⟩ | rfl
    · obtain ⟨d1, d2, -⟩ := let_low h1 h2
      clear e
      go_enter Try.func24, Try.ntmps24
      go_wp2
      go_ret
      exact ⟨rfl, rfl⟩
    · obtain ⟨d1, d2, d3, -⟩ := let_dig h1 h2
      clear e
      go_enter Try.func24, Try.ntmps24
      go_wp2
      go_ret
      exact ⟨rfl, rfl⟩
    · clear e
      go_enter Try.func24, Try.ntmps24
      go_wp2
      go_ret
      exact ⟨rfl, rfl⟩
  · rw [e]
    rcases h with h1 | ⟨h1, h2, h3⟩ | h1
    · obtain ⟨d1, d2, d3, d4, d5⟩ := let_high h1
      clear e
      go_enter Try.func24, Try.ntmps24
      go_wp2
      go_ret
      exact ⟨rfl, rfl⟩
    · obtain ⟨d1, d2, d3, d4⟩ := let_mid h1 h2 h3
      clear e
      go_enter Try.func24, Try.ntmps24
      go_wp2
      go_ret
      exact ⟨rfl, rfl⟩
    · obtain ⟨d1, d2, d3⟩ := let_less h1
      clear e
      go_enter Try.func24, Try.ntmps24
      go_wp2
      go_ret
      exact ⟨rfl, rfl⟩

theorem good_any (s : ByteArray) (w : World) : Calls Try.prog 14 #[.string s] w fun e w' => e = .returned (.bool (goodL s)) ∧ Below w.heap.size w w' := by
  by_cases h1 : s.size < 1
  · rw [good_bad (.inl h1)]
    have d1 : decide ((s.size : Int) < 1) = true := decide_eq_true (by omega)
    have d2 : decide (s.size < 1) = true := decide_eq_true h1
    go_enter Try.func14, Try.ntmps14
    go_wp2
    go_ret
    exact ⟨rfl, Below.refl _ _⟩
  by_cases h2 : 12 < s.size
  · rw [good_bad (.inr h2)]
    have d1 : decide ((s.size : Int) < 1) = false := decide_eq_false (by omega)
    have d2 : decide (12 < (s.size : Int)) = true := decide_eq_true (by omega)
    go_enter Try.func14, Try.ntmps14
    go_wp2
    go_ret
    exact ⟨rfl, Below.refl _ _⟩
  have d1 : decide ((s.size : Int) < 1) = false := decide_eq_false (by omega)
  have d2 : decide (12 < (s.size : Int)) = false := decide_eq_false (by omega)
  have HS : Hid ((w.iter s 0).heap[w.heap.size]? = some (.stringIter s 0) ∧ Below w.heap.size w (w.iter s 0)) := Lib.hid ⟨heap_alloc_new w (.stringIter s 0), below_alloc w _⟩
  go_enter Try.func14, Try.ntmps14
  go_wp2
  go_loopw [4] (fun t wr => ∃ p : Nat, p ≤ s.size ∧ (∀ j, j < p → letB (bye s j) = true) ∧ wr.heap[w.heap.size]? = some (.stringIter s p) ∧ Below w.heap.size w wr) (fun _ wr => s.size - wr.iterPos w.heap.size)
  case atStart => exact ⟨0, Nat.zero_le _, fun j hj => absurd hj (Nat.not_lt_zero _), HS.out⟩
  case round =>
    clear HS
    obtain ⟨p, hp, hcf, hit, hb⟩ := hrel
    have HC := Lib.hid hcf
    have HB := Lib.hid hb
    have HM0 := Lib.hid (show wr.iterPos w.heap.size = p by simp [World.iterPos, hit])
    clear hcf hb
    by_cases hlt : p < s.size
    · have hnx : ∀ ty, (Instr.next (.pointer (some ⟨w.heap.size, 0, none⟩)) true ty).run Try.prog wr = _ := fun ty => Lib.run_next_any_at wr w.heap.size s p ty hit hlt
      obtain ⟨hrc, hwd, hr1⟩ := rune_let hlt
      have hmv : ∀ q, (wr.iterAt w.heap.size s q).heap[w.heap.size]? = some (.stringIter s q) ∧ Below w.heap.size w (wr.iterAt w.heap.size s q) := fun q => ⟨Lib.iterAt_heap wr _ s p q hit, Lib.below_iterAt HB.out (Nat.le_refl _) s q⟩
      have HMV := Lib.hid (hmv (p + (Utf8.decode s p).2))
      clear hit hmv
      obtain ⟨r, hre⟩ : ∃ r, (Utf8.decode s p).1 = r := ⟨_, rfl⟩
      obtain ⟨q, hqe⟩ : ∃ q, (Utf8.decode s p).2 = q := ⟨_, rfl⟩
      rw [hre] at hrc hr1
      rw [hqe] at hwd
      simp only [hre, hqe] at hnx HMV
      clear hre hqe
      obtain ⟨V, hV⟩ : ∃ V, wr.iterAt w.heap.size s (p + q) = V := ⟨_, rfl⟩
      simp only [hV] at hnx HMV
      clear hV
      have hrr : IntKind.i32.wrap (r : Int) = r := IntWalk.i32_in _ (by omega)
      have hlet := letter_any (r : Int) V
      by_cases hc : letB (bye s p) = true
      · have hq1 := hwd hc
        subst hq1
        rw [hrc, hc] at hlet
        have HCN := Lib.hid (show ∀ j, j < p + 1 → letB (bye s j) = true from fun j hj => if e : j = p then e ▸ hc else HC.out j (by omega))
        clear hwd hrc hc HC
        go_wp2_with (go_at_call 24; refine hlet.mono ?_; rintro e wx ⟨rfl, hwx⟩; subst wx)
        go_roundw
        case rel => exact ⟨p + 1, by omega, HCN.out, HMV.out⟩
        case measure => rw [HM0.out]; have := HMV.out.1; simp only [World.iterPos, this]; omega
      · have hc : letB (bye s p) = false := by simpa using hc
        rw [hrc, hc] at hlet
        have HG := Lib.hid (good_not hlt hc)
        clear hwd hrc hc HC
        go_wp2_with (go_at_call 24; refine hlet.mono ?_; rintro e wx ⟨rfl, hwx⟩; subst wx)
        go_ret
        exact ⟨by rw [HG.out]; rfl, HMV.out.2⟩
    · have hpe : p = s.size := by omega
      subst hpe
      have hnx : ∀ ty, (Instr.next (.pointer (some ⟨w.heap.size, 0, none⟩)) true ty).run Try.prog wr = _ := fun ty => Lib.run_next_end_at wr w.heap.size s s.size ty hit (Nat.lt_irrefl _)
      have HG := Lib.hid (good_yes (by omega) (by omega) HC.out)
      clear hit
      go_wp2
      go_ret
      exact ⟨by rw [HG.out]; rfl, HB.out⟩

theorem run_bye (t : ByteArray) (j : Nat) (h : j < t.size) (W : World) : (Instr.index 9 (.string t) (.int .i64 (j : Int))).run Try.prog W = .ok (.int .u8 (bye t j)) W := by
  have hj : 0 ≤ (j : Int) ∧ (j : Int) < (t.size : Int) := by omega
  rw [run_index_string W 9 t .i64 (j : Int) Try.underlying9, dif_pos hj, bye_at h]
  rfl
theorem rgood_any (s : ByteArray) (w : World) (hs : s.size ≤ 1000) : Calls Try.prog 15 #[.string s] w fun e w' => e = .returned (.bool (goodL s)) ∧ w' = w := by
  go_enter Try.func15, Try.ntmps15
  go_wp2
  go_loopw [3] (fun i wr => ∃ p : Nat, p ≤ s.size ∧ (∀ j, j < p → letB (bye s j) = true) ∧ i = .int .i64 (p : Int) ∧ wr = w) (fun i _ => s.size - (intOf i).toNat)
  case atStart => exact ⟨0, Nat.zero_le _, fun j hj => absurd hj (Nat.not_lt_zero _), rfl, rfl⟩
  case round =>
    obtain ⟨p, hp, hcf, rfl, hwr⟩ := hrel
    have hwr := hwr.symm
    subst hwr
    have HC := Lib.hid hcf
    clear hcf
    by_cases hlt : p < s.size
    · have hix := run_bye s p hlt w
      have ew := IntWalk.i64_in ((p : Int) + 1) (by omega)
      have hbd := bye_bd s p
      rcases letter_ways (bye s p) with ⟨e, h⟩ | ⟨e, h⟩
      · have HCN := Lib.hid (show ∀ j, j < p + 1 → letB (bye s j) = true from fun j hj => if e' : j = p then e' ▸ e else HC.out j (by omega))
        obtain ⟨c, hc⟩ : ∃ c, bye s p = c := ⟨_, rfl⟩
        rw [hc] at hix e h hbd
        clear hc e HC
        rcases h with ⟨h1, h2⟩ | ⟨h1, h2⟩ | rfl
        · obtain ⟨d1, d2, d3⟩ := let_low h1 h2
          go_wp2
          go_roundw
          case rel => exact ⟨p + 1, by omega, HCN.out, by go_num, trivial⟩
          case measure => simp [intOf]; omega
        · obtain ⟨d1, d2, d3, d4⟩ := let_dig h1 h2
          go_wp2
          go_roundw
          case rel => exact ⟨p + 1, by omega, HCN.out, by go_num, trivial⟩
          case measure => simp [intOf]; omega
        · go_wp2
          go_roundw
          case rel => exact ⟨p + 1, by omega, HCN.out, by go_num, trivial⟩
          case measure => simp [intOf]; omega
      · have HG := Lib.hid (good_not hlt e)
        obtain ⟨c, hc⟩ : ∃ c, bye s p = c := ⟨_, rfl⟩
        rw [hc] at hix h hbd
        clear hc e HC
        rcases h with h1 | ⟨h1, h2, h3⟩ | h1
        · obtain ⟨d1, d2, d3, d4, d5⟩ := let_high h1
          go_wp2
          go_ret
          exact ⟨by rw [HG.out]; rfl, rfl⟩
        · obtain ⟨d1, d2, d3, d4⟩ := let_mid h1 h2 h3
          go_wp2
          go_ret
          exact ⟨by rw [HG.out]; rfl, rfl⟩
        · obtain ⟨d1, d2, d3⟩ := let_less h1
          go_wp2
          go_ret
          exact ⟨by rw [HG.out]; rfl, rfl⟩
    · have hpe : p = s.size := by omega
      subst hpe
      by_cases h1 : s.size < 1
      · have HG := Lib.hid (good_bad (.inl h1))
        have d1 : decide (1 ≤ (s.size : Int)) = false := decide_eq_false (by omega)
        have d2 : decide (1 ≤ s.size) = false := decide_eq_false (by omega)
        go_wp2
        go_ret
        exact ⟨by rw [HG.out]; rfl, rfl⟩
      have d1 : decide (1 ≤ (s.size : Int)) = true := decide_eq_true (by omega)
      by_cases h2 : 12 < s.size
      · have HG := Lib.hid (good_bad (.inr h2))
        have d2 : decide ((s.size : Int) ≤ 12) = false := decide_eq_false (by omega)
        go_wp2
        go_ret
        exact ⟨by rw [HG.out]; rfl, rfl⟩
      · have HG := Lib.hid (good_yes (by omega) (by omega) HC.out)
        have d2 : decide ((s.size : Int) ≤ 12) = true := decide_eq_true (by omega)
        go_wp2
        go_ret
        exact ⟨by rw [HG.out]; rfl, rfl⟩
end Go.Proofs.Ytjifnnloncanpaa
