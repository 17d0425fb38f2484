/- Package utc: whether a second can be; a number in two digits; a second's text. The program's, and the document's. -/
import Derived.Test.YtcknllkbeadmlaaDoorUtM
import Derived.Test.YtcknllkbeadmlaaDoorCvU
namespace Go.Proofs.YtcknllkbeadmlaaDoor
open Go.RowKit
set_option linter.unusedSimpArgs false
set_option linter.unusedVariables false

theorem Box.cells6 {w0 w : World} {t : TypeId} {a b c d e f : Value} (h : Box w0 t #[a, b, c, d, e, f] w) : w.cell? ⟨w0.heap.size, 0, none⟩ = some a ∧ w.cell? ⟨w0.heap.size, 1, none⟩ = some b ∧ w.cell? ⟨w0.heap.size, 2, none⟩ = some c ∧ w.cell? ⟨w0.heap.size, 3, none⟩ = some d ∧ w.cell? ⟨w0.heap.size, 4, none⟩ = some e ∧ w.cell? ⟨w0.heap.size, 5, none⟩ = some f ∧ Box w0 t #[a, b, c, d, e, f] w :=
  ⟨h.holds.cell 0, h.holds.cell 1, h.holds.cell 2, h.holds.cell 3, h.holds.cell 4, h.holds.cell 5, h⟩
theorem Box.tab6 {w0 w : World} {t : TypeId} {a b c d e f : Value} (h : Box w0 t #[a, b, c, d, e, f] w) (hT : Tab w) : w.cell? ⟨w0.heap.size, 0, none⟩ = some a ∧ w.cell? ⟨w0.heap.size, 1, none⟩ = some b ∧ w.cell? ⟨w0.heap.size, 2, none⟩ = some c ∧ w.cell? ⟨w0.heap.size, 3, none⟩ = some d ∧ w.cell? ⟨w0.heap.size, 4, none⟩ = some e ∧ w.cell? ⟨w0.heap.size, 5, none⟩ = some f ∧ Box w0 t #[a, b, c, d, e, f] w ∧ Tab w :=
  ⟨h.holds.cell 0, h.holds.cell 1, h.holds.cell 2, h.holds.cell 3, h.holds.cell 4, h.holds.cell 5, h, hT⟩
theorem ugood_any (y m d H M S : Int) (w : World) :
    Calls Tryd.prog 20 #[.agg #[.int .i64 y, .int .i64 m, .int .i64 d, .int .i64 H, .int .i64 M, .int .i64 S]] w fun e w' => e = .returned (.bool (goodU y m d H M S)) ∧ Below w.heap.size w w' := by
  have HB := Lib.hid (Box.start w 35 #[.int .i64 y, .int .i64 m, .int .i64 d, .int .i64 H, .int .i64 M, .int .i64 S])
  obtain ⟨c0, c1, c2, c3, c4, c5, _⟩ := HB.out.cells6
  by_cases hc : CanD y m d
  · by_cases ht : CanT H M S
    · rw [goodU_yes hc ht]
      obtain ⟨h1, h2, m1, m2, s1, s2⟩ := ht
      have d1 : decide (H < 0) = false := decide_eq_false (by omega)
      have d2 : decide (23 < H) = false := decide_eq_false (by omega)
      have d3 : decide (M < 0) = false := decide_eq_false (by omega)
      have d4 : decide (59 < M) = false := decide_eq_false (by omega)
      have d5 : decide (S < 0) = false := decide_eq_false (by omega)
      rcases s2 with s2 | ⟨rfl, rfl, rfl⟩
      all_goals
        go_enter Tryd.func20, Tryd.ntmps20
        go_wp2_with (go_at_call 37; refine (good_any y m d _).mono ?_; rintro e w1 ⟨rfl, hb1⟩; rw [goodD_yes hc]; replace HB := Lib.hid (HB.out.next hb1); clear c0 c1 c2 c3 c4 c5; obtain ⟨c0, c1, c2, c3, c4, c5, _⟩ := HB.out.cells6; clear hb1)
        go_ret
        exact ⟨rfl, HB.out.below⟩
    · rw [goodU_no (fun h => ht h.2)]
      rcases not_canT ht with h1 | ⟨h1, h2⟩ | ⟨h1, h2, h3⟩ | ⟨h1, h2, h3, h4⟩ | ⟨h1, h2, h3, h4, h5⟩ | ⟨h1, h2, h3, h4, h5⟩ | ⟨h1, h2, h3, h4, h5⟩ | ⟨h1, h2, h3, h5⟩
      all_goals
        clear ht
        try subst h5
        try subst h1
        try have d1 : decide (H < 0) = false := decide_eq_false (by omega)
        try have d2 : decide (23 < H) = false := decide_eq_false (by omega)
        try have d3 : decide (M < 0) = false := decide_eq_false (by omega)
        try have d4 : decide (59 < M) = false := decide_eq_false (by omega)
        try have d5 : decide (S < 0) = false := decide_eq_false (by omega)
        try have d6 : decide (S ≤ 59) = false := decide_eq_false (by omega)
        try have d7 : (S == 60) = false := beq_no (by omega)
        try have d8 : (H == 23) = false := beq_no (by omega)
        try have d9 : (M == 59) = false := beq_no (by omega)
        go_enter Tryd.func20, Tryd.ntmps20
        go_wp2_with (go_at_call 37; refine (good_any y m d _).mono ?_; rintro e w1 ⟨rfl, hb1⟩; rw [goodD_yes hc]; replace HB := Lib.hid (HB.out.next hb1); clear c0 c1 c2 c3 c4 c5; obtain ⟨c0, c1, c2, c3, c4, c5, _⟩ := HB.out.cells6; clear hb1)
        go_ret
        exact ⟨rfl, HB.out.below⟩
  · rw [goodU_no (fun h => hc h.1)]
    go_enter Tryd.func20, Tryd.ntmps20
    go_wp2_with (go_at_call 37; refine (good_any y m d _).mono ?_; rintro e w1 ⟨rfl, hb1⟩; rw [goodD_no hc]; replace HB := Lib.hid (HB.out.next hb1); clear c0 c1 c2 c3 c4 c5; obtain ⟨c0, c1, c2, c3, c4, c5, _⟩ := HB.out.cells6; clear hb1)
    go_ret
    exact ⟨rfl, HB.out.below⟩
theorem rugood_any (y m d H M S : Int) (w : World) :
    Calls Tryd.prog 21 #[.agg #[.int .i64 y, .int .i64 m, .int .i64 d, .int .i64 H, .int .i64 M, .int .i64 S]] w fun e w' => e = .returned (.bool (goodU y m d H M S)) ∧ Below w.heap.size w w' := by
  have HB := Lib.hid (Box.start w 28 #[.int .i64 y, .int .i64 m, .int .i64 d, .int .i64 H, .int .i64 M, .int .i64 S])
  obtain ⟨c0, c1, c2, c3, c4, c5, _⟩ := HB.out.cells6
  by_cases hc : CanD y m d
  · by_cases ht : CanT H M S
    · rw [goodU_yes hc ht]
      obtain ⟨h1, h2, m1, m2, s1, s2⟩ := ht
      have d1 : decide (H < 0) = false := decide_eq_false (by omega)
      have d2 : decide (23 < H) = false := decide_eq_false (by omega)
      have d3 : decide (M < 0) = false := decide_eq_false (by omega)
      have d4 : decide (59 < M) = false := decide_eq_false (by omega)
      have d5 : decide (S < 0) = false := decide_eq_false (by omega)
      have d6 : decide (60 < S) = false := decide_eq_false (by omega)
      rcases s2 with s2 | ⟨rfl, rfl, rfl⟩
      all_goals
        try have d7 : S < 60 := by omega
        go_enter Tryd.func21, Tryd.ntmps21
        go_wp2_with (go_at_call 38; refine (rgood_any y m d _).mono ?_; rintro e w1 ⟨rfl, hb1⟩; rw [goodD_yes hc]; replace HB := Lib.hid (HB.out.next hb1); clear c0 c1 c2 c3 c4 c5; obtain ⟨c0, c1, c2, c3, c4, c5, _⟩ := HB.out.cells6; clear hb1)
        go_ret
        exact ⟨rfl, HB.out.below⟩
    · rw [goodU_no (fun h => ht h.2)]
      rcases not_canT ht with h1 | ⟨h1, h2⟩ | ⟨h1, h2, h3⟩ | ⟨h1, h2, h3, h4⟩ | ⟨h1, h2, h3, h4, h5⟩ | ⟨h1, h2, h3, h4, h5⟩ | ⟨h1, h2, h3, h4, h5⟩ | ⟨h1, h2, h3, h5⟩
      all_goals
        clear ht
        try subst h5
        try subst h1
        try have d1 : decide (H < 0) = false := decide_eq_false (by omega)
        try have d2 : decide (23 < H) = false := decide_eq_false (by omega)
        try have d3 : decide (M < 0) = false := decide_eq_false (by omega)
        try have d4 : decide (59 < M) = false := decide_eq_false (by omega)
        try have d5 : decide (S < 0) = false := decide_eq_false (by omega)
        try have d8 : (H == 23) = false := beq_no (by omega)
        try have d9 : (M == 59) = false := beq_no (by omega)
        go_enter Tryd.func21, Tryd.ntmps21
        go_wp2_with (go_at_call 38; refine (rgood_any y m d _).mono ?_; rintro e w1 ⟨rfl, hb1⟩; rw [goodD_yes hc]; replace HB := Lib.hid (HB.out.next hb1); clear c0 c1 c2 c3 c4 c5; obtain ⟨c0, c1, c2, c3, c4, c5, _⟩ := HB.out.cells6; clear hb1)
        go_ret
        exact ⟨rfl, HB.out.below⟩
  · rw [goodU_no (fun h => hc h.1)]
    go_enter Tryd.func21, Tryd.ntmps21
    go_wp2_with (go_at_call 38; refine (rgood_any y m d _).mono ?_; rintro e w1 ⟨rfl, hb1⟩; rw [goodD_no hc]; replace HB := Lib.hid (HB.out.next hb1); clear c0 c1 c2 c3 c4 c5; obtain ⟨c0, c1, c2, c3, c4, c5, _⟩ := HB.out.cells6; clear hb1)
    go_ret
    exact ⟨rfl, HB.out.below⟩
theorem dec_two {n : Nat} (h : 10 ≤ n) (h2 : n < 100) : decB n = digB 2 n := by
  have e : Lib.nDigits n = 2 := by
    rw [Lib.nDigits_big (by omega), Lib.nDigits_small (by omega)]
  have := zer_dec (k := 2) (n := n) (by omega)
  rw [e] at this
  exact (show decB n = zerB (2 - 2) ++ decB n from ByteArray.ext (Array.toList_inj.1 (by rw [ByteArray.data_append, Array.toList_append]; rfl))).trans this
theorem dec_one {n : Nat} (h : n < 10) : (⟨#[48]⟩ : ByteArray) ++ decB n = digB 2 n := by
  have e : Lib.nDigits n = 1 := Lib.nDigits_small h
  have := zer_dec (k := 2) (n := n) (by omega)
  rw [e] at this
  exact this
theorem udig_any (n : Int) (w : World) (hT : Tab w) (h1 : 0 ≤ n) (h2 : n < 100) :
    Calls Tryd.prog 36 #[.int .i64 n] w fun e w' => e = .returned (.string (digB 2 n.toNat)) ∧ Below w.heap.size w w' := by
  obtain ⟨k, rfl⟩ : ∃ k : Nat, n = (k : Int) := ⟨n.toNat, by omega⟩
  rw [Int.toNat_natCast]
  by_cases h : k < 10
  · have d1 : decide ((k : Int) < 10) = true := decide_eq_true (by omega)
    have e := dec_one h
    have sz := decB_size k
    have hz : Lib.nDigits k = 1 := Lib.nDigits_small h
    rw [hz] at sz
    have HI := Lib.hid (itoa_any k w hT (by omega))
    obtain ⟨D, hD⟩ : ∃ D, decB k = D := ⟨_, rfl⟩
    rw [hD] at sz e HI
    have HE := Lib.hid e
    clear hD e hz
    have s2 : ¬ 9223372036854775807 < 1 + 1 := by omega
    go_enter Tryd.func36, Tryd.ntmps36
    go_wp2_with (go_at_call 57; refine HI.out.mono ?_; rintro e w1 ⟨rfl, hb1⟩)
    rw [HE.out]
    go_ret
    exact ⟨rfl, hb1⟩
  · have d1 : decide ((k : Int) < 10) = false := decide_eq_false (by omega)
    have HE := Lib.hid (dec_two (n := k) (by omega) (by omega))
    have HI := Lib.hid (itoa_any k w hT (by omega))
    go_enter Tryd.func36, Tryd.ntmps36
    go_wp2_with (go_at_call 57; refine HI.out.mono ?_; rintro e w1 ⟨rfl, hb1⟩)
    rw [HE.out]
    go_ret
    exact ⟨rfl, hb1⟩
theorem two_dig (n : Int) (h1 : 0 ≤ n) (h2 : n < 100) : strOfNums [48 + n / 10, 48 + n % 10] = digB 2 n.toNat := by
  unfold strOfNums digB digs digs digs Lib.dg
  have e1 : (48 + n / 10).toNat = 48 + n.toNat / 10 ^ 1 % 10 := by omega
  have e2 : (48 + n % 10).toNat = 48 + n.toNat / 10 ^ 0 % 10 := by omega
  simp only [List.map_cons, List.map_nil, e1, e2]
theorem rutwo_any (n : Int) (w : World) (h1 : 0 ≤ n) (h2 : n < 100) :
    Calls Tryd.prog 40 #[.int .i64 n] w fun e w' => e = .returned (.string (digB 2 n.toNat)) ∧ Below w.heap.size w w' := by
  have HE := Lib.hid (two_dig n h1 h2)
  have e1 := tdiv_of h1 10
  have e2 := tmod_of h1 10
  have e3 := IntWalk.i64_in (n / 10) (by omega)
  have e4 := IntWalk.i64_in (48 + n / 10) (by omega)
  have e5 := IntWalk.i64_in (48 + n % 10) (by omega)
  have e6 : IntKind.u8.wrap (48 + n / 10) = 48 + n / 10 := by rw [wrap_u8]; omega
  have e7 : IntKind.u8.wrap (48 + n % 10) = 48 + n % 10 := by rw [wrap_u8]; omega
  obtain ⟨a, ha⟩ : ∃ a, 48 + n / 10 = a := ⟨_, rfl⟩
  obtain ⟨b, hb⟩ : ∃ a, 48 + n % 10 = a := ⟨_, rfl⟩
  have hab : 0 ≤ a ∧ a ≤ 255 := by omega
  have hbb : 0 ≤ b ∧ b ≤ 255 := by omega
  rw [ha] at e4 e6 HE
  rw [hb] at e5 e7 HE
  have hcv := run_convert_row (P := Tryd.prog) (w := w.alloc (.cells #[.int .u8 a, .int .u8 b] 5)) 93 5 9 Tryd.underlying93 Tryd.underlying5 Tryd.underlying9 (some ⟨w.heap.size, 0, none⟩) 2 2 [a, b]
    (IntRow.laid w 5 .u8 [a, b] 2 rfl (by unfold maxLen; omega) (by intro x hx; simp at hx; rcases hx with rfl | rfl <;> exact WalkArith.wf_u8 (by omega)))
  obtain ⟨Z, hZ⟩ : ∃ Z, strOfNums [a, b] = Z := ⟨_, rfl⟩
  rw [hZ] at hcv HE
  have HBB := Lib.hid (below_alloc w (.cells #[.int .u8 a, .int .u8 b] 5))
  clear hZ
  go_enter Tryd.func40, Tryd.ntmps40
  go_wp2
  rw [HE.out]
  go_ret
  exact ⟨rfl, HBB.out⟩
end Go.Proofs.YtcknllkbeadmlaaDoor
