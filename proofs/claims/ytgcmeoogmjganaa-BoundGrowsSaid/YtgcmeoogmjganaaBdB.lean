/- Package bound: what the calls of nets answer. -/
import Derived.Test.YtgcmeoogmjganaaBdA
namespace Go.Proofs.Ytgcmeoogmjganaa
open Go.RowKit
set_option linter.unusedSimpArgs false
set_option linter.unusedVariables false

theorem Box.bd5 {w0 w : World} {ty : TypeId} {a b c d f : Value} (h : Box w0 ty #[a, b, c, d, f] w) : w.cell? ⟨w0.heap.size, 0, none⟩ = some a ∧ w.cell? ⟨w0.heap.size, 1, none⟩ = some b ∧ w.cell? ⟨w0.heap.size, 2, none⟩ = some c ∧ w.cell? ⟨w0.heap.size, 3, none⟩ = some d ∧ w.cell? ⟨w0.heap.size, 4, none⟩ = some f ∧ Box w0 ty #[a, b, c, d, f] w :=
  ⟨h.holds.cell 0, h.holds.cell 1, h.holds.cell 2, h.holds.cell 3, h.holds.cell 4, h⟩
theorem ngood_any (n u m i k : Int) (w : World) :
    Calls Try.prog 25 #[.agg #[.int .i64 n, .int .i64 u, .int .i64 m, .int .i64 i, .int .i64 k]] w fun e w' => e = .returned (.bool (ntGood n u m i k)) ∧ Below w.heap.size w w' := by
  have HB := Lib.hid (Box.start w 40 #[.int .i64 n, .int .i64 u, .int .i64 m, .int .i64 i, .int .i64 k])
  obtain ⟨c0, c1, c2, c3, c4, _⟩ := HB.out.bd5
  cases g1 : bdIn n 1 64
  · have hG : ntGood n u m i k = false := by unfold ntGood; rw [g1]; rfl
    go_enter Try.func25, Try.ntmps25
    go_wp2_with (first
      | (go_at_call 30; refine (within_any _ _ _ _).mono ?_; rintro e wx ⟨rfl, rfl⟩))
    go_ret
    exact ⟨by rw [hG]; rfl, HB.out.below⟩
  cases g2 : bdIn u 0 (n - 1)
  · have hG : ntGood n u m i k = false := by unfold ntGood; rw [g1, g2]; rfl
    have b0 := bdIn_iff.1 g1
    obtain ⟨b1, b2⟩ := b0
    go_enter Try.func25, Try.ntmps25
    go_wp2_with (first
      | (go_at_call 30; refine (within_any _ _ _ _).mono ?_; rintro e wx ⟨rfl, rfl⟩))
    go_ret
    exact ⟨by rw [hG]; rfl, HB.out.below⟩
  cases g3 : bdIn m 0 1000
  · have hG : ntGood n u m i k = false := by unfold ntGood; rw [g1, g2, g3]; rfl
    have b0 := bdIn_iff.1 g1
    obtain ⟨b1, b2⟩ := b0
    go_enter Try.func25, Try.ntmps25
    go_wp2_with (first
      | (go_at_call 30; refine (within_any _ _ _ _).mono ?_; rintro e wx ⟨rfl, rfl⟩))
    go_ret
    exact ⟨by rw [hG]; rfl, HB.out.below⟩
  cases g4 : bdIn i 0 1000
  · have hG : ntGood n u m i k = false := by unfold ntGood; rw [g1, g2, g3, g4]; rfl
    have b0 := bdIn_iff.1 g1
    obtain ⟨b1, b2⟩ := b0
    go_enter Try.func25, Try.ntmps25
    go_wp2_with (first
      | (go_at_call 30; refine (within_any _ _ _ _).mono ?_; rintro e wx ⟨rfl, rfl⟩))
    go_ret
    exact ⟨by rw [hG]; rfl, HB.out.below⟩
  have hG : ntGood n u m i k = bdIn k 1 8 := by unfold ntGood; rw [g1, g2, g3, g4]; rfl
  have b0 := bdIn_iff.1 g1
  obtain ⟨b1, b2⟩ := b0
  go_enter Try.func25, Try.ntmps25
  go_wp2_with (first
    | (go_at_call 30; refine (within_any _ _ _ _).mono ?_; rintro e wx ⟨rfl, rfl⟩))
  go_ret
  exact ⟨by rw [hG]; rfl, HB.out.below⟩
theorem behind_any (n u m i k : Int) (w : World) :
    Calls Try.prog 26 #[.agg #[.int .i64 n, .int .i64 u, .int .i64 m, .int .i64 i, .int .i64 k]] w fun e w' => e = .returned (.int .i64 (ntBehind n u m i k)) ∧ Below w.heap.size w w' := by
  have HB := Lib.hid (Box.start w 40 #[.int .i64 n, .int .i64 u, .int .i64 m, .int .i64 i, .int .i64 k])
  obtain ⟨c0, c1, c2, c3, c4, _⟩ := HB.out.bd5
  cases g1 : ntGood n u m i k
  · have hT : ntBehind n u m i k = 0 := by unfold ntBehind; rw [if_neg]; rw [g1]; exact Bool.false_ne_true
    go_enter Try.func26, Try.ntmps26
    go_wp2_with (first
      | (go_at_call 25; refine (ngood_any _ _ _ _ _ _).mono ?_; rintro e wx ⟨rfl, hb⟩; replace HB := Lib.hid (HB.out.next hb); obtain ⟨c0, c1, c2, c3, c4, _⟩ := HB.out.bd5; clear hb))
    go_ret
    exact ⟨ret_int hT.symm, HB.out.below⟩
  have c := ntGood_iff.1 g1
  have n0 := c.n0
  have n1 := c.n1
  have w0 := c.w0
  have w1 := c.w1
  have m0 := c.m0
  have m1 := c.m1
  have i0 := c.i0
  have i1 := c.i1
  have k0 := c.k0
  have k1 := c.k1
  clear c
  have hT : ntBehind n u m i k = u * (m + 2) := by unfold ntBehind; rw [if_pos g1]
  have p := bd_mul w0 (by omega : u ≤ 63) (by omega : (0 : Int) ≤ m + 2) (by omega : m + 2 ≤ 1002)
  obtain ⟨p1, p2⟩ := p
  go_enter Try.func26, Try.ntmps26
  go_wp2_with (first
    | (go_at_call 25; refine (ngood_any _ _ _ _ _ _).mono ?_; rintro e wx ⟨rfl, hb⟩; replace HB := Lib.hid (HB.out.next hb); obtain ⟨c0, c1, c2, c3, c4, _⟩ := HB.out.bd5; clear hb))
  go_ret
  exact ⟨ret_int hT.symm, HB.out.below⟩
theorem patience_any (n u m i k : Int) (w : World) :
    Calls Try.prog 27 #[.agg #[.int .i64 n, .int .i64 u, .int .i64 m, .int .i64 i, .int .i64 k]] w fun e w' => e = .returned (.int .i64 (ntPatience n u m i k)) ∧ Below w.heap.size w w' := by
  have HB := Lib.hid (Box.start w 40 #[.int .i64 n, .int .i64 u, .int .i64 m, .int .i64 i, .int .i64 k])
  obtain ⟨c0, c1, c2, c3, c4, _⟩ := HB.out.bd5
  cases g1 : ntGood n u m i k
  · have hT : ntPatience n u m i k = 0 := by unfold ntPatience; rw [if_neg]; rw [g1]; exact Bool.false_ne_true
    go_enter Try.func27, Try.ntmps27
    go_wp2_with (first
      | (go_at_call 25; refine (ngood_any _ _ _ _ _ _).mono ?_; rintro e wx ⟨rfl, hb⟩; replace HB := Lib.hid (HB.out.next hb); obtain ⟨c0, c1, c2, c3, c4, _⟩ := HB.out.bd5; clear hb))
    go_ret
    exact ⟨ret_int hT.symm, HB.out.below⟩
  have hT : ntPatience n u m i k = ntBehind n u m i k + 4 := by unfold ntPatience; rw [if_pos g1]
  have p := ntBehind_bd n u m i k
  obtain ⟨p1, p2⟩ := p
  go_enter Try.func27, Try.ntmps27
  go_wp2_with (first
    | (go_at_call 25; refine (ngood_any _ _ _ _ _ _).mono ?_; rintro e wx ⟨rfl, hb⟩; replace HB := Lib.hid (HB.out.next hb); obtain ⟨c0, c1, c2, c3, c4, _⟩ := HB.out.bd5; clear hb)
    | (go_at_call 26; refine (behind_any _ _ _ _ _ _).mono ?_; rintro e wx ⟨rfl, hb⟩; replace HB := Lib.hid (HB.out.next hb); obtain ⟨c0, c1, c2, c3, c4, _⟩ := HB.out.bd5; clear hb))
  go_ret
  exact ⟨ret_int hT.symm, HB.out.below⟩
theorem settle_any (n u m i k t : Int) (w : World) :
    Calls Try.prog 28 #[.agg #[.int .i64 n, .int .i64 u, .int .i64 m, .int .i64 i, .int .i64 k], .int .i64 t] w fun e w' => e = .returned (.int .i64 (ntSettle n u m i k t)) ∧ Below w.heap.size w w' := by
  have HB := Lib.hid (Box.start w 40 #[.int .i64 n, .int .i64 u, .int .i64 m, .int .i64 i, .int .i64 k])
  obtain ⟨c0, c1, c2, c3, c4, _⟩ := HB.out.bd5
  cases g1 : ntGood n u m i k
  · have hT : ntSettle n u m i k t = 0 := by unfold ntSettle; rw [if_neg]; rw [g1]; rintro ⟨h, _⟩; cases h
    go_enter Try.func28, Try.ntmps28
    go_wp2_with (first
      | (go_at_call 25; refine (ngood_any _ _ _ _ _ _).mono ?_; rintro e wx ⟨rfl, hb⟩; replace HB := Lib.hid (HB.out.next hb); obtain ⟨c0, c1, c2, c3, c4, _⟩ := HB.out.bd5; clear hb))
    go_ret
    exact ⟨ret_int hT.symm, HB.out.below⟩
  cases g2 : bdIn t (ntPatience n u m i k) 1000
  · have hT : ntSettle n u m i k t = 0 := by unfold ntSettle; rw [if_neg]; rw [g2]; rintro ⟨_, h⟩; cases h
    go_enter Try.func28, Try.ntmps28
    go_wp2_with (first
      | (go_at_call 25; refine (ngood_any _ _ _ _ _ _).mono ?_; rintro e wx ⟨rfl, hb⟩; replace HB := Lib.hid (HB.out.next hb); obtain ⟨c0, c1, c2, c3, c4, _⟩ := HB.out.bd5; clear hb)
      | (go_at_call 27; refine (patience_any _ _ _ _ _ _).mono ?_; rintro e wx ⟨rfl, hb⟩; replace HB := Lib.hid (HB.out.next hb); obtain ⟨c0, c1, c2, c3, c4, _⟩ := HB.out.bd5; clear hb)
      | (go_at_call 30; refine (within_any _ _ _ _).mono ?_; rintro e wx ⟨rfl, rfl⟩))
    go_ret
    exact ⟨ret_int hT.symm, HB.out.below⟩
  have c := ntGood_iff.1 g1
  have n0 := c.n0
  have n1 := c.n1
  have w0 := c.w0
  have w1 := c.w1
  have m0 := c.m0
  have m1 := c.m1
  have i0 := c.i0
  have i1 := c.i1
  have k0 := c.k0
  have k1 := c.k1
  clear c
  have g := bdIn_iff.1 g2
  have b := ntBehind_bd n u m i k
  have e : ntPatience n u m i k = ntBehind n u m i k + 4 := by unfold ntPatience; rw [if_pos g1]
  have hT : ntSettle n u m i k t = (n + 1) * (t + 2) + u * (3 * (ntBehind n u m i k + 2) + i + k * (ntBehind n u m i k + 2)) + 4 := by unfold ntSettle; rw [if_pos ⟨g1, g2⟩]
  have q := nt_prods n0 n1 w0 w1 i0 i1 k0 k1 (by omega : 0 ≤ t) g.2 b.1 b.2
  obtain ⟨T, hTT⟩ : ∃ T, ntBehind n u m i k = T := ⟨_, rfl⟩
  rw [hTT] at hT b q e
  obtain ⟨t0, t1⟩ := g
  obtain ⟨b0, b1⟩ := b
  obtain ⟨⟨q1, q2⟩, ⟨q3, q4⟩, q5, q6⟩ := q
  have t00 : 0 ≤ t := by omega
  clear e
  go_enter Try.func28, Try.ntmps28
  go_wp2_with (first
    | (go_at_call 25; refine (ngood_any _ _ _ _ _ _).mono ?_; rintro e wx ⟨rfl, hb⟩; replace HB := Lib.hid (HB.out.next hb); obtain ⟨c0, c1, c2, c3, c4, _⟩ := HB.out.bd5; clear hb)
    | (go_at_call 27; refine (patience_any _ _ _ _ _ _).mono ?_; rintro e wx ⟨rfl, hb⟩; replace HB := Lib.hid (HB.out.next hb); obtain ⟨c0, c1, c2, c3, c4, _⟩ := HB.out.bd5; clear hb)
    | (go_at_call 26; refine (behind_any _ _ _ _ _ _).mono ?_; rintro e wx ⟨rfl, hb⟩; replace HB := Lib.hid (HB.out.next hb); obtain ⟨c0, c1, c2, c3, c4, _⟩ := HB.out.bd5; clear hb)
    | (go_at_call 30; refine (within_any _ _ _ _).mono ?_; rintro e wx ⟨rfl, rfl⟩))
  go_ret
  exact ⟨ret_int hT.symm, HB.out.below⟩
end Go.Proofs.Ytgcmeoogmjganaa
