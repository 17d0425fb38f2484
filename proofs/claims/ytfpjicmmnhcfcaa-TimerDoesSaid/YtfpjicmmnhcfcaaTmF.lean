/- What each law of package timer asks first. -/
import Derived.Test.YtfpjicmmnhcfcaaTmE
namespace Go.Proofs.Ytfpjicmmnhcfcaa
open Go.RowKit

theorem Tm.new (w : World) {B : Nat} (hB : B ≤ w.heap.size) : Tm (w.alloc (.cells #[.slice none 0 0] 26)) B w.heap.size (.slice none 0 0) [] :=
  ⟨hB, good_nil, none, 0, rfl, Holds.new _ _ _, World.ownsRow_nil _ _ _ _⟩
theorem Now.below {w w' : World} {B g : Nat} {v : Value} {L M : List (Int × Int)} {B0 : Nat} {w0 : World} (h : Now B g v L w w') (ht : Tm w B g v M) (hb : Below B0 w0 w) (hB : B0 ≤ B) (hs : B0 ≤ w.heap.size) : Below B0 w0 w' := by
  obtain ⟨_, _, hc, _⟩ := h
  exact Below.chg hb hc hs (fun k hk => Nat.le_trans hB (ht.part_old hk).1)
set_option maxHeartbeats 2000000 in
theorem alive_yes (w : World) : Calls Try.prog 7 #[] w fun e w' => e = .returned (.bool true) ∧ Below w.heap.size w w' := by
  have hnew := Tm.new w (B := w.heap.size) (Nat.le_refl _)
  have hb0 := below_alloc w (.cells #[.slice none 0 0] 26)
  have s1 : ∀ W v, Tm W w.heap.size w.heap.size v [] → Calls Try.prog 8 #[.pointer (some ⟨w.heap.size, 0, none⟩), .int .i64 7, .int .i64 1] W fun e w' => e = .returned (.int .i64 0) ∧ Now w.heap.size w.heap.size v [(7, 1)] W w' := fun W v h => set_any W w.heap.size w.heap.size v [] 7 1 h (by decide)
  have s2 : ∀ W v, Tm W w.heap.size w.heap.size v [(7, 1)] → Calls Try.prog 8 #[.pointer (some ⟨w.heap.size, 0, none⟩), .int .i64 3, .int .i64 2] W fun e w' => e = .returned (.int .i64 0) ∧ Now w.heap.size w.heap.size v [(3, 2), (7, 1)] W w' := fun W v h => set_any W w.heap.size w.heap.size v [(7, 1)] 3 2 h (by decide)
  have s3 : ∀ W v, Tm W w.heap.size w.heap.size v [(3, 2), (7, 1)] → Calls Try.prog 8 #[.pointer (some ⟨w.heap.size, 0, none⟩), .int .i64 7, .int .i64 3] W fun e w' => e = .returned (.int .i64 0) ∧ Now w.heap.size w.heap.size v [(3, 2), (7, 1), (7, 3)] W w' := fun W v h => set_any W w.heap.size w.heap.size v [(3, 2), (7, 1)] 7 3 h (by decide)
  have s4 : ∀ W v, Tm W w.heap.size w.heap.size v [(3, 2), (7, 1), (7, 3)] → Calls Try.prog 8 #[.pointer (some ⟨w.heap.size, 0, none⟩), .int .i64 9, .int .i64 1] W fun e w' => e = .returned (.int .i64 0) ∧ Now w.heap.size w.heap.size v [(3, 2), (7, 3), (9, 1)] W w' := fun W v h => set_any W w.heap.size w.heap.size v [(3, 2), (7, 1), (7, 3)] 9 1 h (by decide)
  have s5 : ∀ W v, Tm W w.heap.size w.heap.size v [(3, 2), (7, 3), (9, 1)] → Calls Try.prog 12 #[.pointer (some ⟨w.heap.size, 0, none⟩), .int .i64 8] W fun e w' => ∃ A c, e = .returned (.slice A 2 c) ∧ w'.ownsRow W.heap.size 3 1 (.slice A 2 c) 2 (([2, 3] : List Int).map (.int .i64)) ∧ Now w.heap.size w.heap.size v [(9, 1)] W w' := fun W v h => due_any W w.heap.size w.heap.size v [(3, 2), (7, 3), (9, 1)] 8 h
  have s6 : ∀ W v, Tm W w.heap.size w.heap.size v [(9, 1)] → Calls Try.prog 14 #[.pointer (some ⟨w.heap.size, 0, none⟩)] W fun e w' => e = .returned (.int .i64 1) ∧ W = w' := fun W v h => len_any W w.heap.size w.heap.size v [(9, 1)] h
  have HN := Lib.hid hnew
  clear hnew
  go_enter Try.func7, Try.ntmps7
  go_wp2_with (first
    | (go_at_call 8; (with_reducible refine (s1 _ _ HN.out).mono ?_); rintro e w1 ⟨rfl, hn1⟩; have hb1 := hn1.below HN.out hb0 (Nat.le_refl _) (by have := hb0.size; omega); obtain ⟨v1, ht1, _⟩ := hn1; have HT1 := Lib.hid ht1; clear ht1)
    | (go_at_call 8; (with_reducible refine (s2 _ _ HT1.out).mono ?_); rintro e w2 ⟨rfl, hn2⟩; have hb2 := hn2.below HT1.out hb1 (Nat.le_refl _) (by have := hb1.size; omega); obtain ⟨v2, ht2, _⟩ := hn2; have HT2 := Lib.hid ht2; clear ht2)
    | (go_at_call 8; (with_reducible refine (s3 _ _ HT2.out).mono ?_); rintro e w3 ⟨rfl, hn3⟩; have hb3 := hn3.below HT2.out hb2 (Nat.le_refl _) (by have := hb2.size; omega); obtain ⟨v3, ht3, _⟩ := hn3; have HT3 := Lib.hid ht3; clear ht3)
    | (go_at_call 8; (with_reducible refine (s4 _ _ HT3.out).mono ?_); rintro e w4 ⟨rfl, hn4⟩; have hb4 := hn4.below HT3.out hb3 (Nat.le_refl _) (by have := hb3.size; omega); obtain ⟨v4, ht4, _⟩ := hn4; have HT4 := Lib.hid ht4; clear ht4)
    | (go_at_call 12; (with_reducible refine (s5 _ _ HT4.out).mono ?_); rintro e w5 ⟨A, c, rfl, ho5, hn5⟩; have hb5 := hn5.below HT4.out hb4 (Nat.le_refl _) (by have := hb4.size; omega); obtain ⟨v5, ht5, _⟩ := hn5; have HT5 := Lib.hid ht5; clear ht5; obtain ⟨q, rfl, _, _⟩ := own_form ho5 (by decide); have l0 := own_cell ho5 (j := 0) (by decide); have l1 := own_cell ho5 (j := 1) (by decide); clear ho5)
    | (go_at_call 14; (with_reducible refine (s6 _ _ HT5.out).mono ?_); rintro e w6 ⟨rfl, rfl⟩))
  go_ret
  exact ⟨rfl, hb5⟩
end Go.Proofs.Ytfpjicmmnhcfcaa
