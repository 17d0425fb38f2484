/- The first call of each law: one number put and read. -/
import Derived.Test.YtkecbdgbmebpnaaOctC
namespace Go.Proofs.Ytkecbdgbmebpnaa
open Go.RowKit

theorem GaveEye.mk {w w' : World} {zs : List Int} {e : Ending} (h : GaveEye w zs e w') : ∃ g, e = .returned (.pointer (some ⟨g, 0, none⟩)) ∧ Eyes w' w.heap.size g zs ∧ w.heap.size ≤ g ∧ Below w.heap.size w w' := by
  obtain ⟨g, e, h1, h2, h3⟩ := h
  exact ⟨g, e, h2, h1, h3⟩
theorem below_grown {w w' w'' : World} {B g : Nat} (h : Below B w w') (hB : B ≤ w'.heap.size) (hg : w'.grownBy w'' (some g)) (h1 : B ≤ g) : Below B w w'' :=
  h.grown hg hB (fun k hk => by simp at hk; omega)
theorem put_two : ([] ++ putB (min 2 8 : Int).toNat 258 : List Int) = [1, 2] := by decide
theorem get_two : getB (([1, 2] : List Int).take 2) = 258 := by decide
theorem str_two : (strOfNums [1, 2]).toList = [1, 2] := by decide +kernel
theorem pen_two (w : World) : Calls Try.prog 10 #[.pointer (some ⟨w.heap.size, 0, none⟩), .int .i64 2, .int .u64 258] (w.alloc (.cells #[.slice none 0 0] 36)) fun e w' =>
    e = .returned (.pointer (some ⟨w.heap.size, 0, none⟩)) ∧ Pens w' w.heap.size w.heap.size [1, 2] ∧ Below w.heap.size w w' :=
  (pen_num w.heap.size w.heap.size 2 258 [] _ (pen_new w) (by simp) ⟨by omega, by omega⟩ ⟨by omega, by omega⟩ (by simp)).mono fun e w' ⟨he, hp, hb⟩ => by
    rw [put_two] at hp
    exact ⟨he, hp, ((Below.refl _ w).alloc (Nat.le_refl _) _).trans hb⟩
theorem bytes_two (w : World) (B g : Nat) (h : Pens w B g [1, 2]) : Calls Try.prog 11 #[.pointer (some ⟨g, 0, none⟩)] w fun e w' =>
    ∃ A c, e = .returned (.slice A 2 c) ∧ IntRow w' .u8 A 2 c [1, 2] ∧ Below w.heap.size w w' :=
  (bytes_any B g _ w h (by simp)).mono fun e w' ⟨A, c, he, ho, hb⟩ => ⟨A, c, he, IntRow.of_own ho h.2.1, hb⟩
theorem num_two (w : World) (B g : Nat) (h : Eyes w B g [1, 2]) : Calls Try.prog 7 #[.pointer (some ⟨g, 0, none⟩), .int .i64 2] w fun e w' =>
    e = .returned (.tuple #[.int .u64 258, .bool true]) ∧ Eyes w' B g [] ∧ w.grownBy w' (some g) :=
  (num_yes B g 2 _ w h (by omega) (by simp)).mono fun e w' ⟨he, hp, hb⟩ => by
    rw [get_two] at he
    exact ⟨he, hp, hb⟩
theorem alive_yes (w : World) : Calls Try.prog 5 #[] w fun e w' => e = .returned (.bool true) ∧ Below w.heap.size w w' := by
  have hs := str_two
  go_enter Try.func5, Try.ntmps5
  go_wp2_with (first
    | (go_at_call 10; refine (pen_two _).mono ?_; rintro e w1 ⟨rfl, hp1, hb1⟩)
    | (go_at_call 11; refine (bytes_two _ _ _ hp1).mono ?_; rintro e w2 ⟨A2, c2, rfl, hr2, hb2⟩)
    | (go_at_call 6; refine (of_any _ _ _ _ _ hr2 (by omega)).mono ?_; rintro e w3 h3; obtain ⟨g3, rfl, he3, hg3, hb3⟩ := h3.mk; clear h3)
    | (go_at_call 7; refine (num_two _ _ _ he3).mono ?_; rintro e w4 ⟨rfl, he4, hb4⟩; have hb24 := below_grown hb3 hb3.size hb4 hg3; have cb := run_convert_row (P := Try.prog) w4 22 5 9 Try.underlying22 Try.underlying5 Try.underlying9 A2 2 c2 [1, 2] (hr2.below hb24))
    | (go_at_call 9; refine (left_any _ _ _ _ he4).mono ?_; rintro e w5 ⟨rfl, rfl⟩))
  go_ret
  exact ⟨rfl, (hb1.trans (hb2.mono hb1.size)).trans (hb24.mono (Nat.le_trans hb1.size hb2.size))⟩
end Go.Proofs.Ytkecbdgbmebpnaa
