/- Package slope: Gain, and the document's. -/
import Derived.Test.YtgmeakcfiaopcaaGreatBunM
import Derived.Test.YtgmeakcfiaopcaaGreatMdE
import Derived.Test.YtgmeakcfiaopcaaGreatMdQ
namespace Go.Proofs.YtgmeakcfiaopcaaGreat
open Go.RowKit
set_option linter.unusedVariables false
set_option linter.unusedSimpArgs false

/-- What a fraction gains in so many ticks. -/
def gainV (a b t : Int) : Int := if 1 ≤ b ∧ -9223372036854775808 ≤ a * t / b ∧ a * t / b ≤ 9223372036854775807 then a * t / b else 0
theorem gain_any (a b t : Int) (w : World) (ha : Fits a) (hb : Fits b) (ht : Fits t) :
    Calls Tryz.prog 98 #[.agg #[.int .i64 a, .int .i64 b], .int .i64 t] w fun e w' => e = .returned (.int .i64 (gainV a b t)) ∧ Below w.heap.size w w' := by
  have k := (Holds.new w 140 #[.int .i64 a, .int .i64 b])
  have c0 := k.cell 0
  have c1 := k.cell 1
  have HB := Lib.hid (below_alloc w (.cells #[.int .i64 a, .int .i64 b] 140))
  have hm : ∃ ok : Bool, ∀ W, Calls Tryz.prog 103 #[.int .i64 a, .int .i64 t, .int .i64 b] W fun e w' => e = .returned (.tuple #[.int .i64 (gainV a b t), .bool ok]) ∧ ∃ n, w' = W.drewN n := by
    unfold gainV
    by_cases h1 : 1 ≤ b
    · by_cases h2 : Fits (a * t / b)
      · rw [if_pos ⟨h1, h2.1, h2.2⟩]
        exact ⟨true, fun W => muldiv_yes a t b W ha ht h1 hb.2 h2⟩
      · rw [if_neg (fun h => h2 ⟨h.2.1, h.2.2⟩)]
        exact ⟨false, fun W => muldiv_no a t b W ha ht h1 hb.2 h2⟩
    · rw [if_neg (fun h => h1 h.1)]
      exact ⟨false, fun W => muldiv_bad a t b W (by omega)⟩
  obtain ⟨ok, hm⟩ := hm
  obtain ⟨V, hV⟩ : ∃ V, gainV a b t = V := ⟨_, rfl⟩
  simp only [hV] at hm ⊢
  have HM := Lib.hid hm
  clear hm hV k
  go_enter Tryz.func98, Tryz.ntmps98
  go_wp2_with (go_at_call 103; refine (HM.out _).mono ?_; rintro e w2 ⟨rfl, ⟨nq, rfl⟩⟩)
  go_ret
  exact ⟨rfl, below_drewN HB.out _⟩
theorem rgain_any (a b t : Int) (w : World) (ha : Fits a) (hb : Fits b) (ht : Fits t) :
    Calls Tryz.prog 91 #[.int .i64 a, .int .i64 b, .int .i64 t] w fun e w' => e = .returned (.int .i64 (gainV a b t)) ∧ Below w.heap.size w w' := by
  have hm : ∃ ok : Bool, ∀ W, Calls Tryz.prog 99 #[.int .i64 a, .int .i64 t, .int .i64 b] W fun e w' => e = .returned (.tuple #[.int .i64 (gainV a b t), .bool ok]) ∧ Below W.heap.size W w' := by
    unfold gainV
    by_cases h1 : 1 ≤ b
    · by_cases h2 : Fits (a * t / b)
      · rw [if_pos ⟨h1, h2.1, h2.2⟩]
        exact ⟨true, fun W => rmuldiv_yes a t b W ha ht h1 hb.2 h2⟩
      · rw [if_neg (fun h => h2 ⟨h.2.1, h.2.2⟩)]
        exact ⟨false, fun W => rmuldiv_no a t b W ha ht h1 hb.2 h2⟩
    · rw [if_neg (fun h => h1 h.1)]
      exact ⟨false, fun W => rmuldiv_bad a t b W (by omega)⟩
  obtain ⟨ok, hm⟩ := hm
  obtain ⟨V, hV⟩ : ∃ V, gainV a b t = V := ⟨_, rfl⟩
  simp only [hV] at hm ⊢
  have HM := Lib.hid hm
  clear hm hV
  go_enter Tryz.func91, Tryz.ntmps91
  go_wp2_with (go_at_call 99; refine (HM.out _).mono ?_; rintro e w2 ⟨rfl, hb2⟩)
  go_ret
  exact ⟨rfl, hb2⟩
end Go.Proofs.YtgmeakcfiaopcaaGreat
