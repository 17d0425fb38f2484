/- What becomes of two rows side by side; calls whose answers are not looked at. -/
import Derived.Test.YtcbfpejlbbgdjaaRgE
namespace Go.Proofs.Ytcbfpejlbbgdjaa
open Go.RowKit
set_option linter.unusedVariables false
set_option linter.unusedSimpArgs false

theorem push_some (w : World) (B g b room : Nat) (L : List Int) (x : Int) (h : RI.Rg w B g b room L) :
    Calls Try.prog 11 #[.pointer (some ⟨g, 0, none⟩), .int .i64 x] w fun e w' => ∃ (v : Int) (L' : List Int), e = .returned (.int .i64 v) ∧ RI.Rg w' B g b room L' ∧ Chg (RI.part g b) w w' := by
  by_cases hlt : L.length < room
  · exact (RI.push_any w B g b room L x h hlt).mono fun e w' ⟨he, hr, hc⟩ => ⟨0, _, he, hr, hc⟩
  · exact (RI.push_full w B g b room L x h (by have := h.len; omega)).mono fun e w' ⟨he, hb⟩ => ⟨6, L, he, h.below hb, Chg.of_below _ hb⟩
theorem pop_some (w : World) (B g b room : Nat) (L : List Int) (h : RI.Rg w B g b room L) :
    Calls Try.prog 10 #[.pointer (some ⟨g, 0, none⟩)] w fun e w' => ∃ (y : Int) (ok : Bool) (L' : List Int), e = .returned (.tuple #[.int .i64 y, .bool ok]) ∧ RI.Rg w' B g b room L' ∧ Chg (RI.part g b) w w' := by
  match L, h with
  | [], h => exact (RI.pop_none w B g b room h).mono fun e w' ⟨he, hw⟩ => ⟨0, false, [], he, by rw [hw]; exact h, by rw [hw]; exact Chg.refl _ _⟩
  | x :: L, h => exact (RI.pop_any w B g b room x L h).mono fun e w' ⟨he, hr, hc⟩ => ⟨x, true, L, he, hr, hc⟩

/-- Two rows, made one behind the other. -/
structure Two (w0 : World) (z room : Nat) (L M : List Int) (w : World) : Prop where
  a : RI.Rg w z (z + 1) z room L
  b : RI.Rg w (z + 2) (z + 3) (z + 2) room M
  below : Below w0.heap.size w0 w
  old : w0.heap.size ≤ z
section
variable {w0 w w' : World} {z room : Nat} {L M L' M' : List Int}
theorem Two.stepA (h : Two w0 z room L M w) (hr : RI.Rg w' z (z + 1) z room L') (hc : Chg (RI.part (z + 1) z) w w') : Two w0 z room L' M w' :=
  ⟨hr, h.b.chg hc (by unfold RI.part; omega) (by unfold RI.part; omega), rg_below h.a h.below hc h.old, h.old⟩
theorem Two.stepB (h : Two w0 z room L M w) (hr : RI.Rg w' (z + 2) (z + 3) (z + 2) room M') (hc : Chg (RI.part (z + 3) (z + 2)) w w') : Two w0 z room L M' w' :=
  ⟨h.a.chg hc (by unfold RI.part; omega) (by unfold RI.part; omega), hr, rg_below h.b h.below hc (by have := h.old; omega), h.old⟩
theorem Two.onto (h : Two w0 z room L M w) (hb : Below w.heap.size w w') : Two w0 z room L M w' := ⟨h.a.below hb, h.b.below hb, h.below.trans (hb.mono h.below.size), h.old⟩
end
end Go.Proofs.Ytcbfpejlbbgdjaa
