/- The program's row and the document's, side by side. -/
import Derived.Test.YtcbfpejlbbgdjaaRgE
namespace Go.Proofs.Ytcbfpejlbbgdjaa
open Go.RowKit
set_option linter.unusedVariables false
set_option linter.unusedSimpArgs false

theorem run_min2 (a b : Int) (w : World) : (Builtin.min_ #[3, 3] 3 #[.int .i64 a, .int .i64 b]).run Try.prog w = .ok (.int .i64 (if b < a then b else a)) w := by
  simp [Builtin.min_, Builtin.min2, go_sem]
theorem nil_row (w : World) : IntRow w .i64 none 0 0 [] := ⟨rfl, Nat.le_refl _, by simp [maxLen], fun _ => rfl, fun h => absurd h (Nat.lt_irrefl _), by simp⟩
theorem same_nil (w : World) : Calls Try.prog 13 #[.pointer none, .slice none 0 0] w fun e w' => e = .returned (.bool true) ∧ Below w.heap.size w w' :=
  RI.same_any w none [] none 0 (by simp) (fun W _ => RI.list_nil W) (nil_row w)

/-- Both rows: the program's at z + 1, the document's at gd. -/
structure Tied (w0 : World) (z gd room : Nat) (L M : List Int) (w : World) : Prop where
  ring : RI.Rg w z (z + 1) z room L
  doc : RI.Dr w (gd + 1) gd (room : Int) M
  below : Below w0.heap.size w0 w
  old : w0.heap.size ≤ z
  apart : z + 2 ≤ gd
  size : gd + 1 ≤ w.heap.size
section
variable {w0 w w' : World} {z gd room : Nat} {L M L' M' : List Int}
theorem Tied.onto (h : Tied w0 z gd room L M w) (hb : Below w.heap.size w w') : Tied w0 z gd room L M w' :=
  ⟨h.ring.below hb, h.doc.below hb, h.below.trans (hb.mono h.below.size), h.old, h.apart, Nat.le_trans h.size hb.size⟩
theorem Tied.stepR (h : Tied w0 z gd room L M w) (hr : RI.Rg w' z (z + 1) z room L') (hc : Chg (RI.part (z + 1) z) w w') : Tied w0 z gd room L' M w' :=
  ⟨hr, h.doc.chg hc (by have := h.apart; unfold RI.part; omega) (fun k hk => by have := h.apart; unfold RI.part; omega), rg_below h.ring h.below hc h.old, h.old, h.apart, Nat.le_trans h.size hc.size⟩
theorem Tied.stepD (h : Tied w0 z gd room L M w) (hd : RI.Dr w' (gd + 1) gd (room : Int) M') (hc : Chg (fun k => k = gd) w w') : Tied w0 z gd room L M' w' :=
  ⟨h.ring.chg hc (by have := h.apart; omega) (by have := h.apart; omega), hd, Below.chg h.below hc h.below.size (fun k hk => by have := h.apart; have := h.old; omega), h.old, h.apart, Nat.le_trans h.size hc.size⟩
theorem Tied.emptyD (h : Tied w0 z gd room L M w) : Tied w0 z gd room L [] (w.setCell ⟨gd, 1, none⟩ (.slice none 0 0)) := by
  obtain ⟨A, c, hh, _⟩ := h.doc
  have hk := hh.put 1 (.slice none 0 0)
  refine h.stepD ⟨none, 0, hk, nil_row _, fun hn => absurd hn (Nat.lt_irrefl _)⟩ (Chg.set (S := fun k => k = gd) w gd 1 _ rfl)
theorem tied_new {w2 w3 : World} (h2 : RI.Rg w2 z (z + 1) z room []) (hb0 : Below w0.heap.size w0 w2) (hold : w0.heap.size ≤ z) (hb : Below w2.heap.size w2 w3) (hs : z + 2 ≤ w2.heap.size) :
    Tied w0 z w3.heap.size room [] [] (w3.alloc (.cells #[.int .i64 (room : Int), .slice none 0 0] 36)) := by
  have hb3 := hb.alloc hb.size (.cells #[.int .i64 (room : Int), .slice none 0 0] 36)
  refine ⟨h2.below hb3, ⟨none, 0, Holds.new w3 _ _, nil_row _, fun hn => absurd hn (Nat.lt_irrefl _)⟩, hb0.trans (hb3.mono hb0.size), hold, Nat.le_trans hs hb.size, by simp⟩
end
end Go.Proofs.Ytcbfpejlbbgdjaa
