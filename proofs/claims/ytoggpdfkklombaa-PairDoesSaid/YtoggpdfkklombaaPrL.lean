/- Layer 18, beside the document: what both answer alike. -/
import Derived.Test.YtoggpdfkklombaaPrJ
import Derived.Laws.StructEq
namespace Go.Proofs.Ytoggpdfkklombaa
open Go.RowKit
set_option linter.unusedVariables false
set_option linter.unusedSimpArgs false

theorem pulse_same (a b c : Int) (W : World) : (binOp .neq 36 (.agg #[.int .i64 a, .int .i64 b, .int .i64 c]) (.agg #[.int .i64 a, .int .i64 b, .int .i64 c])).run Try.prog W = .ok (.bool false) W := by
  go_simp
theorem entry_same (a b c : Int) (W : World) : (binOp .neq 55 (.agg #[.int .i64 a, .int .i64 b, .int .i64 c]) (.agg #[.int .i64 a, .int .i64 b, .int .i64 c])).run Try.prog W = .ok (.bool false) W := by
  go_simp
theorem askP_me (p : PS) (tt l : Int) : (askP p tt l).me = p.me := by unfold askP; split <;> rfl
theorem hearP_me (p : PS) (fr tt se got back hops l : Int) : (hearP p fr tt se got back hops l).me = p.me := by unfold hearP; split <;> rfl
theorem beatP_me (p : PS) : (beatP p).me = p.me := by
  unfold beatP
  split
  · rfl
  · split
    · rfl
    · split
      · rfl
      · split <;> rfl
theorem ask_both (p : PS) (tt l : Int) : ∃ (f0 f1 f2 K : Int) (O : Bool), askV p tt l = .tuple #[.agg #[.int .i64 f0, .int .i64 f1, .int .i64 f2], .bool O] ∧ raskL p tt l = pl14 K f0 f1 f2 ∧ (K == 4) = O := by
  unfold askV raskL
  split
  · exact ⟨p.me, tt, l, 4, true, rfl, rfl, rfl⟩
  · exact ⟨0, 0, 0, 0, false, rfl, rfl, rfl⟩
theorem hear_both (p : PS) (fr tt se got back hops l : Int) : ∃ (x0 x1 x2 : Int) (O : Bool), hearV p fr tt se got back hops l = .tuple #[.agg #[.int .i64 x0, .int .i64 x1, .int .i64 x2], .bool O] := by
  unfold hearV
  split
  · exact ⟨_, _, _, _, rfl⟩
  · exact ⟨_, _, _, _, rfl⟩
theorem N2.row {w wr : World} {g gm : Nat} {p q : PS} (h : N2 w wr g gm p q) (x : Nat) (l : List Value) (n1 : x ≠ g) (n2 : x ≠ gm) (ho : w.heap.size ≤ x) : N2 w (wr.setRow x l.toArray) g gm p q := by
  have hg := grown_row wr x l.toArray
  have hc := Chg.of_grown hg (S := fun k => k = x) (fun k e => by cases e; rfl)
  exact ⟨⟨Holds.chg h.one.node hc (fun e => n1 e.symm), Below.chg h.one.below hc h.one.below.size (fun k e => by omega), h.one.new⟩, h.doc.chg hc (fun e => n2 e.symm), h.newd⟩
end Go.Proofs.Ytoggpdfkklombaa
