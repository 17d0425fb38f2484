/- The program's node and the document's, side by side in a law. -/
import Derived.Test.YtgmeakcfiaopcaaGreatBunF
import Derived.Test.YtgmeakcfiaopcaaGreatElH
import Derived.Test.YtgmeakcfiaopcaaGreatElI
import Derived.Test.YtgmeakcfiaopcaaGreatBunA
namespace Go.Proofs.YtgmeakcfiaopcaaGreat
open Go.RowKit
set_option linter.unusedVariables false
set_option linter.unusedSimpArgs false

section
variable {w wr w' : World} {t e : Int} {g b n gm : Nat} {s s' : St}
/-- The document's node made a step: the program's stays. -/
theorem Lw.doc (h : Lw w wr t e g b n s) (hD : Dn wr gm s') (hg : wr.grownBy w' (some gm)) (hm : w.heap.size + 1 ≤ gm) : Lw w w' t e g b n s := by
  obtain ⟨cs, hh, _⟩ := hD
  have h1 : gm ≠ g := hh.apart h.node.holds (by decide)
  have h2 : gm ≠ b := h.node.km.apart hh
  have hc : Chg (fun k => k = gm) wr w' := Chg.of_grown hg (fun k e => by cases e; rfl)
  exact ⟨h.box.chg hc (fun k e => by cases e; exact hm), h.node.chg hc (fun k hk hk' => by
    cases hk'
    rcases hk with e | e
    · exact h1 e
    · exact h2 e)⟩
/-- The program's node made a step: the document's stays. -/
theorem Dn.node (hD : Dn wr gm s') (h : Lw w wr t e g b n s) (hc : Chg (epart g b) wr w') : Dn w' gm s' := by
  have hD' := hD
  obtain ⟨cs, hh, _⟩ := hD'
  have h1 : gm ≠ g := hh.apart h.node.holds (by decide)
  have h2 : gm ≠ b := h.node.km.apart hh
  exact hD.chg hc (fun k => k.elim h1 h2)
theorem rhear_at (h : Dn wr gm s) (hi : Inv s) (r x q : Int) (hx : F16 x) (hq : F16 q) {v : Int} (hv : hearV s r x q = v) (hs : hearS s r x q = s') : Calls Tryz.prog 36 #[.pointer (some ⟨gm, 0, none⟩), .int .i64 r, .int .u16 x, .int .u16 q] wr fun e w' => e = .returned (.int .i64 v) ∧ Dn w' gm s' ∧ wr.grownBy w' (some gm) := by
  have := rhear_any wr gm s h hi r x q hx hq
  unfold RHeard at this
  rw [hv, hs] at this
  exact this
theorem rbeat_at (h : Dn wr gm s) (hi : Inv s) {v : Bool} (hv : beatB s = v) (hs : beatS s = s') : Calls Tryz.prog 44 #[.pointer (some ⟨gm, 0, none⟩)] wr fun e w' => e = .returned (.bool v) ∧ Dn w' gm s' ∧ wr.grownBy w' (some gm) := by
  have := rbeat_any wr gm s h hi
  unfold RBeaten at this
  rw [hv, hs] at this
  exact this
theorem rmark_at (h : Dn wr gm s) (hi : Inv s) {v0 v1 : Int} {c : Bool} (hv : saidV s = (v0, v1)) (hc : saidB s = c) : Calls Tryz.prog 48 #[.pointer (some ⟨gm, 0, none⟩)] wr fun e w' => e = .returned (.tuple #[.int .u16 v0, .int .u16 v1, .bool c]) ∧ Below wr.heap.size wr w' := by
  have := rmark_any wr gm s h hi
  rw [hv, hc] at this
  exact this
end
theorem said_at {w : World} {B g b n : Nat} {s : St} (h : En w B g b n s) {v0 v1 : Int} {c : Bool} (hv : saidV s = (v0, v1)) (hc : saidB s = c) : Calls Tryz.prog 56 #[.pointer (some ⟨g, 0, none⟩)] w fun e w' => e = .returned (.tuple #[.agg #[.int .u16 v0, .int .u16 v1], .bool c]) ∧ Below w.heap.size w w' := by
  have := mark_at h
  rw [hv, hc] at this
  exact this
theorem word_at {w : World} {B g b n : Nat} {s s' : St} (h : En w B g b n s) {v0 v1 : Int} {c : Bool} (hv : issueV s = (v0, v1)) (hc : decide (s.root = s.me) = c) (hs : issueS s = s') : Calls Tryz.prog 41 #[.pointer (some ⟨g, 0, none⟩)] w fun e w' => e = .returned (.tuple #[.agg #[.int .u16 v0, .int .u16 v1], .bool c]) ∧ Goes B g b n s' w w' := by
  have := issue_at h
  rw [hv, hc, hs] at this
  exact this
theorem root_at {w : World} {B g b n : Nat} {s : St} (h : En w B g b n s) {r : Int} (hr : s.root = r) : Calls Tryz.prog 57 #[.pointer (some ⟨g, 0, none⟩)] w fun e w' => e = .returned (.int .i64 r) ∧ w = w' := by
  have := eroot_any _ _ _ _ _ _ h
  rw [hr] at this
  exact this
theorem nomark (w : World) : Calls Tryz.prog 56 #[.pointer none] w fun e w' => e = .returned (.tuple #[.agg #[.int .u16 0, .int .u16 0], .bool false]) ∧ Below w.heap.size w w' := emark_nil w
theorem noword (w : World) : Calls Tryz.prog 41 #[.pointer none] w fun e w' => e = .returned (.tuple #[.agg #[.int .u16 0, .int .u16 0], .bool false]) ∧ Below w.heap.size w w' := issue_nil w
theorem drew_drew (w : World) (a b c : Nat) : (w.drewN (a + b)).drewN c = w.drewN (a + (b + c)) := by simp [World.drewN, Nat.add_assoc]
theorem drew_two (w : World) (a b : Nat) : (w.drewN a).drewN b = w.drewN (a + b) := by simp [World.drewN, Nat.add_assoc]
end Go.Proofs.YtgmeakcfiaopcaaGreat
