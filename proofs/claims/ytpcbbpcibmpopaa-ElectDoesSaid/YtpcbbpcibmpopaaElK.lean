/- A law's node, beside its rules, which lie in a block of the law's own. -/
import Derived.Test.YtpcbbpcibmpopaaElJ
import Derived.LoopTactic
namespace Go.Proofs.Ytpcbbpcibmpopaa
open Go.RowKit
set_option linter.unusedVariables false
set_option linter.unusedSimpArgs false

/-- The rules' block as the law began, and a node that is younger. -/
structure Lw (w wr : World) (t e : Int) (g b n : Nat) (s : St) : Prop where
  box : Box w 23 #[.int .i64 t, .int .i64 e] wr
  node : En wr (w.heap.size + 1) g b n s
section
variable {w wr w' : World} {t e : Int} {g b n n' : Nat} {s s' : St}
theorem Box.chg {ty : TypeId} {cs : Array Value} {S : Nat → Prop} (h : Box w ty cs wr) (hc : Chg S wr w') (hS : ∀ k, S k → w.heap.size + 1 ≤ k) : Box w ty cs w' :=
  ⟨h.holds.chg hc (fun e => by have := hS _ e; omega), Below.chg h.below hc (Nat.le_of_lt h.lt) (fun k hk => by have := hS k hk; omega)⟩
theorem Lw.start {w1 : World} (hB : Box w 23 #[.int .i64 t, .int .i64 e] w1) (hE : En wr w1.heap.size g b n s) (hb : Below w1.heap.size w1 wr) : Lw w wr t e g b n s :=
  ⟨hB.next hb, hE.at (by have := hE.newer; have := hB.lt; omega) (by have := hE.newer; have := hB.lt; omega)⟩
theorem Lw.next (h : Lw w wr t e g b n s) (hg : Goes (w.heap.size + 1) g b n' s' wr w') : ∃ b', Lw w w' t e g b' n' s' ∧ Chg (part g b) wr w' ∧ (b' = b ∨ wr.heap.size ≤ b') := by
  obtain ⟨b', h1, h2, h3⟩ := hg
  refine ⟨b', ⟨h.box.chg h2 (fun k hk => ?_), h1⟩, h2, h3⟩
  rcases hk with rfl | rfl
  · exact h.node.newer.1
  · exact h.node.newer.2
theorem Lw.below (h : Lw w wr t e g b n s) (hb : Below wr.heap.size wr w') : Lw w w' t e g b n s := ⟨h.box.next hb, h.node.below hb⟩
theorem Lw.alloc (h : Lw w wr t e g b n s) (o : Obj) : Lw w (wr.alloc o) t e g b n s := h.below (below_alloc _ _)
theorem Lw.drewN (h : Lw w wr t e g b n s) (m : Nat) : Lw w (wr.drewN m) t e g b n s := h.below (below_drewN (Below.refl _ _) m)
theorem Lw.mono (h : Lw w wr t e g b n s) (hn : n ≤ n') : Lw w wr t e g b n' s := ⟨h.box, h.node.mono hn⟩
theorem Lw.cells (h : Lw w wr t e g b n s) : wr.cell? ⟨w.heap.size, 0, none⟩ = some (.int .i64 t) ∧ wr.cell? ⟨w.heap.size, 1, none⟩ = some (.int .i64 e) := ⟨h.box.holds.cell 0, h.box.holds.cell 1⟩
theorem Lw.law (h : Lw w wr t e g b n s) : Below w.heap.size w wr := h.box.below
end
end Go.Proofs.Ytpcbbpcibmpopaa
