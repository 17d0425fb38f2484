/- While a block's cells are written. Nothing here speaks of one program. -/
import Derived.Test.YtjifnnloncanpaaPtr
import Derived.Test.YtjifnnloncanpaaTbM
import Derived.Test.YtjifnnloncanpaaChg
namespace Go.Proofs.Ytjifnnloncanpaa
open Go.RowKit
/-- While a block's cells are written: nothing else is. -/
structure Wp (w0 : World) (g : Nat) (t : TypeId) (cs : Array Value) (w : World) : Prop where
  node : Holds w g t cs
  chg : Chg (fun k => k = g) w0 w
section
variable {w0 w w' : World} {g : Nat} {t : TypeId} {cs : Array Value}
theorem Wp.start (h : Holds w0 g t cs) : Wp w0 g t cs w0 := ⟨h, Chg.refl _ _⟩
theorem Wp.put (h : Wp w0 g t cs w) (i : Nat) (u : Value) : Wp w0 g t (cs.setIfInBounds i u) (w.setCell ⟨g, i, none⟩ u) :=
  ⟨h.node.put i u, h.chg.trans (Chg.set (S := fun k => k = g) w g i u rfl) (fun _ _ e => e)⟩
theorem Wp.row (h : Wp w0 g t cs w) (l : List Value) : Wp w0 g t l.toArray (w.setRow g l.toArray) :=
  ⟨h.node.row l.toArray, h.chg.trans (Chg.of_grown (grown_row w g l.toArray) (S := fun k => k = g) (fun k e => by cases e; rfl)) (fun _ _ e => e)⟩
theorem Wp.drewN (h : Wp w0 g t cs w) (n : Nat) : Wp w0 g t cs (w.drewN n) := ⟨h.node.drewN n, h.chg.drewN n⟩
end
theorem Wp.to {w0 w : World} {g : Nat} {t : TypeId} {cs cs' : Array Value} (h : Wp w0 g t cs w) (e : cs = cs') : Wp w0 g t cs' w := e ▸ h
theorem one_ints3 (a b c : Int) : ∀ v ∈ ([.int .i64 a, .int .i64 b, .int .i64 c] : List Value), v.oneCell' = true := by
  intro v hv
  simp only [List.mem_cons, List.not_mem_nil, or_false] at hv
  rcases hv with rfl | rfl | rfl <;> rfl
end Go.Proofs.Ytjifnnloncanpaa
