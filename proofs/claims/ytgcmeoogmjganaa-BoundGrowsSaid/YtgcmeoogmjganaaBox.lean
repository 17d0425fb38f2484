/- A parameter that is a struct by value lies in a block of the call's own (Op.box): it is known whole from the call's begin to its end. Nothing here speaks of one program. -/
import Derived.Test.YtgcmeoogmjganaaPtr
namespace Go.Proofs.Ytgcmeoogmjganaa
open Go.RowKit

/-- What was boxed as the call began (at block w0.heap.size) lies there still, and nothing older was changed. -/
structure Box (w0 : World) (t : TypeId) (cs : Array Value) (w : World) : Prop where
  holds : Holds w w0.heap.size t cs
  below : Below w0.heap.size w0 w
section
variable {w0 w w' : World} {t : TypeId} {cs : Array Value}
theorem Box.start (w0 : World) (t : TypeId) (cs : Array Value) : Box w0 t cs (w0.alloc (.cells cs t)) := ⟨Holds.new _ _ _, below_alloc _ _⟩
theorem Box.lt (h : Box w0 t cs w) : w0.heap.size < w.heap.size := h.holds.lt
theorem Box.next (h : Box w0 t cs w) (hb : Below w.heap.size w w') : Box w0 t cs w' := ⟨h.holds.below hb h.lt, h.below.trans (hb.mono (Nat.le_of_lt h.lt))⟩
theorem Box.drew (h : Box w0 t cs w) : Box w0 t cs w.drew := h.next (Below.refl _ _).drew
theorem Box.drewN (h : Box w0 t cs w) (n : Nat) : Box w0 t cs (w.drewN n) := h.next (below_drewN (Below.refl _ _) n)
theorem Box.alloc (h : Box w0 t cs w) (o : Obj) : Box w0 t cs (w.alloc o) := h.next (below_alloc _ _)
theorem Box.cells3 {a b c : Value} (h : Box w0 t #[a, b, c] w) : w.cell? ⟨w0.heap.size, 0, none⟩ = some a ∧ w.cell? ⟨w0.heap.size, 1, none⟩ = some b ∧ w.cell? ⟨w0.heap.size, 2, none⟩ = some c ∧ Box w0 t #[a, b, c] w :=
  ⟨h.holds.cell 0, h.holds.cell 1, h.holds.cell 2, h⟩
theorem Box.two {w1 : World} {t' : TypeId} {a b c d e f : Value} (h : Box w0 t #[a, b, c] w ∧ Box w1 t' #[d, e, f] w) :
    w.cell? ⟨w0.heap.size, 0, none⟩ = some a ∧ w.cell? ⟨w0.heap.size, 1, none⟩ = some b ∧ w.cell? ⟨w0.heap.size, 2, none⟩ = some c ∧ w.cell? ⟨w1.heap.size, 0, none⟩ = some d ∧ w.cell? ⟨w1.heap.size, 1, none⟩ = some e ∧ w.cell? ⟨w1.heap.size, 2, none⟩ = some f ∧ Box w0 t #[a, b, c] w ∧ Box w1 t' #[d, e, f] w :=
  ⟨h.1.holds.cell 0, h.1.holds.cell 1, h.1.holds.cell 2, h.2.holds.cell 0, h.2.holds.cell 1, h.2.holds.cell 2, h.1, h.2⟩
end
end Go.Proofs.Ytgcmeoogmjganaa
