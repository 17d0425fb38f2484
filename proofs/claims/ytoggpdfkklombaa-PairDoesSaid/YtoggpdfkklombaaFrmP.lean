/- Whatever picks numbers in package frame: what is asked of it. -/
import Derived.Test.YtoggpdfkklombaaProg
import Derived.Test.YtoggpdfkklombaaPtr
import Derived.Shelf.Abstract
import Derived.Deep.RegionHeld3
import Derived.Deep.DrawnRows
import Derived.Outline
namespace Go.Proofs.Ytoggpdfkklombaa
open Go.RowKit

/-- What picks: a function value over what it captured; its state, what it tells and what it makes of the state. -/
structure Picks (S : Type) where
  fn : FuncId
  caps : Array Value
  base : Nat
  inv : S → World → Prop
  next : S → Int → Int → S
  tells : S → Int → Int → Int
  good : S → Int → Int → Prop

/-- The types of frames' own variables. -/
def frameType (t : TypeId) : Prop := t = 86 ∨ t = 89 ∨ t = 91 ∨ t = 36 ∨ t = 45 ∨ t = 93

/-- No byte lies among these values. -/
def notByte : Value → Bool
  | .int .u8 _ => false
  | _ => true
def noByte (cs : Array Value) : Prop := ∀ (i : Nat) v, cs[i]? = some v → notByte v = true
theorem noByte_of {cs : Array Value} (h : cs.toList.all notByte = true) : noByte cs := fun i v hv => by
  refine List.all_eq_true.1 h v ?_
  rw [Array.mem_toList_iff]
  exact Array.mem_of_getElem? hv
theorem noByte.put {cs : Array Value} (h : noByte cs) (i : Nat) {u : Value} (hu : notByte u = true) : noByte (cs.setIfInBounds i u) := fun j v hv => by
  rw [Array.getElem?_setIfInBounds] at hv
  split at hv
  · split at hv
    · simp only [Option.some.injEq] at hv
      rw [← hv]
      exact hu
    · cases hv
  · exact h j v hv
theorem noByte.int {cs : Array Value} (h : noByte cs) (i : Nat) (z : Int) : cs[i]? ≠ some (.int .u8 z) := fun e => by
  have := h i _ e
  cases this

/-- A call keeps a frame's own variable. -/
def KeepsFrames (w w' : World) : Prop := w.heap.size ≤ w'.heap.size ∧ ∀ g t cs, frameType t → Holds w g t cs → Holds w' g t cs
theorem KeepsFrames.trans {a b c : World} (h : KeepsFrames a b) (k : KeepsFrames b c) : KeepsFrames a c := ⟨Nat.le_trans h.1 k.1, fun g t cs ht hh => k.2 g t cs ht (h.2 g t cs ht hh)⟩

structure Picks.Right {S : Type} (p : Picks S) : Prop where
  enters : Enters Try.prog p.fn
  call : ∀ s k n w, p.inv s w → p.good s k n → Calls Try.prog p.fn (#[.int .i64 k, .int .i64 n] ++ p.caps) w fun e w' => e = .returned (.int .i64 (p.tells s k n)) ∧ p.inv (p.next s k n) w' ∧ KeepsFrames w w'
  drew : ∀ s w, p.inv s w → p.inv s w.drew
  alloc : ∀ s w o, p.inv s w → p.inv s (w.alloc o)
  size : ∀ s w, p.inv s w → p.base ≤ w.heap.size
  store : ∀ s w g i u t cs, p.inv s w → p.base ≤ g → frameType t → noByte cs → Holds w g t cs → p.inv s (w.setCell ⟨g, i, none⟩ u)

/-- One pick: from a state to the next, a number asked and one told. -/
def Pick {S : Type} (p : Picks S) (s : S) (k n b : Int) (s' : S) : Prop := p.good s k n ∧ p.tells s k n = b ∧ p.next s k n = s'
theorem Pick.mk {S : Type} {p : Picks S} {s : S} {k n : Int} (h : p.good s k n) : Pick p s k n (p.tells s k n) (p.next s k n) := ⟨h, rfl, rfl⟩

/-- While a frame's numbers are picked: its own variable is the block behind all that was. -/
structure Mid {S : Type} (p : Picks S) (w0 : World) (T : TypeId) (cs : Array Value) (s : S) (w : World) : Prop where
  inv : p.inv s w
  type : frameType T
  holds : Holds w w0.heap.size T cs
  keeps : KeepsFrames w0 w
  old : p.base ≤ w0.heap.size
  plain : noByte cs

section
variable {S : Type} {p : Picks S} {w0 w : World} {T : TypeId} {cs : Array Value} {s s' : S} {k n b : Int}
theorem Mid.start (hp : p.Right) (ht : frameType T) (hb : noByte cs) (h : p.inv s w0) : Mid p w0 T cs s (w0.alloc (.cells cs T)) :=
  ⟨hp.alloc _ _ _ h, ht, Holds.new _ _ _, ⟨by simp, fun _ _ _ _ h => h.alloc _⟩, hp.size _ _ h, hb⟩
theorem Mid.drew (hp : p.Right) (h : Mid p w0 T cs s w) : Mid p w0 T cs s w.drew := ⟨hp.drew _ _ h.inv, h.type, h.holds, h.keeps, h.old, h.plain⟩
theorem Mid.put (hp : p.Right) (h : Mid p w0 T cs s w) (i : Nat) (u : Value) (hu : notByte u = true := by rfl) : Mid p w0 T (cs.setIfInBounds i u) s (w.setCell ⟨w0.heap.size, i, none⟩ u) :=
  ⟨hp.store _ _ _ _ _ _ _ h.inv h.old h.type h.plain h.holds, h.type, h.holds.put i u, ⟨by simpa [World.setCell] using h.keeps.1, fun g t c ht hh =>
    (h.keeps.2 g t c ht hh).far (by have := hh.lt; omega) u⟩, h.old, h.plain.put i hu⟩
theorem Mid.pick (hp : p.Right) (h : Mid p w0 T cs s w) (hk : Pick p s k n b s') :
    Calls Try.prog p.fn (#[.int .i64 k, .int .i64 n] ++ p.caps) w fun e w' => e = .returned (.int .i64 b) ∧ Mid p w0 T cs s' w' := by
  obtain ⟨h1, rfl, rfl⟩ := hk
  exact (hp.call s k n w h.inv h1).mono fun e w' ⟨he, hi, hf⟩ => ⟨he, hi, h.type, hf.2 _ _ _ h.type h.holds, h.keeps.trans hf, h.old, h.plain⟩
theorem Mid.mark (hp : p.Right) (h : Mid p w0 T cs s w) (hk : Pick p s 3 n b s') (hn : F16 n) (hb : F16 b) :
    Calls Try.prog 40 #[.func (.func p.fn) #[] p.caps, .int .u16 n] w fun e w' => e = .returned (.int .u16 b) ∧ Mid p w0 T cs s' w' := by
  have hc := h.pick hp hk
  obtain ⟨n1, n2⟩ := hn
  obtain ⟨b1, b2⟩ := hb
  have en : ∀ (args : Array Value) (w : World), (callFunc p.fn args).run Try.prog w = .ok (.enter p.fn args) w := hp.enters
  clear h hk hp
  go_enter Try.func40, Try.ntmps40
  go_wp2_with (go_at_fn p.fn; refine hc.mono ?_; rintro e w1 ⟨rfl, hm1⟩)
  go_ret
  exact ⟨rfl, hm1⟩
/-- A frame was answered, and what picked its numbers stands at a state. -/
def Picked (v : Value) (p : Picks S) (s : S) (w : World) (e : Ending) (w' : World) : Prop := e = .returned v ∧ p.inv s w' ∧ KeepsFrames w w'
theorem Mid.done (h : Mid p w0 T cs s w) (v : Value) : Picked v p s w0 (.returned v) w := ⟨rfl, h.inv, h.keeps⟩
end
end Go.Proofs.Ytoggpdfkklombaa
