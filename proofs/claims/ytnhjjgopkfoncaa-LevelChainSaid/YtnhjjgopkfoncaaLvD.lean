/- A law's node of layer 17, beside the document's. -/
import Derived.Test.YtnhjjgopkfoncaaLvC
import Derived.LoopTactic
namespace Go.Proofs.Ytnhjjgopkfoncaa
open Go.RowKit
set_option linter.unusedVariables false
set_option linter.unusedSimpArgs false

theorem ltell_self (w : World) (g : Nat) (me L P : Int) (h : Lev w g ⟨me, L, P⟩) : Calls Try.prog 9 #[.pointer (some ⟨g, 0, none⟩), .bool true] w fun e w' => e = .returned (.tuple #[.agg #[.int .i64 me, .int .i64 0], .bool true]) ∧ Below w.heap.size w w' := ltell_any w g _ h true
theorem ltell_has (w : World) (g : Nat) (me L P : Int) (h : Lev w g ⟨me, L, P⟩) (hL : L ≠ -1) : Calls Try.prog 9 #[.pointer (some ⟨g, 0, none⟩), .bool false] w fun e w' => e = .returned (.tuple #[.agg #[.int .i64 me, .int .i64 L], .bool true]) ∧ Below w.heap.size w w' := by
  have := ltell_any w g _ h false
  unfold tellV at this
  rw [if_neg (by decide), if_neg hL] at this
  exact this
theorem ltell_none (w : World) (g : Nat) (me P : Int) (h : Lev w g ⟨me, -1, P⟩) : Calls Try.prog 9 #[.pointer (some ⟨g, 0, none⟩), .bool false] w fun e w' => e = .returned (.tuple #[.agg #[.int .i64 0, .int .i64 0], .bool false]) ∧ Below w.heap.size w w' := ltell_any w g _ h false
theorem lself_nil (w : World) : Calls Try.prog 9 #[.pointer none, .bool true] w fun e w' => e = .returned (.tuple #[.agg #[.int .i64 0, .int .i64 0], .bool false]) ∧ Below w.heap.size w w' := ltell_nil w true

/-- A law's node: younger than the law, and nothing older was changed. -/
structure L1 (w wr : World) (g : Nat) (s : LS) : Prop where
  node : Lev wr g s
  below : Below w.heap.size w wr
  new : w.heap.size ≤ g
section
variable {w wr w' : World} {g gm : Nat} {s s' t t' : LS}
theorem L1.next (h : L1 w wr g s) (hg : LGoes g s' wr w') : L1 w w' g s' := ⟨hg.1, Below.chg h.below hg.2 h.below.size (fun k e => by have := h.new; omega), h.new⟩
theorem L1.more (h : L1 w wr g s) (hb : Below wr.heap.size wr w') : L1 w w' g s := ⟨h.node.below hb (Holds.lt h.node), h.below.trans (hb.mono h.below.size), h.new⟩
theorem L1.alloc (h : L1 w wr g s) (o : Obj) : L1 w (wr.alloc o) g s := h.more (below_alloc _ _)
theorem L1.drewN (h : L1 w wr g s) (n : Nat) : L1 w (wr.drewN n) g s := h.more (below_drewN (Below.refl _ _) n)
end
/-- Both side by side. -/
structure L2 (w wr : World) (g gm : Nat) (s t : LS) : Prop where
  one : L1 w wr g s
  doc : Dl wr gm t
  newd : w.heap.size ≤ gm
section
variable {w wr w' : World} {g gm : Nat} {s s' t t' : LS}
theorem L2.ne (h : L2 w wr g gm s t) : g ≠ gm := Holds.apart h.one.node h.doc (by decide)
theorem L2.next (h : L2 w wr g gm s t) (hg : LGoes g s' wr w') : L2 w w' g gm s' t := ⟨h.one.next hg, Holds.chg h.doc hg.2 (fun e => h.ne e.symm), h.newd⟩
theorem L2.nextd (h : L2 w wr g gm s t) (hg : DGoes gm t' wr w') : L2 w w' g gm s t' :=
  ⟨⟨Holds.chg h.one.node hg.2 (fun e => h.ne e), Below.chg h.one.below hg.2 h.one.below.size (fun k e => by have := h.newd; omega), h.one.new⟩, hg.1, h.newd⟩
theorem L2.more (h : L2 w wr g gm s t) (hb : Below wr.heap.size wr w') : L2 w w' g gm s t := ⟨h.one.more hb, h.doc.below hb (Holds.lt h.doc), h.newd⟩
theorem L2.alloc (h : L2 w wr g gm s t) (o : Obj) : L2 w (wr.alloc o) g gm s t := h.more (below_alloc _ _)
theorem L2.drewN (h : L2 w wr g gm s t) (n : Nat) : L2 w (wr.drewN n) g gm s t := h.more (below_drewN (Below.refl _ _) n)
theorem L2.fresh (h : L1 w wr g s) (hd : Dl w' wr.heap.size t) (hb : Below wr.heap.size wr w') : L2 w w' g wr.heap.size s t := ⟨h.more hb, hd, h.below.size⟩
end
end Go.Proofs.Ytnhjjgopkfoncaa
