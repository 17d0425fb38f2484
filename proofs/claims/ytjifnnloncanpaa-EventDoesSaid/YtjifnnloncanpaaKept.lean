/- Ranges over functions: what an iterator over a block of its own keeps; structs loaded and stored whole within such a walk. Nothing here speaks of one program. -/
import Derived.Test.YtjifnnloncanpaaTbM
import Derived.RangeFuncNested
import Derived.RangeFuncBound
import Derived.RangeFuncCalls
import Derived.RangeFuncLeaves
import Derived.RangeFuncWrites
import Derived.Shelf.Abstract
import Derived.OwnWalkIn
import Derived.TacticsInMore
import Derived.LoopNIn
import Derived.LoopIn
namespace Go.Proofs.Ytjifnnloncanpaa
open Go.RowKit Go.Shelf
set_option linter.unusedVariables false

/-- Cells of blocks from n on lie as they lay. -/
def Kept (n : Nat) (W W' : World) : Prop := W.heap.size ≤ W'.heap.size ∧ ∀ k cs t fr, n ≤ k → W.heap[k]? = some (Obj.cells cs t fr) → W'.heap[k]? = W.heap[k]?
theorem kept_t {n : Nat} {A B C : World} (h : Kept n A B) (k : Kept n B C) : Kept n A C :=
  ⟨Nat.le_trans h.1 k.1, fun i cs t fr hi hc => (k.2 i cs t fr hi ((h.2 i cs t fr hi hc).trans hc)).trans (h.2 i cs t fr hi hc)⟩
theorem kept_r (n : Nat) (W : World) : Kept n W W := ⟨Nat.le_refl _, fun _ _ _ _ _ _ => rfl⟩
theorem kept_b {n m : Nat} (hn : n ≤ m) (W : World) (l : Nat) (o o' : Obj) (hl : m ≤ l) (h : W.heap[l]? = some o) (hc : o.isCells = false) (_ : o.isWalk = false) : Kept n W (W.putObj l o') := by
  have hg := grownBy_putObj' W l o'
  refine ⟨hg.size, fun k cs t fr hk hcs => hg.block k (Array.getElem?_eq_some_iff.1 hcs).1 (fun e => ?_)⟩
  cases e
  rw [h] at hcs
  simp only [Option.some.injEq] at hcs
  subst hcs
  cases hc
theorem kept_chg {n : Nat} {S : Nat → Prop} {w w' : World} (hc : Chg S w w') (hS : ∀ k, S k → k < n) : Kept n w w' := ⟨hc.size, fun k cs t fr hk hcs => hc.block k (Array.getElem?_eq_some_iff.1 hcs).1 (fun e => by have := hS k e; omega)⟩
theorem kept_below {n : Nat} {w w' : World} (h : Below w.heap.size w w') : Kept n w w' := ⟨h.size, fun k cs t fr _ hcs => h.block k (Array.getElem?_eq_some_iff.1 hcs).1⟩
theorem Holds.kept {n : Nat} {W W' : World} {g : Nat} {t : TypeId} {cs : Array Value} (h : Holds W g t cs) (hk : Kept n W W') (hn : n ≤ g) : Holds W' g t cs := (hk.2 g _ _ _ hn h).trans h
theorem grown_below {w w' : World} (hb : Below w.heap.size w w') : w.grownBy w' none := ⟨hb.os, hb.tape, hb.output, hb.size, fun k hk _ => hb.block k hk⟩

section
variable {F : Fence} {n : Nat} {P : Program}
theorem wpListIn_load_at {ops : Array Oper} {rest : List Oper} {o : Oper} {a : Act} {w : World} {Q : Exit → Act → World → Prop} (hro : F.round = none) (hgd : o.guard = none) (ty : TypeId) (x : Operand) (ho : o.op = .load ty x)
    (g off : Nat) (hx : a.eval x = .pointer (some ⟨g, off, none⟩)) (t : TypeId) (cur : Array Value) (cs : List Value) (d : TypeDesc) (hg : Holds w g t cur) (hcs : ∀ j v, cs[j]? = some v → cur[off + j]? = some v)
    (hu : P.underlying ty = some d) (hd : (match d with | .struct _ | .array _ _ => true | _ => false) = true) (hi : (P.info? ty).map (·.size) = some cs.length)
    (h : wpListIn F n P ops Q rest (a.put o.dst (.agg cs.toArray)) w) : wpListIn F n P ops Q (o :: rest) a w :=
  wpListIn_plain hgd fun _ hK => by
    refine ⟨fun f hf => by simp [Oper.about, ho] at hf, ?_⟩
    rw [hro]
    show o.uponIn F n P a _ Q ((execOp a.eval o).run P w)
    unfold execOp
    simp only [ho, hx, Instr.loadAt, Instr.sureAddr, Sem.run_bind, Sem.run_pure, Result.andThen_ok, run_loadVar_at w g off t ty cur cs d hg hcs hu hd hi]
    exact hK _ _ h
/-- A struct that was loaded whole, stored whole into a new block. -/
theorem wpListIn_store_new {ops : Array Oper} {rest : List Oper} {o : Oper} {a : Act} {w : World} {Q : Exit → Act → World → Prop} (hro : F.round = none) (hgd : o.guard = none) (ty : TypeId) (x y : Operand) (ho : o.op = .store ty x y)
    (g : Nat) (cells : List Value) (hx : a.eval x = .pointer (some ⟨g, 0, none⟩)) (hy : a.eval y = .agg cells.toArray)
    (t : TypeId) (cur : List Value) (hg : Holds w g t cur.toArray) (hi : (P.info? ty).map (·.size) = some cells.length)
    (hfit : cells.length = cur.length) (h1 : ∀ v ∈ cells, v.oneCell' = true) (W1 : World) (hW1 : w.setRow g cells.toArray = W1)
    (h : wpListIn F n P ops Q rest (a.put o.dst undef) W1) : wpListIn F n P ops Q (o :: rest) a w :=
  wpListIn_plain hgd fun _ hK => by
    refine ⟨fun f hf => by simp [Oper.about, ho] at hf, ?_⟩
    rw [hro]
    show o.uponIn F n P a _ Q ((execOp a.eval o).run P w)
    have hs := run_storeVar_at (P := P) w g 0 t ty cur cells hg hi (by omega) h1
    rw [splice_all _ _ hfit, hW1] at hs
    unfold execOp
    simp only [ho, hx, hy, Instr.storeAt, Instr.sureAddr, Sem.run_bind, Sem.run_pure, Result.andThen_ok, hs]
    exact hK _ _ h
end
end Go.Proofs.Ytjifnnloncanpaa
