/- A struct of many cells: loaded from cells that are known one by one, laid into a block of its own. Nothing here speaks of one program. (The walk's own step at an alloc and a store of it costs the kernel twice as much for each cell.) -/
import Derived.Test.YtjifnnloncanpaaTbM
namespace Go.Proofs.Ytjifnnloncanpaa
open Go.RowKit

section
variable {P : Program}
theorem run_loadVar_cells (w : World) (g o : Nat) (ty : TypeId) (cs : List Value) (d : TypeDesc) (hcs : ∀ j v, cs[j]? = some v → w.cell? ⟨g, o + j, none⟩ = some v)
    (hu : P.underlying ty = some d) (hd : (match d with | .struct _ | .array _ _ => true | _ => false) = true) (hi : (P.info? ty).map (·.size) = some cs.length) :
    (loadVar ty ⟨g, o, none⟩).run P w = .ok (.agg cs.toArray) w := by
  have hl : (loadCells ⟨g, o, none⟩ cs.length).run P w = .ok cs.toArray w :=
    run_loadCells_list (P := P) w ⟨g, o, none⟩ cs (fun j v hv => by
      have hadd : (⟨g, o, none⟩ : Addr).add j = ⟨g, o + j, none⟩ := by unfold Addr.add; split <;> simp_all
      rw [hadd]
      exact hcs j v hv)
  cases hq : P.info? ty with
  | none => simp [hq] at hi
  | some i =>
    have hs : i.size = cs.length := by simpa [hq] using hi
    have hagg : (isAgg ty).run P w = .ok true w := by
      unfold isAgg
      rw [Sem.run_bind, run_underlying hu w]
      cases d <;> simp_all
    simp [loadVar, Sem.run_bind, hagg, sizeOf, typeInfo, hq, hs, hl]
theorem wpList_load_cells {ops : Array Oper} {rest : List Oper} {o : Oper} {a : Act} {w : World} {Q : Exit → Act → World → Prop} (hgd : o.guard = none) (ty : TypeId) (x : Operand) (ho : o.op = .load ty x)
    (g off : Nat) (hx : a.eval x = .pointer (some ⟨g, off, none⟩)) (cs : List Value) (d : TypeDesc) (hcs : ∀ j v, cs[j]? = some v → w.cell? ⟨g, off + j, none⟩ = some v)
    (hu : P.underlying ty = some d) (hd : (match d with | .struct _ | .array _ _ => true | _ => false) = true) (hi : (P.info? ty).map (·.size) = some cs.length)
    (h : wpList P ops Q rest (a.put o.dst (.agg cs.toArray)) w) : wpList P ops Q (o :: rest) a w :=
  wpList_plain hgd fun _ hK => by
    unfold Oper.wp execOp
    simp only [ho, hx, Instr.loadAt, Instr.sureAddr, Sem.run_bind, Sem.run_pure, Result.andThen_ok, run_loadVar_cells w g off ty cs d hcs hu hd hi]
    exact hK _ _ h
end
/-- A block made, and laid whole. -/
theorem elem_new (w : World) (t : TypeId) (zs vs : List Value) : Below w.heap.size w ((w.alloc (.cells zs.toArray t)).setRow w.heap.size vs.toArray) ∧ Holds ((w.alloc (.cells zs.toArray t)).setRow w.heap.size vs.toArray) w.heap.size t vs.toArray :=
  ⟨Below.chg (below_alloc _ _) (Chg.of_grown (grown_row _ w.heap.size vs.toArray) (S := fun k => k = w.heap.size) (fun k e => by cases e; rfl)) (by simp) (fun k e => by omega), (Holds.new _ _ _).row _⟩
/-- A part of a list of cells. -/
theorem part_get (pre mid post : List Value) (j : Nat) (v : Value) (h : mid[j]? = some v) : (pre ++ (mid ++ post)).toArray[pre.length + j]? = some v := by
  have hj : j < mid.length := (List.getElem?_eq_some_iff.1 h).1
  rw [List.getElem?_toArray, get_mid _ _ _ _ hj]
  exact h
end Go.Proofs.Ytjifnnloncanpaa
