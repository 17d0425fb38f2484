/- The document's links: how they are laid. -/
import Derived.Test.YtgmkmkheknibmaaDoorLkS
import Derived.Laws.Tables
namespace Go.Proofs.YtgmkmkheknibmaaDoor
open Go.RowKit
set_option linter.unusedVariables false
set_option linter.unusedSimpArgs false

def isNo : Value → Bool
  | .bool b => !b
  | _ => false
def allNo : Nat → List Value → Bool
  | 0, [] => true
  | n + 1, v :: vs => isNo v && allNo n vs
  | _, _ => false
theorem allNo_spec : ∀ (n : Nat) (l : List Value), allNo n l = true → l.length = n ∧ ∀ j, j < n → l[j]? = some (.bool false)
  | 0, [], _ => ⟨rfl, fun j hj => absurd hj (Nat.not_lt_zero j)⟩
  | 0, _ :: _, h => by simp [allNo] at h
  | n + 1, [], h => by simp [allNo] at h
  | n + 1, v :: vs, h => by
    simp only [allNo, Bool.and_eq_true] at h
    obtain ⟨h1, h2⟩ := allNo_spec n vs h.2
    refine ⟨by simp [h1], fun j hj => ?_⟩
    rcases j with _ | j
    · cases v <;> simp [isNo] at h ⊢
      exact h.1
    · simpa using h2 j (by omega)
def zeroOk (i : TypeInfo) : Bool :=
  match i.zero with
  | some (.agg Z) => match Z.toList with
    | _ :: vs => allNo 4096 vs
    | [] => false
  | _ => false
set_option maxRecDepth 1000000 in
theorem doc_ok : zeroOk Tryd.t41 = true := by kernel_rfl
theorem doc_zero : ∃ Z : Array Value, Tryd.t41.zero = some (.agg Z) ∧ Z.size = 4097 ∧ ∀ j, j < 4096 → Z[j + 1]? = some (.bool false) := by
  have h := doc_ok
  unfold zeroOk at h
  split at h
  · rename_i Z hz
    split at h
    · rename_i v vs hl
      obtain ⟨h1, h2⟩ := allNo_spec _ _ h
      refine ⟨Z, hz, ?_, fun j hj => ?_⟩
      · rw [← Array.length_toList, hl]
        simp [h1]
      · rw [← Array.getElem?_toList, hl]
        simpa using h2 j hj
    · cases h
  · cases h
theorem info_of {t : TypeId} {i : TypeInfo} (h : ∀ w : World, (typeInfo t).run Tryd.prog w = .ok i w) (w : World) : Tryd.prog.info? t = some i := by
  have := h w
  unfold typeInfo at this
  rcases hx : Tryd.prog.info? t with _ | i'
  · simp [hx] at this
  · simp [hx] at this
    rw [this]
theorem build_doc : ∃ C : Int → Array Value, (∀ (n : Int) (w : World), (Instr.build 41 #[(0, .int .i64 n)]).run Tryd.prog w = .ok (.agg (C n)) w) ∧ ∀ n, (C n).size = 4097 ∧ (C n)[0]? = some (.int .i64 n) ∧ ∀ j, j < 4096 → (C n)[j + 1]? = some (.bool false) := by
  obtain ⟨Z, hz, hs, hc⟩ := doc_zero
  refine ⟨fun n => Z.setIfInBounds 0 (.int .i64 n), fun n w => run_build w _ _ _ ?_, fun n => ⟨by simp [hs], by simp [hs], fun j hj => ?_⟩⟩
  · have h1 := info_of Tryd.typeInfo41 w
    have h2 := info_of Tryd.typeInfo3 w
    have h3 := info_of Tryd.typeInfo39 w
    unfold Program.built
    rw [h1, Tryd.underlying41]
    have s1 : Tryd.t3.size = 1 := rfl
    have s2 : Tryd.t39.size = 4096 := rfl
    simp [hz, h2, h3, s1, s2]
    simp [Instr.fill, Value.cells, hs]
  · rw [Array.getElem?_setIfInBounds_ne (by omega)]
    exact hc j hj
theorem box_doc (C : Array Value) (w : World) : (Instr.box 41 (.agg C)).run Tryd.prog w = .ok (.pointer (some ⟨w.heap.size, 0, none⟩)) (w.alloc (.cells C 41)) := by
  simp [Instr.box, newVar, Value.cells, go_sem]
section
variable {P : Program}
theorem wpList_built {ops : Array Oper} {rest : List Oper} {o : Oper} {a : Act} {w : World} {Q : Exit → Act → World → Prop} (hg : o.guard = none) (t : TypeId) (parts : Array (Nat × Operand)) (ho : o.op = .build t parts)
    (vals : Array (Nat × Value)) (hv : (parts.map fun (i, x) => (i, a.eval x)) = vals) {cells : Array Value} (hr : (Instr.build t vals).run P w = .ok (.agg cells) w) (h : wpList P ops Q rest (a.put o.dst (.agg cells)) w) : wpList P ops Q (o :: rest) a w :=
  wpList_plain hg fun _ hK => by
    unfold Oper.wp execOp
    simp only [ho, hv, Sem.run_bind, hr, Result.andThen_ok]
    exact hK _ _ h
theorem wpList_boxed {ops : Array Oper} {rest : List Oper} {o : Oper} {a : Act} {w : World} {Q : Exit → Act → World → Prop} (hg : o.guard = none) (t : TypeId) (x : Operand) (ho : o.op = .box t x)
    (v : Value) (hv : a.eval x = v) {u : Value} {w' : World} (hr : (Instr.box t v).run P w = .ok u w') (h : wpList P ops Q rest (a.put o.dst u) w') : wpList P ops Q (o :: rest) a w :=
  wpList_plain hg fun _ hK => by
    unfold Oper.wp execOp
    simp only [ho, hv, Sem.run_bind, hr, Result.andThen_ok]
    exact hK _ _ h
end
end Go.Proofs.YtgmkmkheknibmaaDoor
