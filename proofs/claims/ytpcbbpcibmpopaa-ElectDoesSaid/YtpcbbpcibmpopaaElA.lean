/- The marks that a node knows: a map of its own. -/
import Derived.Test.YtpcbbpcibmpopaaElP
import Derived.Carry
namespace Go.Proofs.Ytpcbbpcibmpopaa
open Go.RowKit Go.Maps
set_option linter.unusedVariables false
set_option linter.unusedSimpArgs false

def markV (p : Int × Int) : Value := .agg #[.int .u16 p.1, .int .u16 p.2]
def markR (v : Value) : Option (DataW Value × List MemPlace) := some (.held v, [])
theorem keyed : Keyed Try.prog 3 := int_keyed Try.underlying3
theorem zeroM (w : World) : (zeroValue 33).run Try.prog w = .ok (markV (0, 0)) w := by kernel_rfl
/-- Block b is a map that tells f, of at most n entries. -/
def KM (w : World) (b n : Nat) (f : Int → Option (Int × Int)) : Prop :=
  ∃ D, w.ownsMap Try.prog 3 markR b n D ∧ (∃ es, D = .map es) ∧ ∀ i, has D (.int .i64 i) = (f i).isSome ∧ ∀ p, f i = some p → ∀ z, D.atKey (.int .i64 i) z = .held (markV p)
section
variable {w w' : World} {b n : Nat} {f : Int → Option (Int × Int)}
theorem KM.made (w : World) : KM (w.alloc (.map #[] 0)) w.heap.size 0 fun _ => none :=
  ⟨.map [], World.ownsMap_made _ _ _ _, ⟨[], rfl⟩, fun i => ⟨rfl, fun p hp => by cases hp⟩⟩
theorem KM.lt (h : KM w b n f) : b < w.heap.size := by
  obtain ⟨D, h1, _⟩ := h
  exact h1.lt
theorem KM.mono (h : KM w b n f) {n' : Nat} (hn : n ≤ n') : KM w b n' f := by
  obtain ⟨D, h1, h2⟩ := h
  exact ⟨D, h1.mono hn, h2⟩
theorem KM.same (h : KM w b n f) (hb : w'.heap[b]? = w.heap[b]?) : KM w' b n f := by
  obtain ⟨D, ⟨es, clock, h1, h2⟩, h3⟩ := h
  exact ⟨D, ⟨es, clock, hb.trans h1, h2⟩, h3⟩
theorem KM.chg {S : Nat → Prop} (h : KM w b n f) (hc : Chg S w w') (hn : ¬ S b) : KM w' b n f := h.same (hc.block b h.lt hn)
theorem KM.below {B : Nat} (h : KM w b n f) (hb : Below B w w') (hB : b < B) : KM w' b n f := h.same (hb.block b hB)
theorem KM.apart (h : KM w b n f) {g : Nat} {t : TypeId} {cs : Array Value} (hg : Holds w g t cs) : g ≠ b := by
  rintro rfl
  obtain ⟨D, ⟨es, clock, h1, _⟩, _⟩ := h
  have e : some (Obj.cells cs t (0, 0)) = some (Obj.map es clock) := hg.symm.trans h1
  cases e
theorem KM.far (h : KM w b n f) {g i : Nat} (hb : b ≠ g) (u : Value) : KM (w.setCell ⟨g, i, none⟩ u) b n f := h.same (Below.heap_setCell w ⟨g, i, none⟩ u b hb)
theorem KM.data {D : DataW Value} (h : ∃ es, D = DataW.map es) (hh : ∀ i, has D (.int .i64 i) = (f i).isSome ∧ ∀ p, f i = some p → ∀ z, D.atKey (.int .i64 i) z = .held (markV p)) (r : Int) : D.atKey (.int .i64 r) (.held (markV (0, 0))) = (.held (markV ((f r).getD (0, 0))) : DataW Value) := by
  obtain ⟨h1, h2⟩ := hh r
  cases hf : f r with
  | none =>
    rw [hf] at h1
    exact atKey_of_not_has h1 _
  | some p => exact h2 p hf _
theorem KM.look (h : KM w b n f) (r : Int) (hr : (Lit.int .i64 r).wf = true) : (Instr.lookup 56 (.map (some b)) (.int .i64 r) true).run Try.prog w = .ok (.tuple #[markV ((f r).getD (0, 0)), .bool (f r).isSome]) w := by
  obtain ⟨D, h1, h2, h3⟩ := h
  obtain ⟨v, ps, e1, e2⟩ := h1.look_ok keyed Try.underlying56 (zeroM w) (zd := .held (markV (0, 0))) (zp := []) rfl (keyOf_int_mk Try.underlying3 hr)
  rw [KM.data h2 h3] at e2
  simp only [markR, Option.some.injEq, Prod.mk.injEq, DataW.held.injEq] at e2
  rw [e1, e2.1, (h3 r).1]
theorem KM.get (h : KM w b n f) (r : Int) (hr : (Lit.int .i64 r).wf = true) : (Instr.lookup 56 (.map (some b)) (.int .i64 r) false).run Try.prog w = .ok (markV ((f r).getD (0, 0))) w := by
  obtain ⟨D, h1, h2, h3⟩ := h
  obtain ⟨v, ps, e1, e2⟩ := h1.lookup keyed Try.underlying56 (zeroM w) (zd := .held (markV (0, 0))) (zp := []) rfl (keyOf_int_mk Try.underlying3 hr)
  rw [KM.data h2 h3] at e2
  simp only [markR, Option.some.injEq, Prod.mk.injEq, DataW.held.injEq] at e2
  rw [e1, e2.1]
theorem KM.put (h : KM w b n f) (hn : n ≤ 100000) (r : Int) (hr : (Lit.int .i64 r).wf = true) (p : Int × Int) : ∃ w', (Instr.mapUpdate 56 (.map (some b)) (.int .i64 r) (markV p)).run Try.prog w = .ok () w' ∧ KM w' b (n + 1) (fun i => if i = r then some p else f i) ∧ w.grownBy w' (some b) := by
  obtain ⟨D, h1, h2, h3⟩ := h
  obtain ⟨w', e1, e2, e3⟩ := h1.update keyed Try.underlying56 (by unfold maxLen; omega) (val := markV p) (d := .held (markV p)) (ps := []) (keyOf_int_mk Try.underlying3 hr) rfl
  have hk : WideAt.IsKeyLit (.int .i64 r) := keyed.key (keyOf_int_mk Try.underlying3 hr)
  refine ⟨w', e1, ⟨_, e2, IsMap.put h2 _ _, fun i => ?_⟩, e3⟩
  by_cases hi : i = r
  · subst hi
    simp only [if_pos rfl]
    refine ⟨has_put_same h2 hk _, fun q hq z => ?_⟩
    cases hq
    exact atKey_put_same h2 hk _ _
  · have hne : Lit.int IntKind.i64 i ≠ Lit.int IntKind.i64 r := fun e => hi (by cases e; rfl)
    simp only [if_neg hi]
    refine ⟨(has_put_other hne _).trans (h3 i).1, fun q hq z => (atKey_put_other hne _ _).trans ((h3 i).2 q hq z)⟩
end
end Go.Proofs.Ytpcbbpcibmpopaa
