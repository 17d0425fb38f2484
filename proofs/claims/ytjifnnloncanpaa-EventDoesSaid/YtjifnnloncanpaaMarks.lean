/- Ranges over functions within a loop: the marks that they leave, one a round; what a walk's own blocks leave as it lay. Nothing here speaks of one program. -/
import Derived.Test.YtjifnnloncanpaaChg
import Derived.RangeFuncNested
import Derived.RangeFuncLeaves
namespace Go.Proofs.Ytjifnnloncanpaa
set_option linter.unusedVariables false
open Go.RowKit

/-- Row: a block that is no cells, if there is one. -/
def NoCells (w : World) (row : Option Nat) : Prop := ∀ r, row = some r → ∃ o : Obj, w.heap[r]? = some o ∧ o.isCells = false
theorem Holds.turned {w w' : World} {g : Nat} {t : TypeId} {cs : Array Value} {row : Option Nat} (h : Holds w g t cs) (hg : w.grownBy w' row) (hr : NoCells w row) : Holds w' g t cs :=
  h.grown hg (fun e => by
    obtain ⟨o, ho, hc⟩ := hr _ e.symm
    rw [show w.heap[g]? = _ from h] at ho
    cases ho
    cases hc)
theorem others_of_chg {w w' : World} {S : Nat → Prop} (hc : Chg S w w') (hS : ∀ k, S k → ∃ cs t fr, w.heap[k]? = some (.cells cs t fr)) : KeepsOthers w w' :=
  ⟨hc.size, fun k o hk ho => (hc.block k (Array.getElem?_eq_some_iff.1 hk).1 (fun e => by
    obtain ⟨cs, t, fr, h⟩ := hS k e
    rw [h] at hk
    cases hk
    cases ho)).trans hk⟩
theorem others_of_below {w w' : World} (h : Below w.heap.size w w') : KeepsOthers w w' := ⟨h.size, fun k o hk _ => (h.block k (Array.getElem?_eq_some_iff.1 hk).1).trans hk⟩

/-- The marks of ranges that are over. -/
def mark (D : Nat) : Deferred := { target := .collected D, args := #[] }
def Marks (w : World) (lo hi : Nat) (Ds : List Nat) : Prop := Ds.Nodup ∧ ∀ D ∈ Ds, lo ≤ D ∧ D < hi ∧ w.heap[D]? = some (.deferred (some []))
theorem Marks.nil (w : World) (lo hi : Nat) : Marks w lo hi [] := ⟨List.nodup_nil, fun D h => by cases h⟩
theorem Marks.turned {w w' : World} {lo hi : Nat} {Ds : List Nat} {row : Option Nat} (h : Marks w lo hi Ds) (hg : w.grownBy w' row) (hr : ∀ r, row = some r → hi ≤ r) : Marks w' lo hi Ds :=
  ⟨h.1, fun D hD => ⟨(h.2 D hD).1, (h.2 D hD).2.1, (hg.block D (Array.getElem?_eq_some_iff.1 (h.2 D hD).2.2).1 (fun e => by have := hr _ e.symm; have := (h.2 D hD).2.1; omega)).trans (h.2 D hD).2.2⟩⟩
theorem Marks.others {w w' : World} {lo hi : Nat} {Ds : List Nat} (h : Marks w lo hi Ds) (hk : KeepsOthers w w') : Marks w' lo hi Ds :=
  ⟨h.1, fun D hD => ⟨(h.2 D hD).1, (h.2 D hD).2.1, hk.same D _ (h.2 D hD).2.2 rfl⟩⟩
theorem Marks.up {w : World} {lo hi hi' : Nat} {Ds : List Nat} (h : Marks w lo hi Ds) (hh : hi ≤ hi') : Marks w lo hi' Ds := ⟨h.1, fun D hD => ⟨(h.2 D hD).1, by have := (h.2 D hD).2.1; omega, (h.2 D hD).2.2⟩⟩
theorem Marks.cons {w : World} {lo hi D hi' : Nat} {Ds : List Nat} (h : Marks w lo hi Ds) (hlo : lo ≤ hi) (hD : hi ≤ D) (hd : w.heap[D]? = some (.deferred (some []))) (hh : D < hi') : Marks w lo hi' (D :: Ds) := by
  refine ⟨List.nodup_cons.2 ⟨fun hm => by have := (h.2 D hm).2.1; omega, h.1⟩, fun E hE => ?_⟩
  rcases List.mem_cons.1 hE with rfl | hE
  · exact ⟨by omega, hh, hd⟩
  · exact ⟨(h.2 E hE).1, by have := (h.2 E hE).2.1; omega, (h.2 E hE).2.2⟩
section
variable {P : Program} {F : Fence} {n : Nat} {fn : Func} {tmps : Array Value} {R : Ending → World → Prop} {I : World → Prop} {lo hi : Nat}
theorem leaves_marks (hI : ∀ W D, lo ≤ D → I W → W.heap[D]? = some (.deferred (some [])) → I (W.putObj D (.deferred none))) (hend : ∀ W, I W → LeavesInM F n P fn tmps R [] .returning W) :
    ∀ (Ds : List Nat) (W : World), Marks W lo hi Ds → I W → LeavesInM F n P fn tmps R (Ds.map mark) .returning W
  | [], W, _, h => hend W h
  | D :: Ds, W, hm, h => by
    obtain ⟨h1, _, h3⟩ := hm.2 D (List.mem_cons_self ..)
    refine ⟨by simp, .inl ⟨D, _, rfl, run_takeDeferred h3, leaves_marks hI hend Ds _ ?_ (hI W D h1 h h3)⟩⟩
    have hnd := List.nodup_cons.1 hm.1
    refine ⟨hnd.2, fun E hE => ?_⟩
    obtain ⟨e1, e2, e3⟩ := hm.2 E (List.mem_cons_of_mem _ hE)
    exact ⟨e1, e2, (World.putObj_heap_other (by intro e; subst e; exact hnd.1 hE)).trans e3⟩
end
end Go.Proofs.Ytjifnnloncanpaa
