/- A law's parameter that is a struct of integers, by value. Nothing here speaks of one program. -/
import Derived.Test.YtgcmeoogmjganaaLawKit
import Derived.Deep.Fields
namespace Go.Proofs.Ytgcmeoogmjganaa
open Go.ChangeShapes Go.WideShapes Go.RowKit Go.Deep
section
variable {H : Type} {enc : TypeId × Value → H} {P : Program} {w : World} {base : Nat} {spare : Nat → Bool} {held : Bool}
/-- Each field is an integer of these kinds, in order. -/
def intFields (P : Program) (fs : Array Field) (ks : List IntKind) : Bool :=
  decide (fs.size = ks.length) && (List.range ks.length).all fun i => match fs[i]?, ks[i]? with
  | some f, some k => match P.underlying f.type with
    | some (.int k') => decide (k' = k)
    | _ => false
  | _, _ => false
theorem intFields_of {P : Program} {fs : Array Field} {ks : List IntKind} (h : intFields P fs ks = true) : fs.size = ks.length ∧ ∀ i, i < ks.length → ∃ f, fs[i]? = some f ∧ ∃ k, ks[i]? = some k ∧ P.underlying f.type = some (.int k) := by
  unfold intFields at h
  rw [Bool.and_eq_true, decide_eq_true_eq] at h
  refine ⟨h.1, fun i hi => ?_⟩
  have h1 := List.all_eq_true.1 h.2 i (List.mem_range.2 hi)
  split at h1
  · rename_i f k hf hk
    split at h1
    · rename_i k' hu
      obtain rfl : k' = k := of_decide_eq_true h1
      exact ⟨f, hf, k', hk, hu⟩
    · cases h1
  · cases h1
theorem ints_struct {r : Reach} {b0 : Nat} {t : TypeId} {fs : Array Field} {ks : List IntKind} {v : Value} {d : DataW H} {p : List MemPlace} (hs : P.underlying t = some (.struct fs)) (hone : oneCellFields P fs = true) (hC : P.cellsOf t = fs.size)
    (hI : intFields P fs ks = true)
    (hv : Value.okWide P w r b0 t v) (h : DataW.Trod enc P w base spare held t v d p) :
    ∃ ns : List Int, v = .agg ((ks.zip ns).map fun x => Value.int x.1 x.2).toArray ∧ ns.length = ks.length ∧ ∀ (i : Nat) k n, ks[i]? = some k → ns[i]? = some n → (Lit.int k n).wf = true := by
  obtain ⟨hk, hki⟩ := intFields_of hI
  obtain ⟨cs, rfl, hsz⟩ := okWide_struct hs hv
  obtain ⟨fuel, hf⟩ := h
  obtain ⟨xs, n, _, _, _, _, hg⟩ := DataW.trod_struct hs hf
  have hcell : ∀ i, i < ks.length → ∃ k z, ks[i]? = some k ∧ cs[i]? = some (.int k z) ∧ (Lit.int k z).wf = true := by
    intro i hi
    obtain ⟨f, hfi, k, hki', hu⟩ := hki i hi
    obtain ⟨ho, hk1⟩ := hone_of hone i f hfi
    have h1 := hg i f hfi
    rw [ho, hk1] at h1
    have hlt : i < cs.size := by rw [hsz, hC, hk]; exact hi
    have e : ((Value.agg cs).cells.toList.drop i).take 1 = [cs[i]] := by
      show (cs.toList.drop i).take 1 = _
      rw [List.drop_eq_getElem_cons (by simpa using hlt)]
      simp
    have h2 : DataW.trod enc P w base spare held n f.type [cs[i]] = xs[i]? := by rw [← e]; exact h1
    cases hx : xs[i]? with
    | none =>
      exfalso
      have hlen : xs.length = fs.size := by assumption
      have : i < xs.length := by rw [hlen, hk]; exact hi
      rw [List.getElem?_eq_getElem this] at hx
      cases hx
    | some y =>
      rw [hx] at h2
      obtain ⟨z, hz, _, hw⟩ := DataW.trod_int hu h2
      simp only [List.cons.injEq, and_true] at hz
      exact ⟨k, z, hki', by rw [Array.getElem?_eq_getElem hlt, hz], hw⟩
  refine ⟨cs.toList.map fun v => match v with | .int _ z => z | _ => 0, ?_, by simp [hsz, hC, hk], ?_⟩
  · congr 1
    apply Array.ext_getElem?
    intro i
    rcases Nat.lt_or_ge i ks.length with hi | hi
    · obtain ⟨k, z, h1, h2, _⟩ := hcell i hi
      rw [h2]
      simp [List.getElem?_map, h1, h2, List.zip, List.getElem?_zipWith]
    · rw [Array.getElem?_eq_none (by rw [hsz, hC, hk]; exact hi), List.getElem?_toArray, List.getElem?_eq_none (by simp; omega)]
  · intro i k z hki' hz
    have hi : i < ks.length := (List.getElem?_eq_some_iff.1 hki').1
    obtain ⟨k', z', h1, h2, h3⟩ := hcell i hi
    rw [h1] at hki'
    simp only [Option.some.injEq] at hki'
    subst hki'
    simp [h2] at hz
    subst hz
    exact h3
end
end Go.Proofs.Ytgcmeoogmjganaa
