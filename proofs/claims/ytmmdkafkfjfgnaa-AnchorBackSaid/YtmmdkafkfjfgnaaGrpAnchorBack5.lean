/- Texts of this seat, one behind the other. -/
import Derived.Test.YtmmdkafkfjfgnaaGrpAn1
import Derived.Deep.Fields
import Derived.Test.YtmmdkafkfjfgnaaGrpAn3
import Derived.Test.YtmmdkafkfjfgnaaGrpAn4
/- A law's parameter that is a struct of integers, by value. Nothing here speaks of one program. -/
namespace Go.Proofs.Ytmmdkafkfjfgnaa
open Go.ChangeShapes Go.WideShapes Go.RowKit Go.Deep
section
variable {H : Type} {enc : TypeId × Value → H} {P : Program} {w : World} {base : Nat} {spare : Nat → Bool} {held : Bool}
/-- Each field is an integer of these kinds, in order. -/
def intFields (P : Program) (fs : Array Field) (ks : List IntKind) : Bool :=
  decide (fs.size = ks.length) && (List.range ks.length).all fun i => match fs[i]?, ks[i]? with
  | some f, some k => match P.underlying f.type with
    | some (.int k') => decide (k' = k)
    | _ => false
  | _, _ => false
theorem intFields_of {P : Program} {fs : Array Field} {ks : List IntKind} (h : intFields P fs ks = true) : fs.size = ks.length ∧ ∀ i, i < ks.length → ∃ f, fs[i]? = some f ∧ ∃ k, ks[i]? = some k ∧ P.underlying f.type = some (.int k) := by
  unfold intFields at h
  rw [Bool.and_eq_true, decide_eq_true_eq] at h
  refine ⟨h.1, fun i hi => ?_⟩
  have h1 := List.all_eq_true.1 h.2 i (List.mem_range.2 hi)
  split at h1
  · rename_i f k hf hk
    split at h1
    · rename_i k' hu
      obtain rfl : k' = k := of_decide_eq_true h1
      exact ⟨f, hf, k', hk, hu⟩
    · cases h1
  · cases h1
theorem ints_struct {r : Reach} {b0 : Nat} {t : TypeId} {fs : Array Field} {ks : List IntKind} {v : Value} {d : DataW H} {p : List MemPlace} (hs : P.underlying t = some (.struct fs)) (hone : oneCellFields P fs = true) (hC : P.cellsOf t = fs.size)
    (hI : intFields P fs ks = true)
    (hv : Value.okWide P w r b0 t v) (h : DataW.Trod enc P w base spare held t v d p) :
    ∃ ns : List Int, v = .agg ((ks.zip ns).map fun x => Value.int x.1 x.2).toArray ∧ ns.length = ks.length ∧ ∀ (i : Nat) k n, ks[i]? = some k → ns[i]? = some n → (Lit.int k n).wf = true := by
  obtain ⟨hk, hki⟩ := intFields_of hI
  obtain ⟨cs, rfl, hsz⟩ := okWide_struct hs hv
  obtain ⟨fuel, hf⟩ := h
  obtain ⟨xs, n, _, _, _, _, hg⟩ := DataW.trod_struct hs hf
  have hcell : ∀ i, i < ks.length → ∃ k z, ks[i]? = some k ∧ cs[i]? = some (.int k z) ∧ (Lit.int k z).wf = true := by
    intro i hi
    obtain ⟨f, hfi, k, hki', hu⟩ := hki i hi
    obtain ⟨ho, hk1⟩ := hone_of hone i f hfi
    have h1 := hg i f hfi
    rw [ho, hk1] at h1
    have hlt : i < cs.size := by rw [hsz, hC, hk]; exact hi
    have e : ((Value.agg cs).cells.toList.drop i).take 1 = [cs[i]] := by
      show (cs.toList.drop i).take 1 = _
      rw [List.drop_eq_getElem_cons (by simpa using hlt)]
      simp
    have h2 : DataW.trod enc P w base spare held n f.type [cs[i]] = xs[i]? := by rw [← e]; exact h1
    cases hx : xs[i]? with
    | none =>
      exfalso
      have hlen : xs.length = fs.size := by assumption
      have : i < xs.length := by rw [hlen, hk]; exact hi
      rw [List.getElem?_eq_getElem this] at hx
      cases hx
    | some y =>
      rw [hx] at h2
      obtain ⟨z, hz, _, hw⟩ := DataW.trod_int hu h2
      simp only [List.cons.injEq, and_true] at hz
      exact ⟨k, z, hki', by rw [Array.getElem?_eq_getElem hlt, hz], hw⟩
  refine ⟨cs.toList.map fun v => match v with | .int _ z => z | _ => 0, ?_, by simp [hsz, hC, hk], ?_⟩
  · congr 1
    apply Array.ext_getElem?
    intro i
    rcases Nat.lt_or_ge i ks.length with hi | hi
    · obtain ⟨k, z, h1, h2, _⟩ := hcell i hi
      rw [h2]
      simp [List.getElem?_map, h1, h2, List.zip, List.getElem?_zipWith]
    · rw [Array.getElem?_eq_none (by rw [hsz, hC, hk]; exact hi), List.getElem?_toArray, List.getElem?_eq_none (by simp; omega)]
  · intro i k z hki' hz
    have hi : i < ks.length := (List.getElem?_eq_some_iff.1 hki').1
    obtain ⟨k', z', h1, h2, h3⟩ := hcell i hi
    rw [h1] at hki'
    simp only [Option.some.injEq] at hki'
    subst hki'
    simp [h2] at hz
    subst hz
    exact h3
end
end Go.Proofs.Ytmmdkafkfjfgnaa

/- A law's parameters that are structs of plain fields, with slices of structs of plain fields among them. Nothing here speaks of one program. -/
namespace Go.Proofs.Ytmmdkafkfjfgnaa
open Go.ChangeShapes Go.WideShapes Go.RowKit Go.Deep Go.ChangeMaps Go.WideElems

/-- What a cell may hold: something plain, or a slice of such. -/
inductive FS where
  | p (k : FK)
  | rows (ks : List FK)
def FS.ok (W : World) : FS → Value → Prop
  | .p k, v => k.ok W v
  | .rows ks, v => ∃ A n c f, v = .slice A n c ∧ FlatRow W ks A n c f
def FitS (W : World) : List FS → List Value → Prop
  | [], [] => True
  | k :: ks, v :: vs => k.ok W v ∧ FitS W ks vs
  | _, _ => False
theorem FitS.length {W : World} : ∀ {ks : List FS} {vs : List Value}, FitS W ks vs → vs.length = ks.length
  | [], [], _ => rfl
  | _ :: ks, _ :: vs, h => by
    have := FitS.length (ks := ks) (vs := vs) h.2
    simpa using this
theorem FitS.append {W : World} : ∀ {ks ls : List FS} {vs us : List Value}, FitS W ks vs → FitS W ls us → FitS W (ks ++ ls) (vs ++ us)
  | [], _, [], _, _, h => h
  | _ :: ks, _, _ :: vs, _, h, h' => ⟨h.1, FitS.append (ks := ks) (vs := vs) h.2 h'⟩
theorem FitS.of_fit {W : World} : ∀ {ks : List FK} {vs : List Value}, Fit W ks vs → FitS W (ks.map .p) vs
  | [], [], _ => trivial
  | _ :: ks, _ :: vs, h => ⟨h.1, FitS.of_fit (ks := ks) (vs := vs) h.2⟩
/-- The kinds of a struct's fields, one behind the other; none: they don't lie so. -/
def flatFsS (P : Program) (g : TypeId → Option (List FS)) : List Field → Nat → Option (List FS)
  | [], _ => some []
  | f :: r, off =>
    if f.offset = off then
      match g f.type with
      | some ks => if P.cellsOf f.type = ks.length then (flatFsS P g r (off + ks.length)).map (ks ++ ·) else none
      | none => none
    else none
def flatS (P : Program) : Nat → TypeId → Option (List FS)
  | 0, _ => none
  | d + 1, t =>
    match flat P 1 t with
    | some ks => some (ks.map .p)
    | none =>
      match P.underlying t with
      | some (.slice e) => match flat P 9 e with
        | some ks => if P.cellsOf e = ks.length ∧ 0 < ks.length then some [.rows ks] else none
        | none => none
      | some (.struct fs) => match flatFsS P (flatS P d) fs.toList 0 with
        | some ks => if P.cellsOf t = ks.length then some ks else none
        | none => none
      | _ => none
section
variable {H : Type} {enc : TypeId × Value → H} {P : Program} {W : World}
theorem flatFsS_fit {g : TypeId → Option (List FS)} {cs : List Value} {xs : List (DataW H × List MemPlace)} {n : Nat}
    (hg : ∀ t ks vs x, g t = some ks → DataW.trod enc P W 0 (fun _ => true) true n t vs = some x → FitS W ks vs) :
    ∀ (fs : List Field) (off i : Nat) (ks : List FS), flatFsS P g fs off = some ks → xs.length = i + fs.length → off + ks.length = cs.length →
      (∀ (j : Nat) (f : Field), fs[j]? = some f → DataW.trod enc P W 0 (fun _ => true) true n f.type ((cs.drop f.offset).take (P.cellsOf f.type)) = xs[i + j]?) → FitS W ks (cs.drop off)
  | [], off, i, ks, h, _, hl, _ => by
    simp only [flatFsS, Option.some.injEq] at h
    subst h
    rw [List.drop_eq_nil_of_le (by simp at hl; omega)]
    trivial
  | f :: r, off, i, ks, h, hx, hl, hf => by
    simp only [flatFsS] at h
    split at h
    · rename_i ho
      split at h
      · rename_i k1 hk1
        split at h
        · rename_i hc
          rw [Option.map_eq_some_iff] at h
          obtain ⟨k2, hk2, rfl⟩ := h
          rw [List.length_append] at hl
          rw [List.length_cons] at hx
          have h0 := hf 0 f rfl
          rw [ho, hc, Nat.add_zero, List.getElem?_eq_getElem (by omega)] at h0
          have h1 := hg _ _ _ _ hk1 h0
          have h2 := flatFsS_fit (cs := cs) (xs := xs) hg r (off + k1.length) (i + 1) k2 hk2 (by omega) (by omega) (fun j f' hj => by
            have := hf (j + 1) f' (by simpa using hj)
            rw [this]
            congr 1
            omega)
          have h3 := FitS.append h1 h2
          rwa [← List.drop_drop, List.take_append_drop] at h3
        · cases h
      · cases h
    · cases h
theorem rows_fit {t e : TypeId} {ks : List FK} {cs : List Value} {n : Nat} {x : DataW H × List MemPlace} (d : Nat) (ht : P.underlying t = some (.slice e)) (hk : flat P d e = some ks) (hc : P.cellsOf e = ks.length) (h0 : 0 < ks.length)
    (hf : DataW.trod enc P W 0 (fun _ => true) true n t cs = some x) : ∃ A n c f, cs = [.slice A n c] ∧ FlatRow W ks A n c f := by
  rcases open_slice ht hf with ⟨rfl, _⟩ | ⟨a, len, cap', m, n, D, Pl, rfl, _, hl, hm, hmm, _, hall⟩
  · exact ⟨none, 0, 0, fun _ => [], rfl, Nat.le_refl _, by simp [maxLen], fun _ => rfl, fun i hi => absurd hi (Nat.not_lt_zero _), fun h => absurd h (Nat.lt_irrefl _)⟩
  · simp only [if_true] at hmm
    subst hmm
    have hex : ∀ i, ∃ cs' : List Value, i < m → W.cells? 0 (a.add (i * P.cellsOf e)) (P.cellsOf e) = some cs' ∧ DataW.trod enc P W 0 (fun _ => true) true n e cs' = some (D i, Pl i) := by
      intro i
      by_cases hi : i < m
      · obtain ⟨cs', h1, h2⟩ := hall i hi
        exact ⟨cs', fun _ => ⟨h1, h2⟩⟩
      · exact ⟨[], fun h => absurd h hi⟩
    obtain ⟨f, hf'⟩ := Classical.axiomOfChoice hex
    refine ⟨some a, len, m, f, rfl, hl, hm, (fun h => by cases h), fun i hi => flat_fit d e ks _ n _ hk (hf' i (by omega)).2, fun hn => ?_⟩
    have hat : ∀ i, i < len → ∀ j, j < ks.length → W.cell? ((a.add (i * ks.length)).add j) = (f i)[j]? := fun i hi j hj => by
      have := (World.cells?_some (hf' i (by omega)).1).2.2 j (by rw [hc]; exact hj)
      rwa [hc] at this
    obtain ⟨b, off, spot⟩ := a
    have hf0 := (flat_fit d e ks _ n _ hk (hf' 0 (by omega)).2).length
    have hspot : spot = none := by
      have h00 := hat 0 hn 0 h0
      rw [List.getElem?_eq_getElem (by omega)] at h00
      simpa [Addr.add] using World.cell?_spot h00
    subst hspot
    have hpl : ∀ i j : Nat, (((⟨b, off, none⟩ : Addr).add i).add j) = ⟨b, off + (i + j), none⟩ := fun i j => by
      rw [Go.WideShapes.add_plain, Go.WideShapes.add_plain, Nat.add_assoc]
    refine ⟨b, off, rfl, ?_, fun i hi j hj => by rw [← hpl]; exact hat i hi j hj⟩
    have h00 := hat 0 hn 0 h0
    rw [List.getElem?_eq_getElem (by omega), hpl] at h00
    exact block_lt h00
theorem flatS_fit : ∀ (d : Nat) (t : TypeId) (ks : List FS) (cs : List Value) (n : Nat) (x : DataW H × List MemPlace), flatS P d t = some ks → DataW.trod enc P W 0 (fun _ => true) true n t cs = some x → FitS W ks cs
  | 0, _, _, _, _, _, h, _ => by cases h
  | d + 1, t, ks, cs, n, x, h, hx => by
    unfold flatS at h
    split at h
    · rename_i ks' hk
      simp only [Option.some.injEq] at h
      subst h
      exact FitS.of_fit (flat_fit 1 t ks' cs n x hk hx)
    · split at h
      · rename_i e hu
        split at h
        · rename_i ks' hk
          split at h
          · rename_i hc
            simp only [Option.some.injEq] at h
            subst h
            obtain ⟨A, m, c, f, rfl, hr⟩ := rows_fit 9 hu hk hc.1 hc.2 hx
            exact ⟨⟨A, m, c, f, rfl, hr⟩, trivial⟩
          · cases h
        · cases h
      · rename_i fs hu
        split at h
        · rename_i ks' hk
          split at h
          · rename_i hc
            simp only [Option.some.injEq] at h
            subst h
            obtain ⟨xs, n', rfl, _, hlen, hxl, hf⟩ := DataW.trod_struct hu hx
            have := flatFsS_fit (cs := cs) (xs := xs) (n := n') (fun t ks vs x h1 h2 => flatS_fit d t ks vs n' x h1 h2) fs.toList 0 0 _ hk (by simpa using hxl) (by omega) (fun j f hj => by
              rw [Nat.zero_add]
              exact hf j f (by simpa using hj))
            simpa using this
          · cases h
        · cases h
      · cases h
/-- A parameter that is a struct of plain fields and slices of such. -/
theorem flatS_arg {t : TypeId} {fs : Array Field} {ks : List FS} {v : Value} {e : DataW H} {p : List MemPlace} (d : Nat) (hs : P.underlying t = some (.struct fs)) (hk : flatS P d t = some ks)
    (hv : Value.okWide P W .any 0 t v) (h : DataW.Trod enc P W 0 (fun _ => true) true t v e p) : ∃ vs : List Value, v = .agg vs.toArray ∧ FitS W ks vs := by
  obtain ⟨cs, rfl, _⟩ := okWide_struct hs hv
  obtain ⟨fuel, hf⟩ := h
  refine ⟨cs.toList, by simp, ?_⟩
  have := flatS_fit d t ks _ _ _ hk hf
  simpa [Value.cells] using this
end
end Go.Proofs.Ytmmdkafkfjfgnaa
