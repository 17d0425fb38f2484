/- A law's parameters that are structs of plain fields (integers, bools, strings, slices of integers; structs of such), by value, and slices of such. Nothing here speaks of one program. -/
import Derived.Test.YtjifnnloncanpaaIntRows
import Derived.Deep.Slices
import Derived.Deep.Fields
import Derived.ChangeMaps5
namespace Go.Proofs.Ytjifnnloncanpaa
open Go.ChangeShapes Go.WideShapes Go.RowKit Go.Deep Go.ChangeMaps Go.WideElems

/-- What a plain cell may hold. -/
inductive FK where
  | int (k : IntKind)
  | bool
  | str
  | ints (k : IntKind)

def FK.ok (W : World) : FK → Value → Prop
  | .int k, v => ∃ z, v = .int k z ∧ (Lit.int k z).wf = true
  | .bool, v => ∃ b, v = .bool b
  | .str, v => ∃ s : ByteArray, v = .string s ∧ s.size ≤ maxLen
  | .ints k, v => ∃ A n c zs, v = .slice A n c ∧ IntRow W k A n c zs

/-- Each cell holds what its kind says. -/
def Fit (W : World) : List FK → List Value → Prop
  | [], [] => True
  | k :: ks, v :: vs => k.ok W v ∧ Fit W ks vs
  | _, _ => False
theorem Fit.length {W : World} : ∀ {ks : List FK} {vs : List Value}, Fit W ks vs → vs.length = ks.length
  | [], [], _ => rfl
  | _ :: ks, _ :: vs, h => by
    have := Fit.length (ks := ks) (vs := vs) h.2
    simpa using this
theorem Fit.append {W : World} : ∀ {ks ls : List FK} {vs us : List Value}, Fit W ks vs → Fit W ls us → Fit W (ks ++ ls) (vs ++ us)
  | [], _, [], _, _, h => h
  | _ :: ks, _, _ :: vs, _, h, h' => ⟨h.1, Fit.append (ks := ks) (vs := vs) h.2 h'⟩
theorem FK.ok.below {W W' : World} {k : FK} {v : Value} (h : k.ok W v) (hb : Below W.heap.size W W') : k.ok W' v := by
  cases k with
  | int k => exact h
  | bool => exact h
  | str => exact h
  | ints k =>
    obtain ⟨A, n, c, zs, e, hr⟩ := h
    exact ⟨A, n, c, zs, e, hr.below hb⟩
theorem Fit.below {W W' : World} (hb : Below W.heap.size W W') : ∀ {ks : List FK} {vs : List Value}, Fit W ks vs → Fit W' ks vs
  | [], [], _ => trivial
  | _ :: ks, _ :: vs, h => ⟨h.1.below hb, Fit.below hb (ks := ks) (vs := vs) h.2⟩

/-- The kinds of a struct's fields, one behind the other; none: they don't lie so, or one isn't plain. -/
def flatFs (P : Program) (g : TypeId → Option (List FK)) : List Field → Nat → Option (List FK)
  | [], _ => some []
  | f :: r, off =>
    if f.offset = off then
      match g f.type with
      | some ks => if P.cellsOf f.type = ks.length then (flatFs P g r (off + ks.length)).map (ks ++ ·) else none
      | none => none
    else none
/-- The kinds of a type's cells. -/
def flat (P : Program) : Nat → TypeId → Option (List FK)
  | 0, _ => none
  | d + 1, t =>
    match P.underlying t with
    | some (.int k) => some [.int k]
    | some .bool => some [.bool]
    | some .string => some [.str]
    | some (.slice e) => match P.underlying e with
      | some (.int k) => if P.cellsOf e = 1 then some [.ints k] else none
      | _ => none
    | some (.struct fs) => match flatFs P (flat P d) fs.toList 0 with
      | some ks => if P.cellsOf t = ks.length then some ks else none
      | none => none
    | _ => none

section
variable {H : Type} {enc : TypeId × Value → H} {P : Program} {W : World}
theorem flatFs_fit {g : TypeId → Option (List FK)} {cs : List Value} {xs : List (DataW H × List MemPlace)} {n : Nat}
    (hg : ∀ t ks vs x, g t = some ks → DataW.trod enc P W 0 (fun _ => true) true n t vs = some x → Fit W ks vs) :
    ∀ (fs : List Field) (off i : Nat) (ks : List FK), flatFs P g fs off = some ks → xs.length = i + fs.length → off + ks.length = cs.length →
      (∀ (j : Nat) (f : Field), fs[j]? = some f → DataW.trod enc P W 0 (fun _ => true) true n f.type ((cs.drop f.offset).take (P.cellsOf f.type)) = xs[i + j]?) → Fit W ks (cs.drop off)
  | [], off, i, ks, h, _, hl, _ => by
    simp only [flatFs, Option.some.injEq] at h
    subst h
    rw [List.drop_eq_nil_of_le (by simp at hl; omega)]
    trivial
  | f :: r, off, i, ks, h, hx, hl, hf => by
    simp only [flatFs] at h
    split at h
    · rename_i ho
      split at h
      · rename_i k1 hk1
        split at h
        · rename_i hc
          rw [Option.map_eq_some_iff] at h
          obtain ⟨k2, hk2, rfl⟩ := h
          rw [List.length_append] at hl
          rw [List.length_cons] at hx
          have h0 := hf 0 f rfl
          rw [ho, hc, Nat.add_zero, List.getElem?_eq_getElem (by omega)] at h0
          have h1 := hg _ _ _ _ hk1 h0
          have h2 := flatFs_fit (cs := cs) (xs := xs) hg r (off + k1.length) (i + 1) k2 hk2 (by omega) (by omega) (fun j f' hj => by
            have := hf (j + 1) f' (by simpa using hj)
            rw [this]
            congr 1
            omega)
          have h3 := Fit.append h1 h2
          rwa [← List.drop_drop, List.take_append_drop] at h3
        · cases h
      · cases h
    · cases h
theorem flat_fit : ∀ (d : Nat) (t : TypeId) (ks : List FK) (cs : List Value) (n : Nat) (x : DataW H × List MemPlace), flat P d t = some ks → DataW.trod enc P W 0 (fun _ => true) true n t cs = some x → Fit W ks cs
  | 0, _, _, _, _, _, h, _ => by cases h
  | d + 1, t, ks, cs, n, x, h, hx => by
    unfold flat at h
    split at h
    · rename_i k hu
      simp only [Option.some.injEq] at h
      subst h
      obtain ⟨z, rfl, _, hw⟩ := DataW.trod_int hu hx
      exact ⟨⟨z, rfl, hw⟩, trivial⟩
    · rename_i hu
      simp only [Option.some.injEq] at h
      subst h
      obtain ⟨b, rfl, _⟩ := DataW.trod_bool hu hx
      exact ⟨⟨b, rfl⟩, trivial⟩
    · rename_i hu
      simp only [Option.some.injEq] at h
      subst h
      obtain ⟨s, rfl, _, hs⟩ := DataW.trod_string hu hx
      exact ⟨⟨s, rfl, hs⟩, trivial⟩
    · rename_i e hu
      split at h
      · rename_i k he
        split at h
        · rename_i hc
          simp only [Option.some.injEq] at h
          subst h
          rcases open_ints hu he hc hx with ⟨rfl, _⟩ | ⟨a, len, cap, zs, rfl, _, hl, hm, hz, _, hcell, hwz⟩
          · exact ⟨⟨none, 0, 0, [], rfl, rfl, Nat.le_refl _, by simp [maxLen], fun _ => rfl, fun h => absurd h (Nat.lt_irrefl _), by simp⟩, trivial⟩
          · simp only [if_true] at hz
            refine ⟨⟨some a, len, cap, zs.take len, rfl, by rw [List.length_take]; omega, hl, hm, (fun h => by cases h), fun h0 => ?_, fun n hn => hwz n (List.mem_of_mem_take hn)⟩, trivial⟩
            obtain ⟨b, off, rfl, hh⟩ := ints_at hcell (by omega)
            refine ⟨b, off, rfl, block_lt (hh 0 (by omega)), fun j hj => ?_⟩
            rw [hh j (by omega)]
            simp [List.getD, hj]
        · cases h
      · cases h
    · rename_i fs hu
      split at h
      · rename_i ks' hk
        split at h
        · rename_i hc
          simp only [Option.some.injEq] at h
          subst h
          obtain ⟨xs, n', rfl, _, hlen, hxl, hf⟩ := DataW.trod_struct hu hx
          have := flatFs_fit (cs := cs) (xs := xs) (n := n') (fun t ks vs x h1 h2 => flat_fit d t ks vs n' x h1 h2) fs.toList 0 0 _ hk (by simpa using hxl) (by omega) (fun j f hj => by
            rw [Nat.zero_add]
            exact hf j f (by simpa using hj))
          simpa using this
        · cases h
      · cases h
    · cases h

/-- A parameter that is a struct of plain fields. -/
theorem flat_arg {t : TypeId} {fs : Array Field} {ks : List FK} {v : Value} {e : DataW H} {p : List MemPlace} (d : Nat) (hs : P.underlying t = some (.struct fs)) (hk : flat P d t = some ks)
    (hv : Value.okWide P W .any 0 t v) (h : DataW.Trod enc P W 0 (fun _ => true) true t v e p) : ∃ vs : List Value, v = .agg vs.toArray ∧ Fit W ks vs := by
  obtain ⟨cs, rfl, _⟩ := okWide_struct hs hv
  obtain ⟨fuel, hf⟩ := h
  refine ⟨cs.toList, by simp, ?_⟩
  have := flat_fit d t ks _ _ _ hk hf
  simpa [Value.cells] using this

/-- A slice of elements of plain cells that came in. -/
structure FlatRow (W : World) (ks : List FK) (A : Option Addr) (n c : Nat) (f : Nat → List Value) : Prop where
  cap_le : n ≤ c
  max : c ≤ maxLen
  nil : A = none → c = 0
  fit : ∀ i, i < n → Fit W ks (f i)
  cell : 0 < n → ∃ b off, A = some ⟨b, off, none⟩ ∧ b < W.heap.size ∧ ∀ i, i < n → ∀ j, j < ks.length → W.cell? ⟨b, off + (i * ks.length + j), none⟩ = (f i)[j]?
theorem FlatRow.below {W' : World} {ks : List FK} {A : Option Addr} {n c : Nat} {f : Nat → List Value} (h : FlatRow W ks A n c f) (hb : Below W.heap.size W W') : FlatRow W' ks A n c f :=
  ⟨h.cap_le, h.max, h.nil, fun i hi => (h.fit i hi).below hb, fun hn => by
    obtain ⟨b, off, e, hlt, hc⟩ := h.cell hn
    exact ⟨b, off, e, Nat.lt_of_lt_of_le hlt hb.size, fun i hi j hj => (hb.cell (p := ⟨b, off + (i * ks.length + j), none⟩) hlt).trans (hc i hi j hj)⟩⟩
theorem FlatRow.at {ks : List FK} {A : Option Addr} {n c : Nat} {f : Nat → List Value} (h : FlatRow W ks A n c f) (m : Nat) (hm : ks.length = m) {i : Nat} (hi : i < n) :
    ∃ b off, A = some ⟨b, off, none⟩ ∧ b < W.heap.size ∧ ∀ j v, (f i)[j]? = some v → W.cell? ⟨b, off + i * m + j, none⟩ = some v := by
  obtain ⟨b, off, e, hb, hc⟩ := h.cell (by omega)
  refine ⟨b, off, e, hb, fun j v hv => ?_⟩
  have hj : j < ks.length := by
    rw [← (h.fit i hi).length]
    exact (List.getElem?_eq_some_iff.1 hv).1
  have := hc i hi j hj
  rw [hm] at this
  rw [Nat.add_assoc, this, hv]
theorem flats_arg {t e : TypeId} {ks : List FK} {v : Value} {x : DataW H} {p : List MemPlace} (d : Nat) (ht : P.underlying t = some (.slice e)) (hk : flat P d e = some ks) (hc : P.cellsOf e = ks.length) (h0 : 0 < ks.length)
    (hv : Value.okWide P W .any 0 t v) (h : DataW.Trod enc P W 0 (fun _ => true) true t v x p) : ∃ A n c f, v = .slice A n c ∧ FlatRow W ks A n c f := by
  obtain ⟨A, len, cap, rfl⟩ := okWide_slice ht hv
  obtain ⟨fuel, hf⟩ := h
  rcases open_slice ht hf with ⟨hcs, _⟩ | ⟨a, len', cap', m, n, D, Pl, hcs, _, hl, hm, hmm, _, hall⟩
  · simp [Value.cells] at hcs
    obtain ⟨rfl, rfl, rfl⟩ := hcs
    exact ⟨none, 0, 0, fun _ => [], rfl, Nat.le_refl _, by simp [maxLen], fun _ => rfl, fun i hi => absurd hi (Nat.not_lt_zero _), fun h => absurd h (Nat.lt_irrefl _)⟩
  · simp [Value.cells] at hcs
    obtain ⟨rfl, rfl, rfl⟩ := hcs
    simp only [if_true] at hmm
    subst hmm
    have hex : ∀ i, ∃ cs' : List Value, i < m → W.cells? 0 (a.add (i * P.cellsOf e)) (P.cellsOf e) = some cs' ∧ DataW.trod enc P W 0 (fun _ => true) true n e cs' = some (D i, Pl i) := by
      intro i
      by_cases hi : i < m
      · obtain ⟨cs', h1, h2⟩ := hall i hi
        exact ⟨cs', fun _ => ⟨h1, h2⟩⟩
      · exact ⟨[], fun h => absurd h hi⟩
    obtain ⟨f, hf'⟩ := Classical.axiomOfChoice hex
    refine ⟨some a, len, m, f, rfl, hl, hm, (fun h => by cases h), fun i hi => flat_fit d e ks _ n _ hk (hf' i (by omega)).2, fun hn => ?_⟩
    have hat : ∀ i, i < len → ∀ j, j < ks.length → W.cell? ((a.add (i * ks.length)).add j) = (f i)[j]? := fun i hi j hj => by
      have := (World.cells?_some (hf' i (by omega)).1).2.2 j (by rw [hc]; exact hj)
      rwa [hc] at this
    obtain ⟨b, off, spot⟩ := a
    have hf0 := (flat_fit d e ks _ n _ hk (hf' 0 (by omega)).2).length
    have hspot : spot = none := by
      have h00 := hat 0 hn 0 h0
      rw [List.getElem?_eq_getElem (by omega)] at h00
      simpa [Addr.add] using World.cell?_spot h00
    subst hspot
    have hpl : ∀ i j : Nat, (((⟨b, off, none⟩ : Addr).add i).add j) = ⟨b, off + (i + j), none⟩ := fun i j => by
      rw [Go.WideShapes.add_plain, Go.WideShapes.add_plain, Nat.add_assoc]
    refine ⟨b, off, rfl, ?_, fun i hi j hj => by rw [← hpl]; exact hat i hi j hj⟩
    have h00 := hat 0 hn 0 h0
    rw [List.getElem?_eq_getElem (by omega), hpl] at h00
    exact block_lt h00
end
end Go.Proofs.Ytjifnnloncanpaa
