/- Texts of this seat, one behind the other. -/
import Derived.Test.YtmmdkafkfjfgnaaGrpAn3
import Derived.Test.YtmmdkafkfjfgnaaGrpAn4
import Derived.Test.YtmmdkafkfjfgnaaGrpAn1
/- A law's parameters that are structs of plain fields, with slices of structs of plain fields among them. Nothing here speaks of one program. -/
namespace Go.Proofs.Ytmmdkafkfjfgnaa
open Go.ChangeShapes Go.WideShapes Go.RowKit Go.Deep Go.ChangeMaps Go.WideElems

/-- What a cell may hold: something plain, or a slice of such. -/
inductive FS where
  | p (k : FK)
  | rows (ks : List FK)
def FS.ok (W : World) : FS → Value → Prop
  | .p k, v => k.ok W v
  | .rows ks, v => ∃ A n c f, v = .slice A n c ∧ FlatRow W ks A n c f
def FitS (W : World) : List FS → List Value → Prop
  | [], [] => True
  | k :: ks, v :: vs => k.ok W v ∧ FitS W ks vs
  | _, _ => False
theorem FitS.length {W : World} : ∀ {ks : List FS} {vs : List Value}, FitS W ks vs → vs.length = ks.length
  | [], [], _ => rfl
  | _ :: ks, _ :: vs, h => by
    have := FitS.length (ks := ks) (vs := vs) h.2
    simpa using this
theorem FitS.append {W : World} : ∀ {ks ls : List FS} {vs us : List Value}, FitS W ks vs → FitS W ls us → FitS W (ks ++ ls) (vs ++ us)
  | [], _, [], _, _, h => h
  | _ :: ks, _, _ :: vs, _, h, h' => ⟨h.1, FitS.append (ks := ks) (vs := vs) h.2 h'⟩
theorem FitS.of_fit {W : World} : ∀ {ks : List FK} {vs : List Value}, Fit W ks vs → FitS W (ks.map .p) vs
  | [], [], _ => trivial
  | _ :: ks, _ :: vs, h => ⟨h.1, FitS.of_fit (ks := ks) (vs := vs) h.2⟩
/-- The kinds of a struct's fields, one behind the other; none: they don't lie so. -/
def flatFsS (P : Program) (g : TypeId → Option (List FS)) : List Field → Nat → Option (List FS)
  | [], _ => some []
  | f :: r, off =>
    if f.offset = off then
      match g f.type with
      | some ks => if P.cellsOf f.type = ks.length then (flatFsS P g r (off + ks.length)).map (ks ++ ·) else none
      | none => none
    else none
def flatS (P : Program) : Nat → TypeId → Option (List FS)
  | 0, _ => none
  | d + 1, t =>
    match flat P 1 t with
    | some ks => some (ks.map .p)
    | none =>
      match P.underlying t with
      | some (.slice e) => match flat P 9 e with
        | some ks => if P.cellsOf e = ks.length ∧ 0 < ks.length then some [.rows ks] else none
        | none => none
      | some (.struct fs) => match flatFsS P (flatS P d) fs.toList 0 with
        | some ks => if P.cellsOf t = ks.length then some ks else none
        | none => none
      | _ => none
section
variable {H : Type} {enc : TypeId × Value → H} {P : Program} {W : World}
theorem flatFsS_fit {g : TypeId → Option (List FS)} {cs : List Value} {xs : List (DataW H × List MemPlace)} {n : Nat}
    (hg : ∀ t ks vs x, g t = some ks → DataW.trod enc P W 0 (fun _ => true) true n t vs = some x → FitS W ks vs) :
    ∀ (fs : List Field) (off i : Nat) (ks : List FS), flatFsS P g fs off = some ks → xs.length = i + fs.length → off + ks.length = cs.length →
      (∀ (j : Nat) (f : Field), fs[j]? = some f → DataW.trod enc P W 0 (fun _ => true) true n f.type ((cs.drop f.offset).take (P.cellsOf f.type)) = xs[i + j]?) → FitS W ks (cs.drop off)
  | [], off, i, ks, h, _, hl, _ => by
    simp only [flatFsS, Option.some.injEq] at h
    subst h
    rw [List.drop_eq_nil_of_le (by simp at hl; omega)]
    trivial
  | f :: r, off, i, ks, h, hx, hl, hf => by
    simp only [flatFsS] at h
    split at h
    · rename_i ho
      split at h
      · rename_i k1 hk1
        split at h
        · rename_i hc
          rw [Option.map_eq_some_iff] at h
          obtain ⟨k2, hk2, rfl⟩ := h
          rw [List.length_append] at hl
          rw [List.length_cons] at hx
          have h0 := hf 0 f rfl
          rw [ho, hc, Nat.add_zero, List.getElem?_eq_getElem (by omega)] at h0
          have h1 := hg _ _ _ _ hk1 h0
          have h2 := flatFsS_fit (cs := cs) (xs := xs) hg r (off + k1.length) (i + 1) k2 hk2 (by omega) (by omega) (fun j f' hj => by
            have := hf (j + 1) f' (by simpa using hj)
            rw [this]
            congr 1
            omega)
          have h3 := FitS.append h1 h2
          rwa [← List.drop_drop, List.take_append_drop] at h3
        · cases h
      · cases h
    · cases h
theorem rows_fit {t e : TypeId} {ks : List FK} {cs : List Value} {n : Nat} {x : DataW H × List MemPlace} (d : Nat) (ht : P.underlying t = some (.slice e)) (hk : flat P d e = some ks) (hc : P.cellsOf e = ks.length) (h0 : 0 < ks.length)
    (hf : DataW.trod enc P W 0 (fun _ => true) true n t cs = some x) : ∃ A n c f, cs = [.slice A n c] ∧ FlatRow W ks A n c f := by
  rcases open_slice ht hf with ⟨rfl, _⟩ | ⟨a, len, cap', m, n, D, Pl, rfl, _, hl, hm, hmm, _, hall⟩
  · exact ⟨none, 0, 0, fun _ => [], rfl, Nat.le_refl _, by simp [maxLen], fun _ => rfl, fun i hi => absurd hi (Nat.not_lt_zero _), fun h => absurd h (Nat.lt_irrefl _)⟩
  · simp only [if_true] at hmm
    subst hmm
    have hex : ∀ i, ∃ cs' : List Value, i < m → W.cells? 0 (a.add (i * P.cellsOf e)) (P.cellsOf e) = some cs' ∧ DataW.trod enc P W 0 (fun _ => true) true n e cs' = some (D i, Pl i) := by
      intro i
      by_cases hi : i < m
      · obtain ⟨cs', h1, h2⟩ := hall i hi
        exact ⟨cs', fun _ => ⟨h1, h2⟩⟩
      · exact ⟨[], fun h => absurd h hi⟩
    obtain ⟨f, hf'⟩ := Classical.axiomOfChoice hex
    refine ⟨some a, len, m, f, rfl, hl, hm, (fun h => by cases h), fun i hi => flat_fit d e ks _ n _ hk (hf' i (by omega)).2, fun hn => ?_⟩
    have hat : ∀ i, i < len → ∀ j, j < ks.length → W.cell? ((a.add (i * ks.length)).add j) = (f i)[j]? := fun i hi j hj => by
      have := (World.cells?_some (hf' i (by omega)).1).2.2 j (by rw [hc]; exact hj)
      rwa [hc] at this
    obtain ⟨b, off, spot⟩ := a
    have hf0 := (flat_fit d e ks _ n _ hk (hf' 0 (by omega)).2).length
    have hspot : spot = none := by
      have h00 := hat 0 hn 0 h0
      rw [List.getElem?_eq_getElem (by omega)] at h00
      simpa [Addr.add] using World.cell?_spot h00
    subst hspot
    have hpl : ∀ i j : Nat, (((⟨b, off, none⟩ : Addr).add i).add j) = ⟨b, off + (i + j), none⟩ := fun i j => by
      rw [Go.WideShapes.add_plain, Go.WideShapes.add_plain, Nat.add_assoc]
    refine ⟨b, off, rfl, ?_, fun i hi j hj => by rw [← hpl]; exact hat i hi j hj⟩
    have h00 := hat 0 hn 0 h0
    rw [List.getElem?_eq_getElem (by omega), hpl] at h00
    exact block_lt h00
theorem flatS_fit : ∀ (d : Nat) (t : TypeId) (ks : List FS) (cs : List Value) (n : Nat) (x : DataW H × List MemPlace), flatS P d t = some ks → DataW.trod enc P W 0 (fun _ => true) true n t cs = some x → FitS W ks cs
  | 0, _, _, _, _, _, h, _ => by cases h
  | d + 1, t, ks, cs, n, x, h, hx => by
    unfold flatS at h
    split at h
    · rename_i ks' hk
      simp only [Option.some.injEq] at h
      subst h
      exact FitS.of_fit (flat_fit 1 t ks' cs n x hk hx)
    · split at h
      · rename_i e hu
        split at h
        · rename_i ks' hk
          split at h
          · rename_i hc
            simp only [Option.some.injEq] at h
            subst h
            obtain ⟨A, m, c, f, rfl, hr⟩ := rows_fit 9 hu hk hc.1 hc.2 hx
            exact ⟨⟨A, m, c, f, rfl, hr⟩, trivial⟩
          · cases h
        · cases h
      · rename_i fs hu
        split at h
        · rename_i ks' hk
          split at h
          · rename_i hc
            simp only [Option.some.injEq] at h
            subst h
            obtain ⟨xs, n', rfl, _, hlen, hxl, hf⟩ := DataW.trod_struct hu hx
            have := flatFsS_fit (cs := cs) (xs := xs) (n := n') (fun t ks vs x h1 h2 => flatS_fit d t ks vs n' x h1 h2) fs.toList 0 0 _ hk (by simpa using hxl) (by omega) (fun j f hj => by
              rw [Nat.zero_add]
              exact hf j f (by simpa using hj))
            simpa using this
          · cases h
        · cases h
      · cases h
/-- A parameter that is a struct of plain fields and slices of such. -/
theorem flatS_arg {t : TypeId} {fs : Array Field} {ks : List FS} {v : Value} {e : DataW H} {p : List MemPlace} (d : Nat) (hs : P.underlying t = some (.struct fs)) (hk : flatS P d t = some ks)
    (hv : Value.okWide P W .any 0 t v) (h : DataW.Trod enc P W 0 (fun _ => true) true t v e p) : ∃ vs : List Value, v = .agg vs.toArray ∧ FitS W ks vs := by
  obtain ⟨cs, rfl, _⟩ := okWide_struct hs hv
  obtain ⟨fuel, hf⟩ := h
  refine ⟨cs.toList, by simp, ?_⟩
  have := flatS_fit d t ks _ _ _ hk hf
  simpa [Value.cells] using this
end
end Go.Proofs.Ytmmdkafkfjfgnaa

/- Stage 23: what the law's asked answers. -/
namespace Go.Proofs.Ytmmdkafkfjfgnaa
open Go.RowKit
set_option linter.unusedVariables false
set_option linter.unusedSimpArgs false

set_option maxHeartbeats 4000000 in
set_option maxRecDepth 100000 in
theorem asked_err (w : World) (p o tp : Option Addr) (kd k f tz r b q ho ti le se go ba g t R B n E tn te : Int) (hE : ¬ E = 0) (HTA : Hid (∀ W, Below w.heap.size w W → Calls Try.prog 10 #[.pointer p, .agg #[.int .i64 R, .int .u16 B], .int .i64 n] W fun e w' => e = .returned (.tuple #[.agg #[.int .i64 0, .int .i64 0], .int .i64 E]) ∧ Below W.heap.size W w')) (HRT : Hid (∀ W, Below w.heap.size w W → Calls Try.prog 31 #[.pointer o, .int .i64 R, .int .u16 B, .int .i64 n] W fun e w' => e = .returned (.tuple #[.int .i64 0, .int .i64 0, .int .i64 E]) ∧ Below W.heap.size W w')) (HUC : Hid (∀ W, Below w.heap.size w W → Calls Try.prog 19 #[.pointer p, .pointer tp, .agg #[.int .i64 R, .int .u16 B], .int .i64 n] W fun e w' => e = .returned (.tuple #[.agg #[.int .i64 0, .int .i64 0, .int .i64 0, .int .i64 0, .int .i64 0, .int .i64 0], .int .i64 0, .int .i64 E]) ∧ Below W.heap.size W w')) (HTI : Hid (∀ W, Below w.heap.size w W → Calls Try.prog 12 #[.pointer p, .agg #[.int .i64 R, .int .u16 B], .int .i64 n] W fun e w' => e = .returned (.tuple #[.int .i64 tn, .int .i64 te]) ∧ Below W.heap.size W w')) (HRI : Hid (∀ W, Below w.heap.size w W → Calls Try.prog 32 #[.pointer o, .int .i64 R, .int .u16 B, .int .i64 n] W fun e w' => e = .returned (.tuple #[.int .i64 tn, .int .i64 te]) ∧ Below W.heap.size W w')) :
    Calls Try.prog 17 #[.pointer p, .pointer o, .pointer tp, .agg #[.int .i64 kd, .int .i64 k, .int .i64 f, .int .i64 tz, .int .i64 r, .int .u16 b, .int .u16 q, .int .i64 ho, .int .i64 ti, .int .i64 le, .int .i64 se, .int .i64 go, .int .i64 ba, .int .i64 g, .int .i64 t, .int .i64 R, .int .u16 B, .int .i64 n]] w fun e w' => e = .returned (.bool true) ∧ Below w.heap.size w w' := by
  have e0 : (E == 0) = false := by simpa using hE
  have e1 : (E != 0) = true := by simpa using hE
  have e2 : (E != E) = false := by simp
  have n0 := utc_neq_same 0 0 0 0 0 0
  clear hE
  have f1 : (tn == tn) = true := beq_self_eq_true _
  have f2 : (te == te) = true := beq_self_eq_true _
  have hD := Duo.start w 58 43 #[.int .i64 kd, .int .i64 k, .int .i64 f, .int .i64 tz, .int .i64 r, .int .u16 b, .int .u16 q, .int .i64 ho, .int .i64 ti, .int .i64 le, .int .i64 se, .int .i64 go, .int .i64 ba, .int .i64 g, .int .i64 t, .int .i64 R, .int .u16 B, .int .i64 n] #[.int .i64 R, .int .u16 B]
  have hX := Box.start w 58 #[.int .i64 kd, .int .i64 k, .int .i64 f, .int .i64 tz, .int .i64 r, .int .u16 b, .int .u16 q, .int .i64 ho, .int .i64 ti, .int .i64 le, .int .i64 se, .int .i64 go, .int .i64 ba, .int .i64 g, .int .i64 t, .int .i64 R, .int .u16 B, .int .i64 n]
  have x15 : _ = some (Value.int .i64 R) := hX.holds.cell 15
  have x16 : _ = some (Value.int .u16 B) := hX.holds.cell 16
  go_enter Try.func17, Try.ntmps17
  go_upto_region 2 with (fail)
  obtain ⟨V, hV⟩ : ∃ V, V = (w.alloc (.cells #[.int .i64 kd, .int .i64 k, .int .i64 f, .int .i64 tz, .int .i64 r, .int .u16 b, .int .u16 q, .int .i64 ho, .int .i64 ti, .int .i64 le, .int .i64 se, .int .i64 go, .int .i64 ba, .int .i64 g, .int .i64 t, .int .i64 R, .int .u16 B, .int .i64 n] 58)).alloc (.cells #[.int .i64 R, .int .u16 B] 43) := ⟨_, rfl⟩
  rw [← hV] at hD ⊢
  clear hV hX x15 x16
  have HD := Lib.hid hD
  clear hD
  (try clear c15 c16 c17 d0 d1)
  have c15 : _ = some (Value.int .i64 R) := HD.out.one.cell 15
  have c16 : _ = some (Value.int .u16 B) := HD.out.one.cell 16
  have c17 : _ = some (Value.int .i64 n) := HD.out.one.cell 17
  have d0 : _ = some (Value.int .i64 R) := HD.out.two.cell 0
  have d1 : _ = some (Value.int .u16 B) := HD.out.two.cell 1
  (try clear a0 a1)
  (try have a0 := HA.out.holds.cell 0)
  (try have a1 := HA.out.holds.cell 1)
  (try clear u0 u1 u2 u3 u4 u5)
  (try have u0 := HU.out.holds.cell 0)
  (try have u1 := HU.out.holds.cell 1)
  (try have u2 := HU.out.holds.cell 2)
  (try have u3 := HU.out.holds.cell 3)
  (try have u4 := HU.out.holds.cell 4)
  (try have u5 := HU.out.holds.cell 5)
  (try clear v0 v1 v2 v3 v4 v5)
  (try have v0 := HV.out.holds.cell 0)
  (try have v1 := HV.out.holds.cell 1)
  (try have v2 := HV.out.holds.cell 2)
  (try have v3 := HV.out.holds.cell 3)
  (try have v4 := HV.out.holds.cell 4)
  (try have v5 := HV.out.holds.cell 5)
  go_wp2_with (first
    | (go_at_call 10; with_reducible refine (HTA.out _ HD.out.below).mono ?_; rintro e w1 ⟨rfl, hb⟩; replace HD := Lib.hid (HD.out.next hb); (try replace HA := Lib.hid (HA.out.next hb)); (try replace HU := Lib.hid (HU.out.next hb)); (try replace HV := Lib.hid (HV.out.next hb)); clear hb; have HA := Lib.hid (Box.start w1 38 #[.int .i64 0, .int .i64 0]); have hb := HA.out.below; replace HD := Lib.hid (HD.out.next hb); (try replace HU := Lib.hid (HU.out.next hb)); (try replace HV := Lib.hid (HV.out.next hb)); clear hb; (try clear c15 c16 c17 d0 d1); have c15 : _ = some (Value.int .i64 R) := HD.out.one.cell 15; have c16 : _ = some (Value.int .u16 B) := HD.out.one.cell 16; have c17 : _ = some (Value.int .i64 n) := HD.out.one.cell 17; have d0 : _ = some (Value.int .i64 R) := HD.out.two.cell 0; have d1 : _ = some (Value.int .u16 B) := HD.out.two.cell 1; (try clear a0 a1); (try have a0 := HA.out.holds.cell 0); (try have a1 := HA.out.holds.cell 1); (try clear u0 u1 u2 u3 u4 u5); (try have u0 := HU.out.holds.cell 0); (try have u1 := HU.out.holds.cell 1); (try have u2 := HU.out.holds.cell 2); (try have u3 := HU.out.holds.cell 3); (try have u4 := HU.out.holds.cell 4); (try have u5 := HU.out.holds.cell 5); (try clear v0 v1 v2 v3 v4 v5); (try have v0 := HV.out.holds.cell 0); (try have v1 := HV.out.holds.cell 1); (try have v2 := HV.out.holds.cell 2); (try have v3 := HV.out.holds.cell 3); (try have v4 := HV.out.holds.cell 4); (try have v5 := HV.out.holds.cell 5))
    | (go_at_call 31; with_reducible refine (HRT.out _ HD.out.below).mono ?_; rintro e w2 ⟨rfl, hb⟩; replace HD := Lib.hid (HD.out.next hb); (try replace HA := Lib.hid (HA.out.next hb)); (try replace HU := Lib.hid (HU.out.next hb)); (try replace HV := Lib.hid (HV.out.next hb)); clear hb; (try clear c15 c16 c17 d0 d1); have c15 : _ = some (Value.int .i64 R) := HD.out.one.cell 15; have c16 : _ = some (Value.int .u16 B) := HD.out.one.cell 16; have c17 : _ = some (Value.int .i64 n) := HD.out.one.cell 17; have d0 : _ = some (Value.int .i64 R) := HD.out.two.cell 0; have d1 : _ = some (Value.int .u16 B) := HD.out.two.cell 1; (try clear a0 a1); (try have a0 := HA.out.holds.cell 0); (try have a1 := HA.out.holds.cell 1); (try clear u0 u1 u2 u3 u4 u5); (try have u0 := HU.out.holds.cell 0); (try have u1 := HU.out.holds.cell 1); (try have u2 := HU.out.holds.cell 2); (try have u3 := HU.out.holds.cell 3); (try have u4 := HU.out.holds.cell 4); (try have u5 := HU.out.holds.cell 5); (try clear v0 v1 v2 v3 v4 v5); (try have v0 := HV.out.holds.cell 0); (try have v1 := HV.out.holds.cell 1); (try have v2 := HV.out.holds.cell 2); (try have v3 := HV.out.holds.cell 3); (try have v4 := HV.out.holds.cell 4); (try have v5 := HV.out.holds.cell 5))
    | (go_at_call 19; with_reducible refine (HUC.out _ HD.out.below).mono ?_; rintro e w3 ⟨rfl, hb⟩; replace HD := Lib.hid (HD.out.next hb); (try replace HA := Lib.hid (HA.out.next hb)); (try replace HU := Lib.hid (HU.out.next hb)); (try replace HV := Lib.hid (HV.out.next hb)); clear hb; have HU := Lib.hid (Box.start w3 67 #[.int .i64 0, .int .i64 0, .int .i64 0, .int .i64 0, .int .i64 0, .int .i64 0]); have hb := HU.out.below; replace HD := Lib.hid (HD.out.next hb); (try replace HA := Lib.hid (HA.out.next hb)); (try replace HV := Lib.hid (HV.out.next hb)); clear hb; (try clear c15 c16 c17 d0 d1); have c15 : _ = some (Value.int .i64 R) := HD.out.one.cell 15; have c16 : _ = some (Value.int .u16 B) := HD.out.one.cell 16; have c17 : _ = some (Value.int .i64 n) := HD.out.one.cell 17; have d0 : _ = some (Value.int .i64 R) := HD.out.two.cell 0; have d1 : _ = some (Value.int .u16 B) := HD.out.two.cell 1; (try clear a0 a1); (try have a0 := HA.out.holds.cell 0); (try have a1 := HA.out.holds.cell 1); (try clear u0 u1 u2 u3 u4 u5); (try have u0 := HU.out.holds.cell 0); (try have u1 := HU.out.holds.cell 1); (try have u2 := HU.out.holds.cell 2); (try have u3 := HU.out.holds.cell 3); (try have u4 := HU.out.holds.cell 4); (try have u5 := HU.out.holds.cell 5); (try clear v0 v1 v2 v3 v4 v5); (try have v0 := HV.out.holds.cell 0); (try have v1 := HV.out.holds.cell 1); (try have v2 := HV.out.holds.cell 2); (try have v3 := HV.out.holds.cell 3); (try have v4 := HV.out.holds.cell 4); (try have v5 := HV.out.holds.cell 5))
    | (go_at_call 12; with_reducible refine (HTI.out _ HD.out.below).mono ?_; rintro e w5 ⟨rfl, hb⟩; replace HD := Lib.hid (HD.out.next hb); (try replace HA := Lib.hid (HA.out.next hb)); (try replace HU := Lib.hid (HU.out.next hb)); (try replace HV := Lib.hid (HV.out.next hb)); clear hb; (try clear c15 c16 c17 d0 d1); have c15 : _ = some (Value.int .i64 R) := HD.out.one.cell 15; have c16 : _ = some (Value.int .u16 B) := HD.out.one.cell 16; have c17 : _ = some (Value.int .i64 n) := HD.out.one.cell 17; have d0 : _ = some (Value.int .i64 R) := HD.out.two.cell 0; have d1 : _ = some (Value.int .u16 B) := HD.out.two.cell 1; (try clear a0 a1); (try have a0 := HA.out.holds.cell 0); (try have a1 := HA.out.holds.cell 1); (try clear u0 u1 u2 u3 u4 u5); (try have u0 := HU.out.holds.cell 0); (try have u1 := HU.out.holds.cell 1); (try have u2 := HU.out.holds.cell 2); (try have u3 := HU.out.holds.cell 3); (try have u4 := HU.out.holds.cell 4); (try have u5 := HU.out.holds.cell 5); (try clear v0 v1 v2 v3 v4 v5); (try have v0 := HV.out.holds.cell 0); (try have v1 := HV.out.holds.cell 1); (try have v2 := HV.out.holds.cell 2); (try have v3 := HV.out.holds.cell 3); (try have v4 := HV.out.holds.cell 4); (try have v5 := HV.out.holds.cell 5))
    | (go_at_call 32; with_reducible refine (HRI.out _ HD.out.below).mono ?_; rintro e w6 ⟨rfl, hb⟩; replace HD := Lib.hid (HD.out.next hb); (try replace HA := Lib.hid (HA.out.next hb)); (try replace HU := Lib.hid (HU.out.next hb)); (try replace HV := Lib.hid (HV.out.next hb)); clear hb; (try clear c15 c16 c17 d0 d1); have c15 : _ = some (Value.int .i64 R) := HD.out.one.cell 15; have c16 : _ = some (Value.int .u16 B) := HD.out.one.cell 16; have c17 : _ = some (Value.int .i64 n) := HD.out.one.cell 17; have d0 : _ = some (Value.int .i64 R) := HD.out.two.cell 0; have d1 : _ = some (Value.int .u16 B) := HD.out.two.cell 1; (try clear a0 a1); (try have a0 := HA.out.holds.cell 0); (try have a1 := HA.out.holds.cell 1); (try clear u0 u1 u2 u3 u4 u5); (try have u0 := HU.out.holds.cell 0); (try have u1 := HU.out.holds.cell 1); (try have u2 := HU.out.holds.cell 2); (try have u3 := HU.out.holds.cell 3); (try have u4 := HU.out.holds.cell 4); (try have u5 := HU.out.holds.cell 5); (try clear v0 v1 v2 v3 v4 v5); (try have v0 := HV.out.holds.cell 0); (try have v1 := HV.out.holds.cell 1); (try have v2 := HV.out.holds.cell 2); (try have v3 := HV.out.holds.cell 3); (try have v4 := HV.out.holds.cell 4); (try have v5 := HV.out.holds.cell 5)))
  go_ret
  exact ⟨rfl, HD.out.below⟩
set_option maxHeartbeats 4000000 in
set_option maxRecDepth 100000 in
theorem asked_hit (w : World) (p o tp : Option Addr) (kd k f tz r b q ho ti le se go ba g t R B n T Kt uy um ud uH uM uS tn te : Int) (HTA : Hid (∀ W, Below w.heap.size w W → Calls Try.prog 10 #[.pointer p, .agg #[.int .i64 R, .int .u16 B], .int .i64 n] W fun e w' => e = .returned (.tuple #[.agg #[.int .i64 T, .int .i64 Kt], .int .i64 0]) ∧ Below W.heap.size W w')) (HRT : Hid (∀ W, Below w.heap.size w W → Calls Try.prog 31 #[.pointer o, .int .i64 R, .int .u16 B, .int .i64 n] W fun e w' => e = .returned (.tuple #[.int .i64 T, .int .i64 Kt, .int .i64 0]) ∧ Below W.heap.size W w')) (HUC : Hid (∀ W, Below w.heap.size w W → Calls Try.prog 19 #[.pointer p, .pointer tp, .agg #[.int .i64 R, .int .u16 B], .int .i64 n] W fun e w' => e = .returned (.tuple #[.agg #[.int .i64 uy, .int .i64 um, .int .i64 ud, .int .i64 uH, .int .i64 uM, .int .i64 uS], .int .i64 Kt, .int .i64 0]) ∧ Below W.heap.size W w')) (HUO : Hid (∀ W, Below w.heap.size w W → Calls Try.prog 20 #[.pointer tp, .int .i64 T] W fun e w' => e = .returned (.tuple #[.agg #[.int .i64 uy, .int .i64 um, .int .i64 ud, .int .i64 uH, .int .i64 uM, .int .i64 uS], .int .i64 0]) ∧ Below W.heap.size W w')) (HTI : Hid (∀ W, Below w.heap.size w W → Calls Try.prog 12 #[.pointer p, .agg #[.int .i64 R, .int .u16 B], .int .i64 n] W fun e w' => e = .returned (.tuple #[.int .i64 tn, .int .i64 te]) ∧ Below W.heap.size W w')) (HRI : Hid (∀ W, Below w.heap.size w W → Calls Try.prog 32 #[.pointer o, .int .i64 R, .int .u16 B, .int .i64 n] W fun e w' => e = .returned (.tuple #[.int .i64 tn, .int .i64 te]) ∧ Below W.heap.size W w')) :
    Calls Try.prog 17 #[.pointer p, .pointer o, .pointer tp, .agg #[.int .i64 kd, .int .i64 k, .int .i64 f, .int .i64 tz, .int .i64 r, .int .u16 b, .int .u16 q, .int .i64 ho, .int .i64 ti, .int .i64 le, .int .i64 se, .int .i64 go, .int .i64 ba, .int .i64 g, .int .i64 t, .int .i64 R, .int .u16 B, .int .i64 n]] w fun e w' => e = .returned (.bool true) ∧ Below w.heap.size w w' := by
  have n0 := utc_neq_same uy um ud uH uM uS
  have e1 : (T != T) = false := by simp
  have e2 : (Kt != Kt) = false := by simp
  have f1 : (tn == tn) = true := beq_self_eq_true _
  have f2 : (te == te) = true := beq_self_eq_true _
  have hD := Duo.start w 58 43 #[.int .i64 kd, .int .i64 k, .int .i64 f, .int .i64 tz, .int .i64 r, .int .u16 b, .int .u16 q, .int .i64 ho, .int .i64 ti, .int .i64 le, .int .i64 se, .int .i64 go, .int .i64 ba, .int .i64 g, .int .i64 t, .int .i64 R, .int .u16 B, .int .i64 n] #[.int .i64 R, .int .u16 B]
  have hX := Box.start w 58 #[.int .i64 kd, .int .i64 k, .int .i64 f, .int .i64 tz, .int .i64 r, .int .u16 b, .int .u16 q, .int .i64 ho, .int .i64 ti, .int .i64 le, .int .i64 se, .int .i64 go, .int .i64 ba, .int .i64 g, .int .i64 t, .int .i64 R, .int .u16 B, .int .i64 n]
  have x15 : _ = some (Value.int .i64 R) := hX.holds.cell 15
  have x16 : _ = some (Value.int .u16 B) := hX.holds.cell 16
  go_enter Try.func17, Try.ntmps17
  go_upto_region 2 with (fail)
  obtain ⟨V, hV⟩ : ∃ V, V = (w.alloc (.cells #[.int .i64 kd, .int .i64 k, .int .i64 f, .int .i64 tz, .int .i64 r, .int .u16 b, .int .u16 q, .int .i64 ho, .int .i64 ti, .int .i64 le, .int .i64 se, .int .i64 go, .int .i64 ba, .int .i64 g, .int .i64 t, .int .i64 R, .int .u16 B, .int .i64 n] 58)).alloc (.cells #[.int .i64 R, .int .u16 B] 43) := ⟨_, rfl⟩
  rw [← hV] at hD ⊢
  clear hV hX x15 x16
  have HD := Lib.hid hD
  clear hD
  (try clear c15 c16 c17 d0 d1)
  have c15 : _ = some (Value.int .i64 R) := HD.out.one.cell 15
  have c16 : _ = some (Value.int .u16 B) := HD.out.one.cell 16
  have c17 : _ = some (Value.int .i64 n) := HD.out.one.cell 17
  have d0 : _ = some (Value.int .i64 R) := HD.out.two.cell 0
  have d1 : _ = some (Value.int .u16 B) := HD.out.two.cell 1
  (try clear a0 a1)
  (try have a0 := HA.out.holds.cell 0)
  (try have a1 := HA.out.holds.cell 1)
  (try clear u0 u1 u2 u3 u4 u5)
  (try have u0 := HU.out.holds.cell 0)
  (try have u1 := HU.out.holds.cell 1)
  (try have u2 := HU.out.holds.cell 2)
  (try have u3 := HU.out.holds.cell 3)
  (try have u4 := HU.out.holds.cell 4)
  (try have u5 := HU.out.holds.cell 5)
  (try clear v0 v1 v2 v3 v4 v5)
  (try have v0 := HV.out.holds.cell 0)
  (try have v1 := HV.out.holds.cell 1)
  (try have v2 := HV.out.holds.cell 2)
  (try have v3 := HV.out.holds.cell 3)
  (try have v4 := HV.out.holds.cell 4)
  (try have v5 := HV.out.holds.cell 5)
  go_wp2_with (first
    | (go_at_call 10; with_reducible refine (HTA.out _ HD.out.below).mono ?_; rintro e w1 ⟨rfl, hb⟩; replace HD := Lib.hid (HD.out.next hb); (try replace HA := Lib.hid (HA.out.next hb)); (try replace HU := Lib.hid (HU.out.next hb)); (try replace HV := Lib.hid (HV.out.next hb)); clear hb; have HA := Lib.hid (Box.start w1 38 #[.int .i64 T, .int .i64 Kt]); have hb := HA.out.below; replace HD := Lib.hid (HD.out.next hb); (try replace HU := Lib.hid (HU.out.next hb)); (try replace HV := Lib.hid (HV.out.next hb)); clear hb; (try clear c15 c16 c17 d0 d1); have c15 : _ = some (Value.int .i64 R) := HD.out.one.cell 15; have c16 : _ = some (Value.int .u16 B) := HD.out.one.cell 16; have c17 : _ = some (Value.int .i64 n) := HD.out.one.cell 17; have d0 : _ = some (Value.int .i64 R) := HD.out.two.cell 0; have d1 : _ = some (Value.int .u16 B) := HD.out.two.cell 1; (try clear a0 a1); (try have a0 := HA.out.holds.cell 0); (try have a1 := HA.out.holds.cell 1); (try clear u0 u1 u2 u3 u4 u5); (try have u0 := HU.out.holds.cell 0); (try have u1 := HU.out.holds.cell 1); (try have u2 := HU.out.holds.cell 2); (try have u3 := HU.out.holds.cell 3); (try have u4 := HU.out.holds.cell 4); (try have u5 := HU.out.holds.cell 5); (try clear v0 v1 v2 v3 v4 v5); (try have v0 := HV.out.holds.cell 0); (try have v1 := HV.out.holds.cell 1); (try have v2 := HV.out.holds.cell 2); (try have v3 := HV.out.holds.cell 3); (try have v4 := HV.out.holds.cell 4); (try have v5 := HV.out.holds.cell 5))
    | (go_at_call 31; with_reducible refine (HRT.out _ HD.out.below).mono ?_; rintro e w2 ⟨rfl, hb⟩; replace HD := Lib.hid (HD.out.next hb); (try replace HA := Lib.hid (HA.out.next hb)); (try replace HU := Lib.hid (HU.out.next hb)); (try replace HV := Lib.hid (HV.out.next hb)); clear hb; (try clear c15 c16 c17 d0 d1); have c15 : _ = some (Value.int .i64 R) := HD.out.one.cell 15; have c16 : _ = some (Value.int .u16 B) := HD.out.one.cell 16; have c17 : _ = some (Value.int .i64 n) := HD.out.one.cell 17; have d0 : _ = some (Value.int .i64 R) := HD.out.two.cell 0; have d1 : _ = some (Value.int .u16 B) := HD.out.two.cell 1; (try clear a0 a1); (try have a0 := HA.out.holds.cell 0); (try have a1 := HA.out.holds.cell 1); (try clear u0 u1 u2 u3 u4 u5); (try have u0 := HU.out.holds.cell 0); (try have u1 := HU.out.holds.cell 1); (try have u2 := HU.out.holds.cell 2); (try have u3 := HU.out.holds.cell 3); (try have u4 := HU.out.holds.cell 4); (try have u5 := HU.out.holds.cell 5); (try clear v0 v1 v2 v3 v4 v5); (try have v0 := HV.out.holds.cell 0); (try have v1 := HV.out.holds.cell 1); (try have v2 := HV.out.holds.cell 2); (try have v3 := HV.out.holds.cell 3); (try have v4 := HV.out.holds.cell 4); (try have v5 := HV.out.holds.cell 5))
    | (go_at_call 19; with_reducible refine (HUC.out _ HD.out.below).mono ?_; rintro e w3 ⟨rfl, hb⟩; replace HD := Lib.hid (HD.out.next hb); (try replace HA := Lib.hid (HA.out.next hb)); (try replace HU := Lib.hid (HU.out.next hb)); (try replace HV := Lib.hid (HV.out.next hb)); clear hb; have HU := Lib.hid (Box.start w3 67 #[.int .i64 uy, .int .i64 um, .int .i64 ud, .int .i64 uH, .int .i64 uM, .int .i64 uS]); have hb := HU.out.below; replace HD := Lib.hid (HD.out.next hb); (try replace HA := Lib.hid (HA.out.next hb)); (try replace HV := Lib.hid (HV.out.next hb)); clear hb; (try clear c15 c16 c17 d0 d1); have c15 : _ = some (Value.int .i64 R) := HD.out.one.cell 15; have c16 : _ = some (Value.int .u16 B) := HD.out.one.cell 16; have c17 : _ = some (Value.int .i64 n) := HD.out.one.cell 17; have d0 : _ = some (Value.int .i64 R) := HD.out.two.cell 0; have d1 : _ = some (Value.int .u16 B) := HD.out.two.cell 1; (try clear a0 a1); (try have a0 := HA.out.holds.cell 0); (try have a1 := HA.out.holds.cell 1); (try clear u0 u1 u2 u3 u4 u5); (try have u0 := HU.out.holds.cell 0); (try have u1 := HU.out.holds.cell 1); (try have u2 := HU.out.holds.cell 2); (try have u3 := HU.out.holds.cell 3); (try have u4 := HU.out.holds.cell 4); (try have u5 := HU.out.holds.cell 5); (try clear v0 v1 v2 v3 v4 v5); (try have v0 := HV.out.holds.cell 0); (try have v1 := HV.out.holds.cell 1); (try have v2 := HV.out.holds.cell 2); (try have v3 := HV.out.holds.cell 3); (try have v4 := HV.out.holds.cell 4); (try have v5 := HV.out.holds.cell 5))
    | (go_at_call 20; with_reducible refine (HUO.out _ HD.out.below).mono ?_; rintro e w4 ⟨rfl, hb⟩; replace HD := Lib.hid (HD.out.next hb); (try replace HA := Lib.hid (HA.out.next hb)); (try replace HU := Lib.hid (HU.out.next hb)); (try replace HV := Lib.hid (HV.out.next hb)); clear hb; have HV := Lib.hid (Box.start w4 67 #[.int .i64 uy, .int .i64 um, .int .i64 ud, .int .i64 uH, .int .i64 uM, .int .i64 uS]); have hb := HV.out.below; replace HD := Lib.hid (HD.out.next hb); (try replace HA := Lib.hid (HA.out.next hb)); (try replace HU := Lib.hid (HU.out.next hb)); clear hb; (try clear c15 c16 c17 d0 d1); have c15 : _ = some (Value.int .i64 R) := HD.out.one.cell 15; have c16 : _ = some (Value.int .u16 B) := HD.out.one.cell 16; have c17 : _ = some (Value.int .i64 n) := HD.out.one.cell 17; have d0 : _ = some (Value.int .i64 R) := HD.out.two.cell 0; have d1 : _ = some (Value.int .u16 B) := HD.out.two.cell 1; (try clear a0 a1); (try have a0 := HA.out.holds.cell 0); (try have a1 := HA.out.holds.cell 1); (try clear u0 u1 u2 u3 u4 u5); (try have u0 := HU.out.holds.cell 0); (try have u1 := HU.out.holds.cell 1); (try have u2 := HU.out.holds.cell 2); (try have u3 := HU.out.holds.cell 3); (try have u4 := HU.out.holds.cell 4); (try have u5 := HU.out.holds.cell 5); (try clear v0 v1 v2 v3 v4 v5); (try have v0 := HV.out.holds.cell 0); (try have v1 := HV.out.holds.cell 1); (try have v2 := HV.out.holds.cell 2); (try have v3 := HV.out.holds.cell 3); (try have v4 := HV.out.holds.cell 4); (try have v5 := HV.out.holds.cell 5))
    | (go_at_call 12; with_reducible refine (HTI.out _ HD.out.below).mono ?_; rintro e w5 ⟨rfl, hb⟩; replace HD := Lib.hid (HD.out.next hb); (try replace HA := Lib.hid (HA.out.next hb)); (try replace HU := Lib.hid (HU.out.next hb)); (try replace HV := Lib.hid (HV.out.next hb)); clear hb; (try clear c15 c16 c17 d0 d1); have c15 : _ = some (Value.int .i64 R) := HD.out.one.cell 15; have c16 : _ = some (Value.int .u16 B) := HD.out.one.cell 16; have c17 : _ = some (Value.int .i64 n) := HD.out.one.cell 17; have d0 : _ = some (Value.int .i64 R) := HD.out.two.cell 0; have d1 : _ = some (Value.int .u16 B) := HD.out.two.cell 1; (try clear a0 a1); (try have a0 := HA.out.holds.cell 0); (try have a1 := HA.out.holds.cell 1); (try clear u0 u1 u2 u3 u4 u5); (try have u0 := HU.out.holds.cell 0); (try have u1 := HU.out.holds.cell 1); (try have u2 := HU.out.holds.cell 2); (try have u3 := HU.out.holds.cell 3); (try have u4 := HU.out.holds.cell 4); (try have u5 := HU.out.holds.cell 5); (try clear v0 v1 v2 v3 v4 v5); (try have v0 := HV.out.holds.cell 0); (try have v1 := HV.out.holds.cell 1); (try have v2 := HV.out.holds.cell 2); (try have v3 := HV.out.holds.cell 3); (try have v4 := HV.out.holds.cell 4); (try have v5 := HV.out.holds.cell 5))
    | (go_at_call 32; with_reducible refine (HRI.out _ HD.out.below).mono ?_; rintro e w6 ⟨rfl, hb⟩; replace HD := Lib.hid (HD.out.next hb); (try replace HA := Lib.hid (HA.out.next hb)); (try replace HU := Lib.hid (HU.out.next hb)); (try replace HV := Lib.hid (HV.out.next hb)); clear hb; (try clear c15 c16 c17 d0 d1); have c15 : _ = some (Value.int .i64 R) := HD.out.one.cell 15; have c16 : _ = some (Value.int .u16 B) := HD.out.one.cell 16; have c17 : _ = some (Value.int .i64 n) := HD.out.one.cell 17; have d0 : _ = some (Value.int .i64 R) := HD.out.two.cell 0; have d1 : _ = some (Value.int .u16 B) := HD.out.two.cell 1; (try clear a0 a1); (try have a0 := HA.out.holds.cell 0); (try have a1 := HA.out.holds.cell 1); (try clear u0 u1 u2 u3 u4 u5); (try have u0 := HU.out.holds.cell 0); (try have u1 := HU.out.holds.cell 1); (try have u2 := HU.out.holds.cell 2); (try have u3 := HU.out.holds.cell 3); (try have u4 := HU.out.holds.cell 4); (try have u5 := HU.out.holds.cell 5); (try clear v0 v1 v2 v3 v4 v5); (try have v0 := HV.out.holds.cell 0); (try have v1 := HV.out.holds.cell 1); (try have v2 := HV.out.holds.cell 2); (try have v3 := HV.out.holds.cell 3); (try have v4 := HV.out.holds.cell 4); (try have v5 := HV.out.holds.cell 5)))
  go_ret
  exact ⟨rfl, HD.out.below⟩
set_option maxHeartbeats 4000000 in
set_option maxRecDepth 100000 in
theorem asked_miss (w : World) (p o tp : Option Addr) (kd k f tz r b q ho ti le se go ba g t R B n T Kt E tn te : Int) (hE : ¬ E = 0) (HTA : Hid (∀ W, Below w.heap.size w W → Calls Try.prog 10 #[.pointer p, .agg #[.int .i64 R, .int .u16 B], .int .i64 n] W fun e w' => e = .returned (.tuple #[.agg #[.int .i64 T, .int .i64 Kt], .int .i64 0]) ∧ Below W.heap.size W w')) (HRT : Hid (∀ W, Below w.heap.size w W → Calls Try.prog 31 #[.pointer o, .int .i64 R, .int .u16 B, .int .i64 n] W fun e w' => e = .returned (.tuple #[.int .i64 T, .int .i64 Kt, .int .i64 0]) ∧ Below W.heap.size W w')) (HUC : Hid (∀ W, Below w.heap.size w W → Calls Try.prog 19 #[.pointer p, .pointer tp, .agg #[.int .i64 R, .int .u16 B], .int .i64 n] W fun e w' => e = .returned (.tuple #[.agg #[.int .i64 0, .int .i64 0, .int .i64 0, .int .i64 0, .int .i64 0, .int .i64 0], .int .i64 0, .int .i64 E]) ∧ Below W.heap.size W w')) (HUO : Hid (∀ W, Below w.heap.size w W → Calls Try.prog 20 #[.pointer tp, .int .i64 T] W fun e w' => e = .returned (.tuple #[.agg #[.int .i64 0, .int .i64 0, .int .i64 0, .int .i64 0, .int .i64 0, .int .i64 0], .int .i64 E]) ∧ Below W.heap.size W w')) (HTI : Hid (∀ W, Below w.heap.size w W → Calls Try.prog 12 #[.pointer p, .agg #[.int .i64 R, .int .u16 B], .int .i64 n] W fun e w' => e = .returned (.tuple #[.int .i64 tn, .int .i64 te]) ∧ Below W.heap.size W w')) (HRI : Hid (∀ W, Below w.heap.size w W → Calls Try.prog 32 #[.pointer o, .int .i64 R, .int .u16 B, .int .i64 n] W fun e w' => e = .returned (.tuple #[.int .i64 tn, .int .i64 te]) ∧ Below W.heap.size W w')) :
    Calls Try.prog 17 #[.pointer p, .pointer o, .pointer tp, .agg #[.int .i64 kd, .int .i64 k, .int .i64 f, .int .i64 tz, .int .i64 r, .int .u16 b, .int .u16 q, .int .i64 ho, .int .i64 ti, .int .i64 le, .int .i64 se, .int .i64 go, .int .i64 ba, .int .i64 g, .int .i64 t, .int .i64 R, .int .u16 B, .int .i64 n]] w fun e w' => e = .returned (.bool true) ∧ Below w.heap.size w w' := by
  have e0 : (E == 0) = false := by simpa using hE
  have e3 : (E != 0) = true := by simpa using hE
  have e4 : (E != E) = false := by simp
  have n0 := utc_neq_same 0 0 0 0 0 0
  have e1 : (T != T) = false := by simp
  have e2 : (Kt != Kt) = false := by simp
  clear hE
  have f1 : (tn == tn) = true := beq_self_eq_true _
  have f2 : (te == te) = true := beq_self_eq_true _
  have hD := Duo.start w 58 43 #[.int .i64 kd, .int .i64 k, .int .i64 f, .int .i64 tz, .int .i64 r, .int .u16 b, .int .u16 q, .int .i64 ho, .int .i64 ti, .int .i64 le, .int .i64 se, .int .i64 go, .int .i64 ba, .int .i64 g, .int .i64 t, .int .i64 R, .int .u16 B, .int .i64 n] #[.int .i64 R, .int .u16 B]
  have hX := Box.start w 58 #[.int .i64 kd, .int .i64 k, .int .i64 f, .int .i64 tz, .int .i64 r, .int .u16 b, .int .u16 q, .int .i64 ho, .int .i64 ti, .int .i64 le, .int .i64 se, .int .i64 go, .int .i64 ba, .int .i64 g, .int .i64 t, .int .i64 R, .int .u16 B, .int .i64 n]
  have x15 : _ = some (Value.int .i64 R) := hX.holds.cell 15
  have x16 : _ = some (Value.int .u16 B) := hX.holds.cell 16
  go_enter Try.func17, Try.ntmps17
  go_upto_region 2 with (fail)
  obtain ⟨V, hV⟩ : ∃ V, V = (w.alloc (.cells #[.int .i64 kd, .int .i64 k, .int .i64 f, .int .i64 tz, .int .i64 r, .int .u16 b, .int .u16 q, .int .i64 ho, .int .i64 ti, .int .i64 le, .int .i64 se, .int .i64 go, .int .i64 ba, .int .i64 g, .int .i64 t, .int .i64 R, .int .u16 B, .int .i64 n] 58)).alloc (.cells #[.int .i64 R, .int .u16 B] 43) := ⟨_, rfl⟩
  rw [← hV] at hD ⊢
  clear hV hX x15 x16
  have HD := Lib.hid hD
  clear hD
  (try clear c15 c16 c17 d0 d1)
  have c15 : _ = some (Value.int .i64 R) := HD.out.one.cell 15
  have c16 : _ = some (Value.int .u16 B) := HD.out.one.cell 16
  have c17 : _ = some (Value.int .i64 n) := HD.out.one.cell 17
  have d0 : _ = some (Value.int .i64 R) := HD.out.two.cell 0
  have d1 : _ = some (Value.int .u16 B) := HD.out.two.cell 1
  (try clear a0 a1)
  (try have a0 := HA.out.holds.cell 0)
  (try have a1 := HA.out.holds.cell 1)
  (try clear u0 u1 u2 u3 u4 u5)
  (try have u0 := HU.out.holds.cell 0)
  (try have u1 := HU.out.holds.cell 1)
  (try have u2 := HU.out.holds.cell 2)
  (try have u3 := HU.out.holds.cell 3)
  (try have u4 := HU.out.holds.cell 4)
  (try have u5 := HU.out.holds.cell 5)
  (try clear v0 v1 v2 v3 v4 v5)
  (try have v0 := HV.out.holds.cell 0)
  (try have v1 := HV.out.holds.cell 1)
  (try have v2 := HV.out.holds.cell 2)
  (try have v3 := HV.out.holds.cell 3)
  (try have v4 := HV.out.holds.cell 4)
  (try have v5 := HV.out.holds.cell 5)
  go_wp2_with (first
    | (go_at_call 10; with_reducible refine (HTA.out _ HD.out.below).mono ?_; rintro e w1 ⟨rfl, hb⟩; replace HD := Lib.hid (HD.out.next hb); (try replace HA := Lib.hid (HA.out.next hb)); (try replace HU := Lib.hid (HU.out.next hb)); (try replace HV := Lib.hid (HV.out.next hb)); clear hb; have HA := Lib.hid (Box.start w1 38 #[.int .i64 T, .int .i64 Kt]); have hb := HA.out.below; replace HD := Lib.hid (HD.out.next hb); (try replace HU := Lib.hid (HU.out.next hb)); (try replace HV := Lib.hid (HV.out.next hb)); clear hb; (try clear c15 c16 c17 d0 d1); have c15 : _ = some (Value.int .i64 R) := HD.out.one.cell 15; have c16 : _ = some (Value.int .u16 B) := HD.out.one.cell 16; have c17 : _ = some (Value.int .i64 n) := HD.out.one.cell 17; have d0 : _ = some (Value.int .i64 R) := HD.out.two.cell 0; have d1 : _ = some (Value.int .u16 B) := HD.out.two.cell 1; (try clear a0 a1); (try have a0 := HA.out.holds.cell 0); (try have a1 := HA.out.holds.cell 1); (try clear u0 u1 u2 u3 u4 u5); (try have u0 := HU.out.holds.cell 0); (try have u1 := HU.out.holds.cell 1); (try have u2 := HU.out.holds.cell 2); (try have u3 := HU.out.holds.cell 3); (try have u4 := HU.out.holds.cell 4); (try have u5 := HU.out.holds.cell 5); (try clear v0 v1 v2 v3 v4 v5); (try have v0 := HV.out.holds.cell 0); (try have v1 := HV.out.holds.cell 1); (try have v2 := HV.out.holds.cell 2); (try have v3 := HV.out.holds.cell 3); (try have v4 := HV.out.holds.cell 4); (try have v5 := HV.out.holds.cell 5))
    | (go_at_call 31; with_reducible refine (HRT.out _ HD.out.below).mono ?_; rintro e w2 ⟨rfl, hb⟩; replace HD := Lib.hid (HD.out.next hb); (try replace HA := Lib.hid (HA.out.next hb)); (try replace HU := Lib.hid (HU.out.next hb)); (try replace HV := Lib.hid (HV.out.next hb)); clear hb; (try clear c15 c16 c17 d0 d1); have c15 : _ = some (Value.int .i64 R) := HD.out.one.cell 15; have c16 : _ = some (Value.int .u16 B) := HD.out.one.cell 16; have c17 : _ = some (Value.int .i64 n) := HD.out.one.cell 17; have d0 : _ = some (Value.int .i64 R) := HD.out.two.cell 0; have d1 : _ = some (Value.int .u16 B) := HD.out.two.cell 1; (try clear a0 a1); (try have a0 := HA.out.holds.cell 0); (try have a1 := HA.out.holds.cell 1); (try clear u0 u1 u2 u3 u4 u5); (try have u0 := HU.out.holds.cell 0); (try have u1 := HU.out.holds.cell 1); (try have u2 := HU.out.holds.cell 2); (try have u3 := HU.out.holds.cell 3); (try have u4 := HU.out.holds.cell 4); (try have u5 := HU.out.holds.cell 5); (try clear v0 v1 v2 v3 v4 v5); (try have v0 := HV.out.holds.cell 0); (try have v1 := HV.out.holds.cell 1); (try have v2 := HV.out.holds.cell 2); (try have v3 := HV.out.holds.cell 3); (try have v4 := HV.out.holds.cell 4); (try have v5 := HV.out.holds.cell 5))
    | (go_at_call 19; with_reducible refine (HUC.out _ HD.out.below).mono ?_; rintro e w3 ⟨rfl, hb⟩; replace HD := Lib.hid (HD.out.next hb); (try replace HA := Lib.hid (HA.out.next hb)); (try replace HU := Lib.hid (HU.out.next hb)); (try replace HV := Lib.hid (HV.out.next hb)); clear hb; have HU := Lib.hid (Box.start w3 67 #[.int .i64 0, .int .i64 0, .int .i64 0, .int .i64 0, .int .i64 0, .int .i64 0]); have hb := HU.out.below; replace HD := Lib.hid (HD.out.next hb); (try replace HA := Lib.hid (HA.out.next hb)); (try replace HV := Lib.hid (HV.out.next hb)); clear hb; (try clear c15 c16 c17 d0 d1); have c15 : _ = some (Value.int .i64 R) := HD.out.one.cell 15; have c16 : _ = some (Value.int .u16 B) := HD.out.one.cell 16; have c17 : _ = some (Value.int .i64 n) := HD.out.one.cell 17; have d0 : _ = some (Value.int .i64 R) := HD.out.two.cell 0; have d1 : _ = some (Value.int .u16 B) := HD.out.two.cell 1; (try clear a0 a1); (try have a0 := HA.out.holds.cell 0); (try have a1 := HA.out.holds.cell 1); (try clear u0 u1 u2 u3 u4 u5); (try have u0 := HU.out.holds.cell 0); (try have u1 := HU.out.holds.cell 1); (try have u2 := HU.out.holds.cell 2); (try have u3 := HU.out.holds.cell 3); (try have u4 := HU.out.holds.cell 4); (try have u5 := HU.out.holds.cell 5); (try clear v0 v1 v2 v3 v4 v5); (try have v0 := HV.out.holds.cell 0); (try have v1 := HV.out.holds.cell 1); (try have v2 := HV.out.holds.cell 2); (try have v3 := HV.out.holds.cell 3); (try have v4 := HV.out.holds.cell 4); (try have v5 := HV.out.holds.cell 5))
    | (go_at_call 20; with_reducible refine (HUO.out _ HD.out.below).mono ?_; rintro e w4 ⟨rfl, hb⟩; replace HD := Lib.hid (HD.out.next hb); (try replace HA := Lib.hid (HA.out.next hb)); (try replace HU := Lib.hid (HU.out.next hb)); (try replace HV := Lib.hid (HV.out.next hb)); clear hb; have HV := Lib.hid (Box.start w4 67 #[.int .i64 0, .int .i64 0, .int .i64 0, .int .i64 0, .int .i64 0, .int .i64 0]); have hb := HV.out.below; replace HD := Lib.hid (HD.out.next hb); (try replace HA := Lib.hid (HA.out.next hb)); (try replace HU := Lib.hid (HU.out.next hb)); clear hb; (try clear c15 c16 c17 d0 d1); have c15 : _ = some (Value.int .i64 R) := HD.out.one.cell 15; have c16 : _ = some (Value.int .u16 B) := HD.out.one.cell 16; have c17 : _ = some (Value.int .i64 n) := HD.out.one.cell 17; have d0 : _ = some (Value.int .i64 R) := HD.out.two.cell 0; have d1 : _ = some (Value.int .u16 B) := HD.out.two.cell 1; (try clear a0 a1); (try have a0 := HA.out.holds.cell 0); (try have a1 := HA.out.holds.cell 1); (try clear u0 u1 u2 u3 u4 u5); (try have u0 := HU.out.holds.cell 0); (try have u1 := HU.out.holds.cell 1); (try have u2 := HU.out.holds.cell 2); (try have u3 := HU.out.holds.cell 3); (try have u4 := HU.out.holds.cell 4); (try have u5 := HU.out.holds.cell 5); (try clear v0 v1 v2 v3 v4 v5); (try have v0 := HV.out.holds.cell 0); (try have v1 := HV.out.holds.cell 1); (try have v2 := HV.out.holds.cell 2); (try have v3 := HV.out.holds.cell 3); (try have v4 := HV.out.holds.cell 4); (try have v5 := HV.out.holds.cell 5))
    | (go_at_call 12; with_reducible refine (HTI.out _ HD.out.below).mono ?_; rintro e w5 ⟨rfl, hb⟩; replace HD := Lib.hid (HD.out.next hb); (try replace HA := Lib.hid (HA.out.next hb)); (try replace HU := Lib.hid (HU.out.next hb)); (try replace HV := Lib.hid (HV.out.next hb)); clear hb; (try clear c15 c16 c17 d0 d1); have c15 : _ = some (Value.int .i64 R) := HD.out.one.cell 15; have c16 : _ = some (Value.int .u16 B) := HD.out.one.cell 16; have c17 : _ = some (Value.int .i64 n) := HD.out.one.cell 17; have d0 : _ = some (Value.int .i64 R) := HD.out.two.cell 0; have d1 : _ = some (Value.int .u16 B) := HD.out.two.cell 1; (try clear a0 a1); (try have a0 := HA.out.holds.cell 0); (try have a1 := HA.out.holds.cell 1); (try clear u0 u1 u2 u3 u4 u5); (try have u0 := HU.out.holds.cell 0); (try have u1 := HU.out.holds.cell 1); (try have u2 := HU.out.holds.cell 2); (try have u3 := HU.out.holds.cell 3); (try have u4 := HU.out.holds.cell 4); (try have u5 := HU.out.holds.cell 5); (try clear v0 v1 v2 v3 v4 v5); (try have v0 := HV.out.holds.cell 0); (try have v1 := HV.out.holds.cell 1); (try have v2 := HV.out.holds.cell 2); (try have v3 := HV.out.holds.cell 3); (try have v4 := HV.out.holds.cell 4); (try have v5 := HV.out.holds.cell 5))
    | (go_at_call 32; with_reducible refine (HRI.out _ HD.out.below).mono ?_; rintro e w6 ⟨rfl, hb⟩; replace HD := Lib.hid (HD.out.next hb); (try replace HA := Lib.hid (HA.out.next hb)); (try replace HU := Lib.hid (HU.out.next hb)); (try replace HV := Lib.hid (HV.out.next hb)); clear hb; (try clear c15 c16 c17 d0 d1); have c15 : _ = some (Value.int .i64 R) := HD.out.one.cell 15; have c16 : _ = some (Value.int .u16 B) := HD.out.one.cell 16; have c17 : _ = some (Value.int .i64 n) := HD.out.one.cell 17; have d0 : _ = some (Value.int .i64 R) := HD.out.two.cell 0; have d1 : _ = some (Value.int .u16 B) := HD.out.two.cell 1; (try clear a0 a1); (try have a0 := HA.out.holds.cell 0); (try have a1 := HA.out.holds.cell 1); (try clear u0 u1 u2 u3 u4 u5); (try have u0 := HU.out.holds.cell 0); (try have u1 := HU.out.holds.cell 1); (try have u2 := HU.out.holds.cell 2); (try have u3 := HU.out.holds.cell 3); (try have u4 := HU.out.holds.cell 4); (try have u5 := HU.out.holds.cell 5); (try clear v0 v1 v2 v3 v4 v5); (try have v0 := HV.out.holds.cell 0); (try have v1 := HV.out.holds.cell 1); (try have v2 := HV.out.holds.cell 2); (try have v3 := HV.out.holds.cell 3); (try have v4 := HV.out.holds.cell 4); (try have v5 := HV.out.holds.cell 5)))
  go_ret
  exact ⟨rfl, HD.out.below⟩
/-- What a table, or none, makes of a second: the same of every world. -/
def Tells (w : World) (tp : Option Addr) : Prop := ∀ T, Fits T → ∃ y m d H M S E : Int, (E = 0 ∨ (¬ E = 0 ∧ y = 0 ∧ m = 0 ∧ d = 0 ∧ H = 0 ∧ M = 0 ∧ S = 0)) ∧
  ∀ W, Below w.heap.size w W → Calls Try.prog 20 #[.pointer tp, .int .i64 T] W fun e w' => e = .returned (.tuple #[.agg #[.int .i64 y, .int .i64 m, .int .i64 d, .int .i64 H, .int .i64 M, .int .i64 S], .int .i64 E]) ∧ Below W.heap.size W w'
theorem Tells.below {w w' : World} {tp : Option Addr} (h : Tells w tp) (hb : Below w.heap.size w w') : Tells w' tp := fun T hT => by
  obtain ⟨y, m, d, H, M, S, E, h1, h2⟩ := h T hT
  exact ⟨y, m, d, H, M, S, E, h1, fun W hW => h2 W (hb.trans (hW.mono hb.size))⟩
theorem tells_nil (w : World) : Tells w none := fun T hT => ⟨0, 0, 0, 0, 0, 0, 2, .inr ⟨by decide, rfl, rfl, rfl, rfl, rfl, rfl⟩, fun W _ => uof_nil T W⟩
theorem tells_tab {w : World} {q : Nat} {st ah en : Int} {L : List (Int × Int)} (g : GTab st ah en L) (h : Rt w w.heap.size q ⟨st, ah, en, L⟩) : Tells w (some ⟨q, 0, none⟩) := fun T hT => by
  by_cases hd : ∃ D, OnDay st ah en L T D
  · obtain ⟨D, hd⟩ := hd
    obtain ⟨y, m, d, H, M, S, hi⟩ := isOf_ex g hd
    exact ⟨y, m, d, H, M, S, 0, .inl rfl, fun W hW => of_hit g hi hT q W ((h.below hW).mono hW.size)⟩
  · exact ⟨0, 0, 0, 0, 0, 0, 11, .inr ⟨by decide, rfl, rfl, rfl, rfl, rfl, rfl⟩, fun W hW => of_miss g hd hT q W ((h.below hW).mono hW.size)⟩
theorem anTai_cases {s : BS} (hi : BInv s) (r b n : Int) : ∃ T K E : Int, anTai s r b n = (T, K, E) ∧ ((E = 0 ∧ Fits T ∧ (0 ≤ K ∧ K ≤ 999)) ∨ (¬ E = 0 ∧ T = 0 ∧ K = 0)) := by
  unfold anTai
  by_cases h0 : anOf s r b = 0
  · rw [if_pos h0]
    by_cases hn : 0 ≤ n ∧ n ≤ 1125899906842624
    · rw [if_pos hn]
      have := hi.g
      have := hi.t
      exact ⟨_, _, _, rfl, .inl ⟨rfl, ⟨by omega, by omega⟩, by omega, by omega⟩⟩
    · rw [if_neg hn]
      exact ⟨_, _, _, rfl, .inr ⟨by decide, rfl, rfl⟩⟩
  · rw [if_neg h0]
    exact ⟨_, _, _, rfl, .inr ⟨h0, rfl, rfl⟩⟩
theorem asked_any (w : World) (x y : Nat) (s : BS) (hx : Bk w x s) (hy : Rb w y s) (hi : BInv s) (tp : Option Addr) (ht : Tells w tp) (kd k f tz r b q ho ti le se go ba g t R B n : Int) :
    Calls Try.prog 17 #[.pointer (some ⟨x, 0, none⟩), .pointer (some ⟨y, 0, none⟩), .pointer tp, .agg #[.int .i64 kd, .int .i64 k, .int .i64 f, .int .i64 tz, .int .i64 r, .int .u16 b, .int .u16 q, .int .i64 ho, .int .i64 ti, .int .i64 le, .int .i64 se, .int .i64 go, .int .i64 ba, .int .i64 g, .int .i64 t, .int .i64 R, .int .u16 B, .int .i64 n]] w fun e w' => e = .returned (.bool true) ∧ Below w.heap.size w w' := by
  obtain ⟨T, K, E, he, hc⟩ := anTai_cases hi R B n
  have HTA := fun W (hW : Below w.heap.size w W) => atai_any W x s (hx.below hW) hi R B n
  have HRT := fun W (hW : Below w.heap.size w W) => rtai_any W y s (hy.below hW) hi R B n
  have HTI := fun W (hW : Below w.heap.size w W) => atim_all W x s (hx.below hW) hi R B n
  have HRI := fun W (hW : Below w.heap.size w W) => rtim_any W y s (hy.below hW) hi R B n
  rw [he] at HTA HRT
  dsimp only at HTA HRT
  rcases hc with ⟨rfl, hT, _⟩ | ⟨hE, rfl, rfl⟩
  · obtain ⟨uy, um, ud, uH, uM, uS, E', h1, h2⟩ := ht T hT
    rcases h1 with rfl | ⟨hE, rfl, rfl, rfl, rfl, rfl, rfl⟩
    · exact asked_hit w _ _ tp kd k f tz r b q ho ti le se go ba g t R B n T K uy um ud uH uM uS _ _ (Lib.hid HTA) (Lib.hid HRT) (Lib.hid (fun W hW => autc_yes W _ tp R B n T K uy um ud uH uM uS (fun W' hW' => HTA W' (hW.trans (hW'.mono hW.size))) (fun W' hW' => h2 W' (hW.trans (hW'.mono hW.size))))) (Lib.hid h2) (Lib.hid HTI) (Lib.hid HRI)
    · exact asked_miss w _ _ tp kd k f tz r b q ho ti le se go ba g t R B n T K E' _ _ hE (Lib.hid HTA) (Lib.hid HRT) (Lib.hid (fun W hW => autc_no W _ tp R B n E' T K hE (fun W' hW' => HTA W' (hW.trans (hW'.mono hW.size))) (fun W' hW' => h2 W' (hW.trans (hW'.mono hW.size))))) (Lib.hid h2) (Lib.hid HTI) (Lib.hid HRI)
  · exact asked_err w _ _ tp kd k f tz r b q ho ti le se go ba g t R B n E _ _ hE (Lib.hid HTA) (Lib.hid HRT) (Lib.hid (fun W hW => autc_err W _ tp R B n E hE (fun W' hW' => HTA W' (hW.trans (hW'.mono hW.size))))) (Lib.hid HTI) (Lib.hid HRI)
end Go.Proofs.Ytmmdkafkfjfgnaa

/- A struct of many cells: loaded from cells that are known one by one, laid into a block of its own. Nothing here speaks of one program. (The walk's own step at an alloc and a store of it costs the kernel twice as much for each cell.) -/
namespace Go.Proofs.Ytmmdkafkfjfgnaa
open Go.RowKit

section
variable {P : Program}
theorem run_loadVar_cells (w : World) (g o : Nat) (ty : TypeId) (cs : List Value) (d : TypeDesc) (hcs : ∀ j v, cs[j]? = some v → w.cell? ⟨g, o + j, none⟩ = some v)
    (hu : P.underlying ty = some d) (hd : (match d with | .struct _ | .array _ _ => true | _ => false) = true) (hi : (P.info? ty).map (·.size) = some cs.length) :
    (loadVar ty ⟨g, o, none⟩).run P w = .ok (.agg cs.toArray) w := by
  have hl : (loadCells ⟨g, o, none⟩ cs.length).run P w = .ok cs.toArray w :=
    run_loadCells_list (P := P) w ⟨g, o, none⟩ cs (fun j v hv => by
      have hadd : (⟨g, o, none⟩ : Addr).add j = ⟨g, o + j, none⟩ := by unfold Addr.add; split <;> simp_all
      rw [hadd]
      exact hcs j v hv)
  cases hq : P.info? ty with
  | none => simp [hq] at hi
  | some i =>
    have hs : i.size = cs.length := by simpa [hq] using hi
    have hagg : (isAgg ty).run P w = .ok true w := by
      unfold isAgg
      rw [Sem.run_bind, run_underlying hu w]
      cases d <;> simp_all
    simp [loadVar, Sem.run_bind, hagg, sizeOf, typeInfo, hq, hs, hl]
theorem wpList_load_cells {ops : Array Oper} {rest : List Oper} {o : Oper} {a : Act} {w : World} {Q : Exit → Act → World → Prop} (hgd : o.guard = none) (ty : TypeId) (x : Operand) (ho : o.op = .load ty x)
    (g off : Nat) (hx : a.eval x = .pointer (some ⟨g, off, none⟩)) (cs : List Value) (d : TypeDesc) (hcs : ∀ j v, cs[j]? = some v → w.cell? ⟨g, off + j, none⟩ = some v)
    (hu : P.underlying ty = some d) (hd : (match d with | .struct _ | .array _ _ => true | _ => false) = true) (hi : (P.info? ty).map (·.size) = some cs.length)
    (h : wpList P ops Q rest (a.put o.dst (.agg cs.toArray)) w) : wpList P ops Q (o :: rest) a w :=
  wpList_plain hgd fun _ hK => by
    unfold Oper.wp execOp
    simp only [ho, hx, Instr.loadAt, Instr.sureAddr, Sem.run_bind, Sem.run_pure, Result.andThen_ok, run_loadVar_cells w g off ty cs d hcs hu hd hi]
    exact hK _ _ h
end
/-- A block made, and laid whole. -/
theorem elem_new (w : World) (t : TypeId) (zs vs : List Value) : Below w.heap.size w ((w.alloc (.cells zs.toArray t)).setRow w.heap.size vs.toArray) ∧ Holds ((w.alloc (.cells zs.toArray t)).setRow w.heap.size vs.toArray) w.heap.size t vs.toArray :=
  ⟨Below.chg (below_alloc _ _) (Chg.of_grown (grown_row _ w.heap.size vs.toArray) (S := fun k => k = w.heap.size) (fun k e => by cases e; rfl)) (by simp) (fun k e => by omega), (Holds.new _ _ _).row _⟩
/-- A part of a list of cells. -/
theorem part_get (pre mid post : List Value) (j : Nat) (v : Value) (h : mid[j]? = some v) : (pre ++ (mid ++ post)).toArray[pre.length + j]? = some v := by
  have hj : j < mid.length := (List.getElem?_eq_some_iff.1 h).1
  rw [List.getElem?_toArray, get_mid _ _ _ _ hj]
  exact h
end Go.Proofs.Ytmmdkafkfjfgnaa

/- Stage 23: what the walk of AnchorDoes carries. -/
namespace Go.Proofs.Ytmmdkafkfjfgnaa
open Go.RowKit
set_option linter.unusedVariables false
set_option linter.unusedSimpArgs false

/-- A struct that is known whole, loaded as one step of a region that draws its order. -/
theorem wp_load_at {P : Program} {o : Oper} {a : Act} {w : World} {K : Act → World → Prop} {Q : Exit → Act → World → Prop} (ty : TypeId) (x : Operand) (ho : o.op = .load ty x)
    (g : Nat) (hx : a.eval x = .pointer (some ⟨g, 0, none⟩)) (t : TypeId) (cs : List Value) (d : TypeDesc) (hg : Holds w g t cs.toArray)
    (hu : P.underlying ty = some d) (hd : (match d with | .struct _ | .array _ _ => true | _ => false) = true) (hi : (P.info? ty).map (·.size) = some cs.length)
    (h : K (a.put o.dst (.agg cs.toArray)) w) : Oper.wp P o a w K Q := by
  unfold Oper.wp execOp
  simp only [ho, hx, Instr.loadAt, Instr.sureAddr, Sem.run_bind, Sem.run_pure, Result.andThen_ok, run_loadVar_at w g 0 t ty cs.toArray cs d hg (fun j v hv => by simpa using hv) hu hd hi]
  exact h
section
variable {w W W' : World} {T : TypeId} {C : Array Value} {x y z : Nat} {s s' : BS}
theorem Ad.keep (h : Ad w W x y s) (hz : Holds W z T C) (hT : 33 ≠ T) (hg : BGoes x s' W W') : Holds W' z T C := h.one.other hz hT hg
theorem Ah.keep (h : Ah w W x y s s') (hz : Holds W z T C) (hT : 56 ≠ T) {u : BS} (hg : RGoes y u W W') : Holds W' z T C := hz.chg hg.2 (fun e => by subst e; exact absurd rfl (Holds.apart h.doc hz hT))
theorem Ad.far (h : Ad w W x y s) (hz : Holds W z T C) (hT : 33 ≠ T) (hU : 56 ≠ T) (hw : w.heap.size ≤ z) (i : Nat) (v : Value) : Ad w (W.setCell ⟨z, i, none⟩ v) x y s := ⟨h.one.far hw (Holds.apart h.one.book hz hT) i v, Holds.far h.doc (Holds.apart h.doc hz hU) v, h.newd, h.inv⟩
theorem Ad.start (h : Ab w W x .none) : Ad w (W.alloc (.cells (pl6 0 0 0 0 0 0 0).toArray 56)) x W.heap.size .none := ⟨h.more (below_alloc _ _), Holds.new _ _ _, h.below.size, .none⟩
/-- Of kind 6, where there is one. -/
theorem kind_is (s : BS) : (kindV s == 6) = s.has := by unfold kindV; cases s.has <;> rfl
theorem made_tells {st ah en : Int} {L : List (Int × Int)} {e : Ending} (h : MadeQ st ah en L W e W') : ∃ tp, e = .returned (.pointer tp) ∧ Tells W' tp ∧ Below W.heap.size W W' := by
  obtain ⟨⟨h0, q, he, hr⟩ | ⟨_, he⟩, hb⟩ := h
  · exact ⟨_, he, tells_tab (gtab_of h0) hr, hb⟩
  · exact ⟨_, he, tells_nil _, hb⟩
end
end Go.Proofs.Ytmmdkafkfjfgnaa
