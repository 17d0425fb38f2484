/- The document's list of entries: Add, Hops. -/
import Derived.Test.YtfeemjkjgbjejaaTbB
import Derived.Test.YtfeemjkjgbjejaaTbD
import Derived.BigQuiet
import Derived.Lib.SlFresh
namespace Go.Proofs.Ytfeemjkjgbjejaa
open Go.RowKit
set_option linter.unusedVariables false
set_option linter.unusedSimpArgs false

/-- A slice of entries, at blocks from B on. -/
structure TRow (w : World) (B : Nat) (A : Option Addr) (n c : Nat) (L : List Ent) : Prop where
  len : L.length = n
  cap_le : n ≤ c
  max : c ≤ maxLen
  nil : A = none → c = 0
  cell : 0 < n → ∃ b off, A = some ⟨b, off, none⟩ ∧ B ≤ b ∧ b < w.heap.size ∧ ∀ j v, (trs L)[j]? = some v → w.cell? ⟨b, off + j, none⟩ = some v
section
variable {w w' : World} {B : Nat} {A : Option Addr} {n c : Nat} {L : List Ent}
theorem trow_none (w : World) (B : Nat) : TRow w B none 0 0 [] := ⟨rfl, Nat.le_refl _, Nat.zero_le _, fun _ => rfl, fun h => absurd h (Nat.lt_irrefl _)⟩
theorem TRow.chg {S : Nat → Prop} (h : TRow w B A n c L) (hc : Chg S w w') (hS : ∀ k, B ≤ k → ¬ S k) : TRow w' B A n c L :=
  ⟨h.len, h.cap_le, h.max, h.nil, fun hn => by
    obtain ⟨b, off, e, hB, hb, hh⟩ := h.cell hn
    exact ⟨b, off, e, hB, Nat.lt_of_lt_of_le hb hc.size, fun j v hv => (hc.cell hb (hS b hB)).trans (hh j v hv)⟩⟩
theorem TRow.below (h : TRow w B A n c L) (hb : Below w.heap.size w w') : TRow w' B A n c L := h.chg (Chg.of_below (fun _ => False) hb) (fun _ _ h => h)
theorem TRow.mono {B' : Nat} (h : TRow w B A n c L) (hB : B' ≤ B) : TRow w B' A n c L :=
  ⟨h.len, h.cap_le, h.max, h.nil, fun hn => by
    obtain ⟨b, off, e, hb, r⟩ := h.cell hn
    exact ⟨b, off, e, Nat.le_trans hB hb, r⟩⟩
theorem TRow.at (h : TRow w B A n c L) {i : Nat} {e : Ent} (hi : L[i]? = some e) :
    ∃ b off, A = some ⟨b, off, none⟩ ∧ w.cell? ⟨b, off + i * 3, none⟩ = some (.int .i64 e.1) ∧ w.cell? ⟨b, off + i * 3 + 1, none⟩ = some (.int .i64 e.2.1) ∧ w.cell? ⟨b, off + i * 3 + 2, none⟩ = some (.int .i64 e.2.2) := by
  have hlt := (List.getElem?_eq_some_iff.1 hi).1
  obtain ⟨b, off, e1, _, _, hh⟩ := h.cell (by rw [h.len] at hlt; omega)
  obtain ⟨g0, g1, g2⟩ := trs_get L i e hi
  exact ⟨b, off, e1, hh _ _ g0, by rw [Nat.add_assoc]; exact hh _ _ g1, by rw [Nat.add_assoc]; exact hh _ _ g2⟩
theorem TRow.of_own {e : TypeId} (h : w.ownsRow B e 3 (.slice A n c) n (trs L)) : TRow w B A n c L := by
  have hl := h.1
  rw [trs_len] at hl
  rcases own_open h with ⟨e1, hn, _⟩ | ⟨g, cap, cur, e1, hB, hH, hnc, hcm, hcl, hct⟩
  · simp only [Value.slice.injEq] at e1
    obtain ⟨rfl, rfl, rfl⟩ := e1
    exact ⟨by omega, Nat.le_refl _, Nat.zero_le _, fun _ => rfl, fun h => absurd h (Nat.lt_irrefl _)⟩
  · simp only [Value.slice.injEq, true_and] at e1
    obtain ⟨rfl, rfl⟩ := e1
    refine ⟨by omega, hnc, hcm, (fun h => by cases h), fun hn => ⟨g, 0, rfl, hB, hH.lt, fun j v hv => ?_⟩⟩
    have hj := (List.getElem?_eq_some_iff.1 hv).1
    rw [Nat.zero_add, hH.cell, List.getElem?_toArray, ← hv, ← hct, List.getElem?_take, if_pos (by rw [trs_len] at hj; omega)]
/-- The first entry cut off. -/
theorem TRow.tail {g : Nat} (h : TRow w B (some ⟨g, 0, none⟩) n c L) (hn : 1 < n) : TRow w B (some ⟨g, 3, none⟩) (n - 1) (c - 1) L.tail := by
  have := h.cap_le
  have := h.max
  refine ⟨by rw [List.length_tail, h.len], by omega, by omega, (fun h => by cases h), fun _ => ?_⟩
  obtain ⟨b, off, e, hB, hb, hh⟩ := h.cell (by omega)
  simp only [Option.some.injEq, Addr.mk.injEq, and_true] at e
  obtain ⟨rfl, rfl⟩ := e
  refine ⟨g, 3, rfl, hB, hb, fun j v hv => ?_⟩
  have := hh (3 + j) v (by
    rw [← hv, ← List.drop_one, ← trs_drop, List.getElem?_drop])
  simpa using this
end
/-- A list appended to a row of the call's own. -/
theorem run_append_tr {P : Program} (w : World) (B B2 : Nat) (t ty e : TypeId) (i : TypeInfo) (z : Value) (ht : P.underlying t = some (.slice e)) (hi : P.info? e = some i) (hz : i.zero = some z)
    (hsize : i.size = 3) (hby : i.bytes = 24) (hzs : z.cells.size = 3) (v : Value) (n : Nat) (xs : List Value) (hown : w.ownsRow B e 3 v n xs)
    (A : Option Addr) (m c : Nat) (L : List Ent) (hr : TRow w B2 A m c L) (hm : n + m ≤ 1000) (hbase : B ≤ w.heap.size) :
    ∃ A' c' w', (Builtin.append_ #[t, t] ty #[v, .slice A m c]).run P w = .ok (.slice A' (n + m) c') w' ∧ w'.ownsRow B e 3 (.slice A' (n + m) c') (n + m) (xs ++ trs L) ∧ w.grownBy w' v.ownBlock ∧
      ∀ q, (Value.slice A' (n + m) c').ownBlock = some q → v.ownBlock = some q ∨ w.heap.size ≤ q := by
  rcases A with _ | ad
  · have hc := hr.nil rfl
    have hcl := hr.cap_le
    obtain rfl : m = 0 := by omega
    have hn : L = [] := List.eq_nil_of_length_eq_zero hr.len
    subst hn
    obtain ⟨A', c', rfl⟩ := own_shape hown
    refine ⟨A', c', w, ?_, by simpa [trs_nil] using hown, ⟨rfl, rfl, rfl, Nat.le_refl _, fun _ _ _ => rfl⟩, fun q hq => .inl hq⟩
    rw [Nat.add_zero]
    exact run_append_owned_none (P := P) w B t ty e i 3 ht hi _ n xs hown
  · refine run_append_rowK (P := P) w B t ty e i z 3 24 ht hi hz hsize hby hzs (by omega) v n xs hown ad m c (trs L) (by rw [trs_len, hr.len]) (fun j u hj => ?_) (trs_one L) (by unfold maxLen; omega) (by omega) hbase
    have hjl := (List.getElem?_eq_some_iff.1 hj).1
    rw [trs_len, hr.len] at hjl
    obtain ⟨b, off, e1, _, _, hh⟩ := hr.cell (by omega)
    simp only [Option.some.injEq] at e1
    subst e1
    rw [Go.WideShapes.add_plain]
    exact hh j u hj
theorem run_max3 (a b : Int) (w : World) : (Builtin.max_ #[3, 3] 3 #[.int .i64 a, .int .i64 b]).run Try.prog w = .ok (.int .i64 (if a < b then b else a)) w := by
  simp [Builtin.max_, Builtin.max2, go_sem]
theorem rhops_any (w : World) (B : Nat) (A : Option Addr) (n c : Nat) (L : List Ent) (h : TRow w B A n c L) (hn : n ≤ 1000) :
    Calls Try.prog 17 #[.slice A n c] w fun e w' => e = .returned (.int .i64 (mostL L)) ∧ Below w.heap.size w w' := by
  have H := Lib.hid h
  have HL := Lib.hid h.len
  have HMx := Lib.hid (fun a b w => run_max3 a b w)
  clear h
  go_enter Try.func17, Try.ntmps17
  go_wp2
  go_loopw [3, 8] (fun x i wr => ∃ k : Nat, k ≤ n ∧ i = .int .i64 (k : Int) ∧ x = .int .i64 (mostL (L.take k)) ∧ Below w.heap.size w wr) (fun _ i _ => n - (intOf i).toNat)
  case atStart => exact ⟨0, Nat.zero_le _, rfl, rfl, Below.refl _ _⟩
  case round =>
    obtain ⟨k, hk, rfl, rfl, hb⟩ := hrel
    by_cases hlt : k < n
    · obtain ⟨x, hx⟩ : ∃ x, L[k]? = some x := ⟨_, List.getElem?_eq_getElem (by rw [HL.out]; exact hlt)⟩
      obtain ⟨b, off, rfl, q0, q1, q2⟩ := (H.out.below hb).at hx
      have hnext : L.take (k + 1) = L.take k ++ [x] := by
        have hl := (List.getElem?_eq_some_iff.1 hx).1
        rw [List.take_succ_eq_append_getElem hl]
        rw [List.getElem?_eq_getElem hl] at hx
        cases hx
        rfl
      obtain ⟨a, b2, c2⟩ := x
      dsimp only at q0 q1 q2
      have hmx := HMx.out (mostL (L.take k)) c2
      have hsn := mostL_snoc (L.take k) (a, b2, c2)
      dsimp only at hsn
      rw [← hsn, ← hnext] at hmx
      obtain ⟨M, hM⟩ : ∃ M, mostL (L.take (k + 1)) = M := ⟨_, rfl⟩
      obtain ⟨M0, hM0⟩ : ∃ M, mostL (L.take k) = M := ⟨_, rfl⟩
      simp only [hM, hM0] at hmx
      have HM := Lib.hid hM
      have HB := Lib.hid (hb.alloc hb.size (.cells #[.int .i64 a, .int .i64 b2, .int .i64 c2] 41))
      simp only [hM0]
      clear hsn hnext hM hM0 hb hx
      go_wp2
      go_roundw
      case rel => exact ⟨k + 1, by omega, by go_num, by rw [HM.out], HB.out⟩
      case measure => simp [intOf]; omega
    · have hkl : L.take k = L := List.take_of_length_le (by rw [HL.out]; omega)
      rw [hkl]
      clear hkl
      go_wp2
      go_ret
      exact ⟨rfl, hb⟩
end Go.Proofs.Ytfeemjkjgbjejaa
