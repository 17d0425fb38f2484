/- A slice of entries (structs of three integers), read and appended to; one that came in. Nothing here speaks of one program. -/
import Derived.Test.YtkibpialacnlhaaTbM
import Derived.Test.YtkibpialacnlhaaFlat
import Derived.BigQuiet
import Derived.Lib.SlFresh
namespace Go.Proofs.Ytkibpialacnlhaa
open Go.RowKit
set_option linter.unusedVariables false
set_option linter.unusedSimpArgs false

/-- A slice of entries, at blocks from B on. -/
structure TRow (w : World) (B : Nat) (A : Option Addr) (n c : Nat) (L : List Ent) : Prop where
  len : L.length = n
  cap_le : n ≤ c
  max : c ≤ maxLen
  nil : A = none → c = 0
  cell : 0 < n → ∃ b off, A = some ⟨b, off, none⟩ ∧ B ≤ b ∧ b < w.heap.size ∧ ∀ j v, (trs L)[j]? = some v → w.cell? ⟨b, off + j, none⟩ = some v
section
variable {w w' : World} {B : Nat} {A : Option Addr} {n c : Nat} {L : List Ent}
theorem trow_none (w : World) (B : Nat) : TRow w B none 0 0 [] := ⟨rfl, Nat.le_refl _, Nat.zero_le _, fun _ => rfl, fun h => absurd h (Nat.lt_irrefl _)⟩
theorem TRow.chg {S : Nat → Prop} (h : TRow w B A n c L) (hc : Chg S w w') (hS : ∀ k, B ≤ k → ¬ S k) : TRow w' B A n c L :=
  ⟨h.len, h.cap_le, h.max, h.nil, fun hn => by
    obtain ⟨b, off, e, hB, hb, hh⟩ := h.cell hn
    exact ⟨b, off, e, hB, Nat.lt_of_lt_of_le hb hc.size, fun j v hv => (hc.cell hb (hS b hB)).trans (hh j v hv)⟩⟩
theorem TRow.below (h : TRow w B A n c L) (hb : Below w.heap.size w w') : TRow w' B A n c L := h.chg (Chg.of_below (fun _ => False) hb) (fun _ _ h => h)
theorem TRow.mono {B' : Nat} (h : TRow w B A n c L) (hB : B' ≤ B) : TRow w B' A n c L :=
  ⟨h.len, h.cap_le, h.max, h.nil, fun hn => by
    obtain ⟨b, off, e, hb, r⟩ := h.cell hn
    exact ⟨b, off, e, Nat.le_trans hB hb, r⟩⟩
theorem TRow.at (h : TRow w B A n c L) {i : Nat} {e : Ent} (hi : L[i]? = some e) :
    ∃ b off, A = some ⟨b, off, none⟩ ∧ w.cell? ⟨b, off + i * 3, none⟩ = some (.int .i64 e.1) ∧ w.cell? ⟨b, off + i * 3 + 1, none⟩ = some (.int .i64 e.2.1) ∧ w.cell? ⟨b, off + i * 3 + 2, none⟩ = some (.int .i64 e.2.2) := by
  have hlt := (List.getElem?_eq_some_iff.1 hi).1
  obtain ⟨b, off, e1, _, _, hh⟩ := h.cell (by rw [h.len] at hlt; omega)
  obtain ⟨g0, g1, g2⟩ := trs_get L i e hi
  exact ⟨b, off, e1, hh _ _ g0, by rw [Nat.add_assoc]; exact hh _ _ g1, by rw [Nat.add_assoc]; exact hh _ _ g2⟩
theorem TRow.of_own {e : TypeId} (h : w.ownsRow B e 3 (.slice A n c) n (trs L)) : TRow w B A n c L := by
  have hl := h.1
  rw [trs_len] at hl
  rcases own_open h with ⟨e1, hn, _⟩ | ⟨g, cap, cur, e1, hB, hH, hnc, hcm, hcl, hct⟩
  · simp only [Value.slice.injEq] at e1
    obtain ⟨rfl, rfl, rfl⟩ := e1
    exact ⟨by omega, Nat.le_refl _, Nat.zero_le _, fun _ => rfl, fun h => absurd h (Nat.lt_irrefl _)⟩
  · simp only [Value.slice.injEq, true_and] at e1
    obtain ⟨rfl, rfl⟩ := e1
    refine ⟨by omega, hnc, hcm, (fun h => by cases h), fun hn => ⟨g, 0, rfl, hB, hH.lt, fun j v hv => ?_⟩⟩
    have hj := (List.getElem?_eq_some_iff.1 hv).1
    rw [Nat.zero_add, hH.cell, List.getElem?_toArray, ← hv, ← hct, List.getElem?_take, if_pos (by rw [trs_len] at hj; omega)]
/-- The first entry cut off. -/
theorem TRow.tail {g : Nat} (h : TRow w B (some ⟨g, 0, none⟩) n c L) (hn : 1 < n) : TRow w B (some ⟨g, 3, none⟩) (n - 1) (c - 1) L.tail := by
  have := h.cap_le
  have := h.max
  refine ⟨by rw [List.length_tail, h.len], by omega, by omega, (fun h => by cases h), fun _ => ?_⟩
  obtain ⟨b, off, e, hB, hb, hh⟩ := h.cell (by omega)
  simp only [Option.some.injEq, Addr.mk.injEq, and_true] at e
  obtain ⟨rfl, rfl⟩ := e
  refine ⟨g, 3, rfl, hB, hb, fun j v hv => ?_⟩
  have := hh (3 + j) v (by
    rw [← hv, ← List.drop_one, ← trs_drop, List.getElem?_drop])
  simpa using this
end
/-- A list appended to a row of the call's own. -/
theorem run_append_tr {P : Program} (w : World) (B B2 : Nat) (t ty e : TypeId) (i : TypeInfo) (z : Value) (ht : P.underlying t = some (.slice e)) (hi : P.info? e = some i) (hz : i.zero = some z)
    (hsize : i.size = 3) (hby : i.bytes = 24) (hzs : z.cells.size = 3) (v : Value) (n : Nat) (xs : List Value) (hown : w.ownsRow B e 3 v n xs)
    (A : Option Addr) (m c : Nat) (L : List Ent) (hr : TRow w B2 A m c L) (hm : n + m ≤ 1000) (hbase : B ≤ w.heap.size) :
    ∃ A' c' w', (Builtin.append_ #[t, t] ty #[v, .slice A m c]).run P w = .ok (.slice A' (n + m) c') w' ∧ w'.ownsRow B e 3 (.slice A' (n + m) c') (n + m) (xs ++ trs L) ∧ w.grownBy w' v.ownBlock ∧
      ∀ q, (Value.slice A' (n + m) c').ownBlock = some q → v.ownBlock = some q ∨ w.heap.size ≤ q := by
  rcases A with _ | ad
  · have hc := hr.nil rfl
    have hcl := hr.cap_le
    obtain rfl : m = 0 := by omega
    have hn : L = [] := List.eq_nil_of_length_eq_zero hr.len
    subst hn
    obtain ⟨A', c', rfl⟩ := own_shape hown
    refine ⟨A', c', w, ?_, by simpa [trs_nil] using hown, ⟨rfl, rfl, rfl, Nat.le_refl _, fun _ _ _ => rfl⟩, fun q hq => .inl hq⟩
    rw [Nat.add_zero]
    exact run_append_owned_none (P := P) w B t ty e i 3 ht hi _ n xs hown
  · refine run_append_rowK (P := P) w B t ty e i z 3 24 ht hi hz hsize hby hzs (by omega) v n xs hown ad m c (trs L) (by rw [trs_len, hr.len]) (fun j u hj => ?_) (trs_one L) (by unfold maxLen; omega) (by omega) hbase
    have hjl := (List.getElem?_eq_some_iff.1 hj).1
    rw [trs_len, hr.len] at hjl
    obtain ⟨b, off, e1, _, _, hh⟩ := hr.cell (by omega)
    simp only [Option.some.injEq] at e1
    subst e1
    rw [Go.WideShapes.add_plain]
    exact hh j u hj
/-- A law's slice of entries. -/
theorem fit3 {W : World} {vs : List Value} (h : Fit W [.int .i64, .int .i64, .int .i64] vs) : ∃ e : Ent, vs = [.int .i64 e.1, .int .i64 e.2.1, .int .i64 e.2.2] ∧ Fits e.1 ∧ Fits e.2.1 ∧ Fits e.2.2 := by
  match vs, h.length, h with
  | [y0, y1, y2], _, h =>
    obtain ⟨⟨x0, rfl, h0⟩, ⟨x1, rfl, h1⟩, ⟨x2, rfl, h2⟩, _⟩ := h
    exact ⟨(x0, x1, x2), rfl, fits_wf h0, fits_wf h1, fits_wf h2⟩
theorem trs_at : ∀ (L : List Ent) (j : Nat), (trs L)[j]? = (L[j / 3]?).bind fun e => [Value.int .i64 e.1, .int .i64 e.2.1, .int .i64 e.2.2][j % 3]?
  | [], j => by simp [trs_nil]
  | e :: L, 0 => rfl
  | e :: L, 1 => rfl
  | e :: L, 2 => rfl
  | e :: L, j + 3 => by
    rw [trs_cons]
    simp only [List.getElem?_cons_succ]
    rw [trs_at L j, show (j + 3) / 3 = j / 3 + 1 by omega, show (j + 3) % 3 = j % 3 by omega, List.getElem?_cons_succ]
theorem trow_of_flat {W : World} {A : Option Addr} {n c : Nat} {f : Nat → List Value} (h : FlatRow W [.int .i64, .int .i64, .int .i64] A n c f) :
    ∃ L : List Ent, TRow W 0 A n c L ∧ ∀ e ∈ L, Fits e.1 ∧ Fits e.2.1 ∧ Fits e.2.2 := by
  have hex : ∀ i, ∃ e : Ent, i < n → f i = [.int .i64 e.1, .int .i64 e.2.1, .int .i64 e.2.2] ∧ Fits e.1 ∧ Fits e.2.1 ∧ Fits e.2.2 := fun i => by
    by_cases hi : i < n
    · obtain ⟨e, h1, h2⟩ := fit3 (h.fit i hi)
      exact ⟨e, fun _ => ⟨h1, h2⟩⟩
    · exact ⟨(0, 0, 0), fun h => absurd h hi⟩
  obtain ⟨g, hg⟩ := Classical.axiomOfChoice hex
  refine ⟨(List.range n).map g, ⟨by simp, h.cap_le, h.max, h.nil, fun hn => ?_⟩, ?_⟩
  · obtain ⟨b, off, e, hb, hc⟩ := h.cell hn
    refine ⟨b, off, e, Nat.zero_le _, hb, fun j v hv => ?_⟩
    rw [trs_at] at hv
    by_cases hj : j / 3 < n
    · have hr : ((List.range n).map g)[j / 3]? = some (g (j / 3)) := by simp [hj]
      rw [hr] at hv
      have h1 := hc (j / 3) hj (j % 3) (by show j % 3 < 3; omega)
      have h2 : j / 3 * [FK.int .i64, FK.int .i64, FK.int .i64].length + j % 3 = j := by show j / 3 * 3 + j % 3 = j; omega
      rw [h2, (hg _ hj).1] at h1
      rw [h1]
      exact hv
    · have hr : ((List.range n).map g)[j / 3]? = none := by rw [List.getElem?_eq_none]; simp; omega
      rw [hr] at hv
      cases hv
  · intro e he
    simp only [List.mem_map, List.mem_range] at he
    obtain ⟨i, hi, rfl⟩ := he
    exact (hg i hi).2
section
variable {P : Program} {w : World}
/-- In a walk: one entry (just laid as a slice of one) is appended to a row of the call's own. -/
theorem wpList_push_ent {ops : Array Oper} {rest : List Oper} {o : Oper} {a : Act} {Q : Exit → Act → World → Prop} (hgd : o.guard = none) (s x : Operand) (t : TypeId)
    (ho : o.op = .call { callee := .builtin .append, args := #[s, x], argTypes := #[t, t] })
    (B : Nat) (e : TypeId) (ht : P.underlying t = some (.slice e)) (hi : (P.info? e).map (fun i => (i.zero, i.size, i.bytes)) = some (some (.agg #[.int .i64 0, .int .i64 0, .int .i64 0]), 3, 24))
    (A : Option Addr) (n c : Nat) (L : List Ent) (hs : a.eval s = .slice A n c) (hown : w.ownsRow B e 3 (.slice A n c) n (trs L))
    (g : Nat) (te : TypeId) (y : Ent) (hx : a.eval x = .slice (some ⟨g, 0, none⟩) 1 1) (hH : Holds w g te #[.int .i64 y.1, .int .i64 y.2.1, .int .i64 y.2.2]) (hn : n ≤ 1000) (hbase : B ≤ w.heap.size)
    (h : ∀ A' c' w', w'.ownsRow B e 3 (.slice A' (n + 1) c') (n + 1) (trs (L ++ [y])) → Below B w w' → wpList P ops Q rest (a.put o.dst (.slice A' (n + 1) c')) w') :
    wpList P ops Q (o :: rest) a w := by
  obtain ⟨i, hi0, hzz⟩ := Option.map_eq_some_iff.1 hi
  simp only [Prod.mk.injEq] at hzz
  obtain ⟨hz, hsz, hby⟩ := hzz
  refine wpList_append_rowK w hgd s x t ho B e i _ 3 24 ht hi0 hz hsz hby rfl (by decide) _ n (trs L) hs hown ⟨g, 0, none⟩ 1 1 (trs [y]) hx rfl (fun j u hj => ?_) (trs_one _) (by unfold maxLen; omega) (by omega) hbase ?_
  · rw [Go.WideShapes.add_plain, Nat.zero_add, hH.cell]
    rw [List.getElem?_toArray]
    exact hj
  · intro A' c' w' h1 h2 _
    rw [← trs_append] at h1
    exact h A' c' w' h1 ((Below.refl _ _).grown h2 hbase (fun k hk => (hown.lt k hk).1))
end
end Go.Proofs.Ytkibpialacnlhaa
