/- Rows of two integers each, and rows of texts, as cells: read, appended to; those that came in. Nothing here speaks of one program. -/
import Derived.Test.YtjifnnloncanpaaTbM
import Derived.Test.YtjifnnloncanpaaFlat
namespace Go.Proofs.Ytjifnnloncanpaa
open Go.RowKit
set_option linter.unusedVariables false
set_option linter.unusedSimpArgs false

/-- The cells of pairs, one behind the other. -/
def prs (L : List (Int × Int)) : List Value := L.flatMap fun e => [.int .i64 e.1, .int .i64 e.2]
theorem prs_nil : prs [] = [] := rfl
theorem prs_cons (e : Int × Int) (L : List (Int × Int)) : prs (e :: L) = .int .i64 e.1 :: .int .i64 e.2 :: prs L := rfl
theorem prs_append (L M : List (Int × Int)) : prs (L ++ M) = prs L ++ prs M := by simp [prs]
theorem prs_len : ∀ L : List (Int × Int), (prs L).length = L.length * 2
  | [] => rfl
  | e :: L => by rw [prs_cons]; simp [prs_len L]; omega
theorem prs_get : ∀ (L : List (Int × Int)) (i : Nat) (e : Int × Int), L[i]? = some e → (prs L)[i * 2]? = some (.int .i64 e.1) ∧ (prs L)[i * 2 + 1]? = some (.int .i64 e.2)
  | x :: L, 0, e, h => by
    simp only [List.getElem?_cons_zero, Option.some.injEq] at h
    subst h
    exact ⟨rfl, rfl⟩
  | x :: L, i + 1, e, h => by
    have := prs_get L i e (by simpa using h)
    rw [prs_cons, show (i + 1) * 2 = i * 2 + 1 + 1 by omega]
    simpa using this
theorem prs_one (L : List (Int × Int)) : ∀ v ∈ prs L, v.oneCell' = true := by
  intro v hv
  simp [prs] at hv
  obtain ⟨a, b, _, rfl | rfl⟩ := hv <;> rfl
theorem prs_at : ∀ (L : List (Int × Int)) (j : Nat), (prs L)[j]? = (L[j / 2]?).bind fun e => [Value.int .i64 e.1, .int .i64 e.2][j % 2]?
  | [], j => by simp [prs_nil]
  | e :: L, 0 => rfl
  | e :: L, 1 => rfl
  | e :: L, j + 2 => by
    rw [prs_cons]
    simp only [List.getElem?_cons_succ]
    rw [prs_at L j, show (j + 2) / 2 = j / 2 + 1 by omega, show (j + 2) % 2 = j % 2 by omega, List.getElem?_cons_succ]
theorem own_keepK {w w' : World} {B : Nat} {e : TypeId} {v : Value} {m k : Nat} {xs : List Value} (h : w.ownsRow B e k v m xs) (hb : Below w.heap.size w w') : w'.ownsRow B e k v m xs :=
  own_chg h (Chg.of_below (fun _ => False) hb) (fun _ _ h => h)
theorem own_monoK {w : World} {B B' : Nat} {e : TypeId} {v : Value} {m k : Nat} {xs : List Value} (h : w.ownsRow B e k v m xs) (hB : B' ≤ B) : w.ownsRow B' e k v m xs :=
  own_up h (fun q hq => Nat.le_trans hB (h.lt q hq).1)

/-- A slice of pairs, read. -/
structure PRow (w : World) (A : Option Addr) (n c : Nat) (L : List (Int × Int)) : Prop where
  len : L.length = n
  cap_le : n ≤ c
  max : c ≤ maxLen
  nil : A = none → c = 0
  cell : 0 < n → ∃ b off, A = some ⟨b, off, none⟩ ∧ b < w.heap.size ∧ ∀ j v, (prs L)[j]? = some v → w.cell? ⟨b, off + j, none⟩ = some v
section
variable {w w' : World} {B : Nat} {A : Option Addr} {n c : Nat} {L : List (Int × Int)}
theorem prow_none (w : World) : PRow w none 0 0 [] := ⟨rfl, Nat.le_refl _, Nat.zero_le _, fun _ => rfl, fun h => absurd h (Nat.lt_irrefl _)⟩
theorem PRow.below (h : PRow w A n c L) (hb : Below w.heap.size w w') : PRow w' A n c L :=
  ⟨h.len, h.cap_le, h.max, h.nil, fun hn => by
    obtain ⟨b, off, e, hl, hh⟩ := h.cell hn
    exact ⟨b, off, e, Nat.lt_of_lt_of_le hl hb.size, fun j v hv => (hb.cell (p := ⟨b, off + j, none⟩) hl).trans (hh j v hv)⟩⟩
theorem PRow.at (h : PRow w A n c L) {i : Nat} {x y : Int} (hi : L[i]? = some (x, y)) :
    ∃ b off, A = some ⟨b, off, none⟩ ∧ b < w.heap.size ∧ w.cell? ⟨b, off + i * 2, none⟩ = some (.int .i64 x) ∧ w.cell? ⟨b, off + i * 2 + 1, none⟩ = some (.int .i64 y) := by
  have hlt := (List.getElem?_eq_some_iff.1 hi).1
  obtain ⟨b, off, e1, hl, hh⟩ := h.cell (by rw [h.len] at hlt; omega)
  obtain ⟨g0, g1⟩ := prs_get L i _ hi
  exact ⟨b, off, e1, hl, hh _ _ g0, by rw [Nat.add_assoc]; exact hh _ _ g1⟩
theorem PRow.of_own {e : TypeId} (h : w.ownsRow B e 2 (.slice A n c) n (prs L)) : PRow w A n c L := by
  have hl := h.1
  rw [prs_len] at hl
  rcases own_open h with ⟨e1, hn, _⟩ | ⟨g, cap, cur, e1, hB, hH, hnc, hcm, hcl, hct⟩
  · simp only [Value.slice.injEq] at e1
    obtain ⟨rfl, rfl, rfl⟩ := e1
    exact ⟨by omega, Nat.le_refl _, Nat.zero_le _, fun _ => rfl, fun h => absurd h (Nat.lt_irrefl _)⟩
  · simp only [Value.slice.injEq, true_and] at e1
    obtain ⟨rfl, rfl⟩ := e1
    refine ⟨by omega, hnc, hcm, (fun h => by cases h), fun hn => ⟨g, 0, rfl, hH.lt, fun j v hv => ?_⟩⟩
    have hj := (List.getElem?_eq_some_iff.1 hv).1
    rw [Nat.zero_add, hH.cell, List.getElem?_toArray, ← hv, ← hct, List.getElem?_take, if_pos (by rw [prs_len] at hj; omega)]
end
theorem fit2 {W : World} {vs : List Value} (h : Fit W [.int .i64, .int .i64] vs) : ∃ e : Int × Int, vs = [.int .i64 e.1, .int .i64 e.2] ∧ Fits e.1 ∧ Fits e.2 := by
  match vs, h.length, h with
  | [y0, y1], _, h =>
    obtain ⟨⟨x0, rfl, h0⟩, ⟨x1, rfl, h1⟩, _⟩ := h
    exact ⟨(x0, x1), rfl, fits_wf h0, fits_wf h1⟩
theorem prow_of_flat {W : World} {A : Option Addr} {n c : Nat} {f : Nat → List Value} (h : FlatRow W [.int .i64, .int .i64] A n c f) :
    ∃ L : List (Int × Int), PRow W A n c L ∧ ∀ e ∈ L, Fits e.1 ∧ Fits e.2 := by
  have hex : ∀ i, ∃ e : Int × Int, i < n → f i = [.int .i64 e.1, .int .i64 e.2] ∧ Fits e.1 ∧ Fits e.2 := fun i => by
    by_cases hi : i < n
    · obtain ⟨e, h1, h2⟩ := fit2 (h.fit i hi)
      exact ⟨e, fun _ => ⟨h1, h2⟩⟩
    · exact ⟨(0, 0), fun h => absurd h hi⟩
  obtain ⟨g, hg⟩ := Classical.axiomOfChoice hex
  refine ⟨(List.range n).map g, ⟨by simp, h.cap_le, h.max, h.nil, fun hn => ?_⟩, ?_⟩
  · obtain ⟨b, off, e, hb, hc⟩ := h.cell hn
    refine ⟨b, off, e, hb, fun j v hv => ?_⟩
    rw [prs_at] at hv
    by_cases hj : j / 2 < n
    · have hr : ((List.range n).map g)[j / 2]? = some (g (j / 2)) := by simp [hj]
      rw [hr] at hv
      have h1 := hc (j / 2) hj (j % 2) (by show j % 2 < 2; omega)
      have h2 : j / 2 * [FK.int .i64, FK.int .i64].length + j % 2 = j := by show j / 2 * 2 + j % 2 = j; omega
      rw [h2, (hg _ hj).1] at h1
      rw [h1]
      exact hv
    · have hr : ((List.range n).map g)[j / 2]? = none := by rw [List.getElem?_eq_none]; simp; omega
      rw [hr] at hv
      cases hv
  · intro e he
    simp only [List.mem_map, List.mem_range] at he
    obtain ⟨i, hi, rfl⟩ := he
    exact (hg i hi).2

/-- The cells of texts. -/
def sts (L : List ByteArray) : List Value := L.map .string
theorem sts_len (L : List ByteArray) : (sts L).length = L.length := by simp [sts]
theorem sts_one (L : List ByteArray) : ∀ v ∈ sts L, v.oneCell' = true := by
  intro v hv
  simp [sts] at hv
  obtain ⟨a, _, rfl⟩ := hv
  rfl
theorem sts_append (L M : List ByteArray) : sts (L ++ M) = sts L ++ sts M := by simp [sts]
theorem sts_get {L : List ByteArray} {i : Nat} {s : ByteArray} (h : L[i]? = some s) : (sts L)[i]? = some (.string s) := by simp [sts, h]
/-- What a row of texts of the call's own tells at a place. -/
theorem own_text {w : World} {B : Nat} {e : TypeId} {A : Option Addr} {n c : Nat} {L : List ByteArray} (h : w.ownsRow B e 1 (.slice A n c) n (sts L)) {i : Nat} {s : ByteArray} (hi : L[i]? = some s) :
    ∃ b, A = some ⟨b, 0, none⟩ ∧ B ≤ b ∧ n ≤ c ∧ c ≤ maxLen ∧ w.cell? ⟨b, i, none⟩ = some (.string s) := by
  have hl := h.1
  rw [sts_len] at hl
  have hlt := (List.getElem?_eq_some_iff.1 hi).1
  rcases own_open h with ⟨e1, hn, _⟩ | ⟨g, cap, cur, e1, hB, hH, hnc, hcm, hcl, hct⟩
  · omega
  · simp only [Value.slice.injEq, true_and] at e1
    obtain ⟨rfl, rfl⟩ := e1
    refine ⟨g, rfl, hB, hnc, hcm, ?_⟩
    rw [hH.cell, List.getElem?_toArray, ← sts_get hi, ← hct, List.getElem?_take, if_pos (by omega)]
/-- A row of texts that a call has just laid. -/
theorem own_texts (w : World) (e : TypeId) (L : List ByteArray) (B : Nat) (hB : B ≤ w.heap.size) (hm : L.length ≤ maxLen) : (w.alloc (.cells (sts L).toArray e)).ownsRow B e 1 (.slice (some ⟨w.heap.size, 0, none⟩) L.length L.length) L.length (sts L) :=
  own_mk (Holds.new w e (sts L).toArray) hB (Nat.le_refl _) hm (by rw [sts_len, Nat.mul_one]) (by rw [Nat.mul_one, List.take_of_length_le (by rw [sts_len]; exact Nat.le_refl _)])

section
variable {P : Program} {w : World}
/-- In a walk: one element (just laid as a slice of one) is appended to a row of the call's own. -/
theorem wpList_pushK {ops : Array Oper} {rest : List Oper} {o : Oper} {a : Act} {Q : Exit → Act → World → Prop} (hgd : o.guard = none) (s x : Operand) (t : TypeId)
    (ho : o.op = .call { callee := .builtin .append, args := #[s, x], argTypes := #[t, t] })
    (B : Nat) (e : TypeId) (z : Value) (k bytes : Nat) (ht : P.underlying t = some (.slice e)) (hi : (P.info? e).map (fun i => (i.zero, i.size, i.bytes)) = some (some z, k, bytes)) (hzk : z.cells.size = k) (hk : 0 < k)
    (A : Option Addr) (n c : Nat) (xs : List Value) (hs : a.eval s = .slice A n c) (hown : w.ownsRow B e k (.slice A n c) n xs)
    (g : Nat) (te : TypeId) (ys : List Value) (hx : a.eval x = .slice (some ⟨g, 0, none⟩) 1 1) (hH : Holds w g te ys.toArray) (hy : ys.length = k) (hy1 : ∀ u ∈ ys, u.oneCell' = true) (hn : n ≤ 100000) (hbb : bytes ≤ 1000) (hbase : B ≤ w.heap.size)
    (h : ∀ A' c' w', w'.ownsRow B e k (.slice A' (n + 1) c') (n + 1) (xs ++ ys) → Below B w w' → wpList P ops Q rest (a.put o.dst (.slice A' (n + 1) c')) w') :
    wpList P ops Q (o :: rest) a w := by
  obtain ⟨i, hi0, hzz⟩ := Option.map_eq_some_iff.1 hi
  simp only [Prod.mk.injEq] at hzz
  obtain ⟨hz, hsz, hby⟩ := hzz
  have hbig : (n + 1) * bytes ≤ 140737488355328 := Nat.le_trans (Nat.mul_le_mul (show n + 1 ≤ 100001 by omega) hbb) (by decide)
  refine wpList_append_rowK w hgd s x t ho B e i _ k bytes ht hi0 hz hsz hby hzk hk _ n xs hs hown ⟨g, 0, none⟩ 1 1 ys hx (by omega) (fun j u hj => ?_) hy1 (by unfold maxLen; omega) hbig hbase ?_
  · rw [Go.WideShapes.add_plain, Nat.zero_add, hH.cell]
    rw [List.getElem?_toArray]
    exact hj
  · intro A' c' w' h1 h2 _
    exact h A' c' w' h1 ((Below.refl _ _).grown h2 hbase (fun k hk => (hown.lt k hk).1))
end
end Go.Proofs.Ytjifnnloncanpaa
