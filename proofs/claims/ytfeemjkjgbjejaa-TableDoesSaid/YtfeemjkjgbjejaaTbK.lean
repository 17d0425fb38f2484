/- The table and the document's list of entries, side by side. -/
import Derived.Test.YtfeemjkjgbjejaaTbI
import Derived.Test.YtfeemjkjgbjejaaTbG
import Derived.Test.YtfeemjkjgbjejaaTbF
namespace Go.Proofs.Ytfeemjkjgbjejaa
open Go.RowKit
set_option linter.unusedVariables false
set_option linter.unusedSimpArgs false

theorem run_min2 (a b : Int) (w : World) : (Builtin.min_ #[3, 3] 3 #[.int .i64 a, .int .i64 b]).run Try.prog w = .ok (.int .i64 (if b < a then b else a)) w := by
  simp [Builtin.min_, Builtin.min2, go_sem]
/-- What becomes of the entries, and which error is told. -/
def Step (L : List Ent) (e : Ent) (M : List Ent) (v : Int) : Prop := (¬ CanE e ∧ M = L ∧ v = 1) ∨ (CanE e ∧ ¬ Later L e ∧ M = L ∧ v = 12) ∨ (CanE e ∧ Later L e ∧ M = pushL L e ∧ v = 0)
theorem step_is (L : List Ent) (e : Ent) : ∃ M v, Step L e M v := by
  by_cases hc : CanE e
  · by_cases hl : Later L e
    · exact ⟨_, _, .inr (.inr ⟨hc, hl, rfl, rfl⟩)⟩
    · exact ⟨_, _, .inr (.inl ⟨hc, hl, rfl, rfl⟩)⟩
  · exact ⟨_, _, .inl ⟨hc, rfl, rfl⟩⟩
theorem add_step (a b c : Int) (w : World) (g o : Nat) (t : TypeId) (pre post : List Value) (L M : List Ent) (v : Int) (h : Tb w g o t pre post L) (hs : Step L (a, b, c) M v) :
    Calls Try.prog 9 #[.pointer (some ⟨g, o, none⟩), .agg #[.int .i64 a, .int .i64 b, .int .i64 c]] w fun e w' => e = .returned (.int .i64 v) ∧ Tb w' g o t pre post M ∧ Chg (fun k => k = g) w w' := by
  rcases hs with ⟨hc, rfl, rfl⟩ | ⟨hc, hl, rfl, rfl⟩ | ⟨hc, hl, rfl, rfl⟩
  · exact (add_bad a b c w _ hc).mono fun e w' ⟨he, hb⟩ => ⟨he, h.below hb, Chg.of_below _ hb⟩
  · obtain ⟨P, x, y, z, rfl, hx⟩ := not_later hl
    exact (add_late a b c w g o t pre post P x y z h hc hx).mono fun e w' ⟨he, hb⟩ => ⟨he, h.below hb, Chg.of_below _ hb⟩
  · exact (add_any a b c w g o t pre post L h hc hl).mono fun e w' ⟨he, ht, hcg⟩ => ⟨he, ht, hcg⟩
theorem radd_step (a b c : Int) (w : World) (B : Nat) (A : Option Addr) (cp : Nat) (L M : List Ent) (v : Int) (h : TRow w B A L.length cp L) (h8 : L.length ≤ 8) (hB : B ≤ w.heap.size) (hs : Step L (a, b, c) M v) :
    Calls Try.prog 14 #[.slice A L.length cp, .agg #[.int .i64 a, .int .i64 b, .int .i64 c]] w fun e w' => ∃ A' c', e = .returned (.tuple #[.slice A' M.length c', .int .i64 v]) ∧ TRow w' B A' M.length c' M ∧ Below w.heap.size w w' := by
  rcases hs with ⟨hc, rfl, rfl⟩ | ⟨hc, hl, rfl, rfl⟩ | ⟨hc, hl, rfl, rfl⟩
  · exact (radd_bad a b c w A _ cp hc).mono fun e w' ⟨he, hb⟩ => ⟨A, cp, he, h.below hb, hb⟩
  · obtain ⟨P, x, y, z, rfl, hx⟩ := not_later hl
    have hn : (P ++ [(x, y, z)]).length = P.length + 1 := by simp
    rw [hn] at h h8 ⊢
    exact (radd_late a b c w B A cp P x y z h (by omega) hc hx).mono fun e w' ⟨he, hb⟩ => ⟨A, cp, he, h.below hb, hb⟩
  · exact radd_any a b c w B A _ cp L h h8 hB hc hl
theorem step_le {L M : List Ent} {e : Ent} {v : Int} (h : Step L e M v) (h8 : L.length ≤ 8) : M.length ≤ 8 := by
  rcases h with ⟨_, rfl, _⟩ | ⟨_, _, rfl, _⟩ | ⟨_, _, rfl, _⟩
  · exact h8
  · exact h8
  · exact pushL_len h8 e
theorem good_both (a b c : Int) : ∃ v : Bool, (∀ w, Calls Try.prog 15 #[.agg #[.int .i64 a, .int .i64 b, .int .i64 c]] w fun e w' => e = .returned (.bool v) ∧ Below w.heap.size w w') ∧
    ∀ w, Calls Try.prog 16 #[.agg #[.int .i64 a, .int .i64 b, .int .i64 c]] w fun e w' => e = .returned (.bool v) ∧ Below w.heap.size w w' := by
  by_cases hc : CanE (a, b, c)
  · exact ⟨true, fun w => good_yes a b c w hc, fun w => rgood_yes a b c w hc⟩
  · exact ⟨false, fun w => good_no a b c w hc, fun w => rgood_no a b c w hc⟩

/-- The table at block z, and the document's list, made behind it. -/
structure TD (w0 : World) (z : Nat) (L : List Ent) (A : Option Addr) (c : Nat) (w : World) : Prop where
  tab : Tb w z 0 29 [] [] L
  doc : TRow w (z + 1) A L.length c L
  below : Below w0.heap.size w0 w
  old : w0.heap.size ≤ z
section
variable {w0 w w' : World} {z : Nat} {L M : List Ent} {A : Option Addr} {c : Nat}
theorem TD.onto (h : TD w0 z L A c w) (hb : Below w.heap.size w w') : TD w0 z L A c w' := ⟨h.tab.below hb, h.doc.below hb, h.below.trans (hb.mono h.below.size), h.old⟩
theorem TD.clear (h : TD w0 z L A c w) (ht : Tb w' z 0 29 [] [] []) (hc : Chg (fun k => k = z) w w') : TD w0 z [] none 0 w' := ⟨ht, trow_none _ _, tb_below h.tab h.below hc h.old, h.old⟩
/-- The document's list lies ahead of block s. -/
def Ahead (A : Option Addr) (n s : Nat) : Prop := 0 < n → ∀ b off, A = some ⟨b, off, none⟩ → b < s
theorem TRow.ahead {B n : Nat} (h : TRow w B A n c L) : Ahead A n w.heap.size := fun hn b off e => by
  obtain ⟨b', off', e', _, hb, _⟩ := h.cell hn
  rw [e] at e'
  cases e'
  exact hb
/-- A block that is neither's was changed. -/
theorem TD.apart (h : TD w0 z L A c w) {s : Nat} (hc : Chg (fun k => k = s) w w') (hz : z < s) (ha : Ahead A L.length s) : TD w0 z L A c w' := by
  refine ⟨h.tab.chg hc (by omega), ?_, Below.chg h.below hc h.below.size (fun k hk => by have := h.old; omega), h.old⟩
  obtain ⟨h1, h2, h3, h4, h5⟩ := h.doc
  refine ⟨h1, h2, h3, h4, fun hn => ?_⟩
  obtain ⟨b, off, e, hB, hb, hh⟩ := h5 hn
  have := ha hn b off e
  exact ⟨b, off, e, hB, Nat.lt_of_lt_of_le hb hc.size, fun j v hv => (hc.cell hb (by omega)).trans (hh j v hv)⟩
end
theorem splice_trs {K : List Ent} {i : Nat} (hi : i < K.length) (e : Ent) : splice (trs K) (i * 3) [.int .i64 e.1, .int .i64 e.2.1, .int .i64 e.2.2] = trs (K.set i e) := by
  have h1 : K.set i e = K.take i ++ e :: K.drop (i + 1) := by rw [List.set_eq_take_append_cons_drop, if_pos hi]
  rw [h1, trs_append, trs_cons, ← trs_take, ← trs_drop]
  unfold splice
  rw [show (i + 1) * 3 = i * 3 + 3 by omega]
  simp
theorem take_splice {α : Type} (cur news : List α) (o m : Nat) (h : o + news.length ≤ m) (hm : m ≤ cur.length) : (splice cur o news).take m = splice (cur.take m) o news := by
  have hl : (cur.take o).length = o := by rw [List.length_take]; omega
  have e1 : (cur.take m).take o = cur.take o := by rw [List.take_take, Nat.min_eq_left (by omega)]
  have e2 : (cur.take m).drop (o + news.length) = (cur.drop (o + news.length)).take (m - (o + news.length)) := List.drop_take
  unfold splice
  rw [e1, e2, List.take_append, hl, List.take_of_length_le (l := cur.take o) (i := m) (by omega), List.take_append, List.take_of_length_le (l := news) (i := m - o) (by omega), show m - (o + news.length) = m - o - news.length by omega]
/-- One entry of a row of the call's own, laid anew. -/
theorem own_place {w : World} {B : Nat} {t : TypeId} {g n c : Nat} {K : List Ent} (h : w.ownsRow B t 3 (.slice (some ⟨g, 0, none⟩) n c) n (trs K)) {j : Nat} (hj : j < n) (x : Ent) :
    ∃ cur : List Value, Holds w g t cur.toArray ∧ j * 3 + 3 ≤ cur.length ∧ (w.setRow g (splice cur (j * 3) [.int .i64 x.1, .int .i64 x.2.1, .int .i64 x.2.2]).toArray).ownsRow B t 3 (.slice (some ⟨g, 0, none⟩) n c) n (trs (K.set j x)) := by
  have hl := h.1
  rw [trs_len] at hl
  rcases own_open h with ⟨e1, _, _⟩ | ⟨g', cap, cur, e1, hB, hH, hnc, hcm, hcl, hct⟩
  · cases e1
  · simp only [Value.slice.injEq, Option.some.injEq, Addr.mk.injEq, true_and, and_true] at e1
    obtain ⟨rfl, rfl⟩ := e1
    refine ⟨cur, hH, by omega, own_mk (hH.row _) hB hnc hcm (by rw [length_splice _ _ _ (by simp; omega), hcl]) ?_⟩
    rw [take_splice _ _ _ _ (by simp; omega) (by omega), hct, splice_trs (by omega)]
end Go.Proofs.Ytfeemjkjgbjejaa
