/- The table and the document's list of entries, side by side: what an Add does to both. -/
import Derived.Test.YtkibpialacnlhaaTbI
import Derived.Test.YtkibpialacnlhaaTbG
namespace Go.Proofs.Ytkibpialacnlhaa
open Go.RowKit
set_option linter.unusedVariables false
set_option linter.unusedSimpArgs false

/-- What becomes of the entries, and which error is told. -/
def Step (L : List Ent) (e : Ent) (M : List Ent) (v : Int) : Prop := (¬ CanE e ∧ M = L ∧ v = 1) ∨ (CanE e ∧ ¬ Later L e ∧ M = L ∧ v = 12) ∨ (CanE e ∧ Later L e ∧ M = pushL L e ∧ v = 0)
theorem step_is (L : List Ent) (e : Ent) : ∃ M v, Step L e M v := by
  by_cases hc : CanE e
  · by_cases hl : Later L e
    · exact ⟨_, _, .inr (.inr ⟨hc, hl, rfl, rfl⟩)⟩
    · exact ⟨_, _, .inr (.inl ⟨hc, hl, rfl, rfl⟩)⟩
  · exact ⟨_, _, .inl ⟨hc, rfl, rfl⟩⟩
theorem add_step (a b c : Int) (w : World) (g o : Nat) (t : TypeId) (pre post : List Value) (L M : List Ent) (v : Int) (h : Tb w g o t pre post L) (hs : Step L (a, b, c) M v) :
    Calls Try.prog 19 #[.pointer (some ⟨g, o, none⟩), .agg #[.int .i64 a, .int .i64 b, .int .i64 c]] w fun e w' => e = .returned (.int .i64 v) ∧ Tb w' g o t pre post M ∧ Chg (fun k => k = g) w w' := by
  rcases hs with ⟨hc, rfl, rfl⟩ | ⟨hc, hl, rfl, rfl⟩ | ⟨hc, hl, rfl, rfl⟩
  · exact (add_bad a b c w _ hc).mono fun e w' ⟨he, hb⟩ => ⟨he, h.below hb, Chg.of_below _ hb⟩
  · obtain ⟨P, x, y, z, rfl, hx⟩ := not_later hl
    exact (add_late a b c w g o t pre post P x y z h hc hx).mono fun e w' ⟨he, hb⟩ => ⟨he, h.below hb, Chg.of_below _ hb⟩
  · exact (add_any a b c w g o t pre post L h hc hl).mono fun e w' ⟨he, ht, hcg⟩ => ⟨he, ht, hcg⟩
theorem radd_step (a b c : Int) (w : World) (B : Nat) (A : Option Addr) (cp : Nat) (L M : List Ent) (v : Int) (h : TRow w B A L.length cp L) (h8 : L.length ≤ 8) (hB : B ≤ w.heap.size) (hs : Step L (a, b, c) M v) :
    Calls Try.prog 21 #[.slice A L.length cp, .agg #[.int .i64 a, .int .i64 b, .int .i64 c]] w fun e w' => ∃ A' c', e = .returned (.tuple #[.slice A' M.length c', .int .i64 v]) ∧ TRow w' B A' M.length c' M ∧ Below w.heap.size w w' := by
  rcases hs with ⟨hc, rfl, rfl⟩ | ⟨hc, hl, rfl, rfl⟩ | ⟨hc, hl, rfl, rfl⟩
  · exact (radd_bad a b c w A _ cp hc).mono fun e w' ⟨he, hb⟩ => ⟨A, cp, he, h.below hb, hb⟩
  · obtain ⟨P, x, y, z, rfl, hx⟩ := not_later hl
    have hn : (P ++ [(x, y, z)]).length = P.length + 1 := by simp
    rw [hn] at h h8 ⊢
    exact (radd_late a b c w B A cp P x y z h (by omega) hc hx).mono fun e w' ⟨he, hb⟩ => ⟨A, cp, he, h.below hb, hb⟩
  · exact radd_any a b c w B A _ cp L h h8 hB hc hl
theorem step_le {L M : List Ent} {e : Ent} {v : Int} (h : Step L e M v) (h8 : L.length ≤ 8) : M.length ≤ 8 := by
  rcases h with ⟨_, rfl, _⟩ | ⟨_, _, rfl, _⟩ | ⟨_, _, rfl, _⟩
  · exact h8
  · exact h8
  · exact pushL_len h8 e
/-- The table at block z, and the document's list, made behind it. -/
structure TD (w0 : World) (z : Nat) (L : List Ent) (A : Option Addr) (c : Nat) (w : World) : Prop where
  tab : Tb w z 0 53 [] [] L
  doc : TRow w (z + 1) A L.length c L
  below : Below w0.heap.size w0 w
  old : w0.heap.size ≤ z
section
variable {w0 w w' : World} {z : Nat} {L M : List Ent} {A : Option Addr} {c : Nat}
theorem TD.onto (h : TD w0 z L A c w) (hb : Below w.heap.size w w') : TD w0 z L A c w' := ⟨h.tab.below hb, h.doc.below hb, h.below.trans (hb.mono h.below.size), h.old⟩
theorem TD.clear (h : TD w0 z L A c w) (ht : Tb w' z 0 53 [] [] []) (hc : Chg (fun k => k = z) w w') : TD w0 z [] none 0 w' := ⟨ht, trow_none _ _, tb_below h.tab h.below hc h.old, h.old⟩
end
end Go.Proofs.Ytkibpialacnlhaa
