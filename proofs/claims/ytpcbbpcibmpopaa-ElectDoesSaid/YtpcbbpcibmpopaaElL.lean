/- A law's node in scripts: what becomes of it, call by call. -/
import Derived.Test.YtpcbbpcibmpopaaElK
import Derived.Test.YtpcbbpcibmpopaaFlat
import Derived.Deep.CutBlock
namespace Go.Proofs.Ytpcbbpcibmpopaa
open Go.RowKit
set_option linter.unusedVariables false
set_option linter.unusedSimpArgs false

section
variable {w wr w' : World} {t e : Int} {g b n n' : Nat} {s s' : St}
/-- A step of the node: a block of the law's own besides stays. -/
theorem Lw.step (h : Lw w wr t e g b n s) (hg : Goes (w.heap.size + 1) g b n' s' wr w') {o : Nat} {ty : TypeId} {cs : Array Value} (HO : Holds wr o ty cs) (h1 : o ≠ g) (h2 : o ≠ b) : ∃ b', Lw w w' t e g b' n' s' ∧ Holds w' o ty cs ∧ Chg (part g b) wr w' ∧ (b' = b ∨ wr.heap.size ≤ b') := by
  obtain ⟨b', k1, k2, k3⟩ := h.next hg
  exact ⟨b', k1, HO.chg k2 (fun e => e.elim h1 h2), k2, k3⟩
theorem Lw.apart (h : Lw w wr t e g b n s) : g < wr.heap.size ∧ b < wr.heap.size := ⟨h.node.lt, h.node.ltb⟩
end
theorem hear_keeps (s : St) (r x q : Int) : (hearS s r x q).me = s.me := by unfold hearS; split <;> rfl
theorem beat_keeps (s : St) : (beatS s).me = s.me := by
  unfold beatS
  split
  · rfl
  · split <;> rfl
theorem issue_keeps (s : St) : (issueS s).me = s.me := by unfold issueS; split <;> rfl
/-- A word is refused, and nothing changed, or it is taken, and the root is the word's. -/
theorem hear_ways {s : St} (r x q : Int) (hi : Inv s) : (hearV s r x q = 0 ∧ hearS s r x q = s) ∨ ((hearV s r x q == 0) = false ∧ (hearV s r x q != 0) = true ∧ (hearS s r x q).root = r ∧ 0 ≤ r ∧ r < s.me ∧ (0 ≤ s.root → r ≤ s.root) ∧ takeB s r x q = true) := by
  cases h : takeB s r x q with
  | false => exact .inl (by unfold hearV hearS; rw [h]; exact ⟨rfl, rfl⟩)
  | true =>
    right
    obtain ⟨h0, h1, h2⟩ := (heed_iff s r).1 (take_heed h)
    have hv : hearV s r x q = if movB s r x = true then 2 else 1 := by unfold hearV; rw [h]; rfl
    have hs : (hearS s r x q).root = r := by unfold hearS; rw [h]; rfl
    refine ⟨?_, ?_, hs, h0, h1, fun h3 => ?_, rfl⟩
    · rw [hv]
      split <;> rfl
    · rw [hv]
      split <;> rfl
    · by_cases e : s.root = s.me
      · omega
      · rw [if_neg e] at h2
        omega
theorem beat_ways {s : St} (hi : Inv s) : (beatB s = false ∧ (beatS s).root = s.root) ∨ (beatB s = true ∧ (beatS s).root = s.me ∧ s.root ≠ s.me) := by
  unfold beatB beatS
  by_cases e : s.root = s.me
  · left
    rw [if_pos e]
    exact ⟨decide_eq_false (fun k => k.1 e), rfl⟩
  · rw [if_neg e]
    by_cases e2 : s.waited + 1 < s.tmo
    · left
      rw [if_pos e2]
      exact ⟨decide_eq_false (fun k => by omega), rfl⟩
    · right
      rw [if_neg e2]
      exact ⟨decide_eq_true ⟨e, by omega⟩, rfl, e⟩
theorem issue_at {w : World} {B g b n : Nat} {s : St} (h : En w B g b n s) : Calls Try.prog 12 #[.pointer (some ⟨g, 0, none⟩)] w fun e w' => e = .returned (.tuple #[.agg #[.int .u16 (issueV s).1, .int .u16 (issueV s).2], .bool (decide (s.root = s.me))]) ∧ Goes B g b n (issueS s) w w' := issue_any w B g b n s h
theorem boot_at {w : World} {B g b n : Nat} {s : St} (h : En w B g b n s) (x : Int) (hx : F16 x) : Calls Try.prog 10 #[.pointer (some ⟨g, 0, none⟩), .int .u16 x] w fun e w' => e = .returned (.tuple #[]) ∧ Goes B g b 0 (bootS s x) w w' := boot_any w B g b n s h x hx
theorem mark_at {w : World} {B g b n : Nat} {s : St} (h : En w B g b n s) : Calls Try.prog 11 #[.pointer (some ⟨g, 0, none⟩)] w fun e w' => e = .returned (.tuple #[.agg #[.int .u16 (saidV s).1, .int .u16 (saidV s).2], .bool (saidB s)]) ∧ Below w.heap.size w w' := mark_any w B g b n s h
end Go.Proofs.Ytpcbbpcibmpopaa
