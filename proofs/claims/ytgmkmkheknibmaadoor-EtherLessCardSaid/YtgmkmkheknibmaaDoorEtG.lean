/- Package ether: the calls, of links that both made. -/
import Derived.Test.YtgmkmkheknibmaaDoorEtF
import Derived.Test.YtgmkmkheknibmaaDoorEtD
namespace Go.Proofs.YtgmkmkheknibmaaDoor
open Go.RowKit
set_option linter.unusedVariables false

section
variable {w : World} {n g r gm : Nat} {M : List Nat} {W W' : World}
theorem bstep (h : BRun w n g r gm M W) (send awake : Nat) (hs : send < 18446744073709551616) (ha : awake < 18446744073709551616) (A : Option Addr) (nl c : Nat) (zs : List Int) (hz : IntRow W .u64 A nl c zs) : Calls Tryd.prog 8 #[.pointer (some ⟨g, 0, none⟩), .int .u64 send, .int .u64 awake, .slice A nl c] W fun e w' =>
    ∃ q, e = .returned (.slice (some ⟨q, 0, none⟩) n n) ∧ W.heap.size ≤ q ∧ Holds w' q 35 (earRow (earV M send awake zs) n) ∧ BRun w n g r gm M w' ∧ Below W.heap.size W w' := by
  have := step_any W _ g r M h.s.lk h.s.tab send awake hs ha A nl c zs hz
  rw [h.s.len] at this
  exact this.mono fun e w' ⟨q, h1, h2, h3, h4⟩ => ⟨q, h1, h2, h3, h.below' h4, h4⟩
theorem bask (h : BRun w n g r gm M W) (from_ : Int) (q : Nat) (f : Nat → Int × Int) (hE : Holds W q 35 (earRow f n)) : Calls Tryd.prog 9 #[.pointer (some ⟨g, 0, none⟩), .int .i64 from_, .slice (some ⟨q, 0, none⟩) n n] W fun e w' =>
    e = .returned (.int .u64 (askV (nearV M from_) f from_)) ∧ Holds w' q 35 (earRow f n) ∧ BRun w n g r gm M w' ∧ Below W.heap.size W w' := by
  have hl := h.s.len
  subst hl
  exact (ask_any W _ g r M h.s.lk h.s.tab h.s.net from_ q f hE).mono fun e w' ⟨h1, h2⟩ => ⟨h1, hE.below h2 hE.lt, h.below' h2, h2⟩
theorem bear (h : BRun w n g r gm M W) (i : Nat) (hi : i < n) (send awake : Nat) (hs : send < 18446744073709551616) (ha : awake < 18446744073709551616) (A : Option Addr) (nl c : Nat) (zs : List Int) (hz : IntRow W .u64 A nl c zs) :
    Calls Tryd.prog 10 #[.pointer (some ⟨gm, 0, none⟩), .int .i64 i, .int .u64 send, .int .u64 awake, .slice A nl c] W fun e w' => e = .returned (.tuple #[.int .i64 (earV M send awake zs i).1, .int .i64 (earV M send awake zs i).2]) ∧ w' = W :=
  dear_any W gm n M h.d h.s.fit h.s.net h.s.len i hi send awake hs ha A nl c zs hz
/-- Links, a row of ears. -/
structure ERun (w : World) (n g r gm : Nat) (M : List Nat) (q : Nat) (f : Nat → Int × Int) (W : World) : Prop where
  run : BRun w n g r gm M W
  row : Holds W q 35 (earRow f n)
theorem ERun.below' {q : Nat} {f : Nat → Int × Int} (h : ERun w n g r gm M q f W) (hb : Below W.heap.size W W') : ERun w n g r gm M q f W' := ⟨h.run.below' hb, h.row.below hb h.row.lt⟩
theorem near_adj (h : BRun w n g r gm M W) (k i : Nat) (hi : i < 64) : (nearV M (k : Int)).testBit i = (decide (i < n) && decide (k < n) && adj M i k) := by
  have hN := h.s.net
  have hl := h.s.len
  have hsym : adj M i k = adj M k i := by
    rcases h1 : adj M i k with _ | _
    · rcases h2 : adj M k i with _ | _
      · rfl
      · rw [hN.sym _ _ h2] at h1
        cases h1
    · rw [hN.sym _ _ h1]
  unfold nearV
  rw [inB_nat, hl]
  by_cases hk : k < n
  · simp only [hk, decide_true, if_true, Bool.and_true, Int.toNat_natCast]
    change adj M k i = _
    rw [hsym]
    rcases h2 : adj M k i with _ | _
    · simp
    · have := hN.lt _ _ h2
      rw [hl] at this
      simp [this]
  · simp [hk]
theorem near_out (h : BRun w n g r gm M W) (k : Int) (hk : k < 0 ∨ (n : Int) ≤ k) : nearV M k = 0 := by
  unfold nearV
  rw [if_neg]
  intro hb
  obtain ⟨j, rfl, hj⟩ := of_inB hb
  rw [h.s.len] at hj
  omega
end
end Go.Proofs.YtgmkmkheknibmaaDoor
