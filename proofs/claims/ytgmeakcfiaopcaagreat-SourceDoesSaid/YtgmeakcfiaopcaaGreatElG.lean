/- The document's node: how it is laid, rounds, what it tells. -/
import Derived.Test.YtgmeakcfiaopcaaGreatBunF
namespace Go.Proofs.YtgmeakcfiaopcaaGreat
open Go.RowKit
set_option linter.unusedVariables false
set_option linter.unusedSimpArgs false

theorem rmnewer_any (w : World) (b1 s1 b2 s2 : Int) (hb1 : F16 b1) (hs1 : F16 s1) (hb2 : F16 b2) (hs2 : F16 s2) : Calls Tryz.prog 63 #[.int .u16 b1, .int .u16 s1, .int .u16 b2, .int .u16 s2] w fun e w' => e = .returned (.bool (newM b1 s1 b2 s2)) ∧ w = w' := by
  have hx := fun W => rnewer_any b1 b2 W hb1 hb2
  have hy := fun W => rnewer_any s1 s2 W hs1 hs2
  by_cases he : b1 = b2
  · have e1 : newM b1 s1 b2 s2 = newB s1 s2 := by unfold newM; rw [if_pos he]
    have d : (b1 == b2) = true := by simp [he]
    rw [e1]
    clear he e1 hx hb1 hs1 hb2 hs2
    go_enter Tryz.func63, Tryz.ntmps63
    go_wp2_with (go_at_call 74; (with_reducible refine (hy _).mono ?_); rintro e w' ⟨rfl, rfl⟩)
    go_ret
    exact ⟨rfl, rfl⟩
  · have e1 : newM b1 s1 b2 s2 = newB b1 b2 := by unfold newM; rw [if_neg he]
    have d : (b1 == b2) = false := by simp [he]
    rw [e1]
    clear he e1 hy hb1 hs1 hb2 hs2
    go_enter Tryz.func63, Tryz.ntmps63
    go_wp2_with (go_at_call 74; (with_reducible refine (hx _).mono ?_); rintro e w' ⟨rfl, rfl⟩)
    go_ret
    exact ⟨rfl, rfl⟩
/-- The document's node at block gm. -/
def Dn (w : World) (gm : Nat) (s : St) : Prop :=
  ∃ cs : Array Value, Holds w gm 111 cs ∧ cs.size = 200 ∧ (cs[0]? = some (.int .i64 s.me) ∧ cs[1]? = some (.int .i64 s.tmo) ∧ cs[2]? = some (.int .i64 s.ign) ∧ cs[3]? = some (.int .u16 s.boot) ∧ cs[4]? = some (.int .u16 s.seq) ∧ cs[5]? = some (.int .i64 s.root) ∧ cs[6]? = some (.int .i64 s.waited) ∧ cs[7]? = some (.int .i64 s.quiet)) ∧
    ∀ i : Nat, i < 64 → cs[8 + i]? = some (.bool (s.f i).isSome) ∧ ∃ p : Int × Int, cs[72 + i]? = some (.int .u16 p.1) ∧ cs[136 + i]? = some (.int .u16 p.2) ∧ ∀ q, s.f i = some q → p = q
section
variable {w w' : World} {gm : Nat} {s : St}
theorem Dn.lt (h : Dn w gm s) : gm < w.heap.size := by
  obtain ⟨cs, h1, _⟩ := h
  exact h1.lt
theorem Dn.chg {S : Nat → Prop} (h : Dn w gm s) (hc : Chg S w w') (hg : ¬ S gm) : Dn w' gm s := by
  obtain ⟨cs, h1, h2⟩ := h
  exact ⟨cs, h1.chg hc hg, h2⟩
theorem Dn.below (h : Dn w gm s) (hb : Below w.heap.size w w') : Dn w' gm s := h.chg (Chg.of_below (fun _ => False) hb) (fun h => h)
theorem Dn.drewN (h : Dn w gm s) (m : Nat) : Dn (w.drewN m) gm s := h
theorem Dn.soft (h : Dn w gm s) (j : Nat) : w.frozen? ⟨gm, j, none⟩ = false := by
  obtain ⟨cs, h1, _⟩ := h
  exact h1.soft j
theorem Dn.cells (h : Dn w gm s) : w.cell? ⟨gm, 0, none⟩ = some (.int .i64 s.me) ∧ w.cell? ⟨gm, 1, none⟩ = some (.int .i64 s.tmo) ∧ w.cell? ⟨gm, 2, none⟩ = some (.int .i64 s.ign) ∧ w.cell? ⟨gm, 3, none⟩ = some (.int .u16 s.boot) ∧
    w.cell? ⟨gm, 4, none⟩ = some (.int .u16 s.seq) ∧ w.cell? ⟨gm, 5, none⟩ = some (.int .i64 s.root) ∧ w.cell? ⟨gm, 6, none⟩ = some (.int .i64 s.waited) ∧ w.cell? ⟨gm, 7, none⟩ = some (.int .i64 s.quiet) := by
  obtain ⟨cs, h1, _, ⟨k0, k1, k2, k3, k4, k5, k6, k7⟩, _⟩ := h
  simp only [h1.cell]
  exact ⟨k0, k1, k2, k3, k4, k5, k6, k7⟩
theorem Dn.at (h : Dn w gm s) {i : Nat} (hi : i < 64) : w.cell? ⟨gm, 8 + i, none⟩ = some (.bool (s.f i).isSome) ∧ ∃ p : Int × Int, w.cell? ⟨gm, 72 + i, none⟩ = some (.int .u16 p.1) ∧ w.cell? ⟨gm, 136 + i, none⟩ = some (.int .u16 p.2) ∧ ∀ q, s.f i = some q → p = q := by
  obtain ⟨cs, h1, _, _, h4⟩ := h
  simp only [h1.cell]
  exact h4 i hi
/-- One of the first cells is written. -/
theorem Dn.put (h : Dn w gm s) (j : Nat) (hj : j < 8) (u : Value) {s' : St} (hf : s'.f = s.f)
    (hs : ((#[.int .i64 s.me, .int .i64 s.tmo, .int .i64 s.ign, .int .u16 s.boot, .int .u16 s.seq, .int .i64 s.root, .int .i64 s.waited, .int .i64 s.quiet] : Array Value).setIfInBounds j u) = #[.int .i64 s'.me, .int .i64 s'.tmo, .int .i64 s'.ign, .int .u16 s'.boot, .int .u16 s'.seq, .int .i64 s'.root, .int .i64 s'.waited, .int .i64 s'.quiet]) : Dn (w.setCell ⟨gm, j, none⟩ u) gm s' := by
  obtain ⟨cs, h1, h2, ⟨k0, k1, k2, k3, k4, k5, k6, k7⟩, h4⟩ := h
  have hall : ∀ m, m < 8 → (cs.setIfInBounds j u)[m]? = (#[.int .i64 s'.me, .int .i64 s'.tmo, .int .i64 s'.ign, .int .u16 s'.boot, .int .u16 s'.seq, .int .i64 s'.root, .int .i64 s'.waited, .int .i64 s'.quiet] : Array Value)[m]? := fun m hm => by
    rw [← hs, Array.getElem?_setIfInBounds, Array.getElem?_setIfInBounds]
    by_cases e : j = m
    · simp [e, h2, hm, show m < 200 by omega]
    · rw [if_neg e, if_neg e]
      match m, hm with
      | 0, _ => exact k0
      | 1, _ => exact k1
      | 2, _ => exact k2
      | 3, _ => exact k3
      | 4, _ => exact k4
      | 5, _ => exact k5
      | 6, _ => exact k6
      | 7, _ => exact k7
  refine ⟨_, h1.put j u, by simp [h2], ⟨hall 0 (by decide), hall 1 (by decide), hall 2 (by decide), hall 3 (by decide), hall 4 (by decide), hall 5 (by decide), hall 6 (by decide), hall 7 (by decide)⟩, fun i hi => ?_⟩
  rw [hf, Array.getElem?_setIfInBounds_ne (by omega), Array.getElem?_setIfInBounds_ne (by omega), Array.getElem?_setIfInBounds_ne (by omega)]
  exact h4 i hi
/-- A mark is written. -/
theorem Dn.mark (h : Dn w gm s) {i : Nat} (hi : i < 64) (x q : Int) : Dn (((w.setCell ⟨gm, 8 + i, none⟩ (.bool true)).setCell ⟨gm, 72 + i, none⟩ (.int .u16 x)).setCell ⟨gm, 136 + i, none⟩ (.int .u16 q)) gm { s with f := fun j => if j = (i : Int) then some (x, q) else s.f j } := by
  obtain ⟨cs, h1, h2, h3, h4⟩ := h
  refine ⟨_, ((h1.put (8 + i) (.bool true)).put (72 + i) (.int .u16 x)).put (136 + i) (.int .u16 q), by simp [h2], ?_, fun j hj => ?_⟩
  · have hne : ∀ m, m < 8 → (((cs.setIfInBounds (8 + i) (.bool true)).setIfInBounds (72 + i) (.int .u16 x)).setIfInBounds (136 + i) (.int .u16 q))[m]? = cs[m]? := fun m hm => by
      rw [Array.getElem?_setIfInBounds_ne (by omega), Array.getElem?_setIfInBounds_ne (by omega), Array.getElem?_setIfInBounds_ne (by omega)]
    rw [hne 0 (by decide), hne 1 (by decide), hne 2 (by decide), hne 3 (by decide), hne 4 (by decide), hne 5 (by decide), hne 6 (by decide), hne 7 (by decide)]
    exact h3
  · obtain ⟨a1, p, a2, a3, a4⟩ := h4 j hj
    by_cases e : j = i
    · subst e
      refine ⟨?_, (x, q), ?_, ?_, fun y hy => ?_⟩
      · rw [Array.getElem?_setIfInBounds_ne (by omega), Array.getElem?_setIfInBounds_ne (by omega), Array.getElem?_setIfInBounds_self_of_lt (by omega)]
        simp
      · rw [Array.getElem?_setIfInBounds_ne (by omega), Array.getElem?_setIfInBounds_self_of_lt (by simp; omega)]
      · rw [Array.getElem?_setIfInBounds_self_of_lt (by simp; omega)]
      · simpa using hy
    · have e' : ¬ (j : Int) = (i : Int) := by omega
      simp only [if_neg e']
      refine ⟨?_, p, ?_, ?_, a4⟩
      · rw [Array.getElem?_setIfInBounds_ne (by omega), Array.getElem?_setIfInBounds_ne (by omega), Array.getElem?_setIfInBounds_ne (by omega)]
        exact a1
      · rw [Array.getElem?_setIfInBounds_ne (by omega), Array.getElem?_setIfInBounds_ne (by omega), Array.getElem?_setIfInBounds_ne (by omega)]
        exact a2
      · rw [Array.getElem?_setIfInBounds_ne (by omega), Array.getElem?_setIfInBounds_ne (by omega), Array.getElem?_setIfInBounds_ne (by omega)]
        exact a3
end
theorem ergood_any (w : World) (me tmo ign : Int) : Calls Tryz.prog 23 #[.int .i64 me, .int .i64 tmo, .int .i64 ign] w fun e w' => e = .returned (.bool (goodB me tmo ign)) ∧ w = w' := by
  obtain ⟨v, hv⟩ : ∃ v, goodB me tmo ign = v := ⟨_, rfl⟩
  have hall : goodB me tmo ign = (decide (0 ≤ me) && decide (me < 64) && decide (1 ≤ tmo) && decide (tmo ≤ 1000) && decide (0 ≤ ign) && decide (ign ≤ 1000)) := by
    unfold goodB
    by_cases h1 : 0 ≤ me <;> by_cases h2 : me < 64 <;> by_cases h3 : 1 ≤ tmo <;> by_cases h4 : tmo ≤ 1000 <;> by_cases h5 : 0 ≤ ign <;> by_cases h6 : ign ≤ 1000 <;> simp [h1, h2, h3, h4, h5, h6]
  rw [hall]
  clear hall hv
  cases d0 : decide (0 ≤ me) with
  | false =>
    go_enter Tryz.func23, Tryz.ntmps23
    go_wp2
    go_ret
    exact ⟨rfl, rfl⟩
  | true =>
    cases d1 : decide (me < 64) with
    | false =>
      go_enter Tryz.func23, Tryz.ntmps23
      go_wp2
      go_ret
      exact ⟨rfl, rfl⟩
    | true =>
      cases d2 : decide (1 ≤ tmo) with
      | false =>
        go_enter Tryz.func23, Tryz.ntmps23
        go_wp2
        go_ret
        exact ⟨rfl, rfl⟩
      | true =>
        cases d3 : decide (tmo ≤ 1000) with
        | false =>
          go_enter Tryz.func23, Tryz.ntmps23
          go_wp2
          go_ret
          exact ⟨rfl, rfl⟩
        | true =>
          cases d4 : decide (0 ≤ ign) with
          | false =>
            go_enter Tryz.func23, Tryz.ntmps23
            go_wp2
            go_ret
            exact ⟨rfl, rfl⟩
          | true =>
            cases d5 : decide (ign ≤ 1000) with
            | false =>
              go_enter Tryz.func23, Tryz.ntmps23
              go_wp2
              go_ret
              exact ⟨rfl, rfl⟩
            | true =>
              go_enter Tryz.func23, Tryz.ntmps23
              go_wp2
              go_ret
              exact ⟨rfl, rfl⟩
end Go.Proofs.YtgmeakcfiaopcaaGreat
