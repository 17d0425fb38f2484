/- Package elect: a node, and what it tells. -/
import Derived.Test.YtpcbbpcibmpopaaElA
import Derived.Test.YtpcbbpcibmpopaaBox
import Derived.Deep.QuietTactic
import Derived.BigQuiet
import Derived.Outline
namespace Go.Proofs.Ytpcbbpcibmpopaa
open Go.RowKit
set_option linter.unusedVariables false
set_option linter.unusedSimpArgs false

def nodeC (s : St) (b : Nat) : Array Value := #[.int .i64 s.me, .int .i64 s.tmo, .int .i64 s.ign, .int .u16 s.boot, .int .u16 s.seq, .int .i64 s.root, .int .i64 s.waited, .int .i64 s.quiet, .map (some b)]
/-- A node at block g, what it knows at block b. -/
structure En (w : World) (B g b n : Nat) (s : St) : Prop where
  newer : B ≤ g ∧ B ≤ b
  holds : Holds w g 58 (nodeC s b)
  km : KM w b n s.f
  inv : Inv s
/-- The blocks of a node. -/
def part (g b : Nat) : Nat → Prop := fun k => k = g ∨ k = b
/-- What became of a node: nothing else changed, and its blocks are those that it had, or new. -/
def Now (B g b n : Nat) (s : St) (w w' : World) : Prop := ∃ b', En w' B g b' n s ∧ Chg (part g b) w w' ∧ (b' = b ∨ w.heap.size ≤ b')
section
variable {w w' : World} {B g b n : Nat} {s : St}
theorem En.lt (h : En w B g b n s) : g < w.heap.size := h.holds.lt
theorem En.ltb (h : En w B g b n s) : b < w.heap.size := h.km.lt
theorem En.ne (h : En w B g b n s) : g ≠ b := h.km.apart h.holds
theorem En.chg {S : Nat → Prop} (h : En w B g b n s) (hc : Chg S w w') (hn : ∀ k, part g b k → ¬ S k) : En w' B g b n s := ⟨h.newer, h.holds.chg hc (hn g (.inl rfl)), h.km.chg hc (hn b (.inr rfl)), h.inv⟩
theorem En.below (h : En w B g b n s) (hb : Below w.heap.size w w') : En w' B g b n s := h.chg (Chg.of_below (fun _ => False) hb) (fun _ _ h => h)
theorem En.drewN (h : En w B g b n s) (m : Nat) : En (w.drewN m) B g b n s := h.below (below_drewN (Below.refl _ _) m)
theorem En.mono (h : En w B g b n s) {n' : Nat} (hn : n ≤ n') : En w B g b n' s := ⟨h.newer, h.holds, h.km.mono hn, h.inv⟩
theorem En.cells (h : En w B g b n s) : w.cell? ⟨g, 0, none⟩ = some (.int .i64 s.me) ∧ w.cell? ⟨g, 1, none⟩ = some (.int .i64 s.tmo) ∧ w.cell? ⟨g, 2, none⟩ = some (.int .i64 s.ign) ∧ w.cell? ⟨g, 3, none⟩ = some (.int .u16 s.boot) ∧
    w.cell? ⟨g, 4, none⟩ = some (.int .u16 s.seq) ∧ w.cell? ⟨g, 5, none⟩ = some (.int .i64 s.root) ∧ w.cell? ⟨g, 6, none⟩ = some (.int .i64 s.waited) ∧ w.cell? ⟨g, 7, none⟩ = some (.int .i64 s.quiet) ∧ w.cell? ⟨g, 8, none⟩ = some (.map (some b)) :=
  ⟨h.holds.cell 0, h.holds.cell 1, h.holds.cell 2, h.holds.cell 3, h.holds.cell 4, h.holds.cell 5, h.holds.cell 6, h.holds.cell 7, h.holds.cell 8⟩
theorem Now.of_below (h : Now B g b n s w w') {u : World} (hb : Below w'.heap.size w' u) : Now B g b n s w u := by
  obtain ⟨b', ht, hc, hp⟩ := h
  exact ⟨b', ht.below hb, hc.trans (Chg.of_below (fun _ => False) hb) (fun _ _ h => h.elim), hp⟩
theorem Now.after {u : World} (hb : Below w.heap.size w u) (h : Now B g b n s u w') : Now B g b n s w w' := by
  obtain ⟨b', ht, hc, hp⟩ := h
  exact ⟨b', ht, (Chg.of_below (part g b) hb).trans hc (fun _ _ h => h), hp.imp id (fun h => Nat.le_trans hb.size h)⟩
theorem Now.refl (h : En w B g b n s) : Now B g b n s w w := ⟨b, h, Chg.refl _ _, .inl rfl⟩
theorem Now.mono (h : Now B g b n s w w') {n' : Nat} (hn : n ≤ n') : Now B g b n' s w w' := by
  obtain ⟨b', ht, hc, hp⟩ := h
  exact ⟨b', ht.mono hn, hc, hp⟩
/-- All that the law made lies at B and behind it. -/
theorem Now.law {W : World} {n0 : Nat} {s0 : St} (h : Now B g b n s w w') (h0 : En w B g b n0 s0) (hb : Below B W w) : Below B W w' := by
  obtain ⟨b', ht, hc, hp⟩ := h
  refine Below.chg hb hc ?_ (fun k hk => ?_)
  · have := h0.newer
    have := h0.lt
    omega
  · rcases hk with rfl | rfl
    · exact h0.newer.1
    · exact h0.newer.2
theorem En.at (h : En w B g b n s) {B' : Nat} (hg : B' ≤ g) (hb : B' ≤ b) : En w B' g b n s := ⟨⟨hg, hb⟩, h.holds, h.km, h.inv⟩
/-- Nothing of a node changed but its first cells: they are another state's. -/
theorem En.put (h : En w B g b n s) (i : Nat) (u : Value) {s' : St} (hs : (nodeC s b).setIfInBounds i u = nodeC s' b) (hf : s'.f = s.f) (hi : Inv s') : En (w.setCell ⟨g, i, none⟩ u) B g b n s' :=
  ⟨h.newer, by rw [← hs]; exact h.holds.put i u, by rw [hf]; exact h.km.far h.ne.symm u, hi⟩
end
theorem root_any (w : World) (B g b n : Nat) (s : St) (h : En w B g b n s) : Calls Try.prog 13 #[.pointer (some ⟨g, 0, none⟩)] w fun e w' => e = .returned (.int .i64 s.root) ∧ w = w' := by
  obtain ⟨_, _, _, _, _, c5, _⟩ := h.cells
  clear h
  go_enter Try.func13, Try.ntmps13
  go_wp2
  go_ret
  exact ⟨rfl, rfl⟩
theorem root_nil (w : World) : Calls Try.prog 13 #[.pointer none] w fun e w' => e = .returned (.int .i64 (-1)) ∧ w = w' := by
  go_enter Try.func13, Try.ntmps13
  go_wp2
  go_ret
  exact ⟨rfl, rfl⟩
theorem mine_any (w : World) (B g b n : Nat) (s : St) (h : En w B g b n s) : Calls Try.prog 14 #[.pointer (some ⟨g, 0, none⟩)] w fun e w' => e = .returned (.bool (decide (s.root = s.me))) ∧ ∃ nq, w' = w.drewN nq := by
  obtain ⟨c0, _, _, _, _, c5, _⟩ := h.cells
  clear h
  by_cases hm : s.root = s.me
  · rw [decide_eq_true hm]
    have d : (s.root == s.me) = true := by simp [hm]
    clear hm
    go_enter Try.func14, Try.ntmps14
    go_wp2
    go_quiet (fail)
    go_wp2
    go_ret
    exact ⟨rfl, _, rfl⟩
  · rw [decide_eq_false hm]
    have d : (s.root == s.me) = false := by simp [hm]
    clear hm
    go_enter Try.func14, Try.ntmps14
    go_wp2
    go_quiet (fail)
    go_wp2
    go_ret
    exact ⟨rfl, _, rfl⟩
theorem mine_nil (w : World) : Calls Try.prog 14 #[.pointer none] w fun e w' => e = .returned (.bool false) ∧ ∃ nq, w' = w.drewN nq := by
  go_enter Try.func14, Try.ntmps14
  go_wp2
  go_quiet (fail)
  go_wp2
  go_ret
  exact ⟨rfl, _, rfl⟩
theorem newB_self (a : Int) : newB a a = false := by
  unfold newB
  exact decide_eq_false (by omega)
theorem mnewer_any (w : World) (b1 s1 b2 s2 : Int) : Calls Try.prog 27 #[markV (b1, s1), markV (b2, s2)] w fun e w' => e = .returned (.bool (newM b1 s1 b2 s2)) ∧ Below w.heap.size w w' := by
  unfold markV
  simp only []
  have hb : Below w.heap.size w ((w.alloc (.cells #[.int .u16 b1, .int .u16 s1] 33)).alloc (.cells #[.int .u16 b2, .int .u16 s2] 33)) := (below_alloc w _).alloc (by simp) _
  have hx := newer_any b1 b2
  have hy := newer_any s1 s2
  by_cases he : b1 = b2
  · have e1 : newM b1 s1 b2 s2 = newB s1 s2 := by unfold newM; rw [if_pos he]
    rw [e1]
    have e2 : newB b1 b2 = false := by rw [he]; exact newB_self _
    have d : (b1 == b2) = true := by simp [he]
    rw [e2] at hx
    obtain ⟨V, hV⟩ : ∃ V, newB s1 s2 = V := ⟨_, rfl⟩
    rw [hV] at hy ⊢
    clear he e1 e2 hV
    cases V <;>
    · go_enter Try.func27, Try.ntmps27
      go_wp2_with (first
        | (go_at_call 29; (with_reducible refine (hx _).mono ?_); rintro e w' ⟨rfl, rfl⟩)
        | (go_at_call 29; (with_reducible refine (hy _).mono ?_); rintro e w' ⟨rfl, rfl⟩))
      go_ret
      exact ⟨rfl, hb⟩
  · have e1 : newM b1 s1 b2 s2 = newB b1 b2 := by unfold newM; rw [if_neg he]
    rw [e1]
    have d : (b1 == b2) = false := by simp [he]
    obtain ⟨V, hV⟩ : ∃ V, newB b1 b2 = V := ⟨_, rfl⟩
    rw [hV] at hx ⊢
    clear he e1 hV
    cases V <;>
    · go_enter Try.func27, Try.ntmps27
      go_wp2_with (first
        | (go_at_call 29; (with_reducible refine (hx _).mono ?_); rintro e w' ⟨rfl, rfl⟩))
      go_ret
      exact ⟨rfl, hb⟩
/-- What heeds answers. -/
theorem heed_yes {s : St} {r : Int} (h : 0 ≤ r ∧ r < s.me ∧ if s.root = s.me then s.quiet = 0 else (s.root = -1 ∨ r ≤ s.root)) : heedB s r = true := (heed_iff s r).2 h
theorem heed_no {s : St} {r : Int} (h : ¬ (0 ≤ r ∧ r < s.me ∧ if s.root = s.me then s.quiet = 0 else (s.root = -1 ∨ r ≤ s.root))) : heedB s r = false := by
  unfold heedB
  exact decide_eq_false h
theorem heeds_any (w : World) (B g b n : Nat) (s : St) (h : En w B g b n s) (r : Int) : Calls Try.prog 26 #[.pointer (some ⟨g, 0, none⟩), .int .i64 r] w fun e w' => e = .returned (.bool (heedB s r)) ∧ ∃ nq, w' = w.drewN nq := by
  obtain ⟨c0, _, _, _, _, c5, _, c7, _⟩ := h.cells
  have hm := fun m => mine_any (w.drewN m) B g b n s (h.drewN m)
  have hm0 := mine_any w B g b n s h
  have hbd := h.inv.root
  clear h
  by_cases h0 : r < 0
  · rw [heed_no (by omega)]
    go_enter Try.func26, Try.ntmps26
    go_wp2
    go_ret
    exact ⟨rfl, 0, rfl⟩
  · have d0 : decide (r < 0) = false := decide_eq_false h0
    by_cases h1 : s.me ≤ r
    · rw [heed_no (by omega)]
      have d1 : decide (s.me ≤ r) = true := decide_eq_true h1
      go_enter Try.func26, Try.ntmps26
      go_wp2
      go_ret
      exact ⟨rfl, 0, rfl⟩
    · have d1 : decide (s.me ≤ r) = false := decide_eq_false h1
      by_cases h2 : s.root = s.me
      · rw [decide_eq_true h2] at hm0
        by_cases h3 : s.quiet = 0
        · rw [heed_yes (by rw [if_pos h2]; omega)]
          have d3 : (s.quiet == 0) = true := by simp [h3]
          clear h2 h3
          go_enter Try.func26, Try.ntmps26
          go_wp2_with (go_at_call 14; refine hm0.mono ?_; rintro e w' ⟨rfl, nq, rfl⟩)
          go_ret
          exact ⟨rfl, _, rfl⟩
        · rw [heed_no (by rw [if_pos h2]; omega)]
          have d3 : (s.quiet == 0) = false := by simp [h3]
          clear h2 h3
          go_enter Try.func26, Try.ntmps26
          go_wp2_with (go_at_call 14; refine hm0.mono ?_; rintro e w' ⟨rfl, nq, rfl⟩)
          go_ret
          exact ⟨rfl, _, rfl⟩
      · rw [decide_eq_false h2] at hm0
        by_cases h3 : s.root = -1
        · rw [heed_yes (by rw [if_neg h2]; omega)]
          have d3 : (s.root == -1) = true := by simp [h3]
          clear h2 h3
          go_enter Try.func26, Try.ntmps26
          go_wp2_with (go_at_call 14; refine hm0.mono ?_; rintro e w' ⟨rfl, nq, rfl⟩)
          go_ret
          exact ⟨rfl, _, rfl⟩
        · have d3 : (s.root == -1) = false := by simp [h3]
          by_cases h4 : r ≤ s.root
          · rw [heed_yes (by rw [if_neg h2]; omega)]
            have d4 : decide (r ≤ s.root) = true := decide_eq_true h4
            clear h2 h3
            go_enter Try.func26, Try.ntmps26
            go_wp2_with (go_at_call 14; refine hm0.mono ?_; rintro e w' ⟨rfl, nq, rfl⟩)
            go_ret
            exact ⟨rfl, _, rfl⟩
          · rw [heed_no (by rw [if_neg h2]; omega)]
            have d4 : decide (r ≤ s.root) = false := decide_eq_false h4
            clear h2 h3
            go_enter Try.func26, Try.ntmps26
            go_wp2_with (go_at_call 14; refine hm0.mono ?_; rintro e w' ⟨rfl, nq, rfl⟩)
            go_ret
            exact ⟨rfl, _, rfl⟩
/-- Can there be such rules? -/
def rulesB (tmo ign : Int) : Bool := decide (1 ≤ tmo ∧ tmo ≤ 1000 ∧ 0 ≤ ign ∧ ign ≤ 1000)
theorem rules_any (w : World) (tmo ign : Int) : Calls Try.prog 18 #[.agg #[.int .i64 tmo, .int .i64 ign]] w fun e w' => e = .returned (.bool (rulesB tmo ign)) ∧ Below w.heap.size w w' := by
  have hb : Below w.heap.size w (w.alloc (.cells #[.int .i64 tmo, .int .i64 ign] 23)) := below_alloc w _
  by_cases h1 : 1 ≤ tmo
  · have d1 : decide (1 ≤ tmo) = true := decide_eq_true h1
    by_cases h2 : tmo ≤ 1000
    · have d2 : decide (tmo ≤ 1000) = true := decide_eq_true h2
      by_cases h3 : 0 ≤ ign
      · have d3 : decide (0 ≤ ign) = true := decide_eq_true h3
        by_cases h4 : ign ≤ 1000
        · have d4 : decide (ign ≤ 1000) = true := decide_eq_true h4
          have e : rulesB tmo ign = true := decide_eq_true ⟨h1, h2, h3, h4⟩
          rw [e]
          clear e
          go_enter Try.func18, Try.ntmps18
          go_wp2
          go_ret
          exact ⟨rfl, hb⟩
        · have d4 : decide (ign ≤ 1000) = false := decide_eq_false h4
          have e : rulesB tmo ign = false := decide_eq_false (by omega)
          rw [e]
          clear e
          go_enter Try.func18, Try.ntmps18
          go_wp2
          go_ret
          exact ⟨rfl, hb⟩
      · have d3 : decide (0 ≤ ign) = false := decide_eq_false h3
        have e : rulesB tmo ign = false := decide_eq_false (by omega)
        rw [e]
        clear e
        go_enter Try.func18, Try.ntmps18
        go_wp2
        go_ret
        exact ⟨rfl, hb⟩
    · have d2 : decide (tmo ≤ 1000) = false := decide_eq_false h2
      have e : rulesB tmo ign = false := decide_eq_false (by omega)
      rw [e]
      clear e
      go_enter Try.func18, Try.ntmps18
      go_wp2
      go_ret
      exact ⟨rfl, hb⟩
  · have d1 : decide (1 ≤ tmo) = false := decide_eq_false h1
    have e : rulesB tmo ign = false := decide_eq_false (by omega)
    rw [e]
    clear e
    go_enter Try.func18, Try.ntmps18
    go_wp2
    go_ret
    exact ⟨rfl, hb⟩
end Go.Proofs.Ytpcbbpcibmpopaa
