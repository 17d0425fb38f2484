/- Package frame's Good: what picks its numbers (shared: Good of each kind is told by its own picked_..). -/
import Derived.Test.YtoggpdfkklombaaFrmP
import Derived.Test.YtoggpdfkklombaaBox
import Derived.Deep.RegionLaw
import Derived.Deep.QuietTactic
import Derived.BigQuiet
namespace Go.Proofs.Ytoggpdfkklombaa
open Go.RowKit
set_option linter.unusedVariables false
set_option linter.unusedSimpArgs false

/-- The greatest number that a field may be. -/
def wmost (k : Int) : Int := if k = 1 then 63 else if k = 2 then 63 else if k = 3 then 65535 else if k = 4 then 1125899906842624 else 6
def wokF (k n : Int) : Bool := decide (0 ≤ n) && decide (n ≤ wmost k)
def WKind (k : Int) : Prop := k = 0 ∨ k = 1 ∨ k = 2 ∨ k = 3 ∨ k = 4
theorem wmost_any (k : Int) (w : World) (hk : WKind k) : Calls Try.prog 38 #[.int .i64 k] w fun e w' => e = .returned (.int .i64 (wmost k)) ∧ w = w' := by
  rcases hk with rfl | rfl | rfl | rfl | rfl
  all_goals
    go_enter Try.func38, Try.ntmps38
    go_wp2
    go_ret
    exact ⟨rfl, rfl⟩
/-- What Good's function value leaves of its variable. -/
theorem wpick_any (g : Nat) (k n : Int) (s : Bool) (w : World) (hk : WKind k) (hn : Fits n) (h : Holds w g 4 #[.bool s]) :
    Calls Try.prog 37 #[.int .i64 k, .int .i64 n, .pointer (some ⟨g, 0, none⟩)] w fun e w' => e = .returned (.int .i64 n) ∧ w' = w.setCell ⟨g, 0, none⟩ (.bool (s && wokF k n)) := by
  have c0 := h.cell 0
  have f0 := h.soft 0
  obtain ⟨n1, n2⟩ := hn
  have hm := wmost_any k w hk
  obtain ⟨M, hM⟩ : ∃ M, wmost k = M := ⟨_, rfl⟩
  rw [hM] at hm
  unfold wokF
  simp only [hM]
  clear h hM hk
  cases s
  · go_enter Try.func37, Try.ntmps37
    go_wp2
    go_ret
    exact ⟨rfl, rfl⟩
  by_cases h0 : 0 ≤ n
  · by_cases h1 : n ≤ M
    · have e0 : decide (0 ≤ n) = true := by simpa using h0
      have e1 : decide (n ≤ M) = true := by simpa using h1
      go_enter Try.func37, Try.ntmps37
      go_wp2_with (go_at_call 38; refine hm.mono ?_; rintro e w' ⟨rfl, rfl⟩)
      go_ret
      simp [h0, h1]
    · have e0 : decide (0 ≤ n) = true := by simpa using h0
      have e1 : decide (n ≤ M) = false := by simpa using h1
      go_enter Try.func37, Try.ntmps37
      go_wp2_with (go_at_call 38; refine hm.mono ?_; rintro e w' ⟨rfl, rfl⟩)
      go_ret
      simp [h0, e1]
  · have e0 : decide (0 ≤ n) = false := by simpa using h0
    go_enter Try.func37, Try.ntmps37
    go_wp2
    go_ret
    simp [h0]
/-- A variable of the call's own that holds one value. -/
structure WOne (w0 : World) (g : Nat) (t : TypeId) (v : Value) (w : World) : Prop where
  below : Below w0.heap.size w0 w
  new : w0.heap.size ≤ g
  holds : Holds w g t #[v]
section
variable {w0 w : World} {g : Nat} {t : TypeId} {v : Value}
theorem WOne.drew (h : WOne w0 g t v w) : WOne w0 g t v w.drew := ⟨h.below.drew, h.new, h.holds⟩
theorem WOne.alloc (h : WOne w0 g t v w) (o : Obj) : WOne w0 g t v (w.alloc o) := ⟨h.below.alloc h.below.size o, h.new, h.holds.alloc o⟩
theorem WOne.put (h : WOne w0 g t v w) (u : Value) : WOne w0 g t u (w.setCell ⟨g, 0, none⟩ u) := ⟨h.below.setCell (p := ⟨g, 0, none⟩) h.new u, h.new, by simpa using h.holds.put 0 u⟩
theorem WOne.far (h : WOne w0 g t v w) {b i : Nat} {t' : TypeId} {cs : Array Value} (hb : w0.heap.size ≤ b) (ho : Holds w b t' cs) (hne : t ≠ t') (u : Value) : WOne w0 g t v (w.setCell ⟨b, i, none⟩ u) :=
  ⟨h.below.setCell (p := ⟨b, i, none⟩) hb u, h.new, h.holds.far (h.holds.apart ho hne) u⟩
theorem WOne.start (w0 : World) (t : TypeId) (v : Value) : WOne w0 w0.heap.size t v (w0.alloc (.cells #[v] t)) := ⟨(Below.refl _ _).alloc (Nat.le_refl _) _, Nat.le_refl _, Holds.new _ _ _⟩
theorem wkeeps_put (h : Holds w g t #[v]) (ht : ¬ frameType t) (u : Value) : KeepsFrames w (w.setCell ⟨g, 0, none⟩ u) :=
  ⟨by simp [World.setCell], fun g' t' cs hf hh => hh.far (hh.apart h (fun e => ht (by rw [← e]; exact hf))) u⟩
end
theorem wbool_plain : ¬ frameType 4 := by unfold frameType; decide
theorem wne_frame {t t' : TypeId} (h : ¬ frameType t) (h' : frameType t') : t ≠ t' := fun e => h (by rw [e]; exact h')
/-- Good's function value. -/
def wgoodP (w0 : World) (g : Nat) : Picks Bool where
  fn := 37
  caps := #[.pointer (some ⟨g, 0, none⟩)]
  base := w0.heap.size
  inv s w := WOne w0 g 4 (.bool s) w
  next s k n := s && wokF k n
  tells _ _ n := n
  good _ k n := WKind k ∧ Fits n
theorem wgoodP_right (w0 : World) (g : Nat) : (wgoodP w0 g).Right where
  enters := enters_of Try.func37 (by kernel_rfl) rfl
  call s k n w h hg := (wpick_any g k n s w hg.1 hg.2 h.holds).mono fun e w' ⟨he, hw⟩ => ⟨he, by rw [hw]; exact h.put _, by rw [hw]; exact wkeeps_put h.holds wbool_plain _⟩
  drew s w h := h.drew
  alloc s w o h := h.alloc o
  size s w h := h.below.size
  store s w b i u t cs h hb ht _ hh := h.far hb hh (wne_frame wbool_plain ht) u
theorem wpick {w0 : World} {g : Nat} (s : Bool) (k n : Int) (hk : WKind k) (hn : Fits n) : Pick (wgoodP w0 g) s k n n (s && wokF k n) := ⟨⟨hk, hn⟩, rfl, rfl⟩
theorem fit16 {n : Int} (h : F16 n) : Fits n := by
  obtain ⟨h0, h1⟩ := h
  exact ⟨by omega, by omega⟩
/-- Good, where picked leaves the variable at what the frame's numbers say. -/
theorem wgood_of {T : TypeId} {v : Value} {G : Bool} (w : World) (hne : ∀ W : World, (binOp .neq 76 (.iface T v) .nilIface).run Try.prog W = .ok (.bool true) W)
    (hp : Calls Try.prog 36 #[.iface T v, .func (.func (wgoodP w w.heap.size).fn) #[] (wgoodP w w.heap.size).caps] (w.alloc (.cells #[.bool true] 4)) (Picked (.iface T v) (wgoodP w w.heap.size) G (w.alloc (.cells #[.bool true] 4)))) :
    Calls Try.prog 29 #[.iface T v] w fun e w' => e = .returned (.bool G) ∧ Below w.heap.size w w' := by
  cases G
  all_goals
    go_enter Try.func29, Try.ntmps29
    go_wp2_with (go_at_call 36; refine hp.mono ?_; rintro e w1 ⟨rfl, hi, hk⟩; have c0 := hi.holds.cell 0)
    go_ret
    exact ⟨rfl, hi.below⟩
end Go.Proofs.Ytoggpdfkklombaa
