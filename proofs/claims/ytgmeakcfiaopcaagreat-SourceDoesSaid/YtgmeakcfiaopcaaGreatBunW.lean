/- Texts of this seat, one behind the other. -/
import Derived.Test.YtgmeakcfiaopcaaGreatProg
import Derived.Test.YtgmeakcfiaopcaaGreatBunA
import Derived.Shelf.Abstract
import Derived.Deep.RegionHeld3
import Derived.Deep.DrawnRows
import Derived.Outline
import Derived.Deep.RegionLaw
import Derived.Deep.QuietTactic
import Derived.BigQuiet
/- Whatever picks numbers in package frame: what is asked of it. -/
namespace Go.Proofs.YtgmeakcfiaopcaaGreat
open Go.RowKit

/-- What picks: a function value over what it captured; its state, what it tells and what it makes of the state. -/
structure Picks (S : Type) where
  fn : FuncId
  caps : Array Value
  base : Nat
  inv : S → World → Prop
  next : S → Int → Int → S
  tells : S → Int → Int → Int
  good : S → Int → Int → Prop

/-- The types of frames' own variables. -/
def frameType (t : TypeId) : Prop := t = 63 ∨ t = 167 ∨ t = 169 ∨ t = 171 ∨ t = 173 ∨ t = 175

/-- No byte lies among these values. -/
def notByte : Value → Bool
  | .int .u8 _ => false
  | _ => true
def noByte (cs : Array Value) : Prop := ∀ (i : Nat) v, cs[i]? = some v → notByte v = true
theorem noByte_of {cs : Array Value} (h : cs.toList.all notByte = true) : noByte cs := fun i v hv => by
  refine List.all_eq_true.1 h v ?_
  rw [Array.mem_toList_iff]
  exact Array.mem_of_getElem? hv
theorem noByte.put {cs : Array Value} (h : noByte cs) (i : Nat) {u : Value} (hu : notByte u = true) : noByte (cs.setIfInBounds i u) := fun j v hv => by
  rw [Array.getElem?_setIfInBounds] at hv
  split at hv
  · split at hv
    · simp only [Option.some.injEq] at hv
      rw [← hv]
      exact hu
    · cases hv
  · exact h j v hv
theorem noByte.int {cs : Array Value} (h : noByte cs) (i : Nat) (z : Int) : cs[i]? ≠ some (.int .u8 z) := fun e => by
  have := h i _ e
  cases this

/-- A call keeps a frame's own variable. -/
def KeepsFrames (w w' : World) : Prop := w.heap.size ≤ w'.heap.size ∧ ∀ g t cs, frameType t → Holds w g t cs → Holds w' g t cs
theorem KeepsFrames.trans {a b c : World} (h : KeepsFrames a b) (k : KeepsFrames b c) : KeepsFrames a c := ⟨Nat.le_trans h.1 k.1, fun g t cs ht hh => k.2 g t cs ht (h.2 g t cs ht hh)⟩

structure Picks.Right {S : Type} (p : Picks S) : Prop where
  enters : Enters Tryz.prog p.fn
  call : ∀ s k n w, p.inv s w → p.good s k n → Calls Tryz.prog p.fn (#[.int .i64 k, .int .i64 n] ++ p.caps) w fun e w' => e = .returned (.int .i64 (p.tells s k n)) ∧ p.inv (p.next s k n) w' ∧ KeepsFrames w w'
  drew : ∀ s w, p.inv s w → p.inv s w.drew
  alloc : ∀ s w o, p.inv s w → p.inv s (w.alloc o)
  size : ∀ s w, p.inv s w → p.base ≤ w.heap.size
  store : ∀ s w g i u t cs, p.inv s w → p.base ≤ g → frameType t → noByte cs → Holds w g t cs → p.inv s (w.setCell ⟨g, i, none⟩ u)

/-- One pick: from a state to the next, a number asked and one told. -/
def Pick {S : Type} (p : Picks S) (s : S) (k n b : Int) (s' : S) : Prop := p.good s k n ∧ p.tells s k n = b ∧ p.next s k n = s'
theorem Pick.mk {S : Type} {p : Picks S} {s : S} {k n : Int} (h : p.good s k n) : Pick p s k n (p.tells s k n) (p.next s k n) := ⟨h, rfl, rfl⟩

/-- While a frame's numbers are picked: its own variable is the block behind all that was. -/
structure Mid {S : Type} (p : Picks S) (w0 : World) (T : TypeId) (cs : Array Value) (s : S) (w : World) : Prop where
  inv : p.inv s w
  type : frameType T
  holds : Holds w w0.heap.size T cs
  keeps : KeepsFrames w0 w
  old : p.base ≤ w0.heap.size
  plain : noByte cs

section
variable {S : Type} {p : Picks S} {w0 w : World} {T : TypeId} {cs : Array Value} {s s' : S} {k n b : Int}
theorem Mid.start (hp : p.Right) (ht : frameType T) (hb : noByte cs) (h : p.inv s w0) : Mid p w0 T cs s (w0.alloc (.cells cs T)) :=
  ⟨hp.alloc _ _ _ h, ht, Holds.new _ _ _, ⟨by simp, fun _ _ _ _ h => h.alloc _⟩, hp.size _ _ h, hb⟩
theorem Mid.drew (hp : p.Right) (h : Mid p w0 T cs s w) : Mid p w0 T cs s w.drew := ⟨hp.drew _ _ h.inv, h.type, h.holds, h.keeps, h.old, h.plain⟩
theorem Mid.put (hp : p.Right) (h : Mid p w0 T cs s w) (i : Nat) (u : Value) (hu : notByte u = true := by rfl) : Mid p w0 T (cs.setIfInBounds i u) s (w.setCell ⟨w0.heap.size, i, none⟩ u) :=
  ⟨hp.store _ _ _ _ _ _ _ h.inv h.old h.type h.plain h.holds, h.type, h.holds.put i u, ⟨by simpa [World.setCell] using h.keeps.1, fun g t c ht hh =>
    (h.keeps.2 g t c ht hh).far (by have := hh.lt; omega) u⟩, h.old, h.plain.put i hu⟩
theorem Mid.pick (hp : p.Right) (h : Mid p w0 T cs s w) (hk : Pick p s k n b s') :
    Calls Tryz.prog p.fn (#[.int .i64 k, .int .i64 n] ++ p.caps) w fun e w' => e = .returned (.int .i64 b) ∧ Mid p w0 T cs s' w' := by
  obtain ⟨h1, rfl, rfl⟩ := hk
  exact (hp.call s k n w h.inv h1).mono fun e w' ⟨he, hi, hf⟩ => ⟨he, hi, h.type, hf.2 _ _ _ h.type h.holds, h.keeps.trans hf, h.old, h.plain⟩
theorem Mid.mark (hp : p.Right) (h : Mid p w0 T cs s w) (hk : Pick p s 3 n b s') (hn : F16 n) (hb : F16 b) :
    Calls Tryz.prog 88 #[.func (.func p.fn) #[] p.caps, .int .u16 n] w fun e w' => e = .returned (.int .u16 b) ∧ Mid p w0 T cs s' w' := by
  have hc := h.pick hp hk
  obtain ⟨n1, n2⟩ := hn
  obtain ⟨b1, b2⟩ := hb
  have en : ∀ (args : Array Value) (w : World), (callFunc p.fn args).run Tryz.prog w = .ok (.enter p.fn args) w := hp.enters
  clear h hk hp
  go_enter Tryz.func88, Tryz.ntmps88
  go_wp2_with (go_at_fn p.fn; refine hc.mono ?_; rintro e w1 ⟨rfl, hm1⟩)
  go_ret
  exact ⟨rfl, hm1⟩
/-- A frame was answered, and what picked its numbers stands at a state. -/
def Picked (v : Value) (p : Picks S) (s : S) (w : World) (e : Ending) (w' : World) : Prop := e = .returned v ∧ p.inv s w' ∧ KeepsFrames w w'
theorem Mid.done (h : Mid p w0 T cs s w) (v : Value) : Picked v p s w0 (.returned v) w := ⟨rfl, h.inv, h.keeps⟩
end
end Go.Proofs.YtgmeakcfiaopcaaGreat

/- Package frame's Good: what picks its numbers (shared: Good of each kind is told by its own picked_..). -/
namespace Go.Proofs.YtgmeakcfiaopcaaGreat
open Go.RowKit
set_option linter.unusedVariables false
set_option linter.unusedSimpArgs false

/-- The greatest number that a field may be. -/
def wmost (k : Int) : Int := if k = 1 then 63 else if k = 2 then 63 else if k = 3 then 65535 else if k = 4 then 1125899906842624 else 6
def wokF (k n : Int) : Bool := decide (0 ≤ n) && decide (n ≤ wmost k)
def WKind (k : Int) : Prop := k = 0 ∨ k = 1 ∨ k = 2 ∨ k = 3 ∨ k = 4
theorem wmost_any (k : Int) (w : World) (hk : WKind k) : Calls Tryz.prog 77 #[.int .i64 k] w fun e w' => e = .returned (.int .i64 (wmost k)) ∧ w = w' := by
  rcases hk with rfl | rfl | rfl | rfl | rfl
  all_goals
    go_enter Tryz.func77, Tryz.ntmps77
    go_wp2
    go_ret
    exact ⟨rfl, rfl⟩
/-- What Good's function value leaves of its variable. -/
theorem wpick_any (g : Nat) (k n : Int) (s : Bool) (w : World) (hk : WKind k) (hn : Fits n) (h : Holds w g 4 #[.bool s]) :
    Calls Tryz.prog 76 #[.int .i64 k, .int .i64 n, .pointer (some ⟨g, 0, none⟩)] w fun e w' => e = .returned (.int .i64 n) ∧ w' = w.setCell ⟨g, 0, none⟩ (.bool (s && wokF k n)) := by
  have c0 := h.cell 0
  have f0 := h.soft 0
  obtain ⟨n1, n2⟩ := hn
  have hm := wmost_any k w hk
  obtain ⟨M, hM⟩ : ∃ M, wmost k = M := ⟨_, rfl⟩
  rw [hM] at hm
  unfold wokF
  simp only [hM]
  clear h hM hk
  cases s
  · go_enter Tryz.func76, Tryz.ntmps76
    go_wp2
    go_ret
    exact ⟨rfl, rfl⟩
  by_cases h0 : 0 ≤ n
  · by_cases h1 : n ≤ M
    · have e0 : decide (0 ≤ n) = true := by simpa using h0
      have e1 : decide (n ≤ M) = true := by simpa using h1
      go_enter Tryz.func76, Tryz.ntmps76
      go_wp2_with (go_at_call 77; refine hm.mono ?_; rintro e w' ⟨rfl, rfl⟩)
      go_ret
      simp [h0, h1]
    · have e0 : decide (0 ≤ n) = true := by simpa using h0
      have e1 : decide (n ≤ M) = false := by simpa using h1
      go_enter Tryz.func76, Tryz.ntmps76
      go_wp2_with (go_at_call 77; refine hm.mono ?_; rintro e w' ⟨rfl, rfl⟩)
      go_ret
      simp [h0, e1]
  · have e0 : decide (0 ≤ n) = false := by simpa using h0
    go_enter Tryz.func76, Tryz.ntmps76
    go_wp2
    go_ret
    simp [h0]
/-- A variable of the call's own that holds one value. -/
structure WOne (w0 : World) (g : Nat) (t : TypeId) (v : Value) (w : World) : Prop where
  below : Below w0.heap.size w0 w
  new : w0.heap.size ≤ g
  holds : Holds w g t #[v]
section
variable {w0 w : World} {g : Nat} {t : TypeId} {v : Value}
theorem WOne.drew (h : WOne w0 g t v w) : WOne w0 g t v w.drew := ⟨h.below.drew, h.new, h.holds⟩
theorem WOne.alloc (h : WOne w0 g t v w) (o : Obj) : WOne w0 g t v (w.alloc o) := ⟨h.below.alloc h.below.size o, h.new, h.holds.alloc o⟩
theorem WOne.put (h : WOne w0 g t v w) (u : Value) : WOne w0 g t u (w.setCell ⟨g, 0, none⟩ u) := ⟨h.below.setCell (p := ⟨g, 0, none⟩) h.new u, h.new, by simpa using h.holds.put 0 u⟩
theorem WOne.far (h : WOne w0 g t v w) {b i : Nat} {t' : TypeId} {cs : Array Value} (hb : w0.heap.size ≤ b) (ho : Holds w b t' cs) (hne : t ≠ t') (u : Value) : WOne w0 g t v (w.setCell ⟨b, i, none⟩ u) :=
  ⟨h.below.setCell (p := ⟨b, i, none⟩) hb u, h.new, h.holds.far (h.holds.apart ho hne) u⟩
theorem WOne.start (w0 : World) (t : TypeId) (v : Value) : WOne w0 w0.heap.size t v (w0.alloc (.cells #[v] t)) := ⟨(Below.refl _ _).alloc (Nat.le_refl _) _, Nat.le_refl _, Holds.new _ _ _⟩
theorem wkeeps_put (h : Holds w g t #[v]) (ht : ¬ frameType t) (u : Value) : KeepsFrames w (w.setCell ⟨g, 0, none⟩ u) :=
  ⟨by simp [World.setCell], fun g' t' cs hf hh => hh.far (hh.apart h (fun e => ht (by rw [← e]; exact hf))) u⟩
end
theorem wbool_plain : ¬ frameType 4 := by unfold frameType; decide
theorem wne_frame {t t' : TypeId} (h : ¬ frameType t) (h' : frameType t') : t ≠ t' := fun e => h (by rw [e]; exact h')
/-- Good's function value. -/
def wgoodP (w0 : World) (g : Nat) : Picks Bool where
  fn := 76
  caps := #[.pointer (some ⟨g, 0, none⟩)]
  base := w0.heap.size
  inv s w := WOne w0 g 4 (.bool s) w
  next s k n := s && wokF k n
  tells _ _ n := n
  good _ k n := WKind k ∧ Fits n
theorem wgoodP_right (w0 : World) (g : Nat) : (wgoodP w0 g).Right where
  enters := enters_of Tryz.func76 (by kernel_rfl) rfl
  call s k n w h hg := (wpick_any g k n s w hg.1 hg.2 h.holds).mono fun e w' ⟨he, hw⟩ => ⟨he, by rw [hw]; exact h.put _, by rw [hw]; exact wkeeps_put h.holds wbool_plain _⟩
  drew s w h := h.drew
  alloc s w o h := h.alloc o
  size s w h := h.below.size
  store s w b i u t cs h hb ht _ hh := h.far hb hh (wne_frame wbool_plain ht) u
theorem wpick {w0 : World} {g : Nat} (s : Bool) (k n : Int) (hk : WKind k) (hn : Fits n) : Pick (wgoodP w0 g) s k n n (s && wokF k n) := ⟨⟨hk, hn⟩, rfl, rfl⟩
theorem fit16 {n : Int} (h : F16 n) : Fits n := by
  obtain ⟨h0, h1⟩ := h
  exact ⟨by omega, by omega⟩
/-- Good, where picked leaves the variable at what the frame's numbers say. -/
theorem wgood_of {T : TypeId} {v : Value} {G : Bool} (w : World) (hne : ∀ W : World, (binOp .neq 152 (.iface T v) .nilIface).run Tryz.prog W = .ok (.bool true) W)
    (hp : Calls Tryz.prog 75 #[.iface T v, .func (.func (wgoodP w w.heap.size).fn) #[] (wgoodP w w.heap.size).caps] (w.alloc (.cells #[.bool true] 4)) (Picked (.iface T v) (wgoodP w w.heap.size) G (w.alloc (.cells #[.bool true] 4)))) :
    Calls Tryz.prog 65 #[.iface T v] w fun e w' => e = .returned (.bool G) ∧ Below w.heap.size w w' := by
  cases G
  all_goals
    go_enter Tryz.func65, Tryz.ntmps65
    go_wp2_with (go_at_call 75; refine hp.mono ?_; rintro e w1 ⟨rfl, hi, hk⟩; have c0 := hi.holds.cell 0)
    go_ret
    exact ⟨rfl, hi.below⟩
end Go.Proofs.YtgmeakcfiaopcaaGreat

/- What picked answers of a frame. (Written by wip/tools/mkframe.py.) -/
namespace Go.Proofs.YtgmeakcfiaopcaaGreat
open Go.RowKit
set_option linter.unusedSimpArgs false
attribute [local go_sem ↓] Go.wp_at_zero Go.wp_at_succ
theorem is_sync (W : World) (v : Value) : (Instr.typeAssert (.iface 63 v) 152 63 true).run Tryz.prog W = .ok (.tuple #[v, .bool true]) W := by kernel_rfl
set_option maxHeartbeats 4000000 in
set_option maxRecDepth 100000 in
theorem picked_sync {S : Type} (p : Picks S) (hp : p.Right) (s0 s1 s2 s3 s4 s5 s6 s7 : S) (a0 a1 a2 a3 a4 a5 b0 b1 b2 b3 b4 b5 bk : Int) (w : World) (h : p.inv s0 w) (q : Pick p s0 0 1 bk s1) (q0 : Pick p s1 1 a0 b0 s2) (q1 : Pick p s2 1 a1 b1 s3) (q2 : Pick p s3 3 a2 b2 s4) (u2 : F16 a2) (v2 : F16 b2) (q3 : Pick p s4 3 a3 b3 s5) (u3 : F16 a3) (v3 : F16 b3) (q4 : Pick p s5 2 a4 b4 s6) (q5 : Pick p s6 4 a5 b5 s7) :
    Calls Tryz.prog 75 #[.iface 63 (.agg #[.int .i64 a0, .int .i64 a1, .int .u16 a2, .int .u16 a3, .int .i64 a4, .int .i64 a5]), .func (.func p.fn) #[] p.caps] w (Picked (.iface 63 (.agg #[.int .i64 b0, .int .i64 b1, .int .u16 b2, .int .u16 b3, .int .i64 b4, .int .i64 b5])) p s7 w) := by
  have en : ∀ (args : Array Value) (w : World), (callFunc p.fn args).run Tryz.prog w = .ok (.enter p.fn args) w := hp.enters
  have t0 := is_sync
  have hm := Mid.start (T := 63) (cs := #[.int .i64 a0, .int .i64 a1, .int .u16 a2, .int .u16 a3, .int .i64 a4, .int .i64 a5]) hp (by unfold frameType; decide) (noByte_of rfl) h
  have HP := Lib.hid hp
  clear hp h
  go_enter Tryz.func75, Tryz.ntmps75
  go_wp2_with (go_at_fn p.fn; (with_reducible refine (hm.pick HP.out q).mono ?_); rintro e w1 ⟨rfl, m1⟩)
  have d0 := m1.drew HP.out
  refine region_turns (fun w' => w'.cell? ⟨w.heap.size, 0, none⟩ = some (.int .i64 a0) ∧ w'.cell? ⟨w.heap.size, 1, none⟩ = some (.int .i64 a1)) (fun j => decide (9 ≤ j)) (by kernel_rfl) ⟨d0.holds.cell 0, d0.holds.cell 1⟩ (fun hS => ?_)
  refine Turns.take hS 0 (.func (.func p.fn) #[] p.caps) rfl (by kernel_rfl) (by kernel_rfl) (by kernel_rfl) (by kernel_rfl) (fun _ _ _ h => h) (by rfl) (fun w' hS' => by go_simp) ?_
  simp only [Act.put, List.getElem_toArray, List.getElem_cons_succ, List.getElem_cons_zero, List.setIfInBounds_toArray, List.set_cons_zero, List.set_cons_succ]
  refine Turns.take hS 1 (.pointer (some ⟨w.heap.size, 0, none⟩)) rfl (by kernel_rfl) (by kernel_rfl) (by kernel_rfl) (by kernel_rfl) (fun _ _ _ h => h) (by rfl) (fun w' hS' => by go_simp) ?_
  simp only [Act.put, List.getElem_toArray, List.getElem_cons_succ, List.getElem_cons_zero, List.setIfInBounds_toArray, List.set_cons_zero, List.set_cons_succ]
  refine Turns.take hS 2 (.int .i64 a0) rfl (by kernel_rfl) (by kernel_rfl) (by kernel_rfl) (by kernel_rfl) (fun _ _ _ h => h) (by rfl) (fun w' hS' => by (try dsimp only at hS'); go_split_ands; go_simp) ?_
  simp only [Act.put, List.getElem_toArray, List.getElem_cons_succ, List.getElem_cons_zero, List.setIfInBounds_toArray, List.set_cons_zero, List.set_cons_succ]
  refine Turns.take hS 4 (.func (.func p.fn) #[] p.caps) rfl (by kernel_rfl) (by kernel_rfl) (by kernel_rfl) (by kernel_rfl) (fun _ _ _ h => h) (by rfl) (fun w' hS' => by go_simp) ?_
  simp only [Act.put, List.getElem_toArray, List.getElem_cons_succ, List.getElem_cons_zero, List.setIfInBounds_toArray, List.set_cons_zero, List.set_cons_succ]
  refine Turns.take hS 5 (.pointer (some ⟨w.heap.size, 1, none⟩)) rfl (by kernel_rfl) (by kernel_rfl) (by kernel_rfl) (by kernel_rfl) (fun _ _ _ h => h) (by rfl) (fun w' hS' => by go_simp) ?_
  simp only [Act.put, List.getElem_toArray, List.getElem_cons_succ, List.getElem_cons_zero, List.setIfInBounds_toArray, List.set_cons_zero, List.set_cons_succ]
  refine Turns.take hS 6 (.int .i64 a1) rfl (by kernel_rfl) (by kernel_rfl) (by kernel_rfl) (by kernel_rfl) (fun _ _ _ h => h) (by rfl) (fun w' hS' => by (try dsimp only at hS'); go_split_ands; go_simp) ?_
  simp only [Act.put, List.getElem_toArray, List.getElem_cons_succ, List.getElem_cons_zero, List.setIfInBounds_toArray, List.set_cons_zero, List.set_cons_succ]
  refine Turns.next 3 rfl (by kernel_rfl) (by rfl) (fun K hK => ?_)
  go_simp
  refine (d0.pick HP.out q0).mono ?_
  rintro e w2 ⟨rfl, m2⟩
  have hS2 : w2.cell? ⟨w.heap.size, 0, none⟩ = some (.int .i64 a0) ∧ w2.cell? ⟨w.heap.size, 1, none⟩ = some (.int .i64 a1) := ⟨m2.holds.cell 0, m2.holds.cell 1⟩
  refine hK.out _ _ hS2 ?_
  clear hK K
  refine Turns.take hS2 8 (.pointer (some ⟨w.heap.size, 0, none⟩)) rfl (by kernel_rfl) (by kernel_rfl) (by kernel_rfl) (by kernel_rfl) (fun _ _ _ h => h) (by rfl) (fun w' hS' => by go_simp) ?_
  simp only [Act.put, List.getElem_toArray, List.getElem_cons_succ, List.getElem_cons_zero, List.setIfInBounds_toArray, List.set_cons_zero, List.set_cons_succ]
  refine Turns.next 7 rfl (by kernel_rfl) (by rfl) (fun K hK => ?_)
  go_simp
  refine (m2.pick HP.out q1).mono ?_
  rintro e w3 ⟨rfl, m3⟩
  have hS3 : w3.cell? ⟨w.heap.size, 0, none⟩ = some (.int .i64 a0) ∧ w3.cell? ⟨w.heap.size, 1, none⟩ = some (.int .i64 a1) := ⟨m3.holds.cell 0, m3.holds.cell 1⟩
  refine hK.out _ _ hS3 ?_
  clear hK K
  refine Turns.rest (late_done (by kernel_rfl)) ?_
  refine any_tail 9 (by rfl) (by kernel_rfl) ?_
  simp only [List.drop_succ_cons, List.drop_zero]
  have e0 := m3.holds.cell 0
  have e1 := m3.holds.cell 1
  have f0 := m3.holds.soft 0
  have f1 := m3.holds.soft 1
  go_wp2
  have m4 := ((m3.put HP.out 0 (.int .i64 b0)).put HP.out 1 (.int .i64 b1))
  revert m4
  generalize ((w3.setCell ⟨w.heap.size, 0, none⟩ (.int .i64 b0)).setCell ⟨w.heap.size, 1, none⟩ (.int .i64 b1)) = w4
  intro m4
  clear e0 e1 f0 f1 d0
  have d1 := m4.drew HP.out
  refine region_turns (fun w' => w'.cell? ⟨w.heap.size, 2, none⟩ = some (.int .u16 a2) ∧ w'.cell? ⟨w.heap.size, 3, none⟩ = some (.int .u16 a3)) (fun j => decide (9 ≤ j)) (by kernel_rfl) ⟨d1.holds.cell 2, d1.holds.cell 3⟩ (fun hS => ?_)
  refine Turns.take hS 0 (.func (.func p.fn) #[] p.caps) rfl (by kernel_rfl) (by kernel_rfl) (by kernel_rfl) (by kernel_rfl) (fun _ _ _ h => h) (by rfl) (fun w' hS' => by go_simp) ?_
  simp only [Act.put, List.getElem_toArray, List.getElem_cons_succ, List.getElem_cons_zero, List.setIfInBounds_toArray, List.set_cons_zero, List.set_cons_succ]
  refine Turns.take hS 1 (.pointer (some ⟨w.heap.size, 2, none⟩)) rfl (by kernel_rfl) (by kernel_rfl) (by kernel_rfl) (by kernel_rfl) (fun _ _ _ h => h) (by rfl) (fun w' hS' => by go_simp) ?_
  simp only [Act.put, List.getElem_toArray, List.getElem_cons_succ, List.getElem_cons_zero, List.setIfInBounds_toArray, List.set_cons_zero, List.set_cons_succ]
  refine Turns.take hS 2 (.int .u16 a2) rfl (by kernel_rfl) (by kernel_rfl) (by kernel_rfl) (by kernel_rfl) (fun _ _ _ h => h) (by rfl) (fun w' hS' => by (try dsimp only at hS'); go_split_ands; go_simp) ?_
  simp only [Act.put, List.getElem_toArray, List.getElem_cons_succ, List.getElem_cons_zero, List.setIfInBounds_toArray, List.set_cons_zero, List.set_cons_succ]
  refine Turns.take hS 4 (.func (.func p.fn) #[] p.caps) rfl (by kernel_rfl) (by kernel_rfl) (by kernel_rfl) (by kernel_rfl) (fun _ _ _ h => h) (by rfl) (fun w' hS' => by go_simp) ?_
  simp only [Act.put, List.getElem_toArray, List.getElem_cons_succ, List.getElem_cons_zero, List.setIfInBounds_toArray, List.set_cons_zero, List.set_cons_succ]
  refine Turns.take hS 5 (.pointer (some ⟨w.heap.size, 3, none⟩)) rfl (by kernel_rfl) (by kernel_rfl) (by kernel_rfl) (by kernel_rfl) (fun _ _ _ h => h) (by rfl) (fun w' hS' => by go_simp) ?_
  simp only [Act.put, List.getElem_toArray, List.getElem_cons_succ, List.getElem_cons_zero, List.setIfInBounds_toArray, List.set_cons_zero, List.set_cons_succ]
  refine Turns.take hS 6 (.int .u16 a3) rfl (by kernel_rfl) (by kernel_rfl) (by kernel_rfl) (by kernel_rfl) (fun _ _ _ h => h) (by rfl) (fun w' hS' => by (try dsimp only at hS'); go_split_ands; go_simp) ?_
  simp only [Act.put, List.getElem_toArray, List.getElem_cons_succ, List.getElem_cons_zero, List.setIfInBounds_toArray, List.set_cons_zero, List.set_cons_succ]
  refine Turns.next 3 rfl (by kernel_rfl) (by rfl) (fun K hK => ?_)
  go_simp
  refine (Mid.mark HP.out d1 q2 u2 v2).mono ?_
  rintro e w5 ⟨rfl, m5⟩
  have hS5 : w5.cell? ⟨w.heap.size, 2, none⟩ = some (.int .u16 a2) ∧ w5.cell? ⟨w.heap.size, 3, none⟩ = some (.int .u16 a3) := ⟨m5.holds.cell 2, m5.holds.cell 3⟩
  refine hK.out _ _ hS5 ?_
  clear hK K
  refine Turns.take hS5 8 (.pointer (some ⟨w.heap.size, 2, none⟩)) rfl (by kernel_rfl) (by kernel_rfl) (by kernel_rfl) (by kernel_rfl) (fun _ _ _ h => h) (by rfl) (fun w' hS' => by go_simp) ?_
  simp only [Act.put, List.getElem_toArray, List.getElem_cons_succ, List.getElem_cons_zero, List.setIfInBounds_toArray, List.set_cons_zero, List.set_cons_succ]
  refine Turns.next 7 rfl (by kernel_rfl) (by rfl) (fun K hK => ?_)
  go_simp
  refine (Mid.mark HP.out m5 q3 u3 v3).mono ?_
  rintro e w6 ⟨rfl, m6⟩
  have hS6 : w6.cell? ⟨w.heap.size, 2, none⟩ = some (.int .u16 a2) ∧ w6.cell? ⟨w.heap.size, 3, none⟩ = some (.int .u16 a3) := ⟨m6.holds.cell 2, m6.holds.cell 3⟩
  refine hK.out _ _ hS6 ?_
  clear hK K
  refine Turns.rest (late_done (by kernel_rfl)) ?_
  refine any_tail 9 (by rfl) (by kernel_rfl) ?_
  simp only [List.drop_succ_cons, List.drop_zero]
  have e2 := m6.holds.cell 2
  have e3 := m6.holds.cell 3
  have f2 := m6.holds.soft 2
  have f3 := m6.holds.soft 3
  go_wp2
  have m7 := ((m6.put HP.out 2 (.int .u16 b2)).put HP.out 3 (.int .u16 b3))
  revert m7
  generalize ((w6.setCell ⟨w.heap.size, 2, none⟩ (.int .u16 b2)).setCell ⟨w.heap.size, 3, none⟩ (.int .u16 b3)) = w7
  intro m7
  clear e2 e3 f2 f3 d1
  have d2 := m7.drew HP.out
  refine region_turns (fun w' => w'.cell? ⟨w.heap.size, 4, none⟩ = some (.int .i64 a4) ∧ w'.cell? ⟨w.heap.size, 5, none⟩ = some (.int .i64 a5)) (fun j => decide (9 ≤ j)) (by kernel_rfl) ⟨d2.holds.cell 4, d2.holds.cell 5⟩ (fun hS => ?_)
  refine Turns.take hS 0 (.func (.func p.fn) #[] p.caps) rfl (by kernel_rfl) (by kernel_rfl) (by kernel_rfl) (by kernel_rfl) (fun _ _ _ h => h) (by rfl) (fun w' hS' => by go_simp) ?_
  simp only [Act.put, List.getElem_toArray, List.getElem_cons_succ, List.getElem_cons_zero, List.setIfInBounds_toArray, List.set_cons_zero, List.set_cons_succ]
  refine Turns.take hS 1 (.pointer (some ⟨w.heap.size, 4, none⟩)) rfl (by kernel_rfl) (by kernel_rfl) (by kernel_rfl) (by kernel_rfl) (fun _ _ _ h => h) (by rfl) (fun w' hS' => by go_simp) ?_
  simp only [Act.put, List.getElem_toArray, List.getElem_cons_succ, List.getElem_cons_zero, List.setIfInBounds_toArray, List.set_cons_zero, List.set_cons_succ]
  refine Turns.take hS 2 (.int .i64 a4) rfl (by kernel_rfl) (by kernel_rfl) (by kernel_rfl) (by kernel_rfl) (fun _ _ _ h => h) (by rfl) (fun w' hS' => by (try dsimp only at hS'); go_split_ands; go_simp) ?_
  simp only [Act.put, List.getElem_toArray, List.getElem_cons_succ, List.getElem_cons_zero, List.setIfInBounds_toArray, List.set_cons_zero, List.set_cons_succ]
  refine Turns.take hS 4 (.func (.func p.fn) #[] p.caps) rfl (by kernel_rfl) (by kernel_rfl) (by kernel_rfl) (by kernel_rfl) (fun _ _ _ h => h) (by rfl) (fun w' hS' => by go_simp) ?_
  simp only [Act.put, List.getElem_toArray, List.getElem_cons_succ, List.getElem_cons_zero, List.setIfInBounds_toArray, List.set_cons_zero, List.set_cons_succ]
  refine Turns.take hS 5 (.pointer (some ⟨w.heap.size, 5, none⟩)) rfl (by kernel_rfl) (by kernel_rfl) (by kernel_rfl) (by kernel_rfl) (fun _ _ _ h => h) (by rfl) (fun w' hS' => by go_simp) ?_
  simp only [Act.put, List.getElem_toArray, List.getElem_cons_succ, List.getElem_cons_zero, List.setIfInBounds_toArray, List.set_cons_zero, List.set_cons_succ]
  refine Turns.take hS 6 (.int .i64 a5) rfl (by kernel_rfl) (by kernel_rfl) (by kernel_rfl) (by kernel_rfl) (fun _ _ _ h => h) (by rfl) (fun w' hS' => by (try dsimp only at hS'); go_split_ands; go_simp) ?_
  simp only [Act.put, List.getElem_toArray, List.getElem_cons_succ, List.getElem_cons_zero, List.setIfInBounds_toArray, List.set_cons_zero, List.set_cons_succ]
  refine Turns.next 3 rfl (by kernel_rfl) (by rfl) (fun K hK => ?_)
  go_simp
  refine (d2.pick HP.out q4).mono ?_
  rintro e w8 ⟨rfl, m8⟩
  have hS8 : w8.cell? ⟨w.heap.size, 4, none⟩ = some (.int .i64 a4) ∧ w8.cell? ⟨w.heap.size, 5, none⟩ = some (.int .i64 a5) := ⟨m8.holds.cell 4, m8.holds.cell 5⟩
  refine hK.out _ _ hS8 ?_
  clear hK K
  refine Turns.take hS8 8 (.pointer (some ⟨w.heap.size, 4, none⟩)) rfl (by kernel_rfl) (by kernel_rfl) (by kernel_rfl) (by kernel_rfl) (fun _ _ _ h => h) (by rfl) (fun w' hS' => by go_simp) ?_
  simp only [Act.put, List.getElem_toArray, List.getElem_cons_succ, List.getElem_cons_zero, List.setIfInBounds_toArray, List.set_cons_zero, List.set_cons_succ]
  refine Turns.next 7 rfl (by kernel_rfl) (by rfl) (fun K hK => ?_)
  go_simp
  refine (m8.pick HP.out q5).mono ?_
  rintro e w9 ⟨rfl, m9⟩
  have hS9 : w9.cell? ⟨w.heap.size, 4, none⟩ = some (.int .i64 a4) ∧ w9.cell? ⟨w.heap.size, 5, none⟩ = some (.int .i64 a5) := ⟨m9.holds.cell 4, m9.holds.cell 5⟩
  refine hK.out _ _ hS9 ?_
  clear hK K
  refine Turns.rest (late_done (by kernel_rfl)) ?_
  refine any_tail 9 (by rfl) (by kernel_rfl) ?_
  simp only [List.drop_succ_cons, List.drop_zero]
  have e0 := m9.holds.cell 0
  have e1 := m9.holds.cell 1
  have e2 := m9.holds.cell 2
  have e3 := m9.holds.cell 3
  have e4 := m9.holds.cell 4
  have e5 := m9.holds.cell 5
  have f4 := m9.holds.soft 4
  have f5 := m9.holds.soft 5
  go_wp2
  go_ret
  exact ((m9.put HP.out 4 (.int .i64 b4)).put HP.out 5 (.int .i64 b5)).done _
end Go.Proofs.YtgmeakcfiaopcaaGreat

