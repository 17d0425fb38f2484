/- Laws' nodes that flood: one entry alone; the laws' own rules and words; what the document tells. -/
import Derived.Test.YtgmeakcfiaopcaaGreatFlF
import Derived.Test.YtgmeakcfiaopcaaGreatFlG
import Derived.Test.YtgmeakcfiaopcaaGreatFlH
namespace Go.Proofs.YtgmeakcfiaopcaaGreat
open Go.RowKit
set_option linter.unusedVariables false
set_option linter.unusedSimpArgs false

theorem fof_single (d : Int) (e : Ent) : ofV d [e] = (0, 1) := of_flat (by
  show denV (ptsL [e]) = 0
  unfold ptsL denV
  simp [ptO, headE, sumP, pXX, pX])
theorem floc_single (e : Ent) : locV [e] = e.1 := by simp [locV, sumE, entL]
theorem foff_single (e : Ent) : offV [e] = e.2.1 := by simp [offV, sumE, entO]
theorem fgain_zero (t : Int) : gainV 0 1 t = 0 := by simp [gainV]
theorem fraw_single (l o t : Int) : rawV l o 0 1 t = t + o := by unfold rawV; rw [fgain_zero]; omega
theorem fmost_single {e : Ent} (h : CanE e) : mostL [e] = e.2.2 := by
  have := h.h1
  unfold mostL
  simp
  omega
/-- One entry tells the time as it was, and what went by since. -/
theorem single_tells {f : FS} {e : Ent} (hL : f.L = [e]) (hc : CanE e) (hm : minB f = false) (hn : f.need = 1) {lo : Int} (h1 : CanT lo) (h2 : CanT (lo + e.2.1)) : Tells f lo (lo + e.2.1) e.2.2 0 := by
  refine .inr (.inr (.inr ⟨?_, (timeB_iff lo).2 h1, hm, lo + e.2.1, true, ?_, .inl ⟨rfl, rfl, ?_, rfl⟩⟩))
  · unfold synB
    rw [hL, hn]
    exact decide_eq_true (.inr (by simp))
  · rw [hL, fof_single, floc_single, foff_single]
    exact ⟨.inl ⟨h1, by rw [fraw_single]; exact h2, by rw [fraw_single], rfl⟩⟩
  · rw [hL, fmost_single hc]
section
variable {w wr w' : World} {T : TypeId} {C : Array Value} {gf g b n n' : Nat} {f f' : FS}
/-- A law's own block, and a node that is younger. -/
structure Lf (w wr : World) (T : TypeId) (C : Array Value) (gf g b n : Nat) (f : FS) : Prop where
  box : Box w T C wr
  fo : Fo wr (w.heap.size + 1) gf g b n f
  inv : FInv f
theorem Lf.start {w1 : World} (hB : Box w T C w1) (hE : Fo wr w1.heap.size gf g b n f) (hI : FInv f) (hb : Below w1.heap.size w1 wr) : Lf w wr T C gf g b n f :=
  ⟨hB.next hb, hE.at (by have := hB.lt; omega), hI⟩
theorem Lf.low (h : Lf w wr T C gf g b n f) : ∀ k, fpart gf g b k → w.heap.size + 1 ≤ k := fun k hk => by
  have h1 := h.fo.newer
  have h2 := h.fo.node.newer
  rcases hk with rfl | rfl | rfl
  · exact h1
  · exact h2.1
  · exact h2.2
theorem Lf.below (h : Lf w wr T C gf g b n f) (hb : Below wr.heap.size wr w') : Lf w w' T C gf g b n f := ⟨h.box.next hb, h.fo.below hb, h.inv⟩
theorem Lf.alloc (h : Lf w wr T C gf g b n f) (o : Obj) : Lf w (wr.alloc o) T C gf g b n f := h.below (below_alloc _ _)
theorem Lf.drewN (h : Lf w wr T C gf g b n f) (m : Nat) : Lf w (wr.drewN m) T C gf g b n f := h.below (below_drewN (Below.refl _ _) m)
theorem Lf.drew (h : Lf w wr T C gf g b n f) : Lf w wr.drew T C gf g b n f := h.drewN 1
theorem Lf.mono (h : Lf w wr T C gf g b n f) (hn : n ≤ n') : Lf w wr T C gf g b n' f := ⟨h.box, h.fo.mono hn, h.inv⟩
theorem Lf.law (h : Lf w wr T C gf g b n f) : Below w.heap.size w wr := h.box.below
theorem Lf.box_low (h : Lf w wr T C gf g b n f) : ¬ fpart gf g b w.heap.size := fun k => by have := h.low _ k; omega
/-- A step of the node. -/
theorem Lf.step (h : Lf w wr T C gf g b n f) (hg : FGoes (w.heap.size + 1) gf g b n' f' wr w') (hI : FInv f') : ∃ b', Lf w w' T C gf g b' n' f' ∧ Chg (fpart gf g b) wr w' := by
  obtain ⟨b', h1, h2, h3⟩ := hg
  exact ⟨b', ⟨⟨h.box.holds.chg h2 h.box_low, Below.chg h.box.below h2 (Nat.le_of_lt h.box.lt) (fun k hk => by have := h.low k hk; omega)⟩, h1, hI⟩, h2⟩
/-- Another block of the law's own stays. -/
theorem Lf.other (h : Lf w wr T C gf g b n f) {o : Nat} {ty : TypeId} {cs : Array Value} (HO : Holds wr o ty cs) (hT : ty ≠ 89 ∧ ty ≠ 120) (hc : Chg (fpart gf g b) wr w') : Holds w' o ty cs := by
  obtain ⟨K, hK⟩ := h.fo.tab
  have h1 : o ≠ gf := HO.apart hK.holds hT.1
  have h2 : o ≠ g := HO.apart h.fo.node.holds hT.2
  have h3 : o ≠ b := h.fo.node.km.apart HO
  exact HO.chg hc (fun k => by rcases k with e | e | e <;> contradiction)
/-- A block of the law's own is written: the node stays. -/
theorem Lf.row (h : Lf w wr T C gf g b n f) {o : Nat} {ty : TypeId} {cs : Array Value} (HO : Holds wr o ty cs) (hT : ty ≠ 89 ∧ ty ≠ 120) (ho : w.heap.size < o) (cs' : Array Value) : Lf w (wr.setRow o cs') T C gf g b n f := by
  obtain ⟨K, hK⟩ := h.fo.tab
  have h1 : o ≠ gf := HO.apart hK.holds hT.1
  have h2 : o ≠ g := HO.apart h.fo.node.holds hT.2
  have h3 : o ≠ b := h.fo.node.km.apart HO
  have hc : Chg (fun k => k = o) wr (wr.setRow o cs') := Chg.of_grown (grown_row wr o _) (fun k e => by cases e; rfl)
  refine ⟨⟨h.box.holds.chg hc (fun e => by omega), Below.chg h.box.below hc (Nat.le_of_lt h.box.lt) (fun k e => by omega)⟩, h.fo.chg hc (fun k hk e => ?_), h.inv⟩
  cases e
  rcases hk with e | e | e <;> contradiction
end
end Go.Proofs.YtgmeakcfiaopcaaGreat
