/- Blocks of a call's own that are known whole (structs behind pointers), and rows of integers beside them. Nothing here speaks of one program. -/
import Derived.Test.YtgcmeoogmjganaaIntRows
namespace Go.Proofs.Ytgcmeoogmjganaa
open Go.RowKit

/-- Block g holds just these cells, and none is frozen. -/
def Holds (w : World) (g : Nat) (t : TypeId) (cs : Array Value) : Prop := w.heap[g]? = some (.cells cs t (0, 0))

section
variable {w w' : World} {g : Nat} {t : TypeId} {cs : Array Value}
theorem Holds.lt (h : Holds w g t cs) : g < w.heap.size := (Array.getElem?_eq_some_iff.1 h).1
theorem Holds.cell (h : Holds w g t cs) (i : Nat) : w.cell? ⟨g, i, none⟩ = cs[i]? := cell_of_row w g i cs t (0, 0) h
theorem Holds.soft (h : Holds w g t cs) (i : Nat) : w.frozen? ⟨g, i, none⟩ = false := by
  have h' : w.heap[g]? = _ := h
  simp [World.frozen?, h']
theorem Holds.new (w : World) (t : TypeId) (cs : Array Value) : Holds (w.alloc (.cells cs t)) w.heap.size t cs := heap_alloc_new w _
theorem Holds.drewN (h : Holds w g t cs) (n : Nat) : Holds (w.drewN n) g t cs := h
theorem Holds.alloc (h : Holds w g t cs) (o : Obj) : Holds (w.alloc o) g t cs := (Below.heap_alloc w o g h.lt).trans h
theorem Holds.put (h : Holds w g t cs) (i : Nat) (u : Value) : Holds (w.setCell ⟨g, i, none⟩ u) g t (cs.setIfInBounds i u) := by
  have h' : w.heap[g]? = _ := h
  show (w.setCell ⟨g, i, none⟩ u).heap[g]? = _
  simp [World.setCell, Array.getElem?_modify, h']
theorem Holds.far (h : Holds w g t cs) {b i : Nat} (hb : g ≠ b) (u : Value) : Holds (w.setCell ⟨b, i, none⟩ u) g t cs := (Below.heap_setCell w ⟨b, i, none⟩ u g hb).trans h
theorem Holds.below {B : Nat} (h : Holds w g t cs) (hb : Below B w w') (hg : g < B) : Holds w' g t cs := (hb.block g hg).trans h
theorem Holds.grown {row : Option Nat} (h : Holds w g t cs) (hb : w.grownBy w' row) (hg : some g ≠ row) : Holds w' g t cs := (hb.block g h.lt hg).trans h
theorem Holds.apart {g' : Nat} {t' : TypeId} {cs' : Array Value} (h : Holds w g t cs) (h' : Holds w g' t' cs') (hne : t ≠ t') : g ≠ g' := by
  rintro rfl
  have e : some (Obj.cells cs t (0, 0)) = some (Obj.cells cs' t' (0, 0)) := h.symm.trans h'
  simp only [Option.some.injEq, Obj.cells.injEq] at e
  exact hne e.2.1
/-- A row of the call's own lies in another block than a struct of another type. -/
theorem Holds.own_apart {B : Nat} {e : TypeId} {n sz : Nat} {v : Value} {xs : List Value} (h : Holds w g t cs) (ho : w.ownsRow B e sz v n xs) (hne : e ≠ t) : v.ownBlock ≠ some g := by
  rcases ho.2 with ⟨rfl, _⟩ | ⟨g', cap, cur, rfl, _, hh, _⟩
  · simp [Value.ownBlock]
  · intro he
    have e' : g' = g := by simpa [Value.ownBlock] using he
    subst e'
    exact Holds.apart (t := e) hh h hne rfl
end

theorem grown_set (w : World) (g i : Nat) (u : Value) : w.grownBy (w.setCell ⟨g, i, none⟩ u) (some g) :=
  ⟨rfl, rfl, rfl, by simp [World.setCell], fun k _ hk => Below.heap_setCell w ⟨g, i, none⟩ u k (fun e => hk (by rw [e]))⟩
theorem grown_trans {a b c : World} {row : Option Nat} (h : a.grownBy b row) (k : b.grownBy c row) : a.grownBy c row :=
  ⟨k.os.trans h.os, k.tape.trans h.tape, k.output.trans h.output, Nat.le_trans h.size k.size, fun i hi hr => (k.block i (Nat.lt_of_lt_of_le hi h.size) hr).trans (h.block i hi hr)⟩
theorem grown_drewN {a b : World} {row : Option Nat} (h : a.grownBy b row) (n : Nat) : a.grownBy (b.drewN n) row := ⟨h.os, h.tape, h.output, h.size, h.block⟩

/-- A row of integers whose block, if there is one, is not older than B. -/
structure NewRow (B : Nat) (w : World) (k : IntKind) (A : Option Addr) (n c : Nat) (zs : List Int) : Prop where
  row : IntRow w k A n c zs
  newer : 0 < n → ∃ b off, A = some ⟨b, off, none⟩ ∧ B ≤ b

section
variable {w w' : World} {k : IntKind} {A : Option Addr} {n c B : Nat} {zs : List Int}
theorem NewRow.block (h : NewRow B w k A n c zs) (hn : 0 < n) : ∃ b off, A = some ⟨b, off, none⟩ ∧ B ≤ b ∧ b < w.heap.size ∧ ∀ j, j < n → w.cell? ⟨b, off + j, none⟩ = some (.int k (zs.getD j 0)) := by
  obtain ⟨b, off, e, hb⟩ := h.newer hn
  obtain ⟨b', off', e', hs, hc⟩ := h.row.cell hn
  rw [e] at e'
  simp only [Option.some.injEq, Addr.mk.injEq] at e'
  obtain ⟨rfl, rfl, _⟩ := e'
  exact ⟨b, off, e, hb, hs, hc⟩
theorem IntRow.keep1 (h : IntRow w k A n c zs) (hs : w.heap.size ≤ w'.heap.size) (hk : ∀ b off, A = some ⟨b, off, none⟩ → 0 < n → ∀ o, w'.cell? ⟨b, o, none⟩ = w.cell? ⟨b, o, none⟩) : IntRow w' k A n c zs :=
  ⟨h.len_eq, h.cap_le, h.max, h.nil, fun hn => by
    obtain ⟨b, off, e, hb, hc⟩ := h.cell hn
    exact ⟨b, off, e, Nat.lt_of_lt_of_le hb hs, fun j hj => (hk b off e hn _).trans (hc j hj)⟩, h.wf⟩
/-- Nothing changed but block g, which holds none of the row's integers. -/
theorem IntRow.grown {g : Nat} {t : TypeId} {cs : Array Value} (h : IntRow w k A n c zs) (hg : w.grownBy w' (some g)) (ho : Holds w g t cs) (hcs : ∀ (i : Nat) z, cs[i]? ≠ some (Value.int k z)) : IntRow w' k A n c zs := by
  refine h.keep1 hg.size fun b off e hn o => ?_
  obtain ⟨b', off', e', hs, hc⟩ := h.cell hn
  rw [e] at e'
  simp only [Option.some.injEq, Addr.mk.injEq] at e'
  obtain ⟨rfl, rfl, _⟩ := e'
  refine World.cell?_of_block (hg.block b hs fun e => ?_)
  simp only [Option.some.injEq] at e
  subst e
  have h0 := hc 0 hn
  rw [ho.cell] at h0
  exact hcs _ _ h0
theorem NewRow.grown {g : Nat} {t : TypeId} {cs : Array Value} (h : NewRow B w k A n c zs) (hg : w.grownBy w' (some g)) (ho : Holds w g t cs) (hcs : ∀ (i : Nat) z, cs[i]? ≠ some (Value.int k z)) : NewRow B w' k A n c zs := ⟨h.row.grown hg ho hcs, h.newer⟩
theorem NewRow.below (h : NewRow B w k A n c zs) (hb : Below w.heap.size w w') : NewRow B w' k A n c zs := ⟨h.row.below hb, h.newer⟩
/-- Cells of blocks older than the row's were written. -/
theorem NewRow.older (h : NewRow B w k A n c zs) {b i : Nat} (hb : b < B) (u : Value) : NewRow B (w.setCell ⟨b, i, none⟩ u) k A n c zs := by
  refine ⟨h.row.keep1 (by simp [World.setCell]) fun b' off e hn o => ?_, h.newer⟩
  obtain ⟨b2, off2, e2, hB⟩ := h.newer hn
  rw [e] at e2
  simp only [Option.some.injEq, Addr.mk.injEq] at e2
  refine World.cell?_of_block (Below.heap_setCell w ⟨b, i, none⟩ u b' (by show b' ≠ b; omega))
theorem NewRow.mono {B' : Nat} (h : NewRow B w k A n c zs) (hB : B' ≤ B) : NewRow B' w k A n c zs := ⟨h.row, fun hn => by
  obtain ⟨b, off, e, hb⟩ := h.newer hn
  exact ⟨b, off, e, by omega⟩⟩
theorem NewRow.of_own {e : TypeId} (h : w.ownsRow B e 1 (.slice A n c) n (zs.map (.int k))) (hw : ∀ n ∈ zs, (Lit.int k n).wf = true) : NewRow B w k A n c zs :=
  ⟨IntRow.of_own h hw, fun hn => by
    obtain ⟨g, e, hg, _⟩ := own_form h hn
    exact ⟨g, 0, e, hg⟩⟩
/-- The first m integers cut off, as the model spells the address behind the cut. -/
theorem NewRow.cut (h : NewRow B w k A n c zs) {m : Nat} (hm : m ≤ n) : NewRow B w k (if c = m then A else A.map (·.add m)) (n - m) (c - m) (zs.drop m) := by
  have hc := h.row.cap_le
  have hx := h.row.max
  have ha : ∀ b off, (⟨b, off, none⟩ : Addr).add m = ⟨b, off + m, none⟩ := fun b off => by unfold Addr.add; split <;> simp_all
  refine ⟨⟨by rw [List.length_drop, h.row.len_eq], by omega, by omega, fun e => ?_, fun hn => ?_, fun z hz => h.row.wf z (List.mem_of_mem_drop hz)⟩, fun hn => ?_⟩
  · split at e
    · have := h.row.nil e
      omega
    · have := h.row.nil (by cases A <;> simp_all)
      omega
  · obtain ⟨b, off, rfl, _, hb, hcell⟩ := h.block (by omega)
    rw [if_neg (by omega)]
    refine ⟨b, off + m, by rw [← ha]; rfl, hb, fun j hj => ?_⟩
    rw [Nat.add_assoc, hcell (m + j) (by omega)]
    simp [List.getD, List.getElem?_drop]
  · obtain ⟨b, off, rfl, hB, _, _⟩ := h.block (by omega)
    rw [if_neg (by omega)]
    exact ⟨b, off + m, by rw [← ha]; rfl, hB⟩
end
theorem IntRow.cut {w : World} {k : IntKind} {A : Option Addr} {n c : Nat} {zs : List Int} (h : IntRow w k A n c zs) {m : Nat} (hm : m ≤ n) :
    IntRow w k (if c = m then A else A.map (·.add m)) (n - m) (c - m) (zs.drop m) :=
  (NewRow.cut (B := 0) ⟨h, fun hn => by
    obtain ⟨b, off, e, _⟩ := h.cell hn
    exact ⟨b, off, e, Nat.zero_le _⟩⟩ hm).row
end Go.Proofs.Ytgcmeoogmjganaa
