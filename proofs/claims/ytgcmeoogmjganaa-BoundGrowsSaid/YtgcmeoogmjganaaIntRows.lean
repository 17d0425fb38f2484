/- Rows of integers: those that came in, those that a call made, pieces of them, one appended to another. Nothing here speaks of one program. -/
import Derived.Test.YtgcmeoogmjganaaLawKit
import Derived.Maps.AppendAt
import Derived.Deep.AppendLies
import Derived.Laws.OwnMore
import Derived.Laws.BytesArg
import Derived.OwnWalk
import Derived.Below
namespace Go.Proofs.Ytgcmeoogmjganaa
open Go.RowKit

theorem size_alloc (w : World) (o : Obj) : (w.alloc o).heap.size = w.heap.size + 1 := by simp
theorem below_alloc (w : World) (o : Obj) : Below w.heap.size w (w.alloc o) := (Below.refl _ _).alloc (Nat.le_refl _) o

section
variable {w w' : World} {k : IntKind} {A : Option Addr} {n c B : Nat} {e : TypeId} {zs : List Int}

theorem IntRow.keep (h : IntRow w k A n c zs) (hs : w.heap.size ≤ w'.heap.size) (hk : ∀ b o, b < w.heap.size → w'.cell? ⟨b, o, none⟩ = w.cell? ⟨b, o, none⟩) : IntRow w' k A n c zs :=
  ⟨h.len_eq, h.cap_le, h.max, h.nil, fun hn => by
    obtain ⟨b, off, e, hb, hc⟩ := h.cell hn
    exact ⟨b, off, e, Nat.lt_of_lt_of_le hb hs, fun j hj => (hk _ _ hb).trans (hc j hj)⟩, h.wf⟩
theorem IntRow.below (h : IntRow w k A n c zs) (hb : Below w.heap.size w w') : IntRow w' k A n c zs := h.keep hb.size fun b o hlt => hb.cell (p := ⟨b, o, none⟩) hlt
theorem IntRow.alloc (h : IntRow w k A n c zs) (o : Obj) : IntRow (w.alloc o) k A n c zs := h.below (below_alloc w o)
theorem IntRow.drewN (h : IntRow w k A n c zs) (m : Nat) : IntRow (w.drewN m) k A n c zs := h.below (below_drewN (Below.refl _ _) m)
theorem IntRow.pre (h : IntRow w k A n c zs) {m : Nat} (hm : m ≤ n) : IntRow w k A m c (zs.take m) :=
  ⟨by rw [List.length_take, h.len_eq]; omega, Nat.le_trans hm h.cap_le, h.max, h.nil, fun h0 => by
    obtain ⟨b, off, e, hb, hc⟩ := h.cell (by omega)
    refine ⟨b, off, e, hb, fun j hj => ?_⟩
    rw [hc j (by omega)]
    simp [List.getD, hj], fun n hn => h.wf n (List.mem_of_mem_take hn)⟩
/-- The integers that lie in a row, as cells. -/
theorem IntRow.of_own (h : w.ownsRow B e 1 (.slice A n c) n (zs.map (.int k))) (hw : ∀ n ∈ zs, (Lit.int k n).wf = true) : IntRow w k A n c zs := by
  have hl : zs.length = n := by have := h.1; simpa using this
  rcases h.2 with ⟨he, hn⟩ | ⟨g, cap, cur, he, hB, hg, hnc, hcm, hcs, htake⟩
  · simp only [Value.slice.injEq] at he
    obtain ⟨rfl, rfl, rfl⟩ := he
    exact ⟨hl, Nat.le_refl _, by simp [maxLen], fun _ => rfl, fun h => absurd h (Nat.lt_irrefl _), hw⟩
  · simp only [Value.slice.injEq, true_and] at he
    obtain ⟨rfl, rfl⟩ := he
    refine ⟨hl, hnc, hcm, (fun h => by cases h), fun h0 => ⟨g, 0, rfl, (Array.getElem?_eq_some_iff.1 hg).1, fun j hj => ?_⟩, hw⟩
    have := World.ownsRow.cellAt h j (by omega)
    rw [Nat.zero_add, this]
    simp [List.getD, show j < zs.length by omega]
theorem own_keep {v : Value} {xs : List Value} (h : w.ownsRow B e 1 v n xs) (hb : Below w.heap.size w w') : w'.ownsRow B e 1 v n xs :=
  h.kept (row := none) ⟨hb.os, hb.tape, hb.output, hb.size, fun k hk _ => hb.block k hk⟩ (by
    rcases h.2 with ⟨rfl, _⟩ | ⟨g, cap, cur, rfl, _⟩
    · exact .inl rfl
    · exact .inr (by simp [Value.ownBlock]))
theorem own_mono {v : Value} {xs : List Value} (h : w.ownsRow B e 1 v n xs) {B' : Nat} (hB : B' ≤ B) : w.ownsRow B' e 1 v n xs :=
  ⟨h.1, by
    rcases h.2 with h | ⟨g, cap, cur, rfl, hg, r⟩
    · exact .inl h
    · exact .inr ⟨g, cap, cur, rfl, Nat.le_trans hB hg, r⟩⟩
end

section
variable {w w' : World} {k : IntKind} {A : Option Addr} {n c B : Nat} {e : TypeId} {zs : List Int}
/-- A cell of a row of the call's own is written. -/
theorem own_set {g : Nat} (h : w.ownsRow B e 1 (.slice (some ⟨g, 0, none⟩) n c) n (zs.map (.int k))) (j : Nat) (z : Int) :
    (w.setCell ⟨g, j, none⟩ (.int k z)).ownsRow B e 1 (.slice (some ⟨g, 0, none⟩) n c) n ((zs.set j z).map (.int k)) := by
  rw [List.map_set]
  exact (h.stored j _).1
theorem own_cell {g : Nat} (h : w.ownsRow B e 1 (.slice (some ⟨g, 0, none⟩) n c) n (zs.map (.int k))) {j : Nat} (hj : j < n) : w.cell? ⟨g, j, none⟩ = some (.int k (zs[j]?.getD 0)) := by
  have hl := h.1
  rw [List.length_map, Nat.mul_one] at hl
  have := World.ownsRow.cellAt h j (by omega)
  rw [this, List.getElem?_map, List.getElem?_eq_getElem (by omega)]
  rfl
theorem own_form {A : Option Addr} (h : w.ownsRow B e 1 (.slice A n c) n (zs.map (.int k))) (hn : 0 < n) : ∃ g, A = some ⟨g, 0, none⟩ ∧ B ≤ g ∧ g < w.heap.size := by
  obtain ⟨g, cap, he, h1, h2⟩ := h.form hn
  simp only [Value.slice.injEq] at he
  exact ⟨g, he.1, h1, h2⟩
end
theorem wf_set {k : IntKind} {zs : List Int} (h : ∀ n ∈ zs, (Lit.int k n).wf = true) {z : Int} (hz : (Lit.int k z).wf = true) (j : Nat) : ∀ n ∈ zs.set j z, (Lit.int k n).wf = true := fun n hn => by
  rcases List.mem_or_eq_of_mem_set hn with h1 | rfl
  · exact h n h1
  · exact hz

/-- A row that was just laid. -/
theorem IntRow.laid (w : World) (e : TypeId) (k : IntKind) (zs : List Int) (m : Nat) (hm : zs.length = m) (h63 : m ≤ maxLen) (hw : ∀ n ∈ zs, (Lit.int k n).wf = true) :
    IntRow (w.alloc (.cells (zs.map (Value.int k)).toArray e)) k (some ⟨w.heap.size, 0, none⟩) m m zs :=
  IntRow.of_own (B := 0) (e := e) (by simpa using World.ownsRow_lit (base := 0) (size := 1) w (zs.map (Value.int k)).toArray m (Nat.zero_le _) h63 (by simp [hm])) hw
/-- A constant row that was just laid. -/
theorem IntRow.laid_fr (w : World) (e : TypeId) (k : IntKind) (zs : List Int) (m : Nat) (fr : Nat × Nat) (hm : zs.length = m) (h63 : m ≤ maxLen) (hw : ∀ n ∈ zs, (Lit.int k n).wf = true) :
    IntRow (w.alloc (.cells (zs.map (Value.int k)).toArray e fr)) k (some ⟨w.heap.size, 0, none⟩) m m zs :=
  ⟨hm, Nat.le_refl _, h63, (fun h => by cases h), fun _ => ⟨_, 0, rfl, by simp, fun j hj => by
    rw [Nat.zero_add, cell_of_row _ _ j _ e fr (heap_alloc_new w _)]
    simp [List.getD, show j < zs.length by omega]⟩, hw⟩
/-- A call answers a row of integers of its own. -/
def GaveRow (el : TypeId) (k : IntKind) (w : World) (n : Nat) (zs : List Int) (e : Ending) (w' : World) : Prop :=
  ∃ A c, e = .returned (.slice A n c) ∧ w'.ownsRow w.heap.size el 1 (.slice A n c) n (zs.map (.int k)) ∧ Below w.heap.size w w'
theorem gave {el : TypeId} {k : IntKind} {w w' : World} {n : Nat} {zs : List Int} {A : Option Addr} {c : Nat} (ho : w'.ownsRow w.heap.size el 1 (.slice A n c) n (zs.map (.int k))) (hb : Below w.heap.size w w') :
    GaveRow el k w n zs (.returned (.slice A n c)) w' := ⟨A, c, rfl, ho, hb⟩

section
variable {P : Program} (w : World)
theorem run_append_row (B : Nat) (t ty e : TypeId) (i : TypeInfo) (z : Value) (bytes : Nat) (ht : P.underlying t = some (.slice e)) (hi : P.info? e = some i) (hz : i.zero = some z)
    (hsize : i.size = 1) (hby : i.bytes = bytes) (hzs : z.cells.size = 1) (v : Value) (n : Nat) (xs : List Value) (hown : w.ownsRow B e 1 v n xs)
    (k : IntKind) (A : Option Addr) (m c : Nat) (zs : List Int) (hr : IntRow w k A m c zs) (h63 : n + m ≤ maxLen) (hbytes : (n + m) * bytes ≤ 140737488355328) (hbase : B ≤ w.heap.size) :
    ∃ A' c' w', (Builtin.append_ #[t, t] ty #[v, .slice A m c]).run P w = .ok (.slice A' (n + m) c') w' ∧ w'.ownsRow B e 1 (.slice A' (n + m) c') (n + m) (xs ++ zs.map (.int k)) ∧ Below B w w' := by
  have hshape : ∀ (w1 : World) (v1 : Value) (l : Nat) (ys : List Value), w1.ownsRow B e 1 v1 l ys → ∃ A' c', v1 = .slice A' l c' := by
    intro w1 v1 l ys h
    rcases h.2 with ⟨rfl, rfl⟩ | ⟨g, cap, cur, rfl, _⟩
    · exact ⟨_, _, rfl⟩
    · exact ⟨_, _, rfl⟩
  rcases A with _ | ad
  · have hc := hr.nil rfl
    have hcl := hr.cap_le
    obtain rfl : m = 0 := by omega
    have hn : zs = [] := List.eq_nil_of_length_eq_zero hr.len_eq
    subst hn
    obtain ⟨A', c', rfl⟩ := hshape _ _ _ _ hown
    refine ⟨A', c', w, ?_, by simpa using hown, Below.refl _ _⟩
    rw [Nat.add_zero]
    exact run_append_owned_none (P := P) w B t ty e i 1 ht hi _ n xs hown
  · obtain ⟨v', w', h1, h2, h3, _, _⟩ := run_append_own_at (P := P) w B t ty e i z 1 bytes ht hi hz hsize hby hzs (by omega) v n xs hown ad m c (zs.map (.int k)) (by simpa using hr.len_eq)
      (fun j u hu => by
        have hj : j < m := by
          have := (List.getElem?_eq_some_iff.1 hu).1
          have := hr.len_eq
          simp at *
          omega
        obtain ⟨b, off, e1, _, hc⟩ := hr.cell (by omega)
        simp only [Option.some.injEq] at e1
        subst e1
        have hp : (⟨b, off, none⟩ : Addr).add j = ⟨b, off + j, none⟩ := by unfold Addr.add; split <;> simp_all
        rw [hp, hc j hj]
        have hjl : j < zs.length := by rw [hr.len_eq]; exact hj
        simp [List.getElem?_eq_getElem hjl] at hu
        simp [List.getD, List.getElem?_eq_getElem hjl, hu])
      (ints_oneCell k zs) h63 hbytes hbase
    obtain ⟨A', c', rfl⟩ := hshape _ _ _ _ h2
    exact ⟨A', c', w', h1, h2, (Below.refl _ _).grown h3 hbase (fun g hg => (hown.lt g hg).1)⟩

/-- What is appended to a row of the call's own is a row that reads. -/
theorem wpList_append_row {ops : Array Oper} {rest : List Oper} {o : Oper} {a : Act} {Q : Exit → Act → World → Prop} (hgd : o.guard = none) (s x : Operand) (t : TypeId)
    (ho : o.op = .call { callee := .builtin .append, args := #[s, x], argTypes := #[t, t] })
    (B : Nat) (e : TypeId) (i : TypeInfo) (z : Value) (bytes : Nat) (ht : P.underlying t = some (.slice e)) (hi : P.info? e = some i) (hz : i.zero = some z)
    (hsize : i.size = 1) (hby : i.bytes = bytes) (hzs : z.cells.size = 1) (v : Value) (n : Nat) (xs : List Value) (hs : a.eval s = v) (hown : w.ownsRow B e 1 v n xs)
    (k : IntKind) (A : Option Addr) (m c : Nat) (zs : List Int) (hx : a.eval x = .slice A m c) (hr : IntRow w k A m c zs) (h63 : n + m ≤ maxLen) (hbytes : (n + m) * bytes ≤ 140737488355328) (hbase : B ≤ w.heap.size)
    (h : ∀ A' c' w', w'.ownsRow B e 1 (.slice A' (n + m) c') (n + m) (xs ++ zs.map (.int k)) → Below B w w' → wpList P ops Q rest (a.put o.dst (.slice A' (n + m) c')) w') :
    wpList P ops Q (o :: rest) a w := by
  refine wpList_plain hgd fun K hK => ?_
  obtain ⟨A', c', w', hrun, h2, h3⟩ := run_append_row (P := P) w B t o.type e i z bytes ht hi hz hsize hby hzs v n xs hown k A m c zs hr h63 hbytes hbase
  unfold Oper.wp execOp
  simp only [ho, resolve, invoke, builtin, Sem.run_bind, Sem.run_pure, Result.andThen_ok, List.map_toArray, List.map_cons, List.map_nil, hs, hx, hrun]
  exact hK _ _ (h A' c' w' h2 h3)

/-- Bytes that lie in a row, as a string. -/
theorem run_convert_row (src e dst : TypeId) (hs : P.underlying src = some (.slice e)) (he : P.underlying e = some (.int .u8)) (hd : P.underlying dst = some .string)
    (A : Option Addr) (m c : Nat) (zs : List Int) (hr : IntRow w .u8 A m c zs) : (convert src dst (.slice A m c)).run P w = .ok (.string (strOfNums zs)) w := by
  rcases A with _ | ad
  · have hc := hr.nil rfl
    have hcl := hr.cap_le
    obtain rfl : m = 0 := by omega
    have hn : zs = [] := List.eq_nil_of_length_eq_zero hr.len_eq
    subst hn
    exact run_convert_bytes_nil (P := P) w src e hs he 0 c dst hd
  · by_cases hm : 0 < m
    · obtain ⟨b, off, e1, _, hc⟩ := hr.cell hm
      simp only [Option.some.injEq] at e1
      subst e1
      exact run_convert_bytes_arg (P := P) w src e hs he b off m c zs hr.len_eq hc dst hd
    · obtain rfl : m = 0 := by omega
      have hn : zs = [] := List.eq_nil_of_length_eq_zero hr.len_eq
      subst hn
      rw [run_convert_bytes_string w src dst e _ 0 c hs he hd]
      rfl
end
end Go.Proofs.Ytgcmeoogmjganaa
