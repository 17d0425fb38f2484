/- A row of integers appended to a row of the call's own: nothing changed but that row's block. Nothing here speaks of one program. -/
import Derived.Test.YtjifnnloncanpaaPtr
namespace Go.Proofs.Ytjifnnloncanpaa
open Go.RowKit
section
variable {P : Program} (w : World)
/-- As run_append_row, where it is told that nothing changed but the row's own block. -/
theorem run_append_grow (B : Nat) (t ty e : TypeId) (i : TypeInfo) (z : Value) (bytes : Nat) (ht : P.underlying t = some (.slice e)) (hi : P.info? e = some i) (hz : i.zero = some z)
    (hsize : i.size = 1) (hby : i.bytes = bytes) (hzs : z.cells.size = 1) (v : Value) (n : Nat) (xs : List Value) (hown : w.ownsRow B e 1 v n xs)
    (k : IntKind) (A : Option Addr) (m c : Nat) (zs : List Int) (hr : IntRow w k A m c zs) (h63 : n + m ≤ maxLen) (hbytes : (n + m) * bytes ≤ 140737488355328) (hbase : B ≤ w.heap.size) :
    ∃ A' c' w', (Builtin.append_ #[t, t] ty #[v, .slice A m c]).run P w = .ok (.slice A' (n + m) c') w' ∧ w'.ownsRow B e 1 (.slice A' (n + m) c') (n + m) (xs ++ zs.map (.int k)) ∧ w.grownBy w' v.ownBlock := by
  have hshape : ∀ (w1 : World) (v1 : Value) (l : Nat) (ys : List Value), w1.ownsRow B e 1 v1 l ys → ∃ A' c', v1 = .slice A' l c' := by
    intro w1 v1 l ys h
    rcases h.2 with ⟨rfl, rfl⟩ | ⟨g, cap, cur, rfl, _⟩
    · exact ⟨_, _, rfl⟩
    · exact ⟨_, _, rfl⟩
  rcases A with _ | ad
  · have hc := hr.nil rfl
    have hcl := hr.cap_le
    obtain rfl : m = 0 := by omega
    have hn : zs = [] := List.eq_nil_of_length_eq_zero hr.len_eq
    subst hn
    obtain ⟨A', c', rfl⟩ := hshape _ _ _ _ hown
    refine ⟨A', c', w, ?_, by simpa using hown, World.grownBy.refl w _⟩
    rw [Nat.add_zero]
    exact run_append_owned_none (P := P) w B t ty e i 1 ht hi _ n xs hown
  · obtain ⟨v', w', h1, h2, h3, _, _⟩ := run_append_own_at (P := P) w B t ty e i z 1 bytes ht hi hz hsize hby hzs (by omega) v n xs hown ad m c (zs.map (.int k)) (by simpa using hr.len_eq)
      (fun j u hu => by
        have hj : j < m := by
          have := (List.getElem?_eq_some_iff.1 hu).1
          have := hr.len_eq
          simp at *
          omega
        obtain ⟨b, off, e1, _, hc⟩ := hr.cell (by omega)
        simp only [Option.some.injEq] at e1
        subst e1
        have hp : (⟨b, off, none⟩ : Addr).add j = ⟨b, off + j, none⟩ := by unfold Addr.add; split <;> simp_all
        rw [hp, hc j hj]
        have hjl : j < zs.length := by rw [hr.len_eq]; exact hj
        simp [List.getElem?_eq_getElem hjl] at hu
        simp [List.getD, List.getElem?_eq_getElem hjl, hu])
      (ints_oneCell k zs) h63 hbytes hbase
    obtain ⟨A', c', rfl⟩ := hshape _ _ _ _ h2
    exact ⟨A', c', w', h1, h2, h3⟩
theorem wpList_append_grow {ops : Array Oper} {rest : List Oper} {o : Oper} {a : Act} {Q : Exit → Act → World → Prop} (hgd : o.guard = none) (s x : Operand) (t : TypeId)
    (ho : o.op = .call { callee := .builtin .append, args := #[s, x], argTypes := #[t, t] })
    (B : Nat) (e : TypeId) (i : TypeInfo) (z : Value) (bytes : Nat) (ht : P.underlying t = some (.slice e)) (hi : P.info? e = some i) (hz : i.zero = some z)
    (hsize : i.size = 1) (hby : i.bytes = bytes) (hzs : z.cells.size = 1) (v : Value) (n : Nat) (xs : List Value) (hs : a.eval s = v) (hown : w.ownsRow B e 1 v n xs)
    (k : IntKind) (A : Option Addr) (m c : Nat) (zs : List Int) (hx : a.eval x = .slice A m c) (hr : IntRow w k A m c zs) (h63 : n + m ≤ maxLen) (hbytes : (n + m) * bytes ≤ 140737488355328) (hbase : B ≤ w.heap.size)
    (h : ∀ A' c' w', w'.ownsRow B e 1 (.slice A' (n + m) c') (n + m) (xs ++ zs.map (.int k)) → w.grownBy w' v.ownBlock → wpList P ops Q rest (a.put o.dst (.slice A' (n + m) c')) w') :
    wpList P ops Q (o :: rest) a w := by
  refine wpList_plain hgd fun K hK => ?_
  obtain ⟨A', c', w', hrun, h2, h3⟩ := run_append_grow (P := P) w B t o.type e i z bytes ht hi hz hsize hby hzs v n xs hown k A m c zs hr h63 hbytes hbase
  unfold Oper.wp execOp
  simp only [ho, resolve, invoke, builtin, Sem.run_bind, Sem.run_pure, Result.andThen_ok, List.map_toArray, List.map_cons, List.map_nil, hs, hx, hrun]
  exact hK _ _ (h A' c' w' h2 h3)

end
end Go.Proofs.Ytjifnnloncanpaa
