/- The document's row and the program's: what ties them. -/
import Derived.Test.YtfpjicmmnhcfcaaTrA
namespace Go.Proofs.Ytfpjicmmnhcfcaa

def ltO (a b : One3) : Prop := a.1 < b.1 ∨ (a.1 = b.1 ∧ a.2.2 < b.2.2)
def plainO (e : One3) : Int × Int := (e.1, e.2.1)
/-- The program's list is the document's in order. -/
def Rel (L : List (Int × Int)) (M : List One3) (T : Int) : Prop := ∃ S : List One3, S.Perm M ∧ S.Pairwise ltO ∧ S.map plainO = L ∧ ∀ e ∈ M, e.2.2 ≤ T
/-- r is the place of one that is due first; -1: nothing is due. -/
def IsFirst (M : List One3) (r : Int) : Prop := (M = [] ∧ r = -1) ∨ ∃ j : Nat, j < M.length ∧ r = j ∧ ∀ i, i < M.length → ¬ ltO (M.getD i (0, 0, 0)) (M.getD j (0, 0, 0))

theorem Rel.nil (T : Int) : Rel [] [] T := ⟨[], List.Perm.refl _, List.Pairwise.nil, rfl, fun e he => by cases he⟩
theorem Rel.len {L : List (Int × Int)} {M : List One3} {T : Int} (h : Rel L M T) : L.length = M.length := by
  obtain ⟨S, hp, _, rfl, _⟩ := h
  rw [List.length_map, hp.length_eq]
theorem Rel.drop {L : List (Int × Int)} {M : List One3} {T : Int} (h : Rel L M T) (what : Int) : Rel (dropL what L) (othersM what M) T := by
  obtain ⟨S, hp, ho, rfl, ht⟩ := h
  refine ⟨othersM what S, hp.filter _, ho.sublist List.filter_sublist, ?_, fun e he => ht e (List.mem_filter.1 he).1⟩
  unfold othersM dropL
  rw [List.filter_map]
  rfl
theorem Rel.has {L : List (Int × Int)} {M : List One3} {T : Int} (h : Rel L M T) (what : Int) : decide ((othersM what M).length < M.length) = hasB what L := by
  have h1 := h.len
  have h2 := (h.drop what).len
  rw [← h1, ← h2]
  unfold dropL hasB
  rw [Bool.eq_iff_iff, decide_eq_true_eq, List.any_eq_true]
  constructor
  · intro hl
    refine Classical.byContradiction fun hn => ?_
    have : L.filter (fun e => !decide (e.2 = what)) = L := List.filter_eq_self.2 fun e he => by
      simp only [Bool.not_eq_true', decide_eq_false_iff_not]
      intro hw
      exact hn ⟨e, he, by simpa using hw⟩
    rw [this] at hl
    omega
  · rintro ⟨e, he, hw⟩
    refine Nat.lt_of_le_of_ne (List.length_filter_le _ _) fun hl => ?_
    have := List.filter_eq_self.1 ((List.filter_sublist (p := fun e : Int × Int => !decide (e.2 = what)) (l := L)).eq_of_length hl) e he
    simp only [decide_eq_true_eq] at hw
    simp [hw] at this
theorem upto_map (t : Int) (S : List One3) : upto t (S.map plainO) = (S.takeWhile (fun e => decide (e.1 ≤ t))).length := by
  unfold upto
  rw [List.takeWhile_map, List.length_map]
  rfl
theorem Rel.soon {L : List (Int × Int)} {M : List One3} {T : Int} (h : Rel L M T) : Soon L := by
  obtain ⟨S, _, ho, rfl, _⟩ := h
  unfold Soon
  rw [List.pairwise_map]
  refine ho.imp fun {a b} hab => ?_
  unfold plainO
  rcases hab with h | ⟨h, _⟩
  · exact Int.le_of_lt h
  · exact Int.le_of_eq h
theorem Rel.ins {L : List (Int × Int)} {M : List One3} {T : Int} (h : Rel L M T) (t what : Int) : Rel (insL t what L) (M ++ [(t, what, T + 1)]) (T + 1) := by
  have hsoon := h.soon
  obtain ⟨S, hp, ho, rfl, ht⟩ := h
  refine ⟨S.take (upto t (S.map plainO)) ++ (t, what, T + 1) :: S.drop (upto t (S.map plainO)), ?_, ?_, ?_, ?_⟩
  · refine List.perm_middle.trans ?_
    rw [List.take_append_drop]
    exact ((hp.cons _).trans (List.perm_append_comm (l₁ := [(t, what, T + 1)]) (l₂ := M)))
  · rw [List.pairwise_append]
    have hlo : ∀ a ∈ S.take (upto t (S.map plainO)), a.1 ≤ t := fun a ha => by
      have : plainO a ∈ (S.map plainO).take (upto t (S.map plainO)) := by rw [← List.map_take]; exact List.mem_map_of_mem ha
      exact take_le this
    have hhi : ∀ a ∈ S.drop (upto t (S.map plainO)), t < a.1 := fun a ha => by
      have : plainO a ∈ (S.map plainO).drop (upto t (S.map plainO)) := by rw [← List.map_drop]; exact List.mem_map_of_mem ha
      exact drop_gt hsoon this
    have htS : ∀ a ∈ S, a.2.2 ≤ T := fun a ha => ht a (hp.mem_iff.1 ha)
    refine ⟨ho.sublist (List.take_sublist _ _), List.pairwise_cons.2 ⟨fun a ha => .inl (hhi a ha), ho.sublist (List.drop_sublist _ _)⟩, fun a ha b hb => ?_⟩
    have h1 := hlo a ha
    rcases List.mem_cons.1 hb with rfl | hb
    · have h2 := htS a (List.mem_of_mem_take ha)
      by_cases he : a.1 = t
      · exact .inr ⟨he, by show a.2.2 < T + 1; omega⟩
      · exact .inl (by show a.1 < t; omega)
    · have h3 := hhi b hb
      exact .inl (by omega)
  · unfold insL
    rw [List.map_append, List.map_cons, List.map_take, List.map_drop]
    rfl
  · intro e he
    rcases List.mem_append.1 he with he | he
    · have := ht e he
      omega
    · rw [List.mem_singleton.1 he]
      exact Int.le_refl _
theorem ltO_irr (a : One3) : ¬ ltO a a := by
  rintro (h | ⟨_, h⟩)
  · omega
  · omega
/-- The one that is due first is the list's head. -/
theorem Rel.first {e : Int × Int} {L : List (Int × Int)} {M : List One3} {T r : Int} (h : Rel (e :: L) M T) (hf : IsFirst M r) : ∃ j : Nat, j < M.length ∧ r = j ∧ plainO (M.getD j (0, 0, 0)) = e := by
  obtain ⟨S, hp, ho, hm, ht⟩ := h
  cases S with
  | nil => cases hm
  | cons s S' =>
    rw [List.map_cons, List.cons.injEq] at hm
    rcases hf with ⟨rfl, _⟩ | ⟨j, hj, rfl, hmin⟩
    · have := hp.length_eq
      simp at this
    · refine ⟨j, hj, rfl, ?_⟩
      have hMj : M.getD j (0, 0, 0) = M[j] := by simp [List.getD, hj]
      have hmem : M[j] ∈ s :: S' := hp.mem_iff.2 (List.getElem_mem hj)
      have hs : s ∈ M := hp.mem_iff.1 (by simp)
      obtain ⟨i, hi, he⟩ := List.mem_iff_getElem.1 hs
      rcases List.mem_cons.1 hmem with h | h
      · rw [hMj, h]
        exact hm.1
      · have h1 := (List.pairwise_cons.1 ho).1 _ h
        have h2 := hmin i hi
        rw [hMj, show M.getD i (0, 0, 0) = s by simp [List.getD, hi, he]] at h2
        exact absurd h1 h2
theorem Rel.none {M : List One3} {T : Int} (h : Rel [] M T) : M = [] := by
  have := h.len
  exact List.eq_nil_of_length_eq_zero this.symm
theorem drop_head {L : List (Int × Int)} (h : (L.map Prod.snd).Nodup) {k : Nat} (hk : k < L.length) : dropL (L[k].2) (L.drop k) = L.drop (k + 1) := by
  rw [List.drop_eq_getElem_cons hk]
  unfold dropL
  rw [List.filter_cons_of_neg (by simp)]
  refine List.filter_eq_self.2 fun e he => ?_
  simp only [Bool.not_eq_true', decide_eq_false_iff_not]
  intro hw
  have h1 : (((L.drop k)).map Prod.snd).Nodup := ((List.drop_sublist k L).map _).nodup h
  rw [List.drop_eq_getElem_cons hk, List.map_cons, List.nodup_cons] at h1
  exact h1.1 (List.mem_map.2 ⟨e, he, hw⟩)
end Go.Proofs.Ytfpjicmmnhcfcaa
