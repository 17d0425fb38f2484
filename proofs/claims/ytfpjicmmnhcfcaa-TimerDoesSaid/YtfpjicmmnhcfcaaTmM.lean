/- Package timer: what the calls do to the list of what is due. -/
import Derived.Test.YtfpjicmmnhcfcaaTmC
import Derived.Test.YtfpjicmmnhcfcaaLawKit
namespace Go.Proofs.Ytfpjicmmnhcfcaa

/-- The soonest first, no more than 16, each thing once. -/
def Good (L : List (Int × Int)) : Prop := Soon L ∧ L.length ≤ 16 ∧ (L.map Prod.snd).Nodup ∧ ∀ e ∈ L, (Lit.int .i64 e.2).wf = true
def dropL (what : Int) (L : List (Int × Int)) : List (Int × Int) := L.filter fun e => !decide (e.2 = what)
def hasB (what : Int) (L : List (Int × Int)) : Bool := L.any fun e => decide (e.2 = what)
def insL (t what : Int) (L : List (Int × Int)) : List (Int × Int) := L.take (upto t L) ++ (t, what) :: L.drop (upto t L)
def setL (t what : Int) (L : List (Int × Int)) : List (Int × Int) := if (dropL what L).length < 16 then insL t what (dropL what L) else dropL what L
def setE (what : Int) (L : List (Int × Int)) : Int := if (dropL what L).length < 16 then 0 else 6
def dueL (t : Int) (L : List (Int × Int)) : List Int := (L.take (upto t L)).map Prod.snd
def restL (t : Int) (L : List (Int × Int)) : List (Int × Int) := L.drop (upto t L)

theorem good_nil : Good [] := ⟨List.Pairwise.nil, by decide, List.nodup_nil, fun e he => by cases he⟩
theorem good_sub {L M : List (Int × Int)} (h : Good L) (hs : M.Sublist L) : Good M := ⟨h.1.sublist hs, Nat.le_trans hs.length_le h.2.1, (hs.map _).nodup h.2.2.1, fun e he => h.2.2.2 e (hs.subset he)⟩
theorem good_drop {L : List (Int × Int)} (h : Good L) (what : Int) : Good (dropL what L) := good_sub h List.filter_sublist
theorem good_rest {L : List (Int × Int)} (h : Good L) (t : Int) : Good (restL t L) := good_sub h (List.drop_sublist _ _)
theorem take_upto (t : Int) : ∀ L : List (Int × Int), L.take (upto t L) = L.takeWhile (fun e => decide (e.1 ≤ t))
  | [] => by simp [upto]
  | e :: L => by
    have ih := take_upto t L
    unfold upto at *
    by_cases h : e.1 ≤ t
    · rw [List.takeWhile_cons_of_pos (by simpa using h), List.length_cons, List.take_succ_cons, ih]
    · rw [List.takeWhile_cons_of_neg (by simpa using h)]
      simp
theorem drop_upto (t : Int) : ∀ L : List (Int × Int), L.drop (upto t L) = L.dropWhile (fun e => decide (e.1 ≤ t))
  | [] => by simp [upto]
  | e :: L => by
    have ih := drop_upto t L
    unfold upto at *
    by_cases h : e.1 ≤ t
    · rw [List.takeWhile_cons_of_pos (by simpa using h), List.dropWhile_cons_of_pos (by simpa using h), List.length_cons, List.drop_succ_cons, ih]
    · rw [List.takeWhile_cons_of_neg (by simpa using h), List.dropWhile_cons_of_neg (by simpa using h)]
      simp
theorem take_le {t : Int} {L : List (Int × Int)} {e : Int × Int} (h : e ∈ L.take (upto t L)) : e.1 ≤ t := by
  rw [take_upto] at h
  have := List.all_eq_true.1 (List.all_takeWhile (p := fun e : Int × Int => decide (e.1 ≤ t)) (l := L)) e h
  simpa using this
theorem drop_gt {t : Int} : ∀ {L : List (Int × Int)}, Soon L → ∀ {e : Int × Int}, e ∈ L.drop (upto t L) → t < e.1
  | [], _, e, h => by simp at h
  | x :: L, hs, e, h => by
    rw [drop_upto] at h
    by_cases hx : x.1 ≤ t
    · rw [List.dropWhile_cons_of_pos (by simpa using hx), ← drop_upto] at h
      exact drop_gt (List.pairwise_cons.1 hs).2 h
    · rw [List.dropWhile_cons_of_neg (by simpa using hx)] at h
      rcases List.mem_cons.1 h with rfl | h
      · omega
      · have := (List.pairwise_cons.1 hs).1 e h
        omega
theorem mem_ins {t what : Int} {L : List (Int × Int)} {e : Int × Int} : e ∈ insL t what L ↔ e = (t, what) ∨ e ∈ L := by
  have : e ∈ L ↔ e ∈ L.take (upto t L) ∨ e ∈ L.drop (upto t L) := by rw [← List.mem_append, List.take_append_drop]
  unfold insL
  rw [this, List.mem_append, List.mem_cons]
  constructor
  · rintro (h | h | h)
    · exact .inr (.inl h)
    · exact .inl h
    · exact .inr (.inr h)
  · rintro (h | h | h)
    · exact .inr (.inl h)
    · exact .inl h
    · exact .inr (.inr h)
theorem perm_ins (t what : Int) (L : List (Int × Int)) : (insL t what L).Perm ((t, what) :: L) := by
  unfold insL
  refine List.perm_middle.trans ?_
  rw [List.take_append_drop]
theorem len_ins (t what : Int) (L : List (Int × Int)) : (insL t what L).length = L.length + 1 := (perm_ins t what L).length_eq
theorem good_ins {t what : Int} {L : List (Int × Int)} (h : Good L) (hl : L.length < 16) (hn : what ∉ L.map Prod.snd) (hw : (Lit.int .i64 what).wf = true) : Good (insL t what L) := by
  obtain ⟨h1, h2, h3, h4⟩ := h
  refine ⟨?_, by rw [len_ins]; omega, ?_, fun e he => by
    rcases mem_ins.1 he with rfl | he
    · exact hw
    · exact h4 e he⟩
  · unfold insL Soon
    rw [List.pairwise_append]
    refine ⟨h1.sublist (List.take_sublist _ _), List.pairwise_cons.2 ⟨fun e he => ?_, h1.sublist (List.drop_sublist _ _)⟩, fun a ha b hb => ?_⟩
    · exact Int.le_of_lt (drop_gt h1 he)
    · have ha' := take_le ha
      rcases List.mem_cons.1 hb with rfl | hb
      · exact ha'
      · have := drop_gt h1 hb
        omega
  · have := ((perm_ins t what L).map Prod.snd).nodup_iff
    rw [this, List.map_cons, List.nodup_cons]
    exact ⟨hn, h3⟩
theorem not_mem_drop (what : Int) (L : List (Int × Int)) : what ∉ (dropL what L).map Prod.snd := by
  intro h
  obtain ⟨e, he, rfl⟩ := List.mem_map.1 h
  unfold dropL at he
  have := (List.mem_filter.1 he).2
  simp at this
theorem good_set {t what : Int} {L : List (Int × Int)} (h : Good L) (hw : (Lit.int .i64 what).wf = true) : Good (setL t what L) := by
  unfold setL
  split
  · exact good_ins (good_drop h what) (by assumption) (not_mem_drop what L) hw
  · exact good_drop h what
theorem drop_none {what : Int} {L : List (Int × Int)} (h : ∀ e ∈ L, e.2 ≠ what) : dropL what L = L := by
  unfold dropL
  exact List.filter_eq_self.2 fun e he => by simpa using h e he
/-- What is found is what is dropped. -/
theorem found {what : Int} {L : List (Int × Int)} (h : (L.map Prod.snd).Nodup) :
    (whereIs what L = -1 ∧ dropL what L = L ∧ hasB what L = false) ∨ ∃ i : Nat, i < L.length ∧ whereIs what L = i ∧ L.take i ++ L.drop (i + 1) = dropL what L ∧ hasB what L = true := by
  cases hf : L.findIdx? (fun e => decide (e.2 = what)) with
  | none =>
    have h0 := List.findIdx?_eq_none_iff.1 hf
    refine .inl ⟨by unfold whereIs; rw [hf], drop_none fun e he => by simpa using h0 e he, ?_⟩
    unfold hasB
    rw [List.any_eq_false]
    intro e he
    simpa using h0 e he
  | some i =>
    obtain ⟨hi, hp, hb⟩ := List.findIdx?_eq_some_iff_getElem.1 hf
    have hp' : L[i].2 = what := by simpa using hp
    refine .inr ⟨i, hi, by unfold whereIs; rw [hf], ?_, ?_⟩
    · have hsplit : L = L.take i ++ L[i] :: L.drop (i + 1) := by rw [← List.drop_eq_getElem_cons hi, List.take_append_drop]
      have e1 : dropL what (L.take i) = L.take i := drop_none fun e he => by
        obtain ⟨j, hj, rfl⟩ := List.mem_iff_getElem.1 he
        rw [List.length_take] at hj
        have := hb j (by omega)
        simpa using this
      have e2 : dropL what (L.drop (i + 1)) = L.drop (i + 1) := drop_none fun e he hw => by
        obtain ⟨j, hj, rfl⟩ := List.mem_iff_getElem.1 he
        rw [List.length_drop] at hj
        have := List.pairwise_iff_getElem.1 h i (i + 1 + j) (by simpa using hi) (by simp; omega) (by omega)
        simp at this hw
        exact this (hp'.trans hw.symm)
      conv => rhs; rw [hsplit]
      unfold dropL at *
      rw [List.filter_append, List.filter_cons, if_neg (by simp [hp']), e1, e2]
    · unfold hasB
      rw [List.any_eq_true]
      exact ⟨L[i], List.getElem_mem hi, by simpa using hp'⟩
theorem due_len (t : Int) (L : List (Int × Int)) : (dueL t L).length = upto t L := by
  unfold dueL
  rw [List.length_map, List.length_take, Nat.min_eq_left (upto_le t L)]
theorem due_wf {L : List (Int × Int)} (h : Good L) (t : Int) : ∀ n ∈ dueL t L, (Lit.int .i64 n).wf = true := by
  intro n hn
  unfold dueL at hn
  obtain ⟨e, he, rfl⟩ := List.mem_map.1 hn
  exact h.2.2.2 e (List.mem_of_mem_take he)
theorem due_get (t : Int) (L : List (Int × Int)) {k : Nat} (hk : k < upto t L) : (dueL t L).take (k + 1) = (dueL t L).take k ++ [(L.getD k (0, 0)).2] := by
  have hl := due_len t L
  have hu := upto_le t L
  rw [List.take_succ_eq_append_getElem (by omega)]
  congr 2
  unfold dueL
  simp [List.getD, show k < L.length by omega]
end Go.Proofs.Ytfpjicmmnhcfcaa
