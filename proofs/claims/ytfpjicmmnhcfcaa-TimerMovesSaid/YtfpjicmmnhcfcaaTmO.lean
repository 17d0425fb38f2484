/- Package timer: a number that was left out, and set again. -/
import Derived.Test.YtfpjicmmnhcfcaaTmN
namespace Go.Proofs.Ytfpjicmmnhcfcaa
open Go.RowKit

theorem while_filter (t : Int) (q : Int × Int → Bool) : ∀ L : List (Int × Int), Soon L → (L.filter q).takeWhile (fun e => decide (e.1 ≤ t)) = (L.takeWhile (fun e => decide (e.1 ≤ t))).filter q ∧ (L.filter q).dropWhile (fun e => decide (e.1 ≤ t)) = (L.dropWhile (fun e => decide (e.1 ≤ t))).filter q
  | [], _ => by simp
  | e :: L, hs => by
    obtain ⟨h1, h2⟩ := while_filter t q L (List.pairwise_cons.1 hs).2
    by_cases hp : e.1 ≤ t
    · rw [List.takeWhile_cons_of_pos (by simpa using hp), List.dropWhile_cons_of_pos (by simpa using hp)]
      by_cases hq : q e = true
      · rw [List.filter_cons_of_pos hq, List.takeWhile_cons_of_pos (by simpa using hp), List.dropWhile_cons_of_pos (by simpa using hp), h1, List.filter_cons_of_pos hq]
        exact ⟨rfl, h2⟩
      · rw [List.filter_cons_of_neg hq, List.filter_cons_of_neg hq]
        exact ⟨h1, h2⟩
    · rw [List.takeWhile_cons_of_neg (by simpa using hp), List.dropWhile_cons_of_neg (by simpa using hp)]
      have hall : ∀ x ∈ (e :: L).filter q, ¬ x.1 ≤ t := fun x hx => by
        rcases List.mem_cons.1 (List.mem_filter.1 hx).1 with rfl | hx'
        · exact hp
        · have := (List.pairwise_cons.1 hs).1 x hx'
          omega
      cases hf : (e :: L).filter q with
      | nil => simp
      | cons x r =>
        have hx := hall x (by rw [hf]; simp)
        rw [List.takeWhile_cons_of_neg (by simpa using hx), List.dropWhile_cons_of_neg (by simpa using hx)]
        exact ⟨rfl, rfl⟩
theorem drop_ins (what t i : Int) {L : List (Int × Int)} (hs : Soon L) (h : i ≠ what) : dropL what (insL t i L) = insL t i (dropL what L) := by
  obtain ⟨h1, h2⟩ := while_filter t (fun e => !decide (e.2 = what)) L hs
  unfold insL
  rw [take_upto, drop_upto, take_upto, drop_upto]
  unfold dropL at *
  rw [h1, h2, List.filter_append, List.filter_cons_of_pos (by simpa using h)]
theorem drop_ins_self (what t : Int) (L : List (Int × Int)) : dropL what (insL t what L) = dropL what L := by
  unfold insL dropL
  rw [List.filter_append, List.filter_cons_of_neg (by simp), ← List.filter_append, List.take_append_drop]
/-- As filled, but for one number. -/
def skipped (zs : List Int) (m : Nat) : Nat → List (Int × Int)
  | 0 => []
  | k + 1 => if k = m then skipped zs m k else insL (zs[k]?.getD 0) k (skipped zs m k)
theorem drop_filled (zs : List Int) (m : Nat) : ∀ k, k ≤ 16 → dropL m (filled zs k) = skipped zs m k
  | 0, _ => rfl
  | k + 1, h => by
    have ih := drop_filled zs m k (by omega)
    have hg := filled_good zs k (by omega)
    unfold filled skipped
    by_cases hk : k = m
    · subst hk
      rw [if_pos rfl, drop_ins_self, ih]
    · rw [if_neg hk, drop_ins _ _ _ hg.1 (by omega), ih]
theorem skipped_len (zs : List Int) (m : Nat) : ∀ k, (skipped zs m k).length = if m < k then k - 1 else k
  | 0 => rfl
  | k + 1 => by
    have ih := skipped_len zs m k
    unfold skipped
    by_cases hk : k = m
    · subst hk
      rw [if_pos rfl, ih, if_neg (by omega), if_pos (by omega)]
      omega
    · rw [if_neg hk, len_ins, ih]
      split <;> split <;> omega
theorem skipped_mem (zs : List Int) (m : Nat) : ∀ (k : Nat) (e : Int × Int), e ∈ skipped zs m k → e ∈ filled zs k
  | 0, _, h => h
  | k + 1, e, h => by
    unfold skipped at h
    unfold filled
    rw [mem_ins]
    split at h
    · exact .inr (skipped_mem zs m k e h)
    · rcases mem_ins.1 h with rfl | h
      · exact .inl rfl
      · exact .inr (skipped_mem zs m k e h)
theorem skipped_new (zs : List Int) (m k j : Nat) (h : k ≤ j) : (j : Int) ∉ (skipped zs m k).map Prod.snd := by
  intro hm
  obtain ⟨e, he, h2⟩ := List.mem_map.1 hm
  exact filled_new zs k j h (List.mem_map.2 ⟨e, skipped_mem zs m k e he, h2⟩)
theorem skipped_set (zs : List Int) {m k : Nat} (h : k < 16) (hk : k ≠ m) (W : World) (B g : Nat) (v : Value) (hT : Tm W B g v (skipped zs m k)) :
    Calls Try.prog 8 #[.pointer (some ⟨g, 0, none⟩), .int .i64 (zs[k]?.getD 0), .int .i64 k] W fun e w' => e = .returned (.int .i64 0) ∧ Now B g v (skipped zs m (k + 1)) W w' := by
  obtain ⟨e1, e2⟩ := set_new (t := zs[k]?.getD 0) (skipped_new zs m k k (Nat.le_refl _)) (by rw [skipped_len]; split <;> omega)
  have hset := set_any W B g v (skipped zs m k) (zs[k]?.getD 0) k hT (wf_nat (by omega))
  unfold Given at hset
  rw [e1, e2] at hset
  have : skipped zs m (k + 1) = insL (zs[k]?.getD 0) k (skipped zs m k) := by
    conv => lhs; unfold skipped
    rw [if_neg hk]
  rw [this]
  exact hset
/-- Set again, or for the first time: the same. -/
theorem moved (zs : List Int) {m n : Nat} (t : Int) (hm : m < n) (hn : n ≤ 16) :
    setL t m (filled zs n) = insL t m (skipped zs m n) ∧ setE m (filled zs n) = 0 ∧ setL t m (skipped zs m n) = insL t m (skipped zs m n) ∧ setE m (skipped zs m n) = 0 ∧ (insL t m (skipped zs m n)).length = n := by
  have hd := drop_filled zs m n hn
  have hl := skipped_len zs m n
  rw [if_pos hm] at hl
  have hdd : dropL m (skipped zs m n) = skipped zs m n := by
    rw [← hd]
    exact drop_new (not_mem_drop _ _)
  unfold setL setE
  rw [hd, hdd, if_pos (by omega), if_pos (by omega), len_ins]
  exact ⟨rfl, rfl, rfl, rfl, by omega⟩
end Go.Proofs.Ytfpjicmmnhcfcaa
