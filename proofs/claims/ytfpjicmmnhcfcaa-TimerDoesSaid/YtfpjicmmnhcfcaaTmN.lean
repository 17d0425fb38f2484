/- Package timer: what the laws' rows hold. -/
import Derived.Test.YtfpjicmmnhcfcaaTmF
namespace Go.Proofs.Ytfpjicmmnhcfcaa
open Go.RowKit

/-- What is due behind so many Sets, each of another number. -/
def filled (zs : List Int) : Nat → List (Int × Int)
  | 0 => []
  | k + 1 => insL (zs[k]?.getD 0) k (filled zs k)
theorem filled_mem (zs : List Int) : ∀ (k : Nat) (e : Int × Int), e ∈ filled zs k ↔ ∃ j : Nat, j < k ∧ e = (zs[j]?.getD 0, (j : Int))
  | 0, e => by simp [filled]
  | k + 1, e => by
    rw [filled, mem_ins, filled_mem zs k e]
    constructor
    · rintro (rfl | ⟨j, hj, rfl⟩)
      · exact ⟨k, by omega, rfl⟩
      · exact ⟨j, by omega, rfl⟩
    · rintro ⟨j, hj, rfl⟩
      by_cases hjk : j = k
      · subst hjk
        exact .inl rfl
      · exact .inr ⟨j, by omega, rfl⟩
theorem filled_len (zs : List Int) : ∀ k, (filled zs k).length = k
  | 0 => rfl
  | k + 1 => by rw [filled, len_ins, filled_len zs k]
theorem filled_new (zs : List Int) (k m : Nat) (h : k ≤ m) : (m : Int) ∉ (filled zs k).map Prod.snd := by
  intro hm
  obtain ⟨e, he, h2⟩ := List.mem_map.1 hm
  obtain ⟨j, hj, rfl⟩ := (filled_mem zs k e).1 he
  have : (j : Int) = m := h2
  omega
theorem wf_nat {k : Nat} (h : k ≤ 1000) : (Lit.int .i64 (k : Int)).wf = true := WalkArith.wf_i64 (by omega)
theorem drop_new {what : Int} {L : List (Int × Int)} (h : what ∉ L.map Prod.snd) : dropL what L = L := drop_none fun e he hw => h (List.mem_map.2 ⟨e, he, hw⟩)
theorem set_new {t what : Int} {L : List (Int × Int)} (h : what ∉ L.map Prod.snd) (hl : L.length < 16) : setL t what L = insL t what L ∧ setE what L = 0 := by
  unfold setL setE
  rw [drop_new h, if_pos hl, if_pos hl]
  exact ⟨rfl, rfl⟩
theorem filled_set (zs : List Int) {k : Nat} (h : k < 16) : setL (zs[k]?.getD 0) k (filled zs k) = filled zs (k + 1) ∧ setE k (filled zs k) = 0 :=
  set_new (filled_new zs k k (Nat.le_refl _)) (by rw [filled_len]; exact h)
theorem filled_good (zs : List Int) : ∀ k, k ≤ 16 → Good (filled zs k)
  | 0, _ => good_nil
  | k + 1, h => good_ins (filled_good zs k (by omega)) (by rw [filled_len]; omega) (filled_new zs k k (Nat.le_refl _)) (wf_nat (by omega))
theorem upto_all {t : Int} : ∀ {L : List (Int × Int)}, (∀ e ∈ L, e.1 ≤ t) → upto t L = L.length
  | [], _ => rfl
  | e :: L, h => by
    have ih := upto_all (L := L) (fun x hx => h x (List.mem_cons_of_mem _ hx))
    unfold upto at *
    rw [List.takeWhile_cons_of_pos (by simpa using h e (by simp)), List.length_cons, ih, List.length_cons]

/-- Which of so many numbers aren't due any more. -/
def notIn (n : Nat) (M : List (Int × Int)) : Nat → Bool := fun i => decide (i < n) && !(M.any fun e => decide (e.2 = (i : Int)))
/-- Sixteen bools, as cells. -/
def boolA (s : Nat → Bool) : Array Value := ((List.range 16).map fun i => Value.bool (s i)).toArray
theorem boolA_get (s : Nat → Bool) {i : Nat} (hi : i < 16) : (boolA s)[i]? = some (.bool (s i)) := by
  unfold boolA
  rw [List.getElem?_toArray, List.getElem?_map, List.getElem?_range hi]
  rfl
theorem boolA_set (s s' : Nat → Bool) {m : Nat} (h : ∀ i, i < 16 → s' i = if i = m then true else s i) : (boolA s).setIfInBounds m (.bool true) = boolA s' := by
  apply Array.ext_getElem?
  intro i
  rw [Array.getElem?_setIfInBounds]
  by_cases hi : i < 16
  · have hs : i < (boolA s).size := by simp [boolA, hi]
    have h' := h i hi
    rw [boolA_get s' hi, h']
    by_cases hm : m = i
    · subst hm
      simp [hs]
    · rw [if_neg hm, boolA_get s hi, if_neg (Ne.symm hm)]
  · have h1 : (boolA s)[i]? = none := Array.getElem?_eq_none (by simp [boolA]; omega)
    have h2 : (boolA s')[i]? = none := Array.getElem?_eq_none (by simp [boolA]; omega)
    rw [h2]
    split
    · rw [if_neg (by simp [boolA]; omega)]
    · exact h1
theorem notIn_step {n m : Nat} {e : Int × Int} {M : List (Int × Int)} (he : e.2 = (m : Int)) (hm : m < n) (hn : ((e :: M).map Prod.snd).Nodup) : (boolA (notIn n (e :: M))).setIfInBounds m (.bool true) = boolA (notIn n M) := by
  refine boolA_set _ _ fun i _ => ?_
  rw [List.map_cons, List.nodup_cons] at hn
  by_cases hi : i = m
  · subst hi
    rw [if_pos rfl]
    unfold notIn
    have : (M.any fun x => decide (x.2 = (i : Int))) = false := by
      rw [List.any_eq_false]
      intro x hx
      simp only [decide_eq_true_eq]
      intro hx2
      exact hn.1 (List.mem_map.2 ⟨x, hx, by rw [hx2, he]⟩)
    simp [this, hm]
  · rw [if_neg hi]
    unfold notIn
    rw [List.any_cons]
    have : decide (e.2 = (i : Int)) = false := by
      rw [he]
      exact decide_eq_false (by omega)
    rw [this, Bool.false_or]
theorem notIn_head {n m : Nat} {e : Int × Int} {M : List (Int × Int)} (he : e.2 = (m : Int)) : notIn n (e :: M) m = false := by
  unfold notIn
  rw [List.any_cons, he]
  simp
theorem notIn_all {zs : List Int} {n : Nat} : boolA (notIn n (filled zs n)) = #[.bool false, .bool false, .bool false, .bool false, .bool false, .bool false, .bool false, .bool false, .bool false, .bool false, .bool false, .bool false, .bool false, .bool false, .bool false, .bool false] := by
  have : ∀ i, notIn n (filled zs n) i = false := fun i => by
    unfold notIn
    by_cases hi : i < n
    · have : ((filled zs n).any fun e => decide (e.2 = (i : Int))) = true := by
        rw [List.any_eq_true]
        exact ⟨_, (filled_mem zs n (zs[i]?.getD 0, (i : Int))).2 ⟨i, hi, rfl⟩, by simp⟩
      simp [this]
    · simp [hi]
  have e : boolA (notIn n (filled zs n)) = boolA (fun _ => false) := by
    unfold boolA
    simp only [this]
  rw [e]
  rfl
theorem Tm.apart {w : World} {B g gs : Nat} {v : Value} {L : List (Int × Int)} {t : TypeId} {cs : Array Value} (h : Tm w B g v L) (hs : Holds w gs t cs) (h1 : t ≠ 26) (h2 : t ≠ 50) : ¬ part g v gs := by
  obtain ⟨_, _, A, c, rfl, hh, he⟩ := h
  rintro (e | e)
  · exact hs.apart hh h1 e
  · exact hs.own_apart he (Ne.symm h2) e
theorem Tm.put {w : World} {B g gs i : Nat} {v u : Value} {L : List (Int × Int)} {t : TypeId} {cs : Array Value} (h : Tm w B g v L) (hs : Holds w gs t cs) (h1 : t ≠ 26) (h2 : t ≠ 50) : Tm (w.setCell ⟨gs, i, none⟩ u) B g v L :=
  h.chg (Chg.set w gs i u (S := fun k => k = gs) rfl) (fun k hk e => h.apart hs h1 h2 (by rw [← e]; exact hk))

/-- Two rows apart. -/
def Two (w : World) (B ga : Nat) (va : Value) (L : List (Int × Int)) (gb : Nat) (vb : Value) (M : List (Int × Int)) : Prop := Tm w B ga va L ∧ Tm w B gb vb M ∧ ∀ k, part ga va k → ¬ part gb vb k
section
variable {w w' : World} {B ga gb : Nat} {va vb : Value} {L M L' : List (Int × Int)}
theorem Two.swap (h : Two w B ga va L gb vb M) : Two w B gb vb M ga va L := ⟨h.2.1, h.1, fun k hk hk' => h.2.2 k hk' hk⟩
/-- The first one changed. -/
theorem Two.now (h : Two w B ga va L gb vb M) (hn : Now B ga va L' w w') : ∃ va', Two w' B ga va' L' gb vb M ∧ Chg (part ga va) w w' := by
  obtain ⟨va', ht, hc, hp⟩ := hn
  refine ⟨va', ⟨ht, h.2.1.chg hc (fun k hk hk' => h.2.2 k hk' hk), fun k hk hk' => ?_⟩, hc⟩
  rcases hp k hk with h1 | h1
  · exact h.2.2 k h1 hk'
  · have := (h.2.1.part_old hk').2
    omega
theorem Two.chg {S : Nat → Prop} (h : Two w B ga va L gb vb M) (hc : Chg S w w') (h1 : ∀ k, part ga va k → ¬ S k) (h2 : ∀ k, part gb vb k → ¬ S k) : Two w' B ga va L gb vb M := ⟨h.1.chg hc h1, h.2.1.chg hc h2, h.2.2⟩
theorem Two.below (h : Two w B ga va L gb vb M) (hb : Below w.heap.size w w') : Two w' B ga va L gb vb M := ⟨h.1.below hb, h.2.1.below hb, h.2.2⟩
/-- No row of integers lies in a row's blocks. -/
theorem Tm.list {B' n : Nat} {v : Value} {xs : List Value} (h : Tm w B ga va L) (ho : w.ownsRow B' 3 1 v n xs) {k : Nat} (hk : v.ownBlock = some k) : ¬ part ga va k := by
  obtain ⟨_, _, A, c, rfl, hh, he⟩ := h
  rintro (rfl | hk')
  · exact hh.own_apart ho (by decide) hk
  · exact own_own he ho (by decide) hk' hk
end
theorem filled_new2 (zs : List Int) {k : Nat} (h : k < 16) (W : World) (B g : Nat) (v : Value) (hT : Tm W B g v (filled zs k)) :
    Calls Try.prog 8 #[.pointer (some ⟨g, 0, none⟩), .int .i64 (zs[k]?.getD 0), .int .i64 k] W fun e w' => e = .returned (.int .i64 0) ∧ Now B g v (filled zs (k + 1)) W w' := by
  obtain ⟨e1, e2⟩ := filled_set zs h
  have hset := set_any W B g v (filled zs k) (zs[k]?.getD 0) k hT (wf_nat (by omega))
  unfold Given at hset
  rw [e1, e2] at hset
  exact hset
theorem range_wf {zs : List Int} (h : ∀ n ∈ zs, (Lit.int .i64 n).wf = true) (k : Nat) : Fits (zs[k]?.getD 0) := by
  rcases Nat.lt_or_ge k zs.length with hk | hk
  · rw [List.getElem?_eq_getElem hk]
    exact fits_wf (h _ (List.getElem_mem hk))
  · rw [List.getElem?_eq_none hk]
    exact ⟨by decide, by decide⟩
theorem take_take (p q : Int × Int → Bool) (h : ∀ e, p e = true → q e = true) : ∀ L : List (Int × Int), L.takeWhile p ++ (L.dropWhile p).takeWhile q = L.takeWhile q ∧ (L.dropWhile p).dropWhile q = L.dropWhile q
  | [] => by simp
  | e :: L => by
    obtain ⟨h1, h2⟩ := take_take p q h L
    by_cases hp : p e = true
    · have hq := h e hp
      rw [List.takeWhile_cons_of_pos hp, List.dropWhile_cons_of_pos hp, List.takeWhile_cons_of_pos hq, List.dropWhile_cons_of_pos hq, List.cons_append, h1]
      exact ⟨rfl, h2⟩
    · rw [List.takeWhile_cons_of_neg hp, List.dropWhile_cons_of_neg hp]
      exact ⟨rfl, rfl⟩
/-- What is due now, and what is due later, is what is due later, at once. -/
theorem due_due {a b : Int} (h : a ≤ b) (L : List (Int × Int)) : dueL a L ++ dueL b (restL a L) = dueL b L ∧ restL b (restL a L) = restL b L := by
  obtain ⟨h1, h2⟩ := take_take (fun e => decide (e.1 ≤ a)) (fun e => decide (e.1 ≤ b)) (fun e he => by
    have : e.1 ≤ a := by simpa using he
    simpa using Int.le_trans this h) L
  unfold dueL restL
  rw [← List.map_append]
  simp only [take_upto, drop_upto]
  exact ⟨by rw [h1], h2⟩
end Go.Proofs.Ytfpjicmmnhcfcaa
