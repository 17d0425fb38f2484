/- Package links: ways. Plain mathematics. -/
import Derived.Test.YtgmkmkheknibmaaDoorLkM
namespace Go.Proofs.YtgmkmkheknibmaaDoor

/-- Is there a link? -/
def adj (M : List Nat) (i k : Nat) : Bool := (M.getD i 0).testBit k
/-- All links are between two nodes, each way, of no node with itself. -/
structure Net (M : List Nat) : Prop where
  lt : ∀ i k, adj M i k = true → k < M.length
  sym : ∀ i k, adj M i k = true → adj M k i = true
  irr : ∀ i, adj M i i = false
/-- A way of so many links, over nodes of a set alone. -/
def Reach (M : List Nat) (on a : Nat) : Nat → Nat → Prop
  | 0, k => k = a ∧ on.testBit a = true
  | d + 1, k => ∃ i, Reach M on a d i ∧ adj M i k = true ∧ on.testBit k = true
/-- .. and none of fewer. -/
def First (M : List Nat) (on a d k : Nat) : Prop := Reach M on a d k ∧ ∀ e, e < d → ¬ Reach M on a e k

section
variable {M : List Nat} {on a : Nat}
theorem reach_lt (h : Net M) (ha : a < M.length) : ∀ {d k : Nat}, Reach M on a d k → k < M.length
  | 0, _, hr => by rw [hr.1]; exact ha
  | _ + 1, _, ⟨_, _, h2, _⟩ => h.lt _ _ h2
theorem reach_on : ∀ {d k : Nat}, Reach M on a d k → on.testBit k = true
  | 0, _, hr => by rw [hr.1]; exact hr.2
  | _ + 1, _, ⟨_, _, _, h3⟩ => h3
theorem first_of : ∀ {d k : Nat}, Reach M on a d k → ∃ e, e ≤ d ∧ First M on a e k := by
  intro d
  induction d using Nat.strongRecOn with
  | ind d ih =>
    intro k h
    by_cases hx : ∃ e, e < d ∧ Reach M on a e k
    · obtain ⟨e, he, hr⟩ := hx
      obtain ⟨e', h1, h2⟩ := ih e he hr
      exact ⟨e', by omega, h2⟩
    · exact ⟨d, Nat.le_refl _, h, fun e he hr => hx ⟨e, he, hr⟩⟩
theorem first_one {d e k : Nat} (h : First M on a d k) (h' : First M on a e k) : d = e := by
  rcases Nat.lt_trichotomy d e with h1 | h1 | h1
  · exact absurd h.1 (h'.2 d h1)
  · exact h1
  · exact absurd h'.1 (h.2 e h1)
theorem no_first {d k : Nat} : (∀ e, e < d → ¬ First M on a e k) ↔ ∀ e, e < d → ¬ Reach M on a e k := by
  constructor
  · intro h e he hr
    obtain ⟨e', h1, h2⟩ := first_of hr
    exact h e' (by omega) h2
  · intro h e he hf
    exact h e he hf.1
theorem first_zero {k : Nat} : First M on a 0 k ↔ k = a ∧ on.testBit a = true := ⟨fun h => h.1, fun h => ⟨h, fun e he => absurd he (Nat.not_lt_zero e)⟩⟩
theorem first_succ {d k : Nat} : First M on a (d + 1) k ↔ (∃ i, First M on a d i ∧ adj M i k = true) ∧ on.testBit k = true ∧ ∀ e, e < d + 1 → ¬ First M on a e k := by
  constructor
  · rintro ⟨⟨i, h1, h2, h3⟩, h4⟩
    obtain ⟨e, he, hf⟩ := first_of h1
    refine ⟨⟨i, ?_, h2⟩, h3, no_first.2 h4⟩
    rcases Nat.lt_or_ge e d with h5 | h5
    · exact absurd ⟨i, hf.1, h2, h3⟩ (h4 (e + 1) (by omega))
    · obtain rfl : e = d := by omega
      exact hf
  · rintro ⟨⟨i, h1, h2⟩, h3, h4⟩
    exact ⟨⟨i, h1.1, h2, h3⟩, no_first.1 h4⟩
theorem none_after {d : Nat} (h : ∀ k, ¬ First M on a d k) : ∀ {e k : Nat}, Reach M on a e k → ∃ e', e' < d ∧ First M on a e' k := by
  intro e
  induction e with
  | zero =>
    intro k hr
    refine ⟨0, ?_, first_zero.2 hr⟩
    rcases Nat.eq_zero_or_pos d with h0 | h0
    · subst h0
      exact absurd (first_zero.2 hr) (h k)
    · exact h0
  | succ e ih =>
    intro k ⟨i, h1, h2, h3⟩
    obtain ⟨e', he', hf⟩ := ih h1
    obtain ⟨e2, hle, hf2⟩ := first_of (show Reach M on a (e' + 1) k from ⟨i, hf.1, h2, h3⟩)
    refine ⟨e2, ?_, hf2⟩
    rcases Nat.lt_or_ge e2 d with h5 | h5
    · exact h5
    · obtain rfl : e2 = d := by omega
      exact absurd hf2 (h k)
theorem countP_lt {α : Type} {p q : α → Bool} : ∀ {l : List α}, (∀ x ∈ l, p x = true → q x = true) → (∃ x ∈ l, q x = true ∧ p x = false) → l.countP p + 1 ≤ l.countP q
  | [], _, ⟨_, h, _⟩ => by cases h
  | y :: l, h1, h2 => by
    have hm : l.countP p ≤ l.countP q := List.countP_mono_left (fun x hx => h1 x (List.mem_cons_of_mem _ hx))
    rw [List.countP_cons, List.countP_cons]
    by_cases hy : q y = true ∧ p y = false
    · simp [hy.1, hy.2]
      exact hm
    · have : l.countP p + 1 ≤ l.countP q := countP_lt (fun x hx => h1 x (List.mem_cons_of_mem _ hx)) (by
        obtain ⟨x, hx, hqx⟩ := h2
        rcases List.mem_cons.1 hx with rfl | hx
        · exact absurd hqx hy
        · exact ⟨x, hx, hqx⟩)
      have h3 : p y = true → q y = true := h1 y (List.mem_cons_self ..)
      rcases hp : p y with _ | _ <;> rcases hq : q y with _ | _ <;> simp_all <;> omega
open Classical in
/-- There are as many nodes as layers. -/
theorem first_count (h : Net M) (ha : a < M.length) : ∀ {d k : Nat}, First M on a d k → d + 1 ≤ (List.range M.length).countP (fun j => decide (∃ e, e ≤ d ∧ First M on a e j)) := by
  intro d
  induction d with
  | zero =>
    intro k hf
    refine Nat.succ_le_of_lt (List.countP_pos_iff.2 ⟨k, List.mem_range.2 (reach_lt h ha hf.1), ?_⟩)
    simpa using hf
  | succ d ih =>
    intro k hf
    obtain ⟨⟨i, hi, _⟩, _, hno⟩ := first_succ.1 hf
    refine Nat.le_trans (Nat.succ_le_succ (ih hi)) (countP_lt (fun j _ hj => ?_) ⟨k, List.mem_range.2 (reach_lt h ha hf.1), ?_, ?_⟩)
    · simp only [decide_eq_true_eq] at hj ⊢
      obtain ⟨e, he, hfe⟩ := hj
      exact ⟨e, by omega, hfe⟩
    · simp only [decide_eq_true_eq]
      exact ⟨d + 1, Nat.le_refl _, hf⟩
    · simp only [decide_eq_false_iff_not]
      rintro ⟨e, he, hfe⟩
      exact hno e (by omega) hfe
theorem first_lt (h : Net M) (ha : a < M.length) {d k : Nat} (hf : First M on a d k) : d < M.length := by
  classical
  have h1 := first_count h ha hf
  have h2 := List.countP_le_length (p := fun j => decide (∃ e, e ≤ d ∧ First M on a e j)) (l := List.range M.length)
  rw [List.length_range] at h2
  have h3 : d + 1 ≤ M.length := by
    refine Nat.le_trans h1 (Nat.le_trans (Nat.le_of_eq ?_) h2)
    congr
  omega

/-- What Hops answers. -/
def IsHops (M : List Nat) (on a : Nat) (H : List Int) : Prop :=
  H.length = M.length ∧ ∀ k, k < M.length → (H.getD k 0 = -1 ∧ ∀ d, ¬ Reach M on a d k) ∨ ∃ d : Nat, H.getD k 0 = (d : Int) ∧ First M on a d k
theorem IsHops.one {H H' : List Int} (h : IsHops M on a H) (h' : IsHops M on a H') : H = H' := by
  refine List.ext_getElem (h.1.trans h'.1.symm) fun k h1 h2 => ?_
  have hk : k < M.length := by rw [← h.1]; exact h1
  have e1 : H.getD k 0 = H[k] := by simp [List.getD, h1]
  have e2 : H'.getD k 0 = H'[k] := by simp [List.getD, h2]
  rw [← e1, ← e2]
  rcases h.2 k hk with ⟨g1, g2⟩ | ⟨d, g1, g2⟩
  · rcases h'.2 k hk with ⟨f1, _⟩ | ⟨d', _, f2⟩
    · rw [g1, f1]
    · exact absurd f2.1 (g2 d')
  · rcases h'.2 k hk with ⟨_, f2⟩ | ⟨d', f1, f2⟩
    · exact absurd g2.1 (f2 d)
    · rw [g1, f1, first_one g2 f2]
theorem hops_none (n : Nat) (k : Nat) (hk : k < n) : (List.replicate n (-1 : Int)).getD k 0 = -1 := by simp [List.getD, hk]
theorem IsHops.off (h : on.testBit a = false) : IsHops M on a (List.replicate M.length (-1)) := by
  refine ⟨by simp, fun k hk => .inl ⟨hops_none _ k hk, fun d hr => ?_⟩⟩
  have : ∀ {d k : Nat}, ¬ Reach M on a d k := by
    intro d
    induction d with
    | zero =>
      intro k hr
      have h2 := hr.2
      rw [h] at h2
      cases h2
    | succ d ih => rintro k ⟨i, h1, _⟩; exact ih h1
  exact this hr
/-- Behind d rounds: who is nearer than d has its number. -/
def Told (M : List Nat) (on a d : Nat) (H : List Int) : Prop :=
  H.length = M.length ∧ ∀ k, k < M.length → (∃ e, e < d ∧ First M on a e k ∧ H.getD k 0 = (e : Int)) ∨ ((∀ e, e < d → ¬ First M on a e k) ∧ H.getD k 0 = -1)
theorem Told.zero : Told M on a 0 (List.replicate M.length (-1)) := ⟨by simp, fun k hk => .inr ⟨fun e he => absurd he (Nat.not_lt_zero e), hops_none _ k hk⟩⟩
theorem Told.done {d : Nat} {H : List Int} (h : Told M on a d H) (hn : ∀ k, ¬ First M on a d k) : IsHops M on a H := by
  refine ⟨h.1, fun k hk => ?_⟩
  rcases h.2 k hk with ⟨e, _, hf, he⟩ | ⟨hno, he⟩
  · exact .inr ⟨e, he, hf⟩
  · refine .inl ⟨he, fun d' hr => ?_⟩
    obtain ⟨e, hlt, hf⟩ := none_after hn hr
    exact hno e hlt hf
end

def setAll (H : List Int) (d : Nat) (pre : List Nat) : List Int := pre.foldl (fun H i => H.set i (d : Int)) H
def orAll (M : List Nat) (pre : List Nat) : Nat := pre.foldl (fun x i => x ||| M.getD i 0) 0
theorem setAll_snoc (H : List Int) (d : Nat) (pre : List Nat) (i : Nat) : setAll H d (pre ++ [i]) = (setAll H d pre).set i (d : Int) := by simp [setAll]
theorem orAll_snoc (M : List Nat) (pre : List Nat) (i : Nat) : orAll M (pre ++ [i]) = orAll M pre ||| M.getD i 0 := by simp [orAll]
theorem setAll_len (H : List Int) (d : Nat) : ∀ pre : List Nat, (setAll H d pre).length = H.length := by
  intro pre
  unfold setAll
  induction pre generalizing H with
  | nil => rfl
  | cons i pre ih => rw [List.foldl_cons, ih, List.length_set]
theorem setAll_get (d : Nat) (k : Nat) : ∀ (pre : List Nat) (H : List Int), k < H.length → (setAll H d pre).getD k 0 = if k ∈ pre then (d : Int) else H.getD k 0 := by
  intro pre
  induction pre with
  | nil => intro H _; simp [setAll]
  | cons i pre ih =>
    intro H hk
    have : setAll H d (i :: pre) = setAll (H.set i d) d pre := rfl
    rw [this, ih _ (by rw [List.length_set]; exact hk)]
    by_cases h1 : k ∈ pre
    · simp [h1]
    · by_cases h2 : k = i
      · subst h2
        simp [h1, List.getD, hk]
      · simp [h1, h2, List.getD, List.getElem?_set_ne (Ne.symm h2)]
theorem orAll_bit (M : List Nat) (k : Nat) (pre : List Nat) : (orAll M pre).testBit k = true ↔ ∃ i ∈ pre, adj M i k = true := by
  have : ∀ (pre : List Nat) (x : Nat), (pre.foldl (fun x i => x ||| M.getD i 0) x).testBit k = true ↔ x.testBit k = true ∨ ∃ i ∈ pre, adj M i k = true := by
    intro pre
    induction pre with
    | nil => intro x; simp
    | cons i pre ih =>
      intro x
      rw [List.foldl_cons, ih, Nat.testBit_or]
      simp only [Bool.or_eq_true, List.mem_cons, exists_eq_or_imp, or_assoc]
      rfl
  rw [orAll, this]
  simp
theorem orAll_fit {M : List Nat} (h : ∀ i, M.getD i 0 < 18446744073709551616) (pre : List Nat) : orAll M pre < 18446744073709551616 := by
  have : ∀ (pre : List Nat) (x : Nat), x < 2 ^ 64 → pre.foldl (fun x i => x ||| M.getD i 0) x < 2 ^ 64 := by
    intro pre
    induction pre with
    | nil => intro x hx; exact hx
    | cons i pre ih => intro x hx; exact ih _ (Nat.or_lt_two_pow hx (h i))
  exact this pre 0 (by decide)
/-- One round of Hops: far d, reached R, on what was not reached yet. -/
structure Layer (M : List Nat) (on a d : Nat) (H : List Int) (O R : Nat) : Prop where
  told : Told M on a d H
  fitO : O < 18446744073709551616
  fitR : R < 18446744073709551616
  bitO : ∀ k, O.testBit k = true ↔ on.testBit k = true ∧ ∀ e, e < d → ¬ First M on a e k
  bitR : ∀ k, R.testBit k = true ↔ First M on a d k
theorem not_bit {R k : Nat} (hk : k < 64) (hR : R < 18446744073709551616) : (18446744073709551615 - R).testBit k = !R.testBit k := by
  have := Nat.testBit_two_pow_sub_succ (n := 64) (x := R) hR k
  rw [show 18446744073709551615 - R = 2 ^ 64 - (R + 1) by omega, this]
  simp [hk]
theorem Layer.start {M : List Nat} {on a : Nat} (hon : on < 18446744073709551616) (ha : a < 64) : Layer M on a 0 (List.replicate M.length (-1)) on (on &&& 2 ^ a) := by
  refine ⟨Told.zero, hon, Nat.lt_of_le_of_lt Nat.and_le_left hon, fun k => ⟨fun h => ⟨h, fun e he => absurd he (Nat.not_lt_zero e)⟩, fun h => h.1⟩, fun k => ?_⟩
  rw [first_zero, Nat.testBit_and, Nat.testBit_two_pow]
  simp only [Bool.and_eq_true, decide_eq_true_eq]
  constructor
  · rintro ⟨h1, rfl⟩
    exact ⟨rfl, h1⟩
  · rintro ⟨rfl, h1⟩
    exact ⟨h1, rfl⟩
section
variable {M : List Nat} {on a d : Nat} {H : List Int} {O R : Nat}
theorem Layer.next (h : Layer M on a d H O R) (hfit : ∀ i, M.getD i 0 < 18446744073709551616) : Layer M on a (d + 1) (setAll H d (bitsOf R)) (O &&& (18446744073709551615 - R)) (orAll M (bitsOf R) &&& (O &&& (18446744073709551615 - R))) := by
  have hmem : ∀ k, k ∈ bitsOf R ↔ First M on a d k := fun k => by
    rw [mem_bits, ← h.bitR]
    exact ⟨fun h' => h'.2, fun h' => ⟨bit_lt (n := 64) h.fitR h', h'⟩⟩
  have hO : ∀ k, (O &&& (18446744073709551615 - R)).testBit k = true ↔ on.testBit k = true ∧ ∀ e, e < d + 1 → ¬ First M on a e k := by
    intro k
    rw [Nat.testBit_and, Bool.and_eq_true, h.bitO]
    constructor
    · rintro ⟨⟨h1, h2⟩, h3⟩
      refine ⟨h1, fun e he hf => ?_⟩
      rcases Nat.lt_or_ge e d with h4 | h4
      · exact h2 e h4 hf
      · obtain rfl : e = d := by omega
        have hb := (h.bitR k).2 hf
        have hk : k < 64 := bit_lt (n := 64) h.fitR hb
        rw [not_bit hk h.fitR, hb] at h3
        cases h3
    · rintro ⟨h1, h2⟩
      have hb : O.testBit k = true := (h.bitO k).2 ⟨h1, fun e he => h2 e (by omega)⟩
      have hk : k < 64 := bit_lt (n := 64) h.fitO hb
      refine ⟨⟨h1, fun e he => h2 e (by omega)⟩, ?_⟩
      rw [not_bit hk h.fitR]
      rcases hr : R.testBit k with _ | _
      · rfl
      · exact absurd ((h.bitR k).1 hr) (h2 d (by omega))
  refine ⟨⟨(setAll_len _ _ _).trans h.told.1, fun k hk => ?_⟩, Nat.lt_of_le_of_lt Nat.and_le_left h.fitO, Nat.lt_of_le_of_lt Nat.and_le_left (orAll_fit hfit _), hO, fun k => ?_⟩
  · rw [setAll_get d k _ _ (by rw [h.told.1]; exact hk)]
    by_cases hf : First M on a d k
    · rw [if_pos ((hmem k).2 hf)]
      exact .inl ⟨d, by omega, hf, rfl⟩
    · rw [if_neg (fun hm => hf ((hmem k).1 hm))]
      rcases h.told.2 k hk with ⟨e, he, h1, h2⟩ | ⟨h1, h2⟩
      · exact .inl ⟨e, by omega, h1, h2⟩
      · refine .inr ⟨fun e he hfe => ?_, h2⟩
        rcases Nat.lt_or_ge e d with h4 | h4
        · exact h1 e h4 hfe
        · obtain rfl : e = d := by omega
          exact hf hfe
  · rw [Nat.testBit_and, Bool.and_eq_true, orAll_bit, hO, first_succ]
    constructor
    · rintro ⟨⟨i, hi, h1⟩, h2, h3⟩
      exact ⟨⟨i, (hmem i).1 hi, h1⟩, h2, h3⟩
    · rintro ⟨⟨i, hi, h1⟩, h2, h3⟩
      exact ⟨⟨i, (hmem i).2 hi, h1⟩, h2, h3⟩
theorem Layer.less (h : Layer M on a d H O R) (hR : R ≠ 0) : O &&& (18446744073709551615 - R) < O := by
  obtain ⟨k, hk⟩ := Nat.exists_testBit_of_ne_zero hR
  have hk64 : k < 64 := bit_lt (n := 64) h.fitR hk
  have hO : O.testBit k = true := by
    rw [h.bitO]
    have hf := (h.bitR k).1 hk
    exact ⟨reach_on hf.1, no_first.2 hf.2⟩
  refine Nat.lt_of_le_of_ne Nat.and_le_left fun e => ?_
  have : (O &&& (18446744073709551615 - R)).testBit k = true := by rw [e]; exact hO
  rw [Nat.testBit_and, not_bit hk64 h.fitR, hk] at this
  simp at this
theorem Layer.some (h : Layer M on a d H O R) (hR : R ≠ 0) (hn : Net M) (ha : a < M.length) : d < M.length := by
  obtain ⟨k, hk⟩ := Nat.exists_testBit_of_ne_zero hR
  exact first_lt hn ha ((h.bitR k).1 hk)
theorem Layer.mem (h : Layer M on a d H O R) (hn : Net M) (ha : a < M.length) {i : Nat} (hi : i ∈ bitsOf R) : i < M.length := reach_lt hn ha ((h.bitR i).1 (mem_bits.1 hi).2).1
theorem Layer.done (h : Layer M on a d H O R) (hR : R = 0) : IsHops M on a H := h.told.done fun k hf => by
  have := (h.bitR k).2 hf
  rw [hR] at this
  simp at this
end
end Go.Proofs.YtgmkmkheknibmaaDoor
