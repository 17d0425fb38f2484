/- A region that draws its order, where some operations load cells, calls follow, and the last operations ('late': each waits for all that were ahead) store into those very cells: the loads may be taken first, since nothing late comes up before them. Nothing here speaks of one program. -/
import Derived.OrdersHeld
import Derived.StillTail
import Derived.Deep.RegionHeld
namespace Go.Proofs.Ytgcmeoogmjganaa

section
variable {P : Program} {ops : Array Oper} {Q : Exit → Act → World → Prop} {md : Region.Mode} {S : World → Prop} {late : Nat → Bool}

/-- Whatever order is picked from here on; behind each operation that isn't late S holds. -/
def Turns (P : Program) (md : Region.Mode) (ops : Array Oper) (Q : Exit → Act → World → Prop) (S : World → Prop) (late : Nat → Bool) : Nat → Array Bool → Act → World → Prop
  | 0, listed, a, w => Region.ready md ops listed = [] ∧ Q .normal a w
  | n + 1, listed, a, w =>
    (Region.ready md ops listed = [] → Q .normal a w) ∧
    ∀ i ∈ Region.ready md ops listed, wpOp P ops Q i (fun a' w' => (late i = false → S w') ∧ Turns P md ops Q S late n (listed.setIfInBounds i true) a' w') a w

theorem Turns.any : ∀ {n : Nat} {listed : Array Bool} {a : Act} {w : World}, Turns P md ops Q S late n listed a w → wpAny P md ops Q n listed a w
  | 0, _, _, _, h => h
  | _ + 1, _, _, _, h => ⟨h.1, fun i hi => wpOp_mono (fun _ _ h' => Turns.any h'.2) (h.2 i hi)⟩

/-- Where all that is left is late, nothing is asked of S. -/
theorem Turns.rest : ∀ {n : Nat} {listed : Array Bool} {a : Act} {w : World}, (∀ i, listed.getD i true = false → late i = true) → wpAny P md ops Q n listed a w → Turns P md ops Q S late n listed a w
  | 0, _, _, _, _, h => h
  | _ + 1, listed, _, _, hl, h => ⟨h.1, fun i hi => wpOp_mono (fun _ _ h' => ⟨fun hf => absurd (hl i (mem_ready.1 hi).1) (by rw [hf]; decide), Turns.rest (fun j hj => by
      by_cases hij : i = j
      · subst hij
        exact hl i (mem_ready.1 hi).1
      · rw [getD_set_ne true hij] at hj
        exact hl j hj) h'⟩) (h.2 i hi)⟩

def lateLeft (late : Nat → Bool) (listed : Array Bool) : Bool := (List.range listed.size).all fun i => listed.getD i true || late i
theorem late_done {listed : Array Bool} (h : lateLeft late listed = true) (i : Nat) (hi : listed.getD i true = false) : late i = true := by
  rcases Nat.lt_or_ge i listed.size with hlt | hge
  · have h0 := List.all_eq_true.1 h i (List.mem_range.2 hlt)
    rw [hi] at h0
    simpa using h0
  · simp [Array.getElem?_eq_none hge] at hi
/-- Does j wait for i, itself or through some that have not come up? -/
def linked (md : Region.Mode) (ops : Array Oper) (listed : Array Bool) (i : Nat) : Nat → Nat → Bool
  | 0, j => Region.waitsFor md ops j i
  | d + 1, j => Region.waitsFor md ops j i || (List.range ops.size).any fun k => Region.waitsFor md ops j k && !listed.getD k false && linked md ops listed i d k
/-- Does each late operation wait for this one? -/
def lateWaits (md : Region.Mode) (ops : Array Oper) (late : Nat → Bool) (i : Nat) (listed : Array Bool) : Bool := (List.range ops.size).all fun j => !late j || linked md ops listed i 3 j
theorem waits_not {i j : Nat} {listed : Array Bool} (h : Region.waitsFor md ops j i = true) (hi : listed.getD i false = false) : j ∉ Region.ready md ops listed := fun hj => by
  obtain ⟨_, oj, hoj, hall⟩ := mem_ready.1 hj
  obtain ⟨o', ho', e, he, hb, hon⟩ := Region.waitsFor_spec h
  obtain rfl : o' = oj := Option.some.inj (ho'.symm.trans hoj)
  have h0 := hall e he hb
  rw [hon, hi] at h0
  cases h0
theorem linked_not {i : Nat} {listed : Array Bool} (hi : listed.getD i false = false) : ∀ {d j : Nat}, linked md ops listed i d j = true → j ∉ Region.ready md ops listed
  | 0, _, h => waits_not h hi
  | d + 1, j, h => by
    simp only [linked, Bool.or_eq_true, List.any_eq_true, Bool.and_eq_true, Bool.not_eq_true'] at h
    rcases h with h | ⟨k, _, ⟨h1, h2⟩, _⟩
    · exact waits_not h hi
    · exact waits_not h1 h2
theorem linked_set {i j0 : Nat} {listed : Array Bool} (hi : listed.getD i false = false) (hj : j0 ∈ Region.ready md ops listed) : ∀ {d j : Nat}, linked md ops listed i d j = true → linked md ops (listed.setIfInBounds j0 true) i d j = true
  | 0, _, h => h
  | d + 1, j, h => by
    simp only [linked, Bool.or_eq_true, List.any_eq_true, Bool.and_eq_true, Bool.not_eq_true'] at h ⊢
    refine h.imp id fun ⟨k, hk, ⟨h1, h2⟩, h3⟩ => ⟨k, hk, ⟨h1, ?_⟩, linked_set hi hj h3⟩
    have hjk : j0 ≠ k := fun e => linked_not hi h3 (by rw [← e]; exact hj)
    rw [getD_set_ne false hjk]
    exact h2
theorem late_not {i j : Nat} {listed : Array Bool} (hw : lateWaits md ops late i listed = true) (hi : listed.getD i false = false) (hj : j ∈ Region.ready md ops listed) : late j = false := by
  rcases hl : late j with _ | _
  · rfl
  · obtain ⟨_, oj, hoj, _⟩ := mem_ready.1 hj
    have h0 := List.all_eq_true.1 hw j (List.mem_range.2 (Array.getElem?_eq_some_iff.1 hoj).1)
    rw [hl] at h0
    exact absurd hj (linked_not hi (by simpa using h0))
theorem late_set {i j : Nat} {listed : Array Bool} (hw : lateWaits md ops late i listed = true) (hi : listed.getD i false = false) (hj : j ∈ Region.ready md ops listed) : lateWaits md ops late i (listed.setIfInBounds j true) = true := by
  refine List.all_eq_true.2 fun l hl => ?_
  have h0 := List.all_eq_true.1 hw l hl
  simp only [Bool.or_eq_true] at h0 ⊢
  exact h0.imp id (linked_set hi hj)

theorem Turns.first {i : Nat} {oi : Oper} {v : Value} (hi : ops[i]? = some oi) (hs : Region.noSelect ops = true) (hQ : ∀ c a w, Q (.panic c) (a.put oi.dst v) w → Q (.panic c) a w) :
    ∀ (n : Nat) (listed : Array Bool) (a : Act) (w : World), (∀ j oj, ops[j]? = some oj → j ≠ i → listed.getD j true = false → (∀ e ∈ oj.after, Region.binds md e = true → e.on ≠ i) → oi.apart ops oj = true) →
      lateWaits md ops late i listed = true → i ∈ Region.ready md ops listed → YieldsIf P ops S oi v a → S w → Turns P md ops Q S late n (listed.setIfInBounds i true) (a.put oi.dst v) w → Turns P md ops Q S late (n + 1) listed a w := by
  have hsel := Region.noSelect_spec hs
  have now : ∀ {n : Nat} {listed : Array Bool} {a : Act} {w : World}, YieldsIf P ops S oi v a → S w → Turns P md ops Q S late n (listed.setIfInBounds i true) (a.put oi.dst v) w →
      wpOp P ops Q i (fun a' w' => (late i = false → S w') ∧ Turns P md ops Q S late n (listed.setIfInBounds i true) a' w') a w := fun hy hS H => hy.wpOp hi hS ⟨fun _ => hS, H⟩
  intro n
  induction n with
  | zero =>
    intro listed a w _ _ hr hy hS H
    refine ⟨fun h => (by rw [h] at hr; cases hr), fun j hj => ?_⟩
    by_cases hne : j = i
    · subst hne
      exact now hy hS H
    · have h0 := ready_mono hj hne
      rw [H.1] at h0
      cases h0
  | succ n ih =>
    intro listed a w hfree hw hr hy hS H
    refine ⟨fun h => (by rw [h] at hr; cases hr), fun j hj => ?_⟩
    by_cases hne : j = i
    · subst hne
      exact now hy hS H
    obtain ⟨hun, oj, hoj, hall⟩ := mem_ready.1 hj
    have hni : listed.getD i false = false := getD_both (mem_ready.1 hr).1
    have hno : ∀ e ∈ oj.after, Region.binds md e = true → e.on ≠ i := fun e he hb heq => by
      have h0 := hall e he hb
      rw [heq, hni] at h0
      cases h0
    have h2 := wpOp_putIf hoj (hfree j oj hoj hne hun hno) (fun cs b => hsel i oi cs b hi) (fun cs b => hsel j oj cs b hoj) hQ hy (H.2 j (ready_mono hj hne))
    refine wpOp_mono (fun a' w' h3 => ⟨h3.2.1, ih _ a' w' (fun k ok hk hki hk' hkn => hfree k ok hk hki ?_ hkn) (late_set hw hni hj) (ready_mono hr (Ne.symm hne)) h3.1 (h3.2.1 (late_not hw hni hj)) ?_⟩) h2
    · by_cases hjk : j = k
      · rw [← hjk]
        exact hun
      · rwa [getD_set_ne true hjk] at hk'
    · rw [Array.setIfInBounds_comm _ _ hne]
      exact h3.2.2

/-- Number i is taken first: in every world that meets S it yields v. -/
theorem Turns.take {n : Nat} {listed : Array Bool} {a : Act} {w : World} (hS : S w) (i : Nat) (v : Value) {oi : Oper} (hi : ops[i]? = some oi) (hs : Region.noSelect ops = true) (hf : Region.free md ops listed i = true)
    (hr : (Region.ready md ops listed).contains i = true) (hw : lateWaits md ops late i listed = true) (hQ : ∀ c a w, Q (.panic c) (a.put oi.dst v) w → Q (.panic c) a w) (hwant : Region.wanted oi (yielded ops a.tmps) = true)
    (hy : ∀ w, S w → (execOp a.eval oi).run P w = .ok (.value v) w) (h : Turns P md ops Q S late n (listed.setIfInBounds i true) (a.put oi.dst v) w) : Turns P md ops Q S late (n + 1) listed a w :=
  Turns.first hi hs hQ n listed a w (Region.free_spec hi hf) hw (by simpa using hr) (.inl ⟨hwant, hy⟩) hS h

/-- Number i, which its guard shuts out, is passed over first. -/
theorem Turns.skip {n : Nat} {listed : Array Bool} {a : Act} {w : World} (hS : S w) (i : Nat) {oi : Oper} (hi : ops[i]? = some oi) (hs : Region.noSelect ops = true) (hf : Region.free md ops listed i = true)
    (hr : (Region.ready md ops listed).contains i = true) (hw : lateWaits md ops late i listed = true) (hQ : ∀ c a w, Q (.panic c) (a.put oi.dst undef) w → Q (.panic c) a w) (hwant : Region.wanted oi (yielded ops a.tmps) = false)
    (h : Turns P md ops Q S late n (listed.setIfInBounds i true) (a.put oi.dst undef) w) : Turns P md ops Q S late (n + 1) listed a w :=
  Turns.first hi hs hQ n listed a w (Region.free_spec hi hf) hw (by simpa using hr) (.inr ⟨hwant, rfl⟩) hS h

/-- Number i alone may come up: it is carried out, and S is shown behind it. -/
theorem Turns.next {n : Nat} {listed : Array Bool} {a : Act} {w : World} (i : Nat) {oi : Oper} (hi : ops[i]? = some oi) (hr : Region.ready md ops listed = [i]) (hwant : Region.wanted oi (yielded ops a.tmps) = true)
    (h : ∀ K : Act → World → Prop, Shut (∀ a' w', S w' → Turns P md ops Q S late n (listed.setIfInBounds i true) a' w' → K a' w') → oi.wp P a w K Q) : Turns P md ops Q S late (n + 1) listed a w :=
  ⟨fun h0 => (by rw [hr] at h0; cases h0), fun j hj => by
    rw [hr] at hj
    obtain rfl : j = i := by simpa using hj
    exact wpOp_step hi fun K hK => by
      rw [if_pos hwant]
      exact h K fun a' w' hS hT => hK _ _ ⟨fun _ => hS, hT⟩⟩

/-- Two may come up: either is carried out, and S is shown behind it. -/
theorem Turns.either {n : Nat} {listed : Array Bool} {a : Act} {w : World} (i j : Nat) {oi oj : Oper} (hi : ops[i]? = some oi) (hj : ops[j]? = some oj) (hr : Region.ready md ops listed = [i, j])
    (hwi : Region.wanted oi (yielded ops a.tmps) = true) (hwj : Region.wanted oj (yielded ops a.tmps) = true)
    (h1 : ∀ K : Act → World → Prop, Shut (∀ a' w', S w' → Turns P md ops Q S late n (listed.setIfInBounds i true) a' w' → K a' w') → oi.wp P a w K Q)
    (h2 : ∀ K : Act → World → Prop, Shut (∀ a' w', S w' → Turns P md ops Q S late n (listed.setIfInBounds j true) a' w' → K a' w') → oj.wp P a w K Q) : Turns P md ops Q S late (n + 1) listed a w :=
  ⟨fun h0 => (by rw [hr] at h0; cases h0), fun k hk => by
    rw [hr] at hk
    have hk' : k = i ∨ k = j := by simpa using hk
    rcases hk' with rfl | rfl
    · exact wpOp_step hi fun K hK => by
        rw [if_pos hwi]
        exact h1 K fun a' w' hS hT => hK _ _ ⟨fun _ => hS, hT⟩
    · exact wpOp_step hj fun K hK => by
        rw [if_pos hwj]
        exact h2 K fun a' w' hS hT => hK _ _ ⟨fun _ => hS, hT⟩⟩

/-- Number i alone may come up, where all that is left is late. -/
theorem any_next {n : Nat} {listed : Array Bool} {a : Act} {w : World} (i : Nat) {oi : Oper} (hi : ops[i]? = some oi) (hr : Region.ready md ops listed = [i]) (hwant : Region.wanted oi (yielded ops a.tmps) = true)
    (h : ∀ K : Act → World → Prop, Shut (∀ a' w', wpAny P md ops Q n (listed.setIfInBounds i true) a' w' → K a' w') → oi.wp P a w K Q) : wpAny P md ops Q (n + 1) listed a w :=
  ⟨fun h0 => (by rw [hr] at h0; cases h0), fun j hj => by
    rw [hr] at hj
    obtain rfl : j = i := by simpa using hj
    exact wpOp_step hi fun K hK => by
      rw [if_pos hwant]
      exact h K hK⟩
/-- An operation that no world turns is taken first, where all that is left is late. -/
theorem any_take {n : Nat} {listed : Array Bool} {a : Act} {w : World} (i : Nat) (v : Value) {oi : Oper} (hi : ops[i]? = some oi) (hs : Region.noSelect ops = true) (hf : Region.free md ops listed i = true)
    (hr : (Region.ready md ops listed).contains i = true) (hQ : ∀ c a w, Q (.panic c) (a.put oi.dst v) w → Q (.panic c) a w) (hwant : Region.wanted oi (yielded ops a.tmps) = true)
    (hy : ∀ w, (execOp a.eval oi).run P w = .ok (.value v) w) (h : wpAny P md ops Q n (listed.setIfInBounds i true) (a.put oi.dst v) w) : wpAny P md ops Q (n + 1) listed a w :=
  wpAny_take hi hs hf hr hQ (.inl ⟨hwant, hy⟩) h

/-- What is left comes up in the text's order. -/
theorem any_tail {n : Nat} {listed : Array Bool} {a : Act} {w : World} (k : Nat) (hn : n = ops.size - k) (hB : Region.seqB md ops (ops.size - k) k listed = true) (h : wpList P ops Q (ops.toList.drop k) a w) : wpAny P md ops Q n listed a w := by
  have hl : (ops.toList.drop k).length = ops.size - k := by simp
  rw [hn, ← hl]
  exact wpAny_of_seq _ k listed a w (fun j => by simp) (by rw [hl]; exact hB) h

/-- The beginning, at a region that draws its order. -/
theorem region_turns {id : Nat} {a : Act} {w : World} (S : World → Prop) (late : Nat → Bool) (hm : P.follows .mixedOrders = true) (hS : S w.drew)
    (h : S w.drew → Turns P .any ops Q S late ops.size (Array.replicate ops.size false) a w.drew) : (Code.region id ops true).wp P Q a w :=
  wp_region_any hm (h hS).any
end
end Go.Proofs.Ytgcmeoogmjganaa
