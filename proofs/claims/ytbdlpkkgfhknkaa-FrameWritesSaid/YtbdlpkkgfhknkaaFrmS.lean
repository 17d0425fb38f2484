/- What the function values of package frame pick: Good's and length's. -/
import Derived.Test.YtbdlpkkgfhknkaaFrmQ
import Derived.Deep.RegionLaw
import Derived.Deep.QuietTactic
import Derived.BigQuiet
import Derived.Deep.RegionWith
namespace Go.Proofs.Ytbdlpkkgfhknkaa
open Go.RowKit
set_option linter.unusedSimpArgs false

def Kinds (k : Int) : Prop := 0 ≤ k ∧ k ≤ 4
theorem Kinds.cases {k : Int} (h : Kinds k) : k = 0 ∨ k = 1 ∨ k = 2 ∨ k = 3 ∨ k = 4 := by
  obtain ⟨h1, h2⟩ := h
  omega
theorem size_any (k : Int) (w : World) (hk : Kinds k) : Calls Try.prog 23 #[.int .i64 k] w fun e w' => e = .returned (.int .i64 (sizeF k : Int)) ∧ w = w' := by
  rcases hk.cases with rfl | rfl | rfl | rfl | rfl
  all_goals
    go_enter Try.func23, Try.ntmps23
    go_wp2
    go_ret
    exact ⟨rfl, rfl⟩
theorem most_any (k : Int) (w : World) (hk : Kinds k) : Calls Try.prog 27 #[.int .i64 k] w fun e w' => e = .returned (.int .i64 (mostF k)) ∧ w = w' := by
  rcases hk.cases with rfl | rfl | rfl | rfl | rfl
  all_goals
    go_enter Try.func27, Try.ntmps27
    go_wp2
    go_ret
    exact ⟨rfl, rfl⟩

/-- What Good's function value leaves of its variable. -/
theorem good_pick_any (g : Nat) (k n : Int) (s : Bool) (w : World) (hk : Kinds k) (hn : Fits n) (h : Holds w g 4 #[.bool s]) :
    Calls Try.prog 26 #[.int .i64 k, .int .i64 n, .pointer (some ⟨g, 0, none⟩)] w fun e w' => e = .returned (.int .i64 n) ∧ w' = w.setCell ⟨g, 0, none⟩ (.bool (s && okF (k, n))) := by
  have c0 := h.cell 0
  have f0 := h.soft 0
  obtain ⟨n1, n2⟩ := hn
  have hm := most_any k w hk
  obtain ⟨M, hM⟩ : ∃ M, mostF k = M := ⟨_, rfl⟩
  rw [hM] at hm
  have hK := hk
  obtain ⟨k1, k2⟩ := hK
  unfold okF
  simp only [hM]
  clear h hM hk
  cases s
  · go_enter Try.func26, Try.ntmps26
    go_wp2
    go_ret
    exact ⟨rfl, rfl⟩
  by_cases h0 : 0 ≤ n
  · by_cases h1 : n ≤ M
    · have e0 : decide (0 ≤ n) = true := by simpa using h0
      have e1 : decide (n ≤ M) = true := by simpa using h1
      go_enter Try.func26, Try.ntmps26
      go_wp2_with (go_at_call 27; refine hm.mono ?_; rintro e w' ⟨rfl, rfl⟩)
      go_ret
      simp [h0, h1]
    · have e0 : decide (0 ≤ n) = true := by simpa using h0
      have e1 : decide (n ≤ M) = false := by simpa using h1
      go_enter Try.func26, Try.ntmps26
      go_wp2_with (go_at_call 27; refine hm.mono ?_; rintro e w' ⟨rfl, rfl⟩)
      go_ret
      simp [h0, e1]
  · have e0 : decide (0 ≤ n) = false := by simpa using h0
    go_enter Try.func26, Try.ntmps26
    go_wp2
    go_ret
    simp [h0]
/-- What length's function value leaves of its variable. -/
theorem length_pick_any (g : Nat) (k n : Int) (s : Nat) (w : World) (hk : Kinds k) (hs : s ≤ 100000) (h : Holds w g 3 #[.int .i64 (s : Int)]) :
    Calls Try.prog 39 #[.int .i64 k, .int .i64 n, .pointer (some ⟨g, 0, none⟩)] w fun e w' => e = .returned (.int .i64 n) ∧ w' = (w.setCell ⟨g, 0, none⟩ (.int .i64 ((s + sizeF k : Nat) : Int))).drew := by
  have c0 := h.cell 0
  have f0 := h.soft 0
  have hm := fun W => size_any k W hk
  have hz := size_le k
  obtain ⟨M, hM⟩ : ∃ M, sizeF k = M := ⟨_, rfl⟩
  rw [hM] at hz ⊢
  simp only [hM] at hm
  obtain ⟨z1, z2⟩ := hz
  obtain ⟨k1, k2⟩ := hk
  have hw : IntKind.i64.wrap ((s : Int) + (M : Int)) = (s : Int) + (M : Int) := IntWalk.i64_in _ (by omega)
  clear h hM
  go_enter Try.func39, Try.ntmps39
  go_wp2
  go_region_with ((go_at_call 23; refine (hm _).mono ?_; rintro e w' ⟨rfl, rfl⟩))
  all_goals
    go_wp2
    go_ret
    exact ⟨rfl, by simp⟩

/-- A variable of the call's own that holds one value. -/
structure One (w0 : World) (g : Nat) (t : TypeId) (v : Value) (w : World) : Prop where
  below : Below w0.heap.size w0 w
  new : w0.heap.size ≤ g
  holds : Holds w g t #[v]
section
variable {w0 w : World} {g : Nat} {t : TypeId} {v : Value}
theorem One.drew (h : One w0 g t v w) : One w0 g t v w.drew := ⟨h.below.drew, h.new, h.holds⟩
theorem One.alloc (h : One w0 g t v w) (o : Obj) : One w0 g t v (w.alloc o) := ⟨h.below.alloc h.below.size o, h.new, h.holds.alloc o⟩
theorem One.put (h : One w0 g t v w) (u : Value) : One w0 g t u (w.setCell ⟨g, 0, none⟩ u) := ⟨h.below.setCell (p := ⟨g, 0, none⟩) h.new u, h.new, by simpa using h.holds.put 0 u⟩
theorem One.far (h : One w0 g t v w) {b i : Nat} {t' : TypeId} {cs : Array Value} (hb : w0.heap.size ≤ b) (ho : Holds w b t' cs) (hne : t ≠ t') (u : Value) : One w0 g t v (w.setCell ⟨b, i, none⟩ u) :=
  ⟨h.below.setCell (p := ⟨b, i, none⟩) hb u, h.new, h.holds.far (h.holds.apart ho hne) u⟩
theorem One.start (w0 : World) (t : TypeId) (v : Value) : One w0 w0.heap.size t v (w0.alloc (.cells #[v] t)) := ⟨(Below.refl _ _).alloc (Nat.le_refl _) _, Nat.le_refl _, Holds.new _ _ _⟩
/-- A store into another variable keeps frames' own. -/
theorem keeps_put (h : Holds w g t #[v]) (ht : ¬ frameType t) (u : Value) : KeepsFrames w (w.setCell ⟨g, 0, none⟩ u) :=
  ⟨by simp [World.setCell], fun g' t' cs hf hh => hh.far (hh.apart h (fun e => ht (by rw [← e]; exact hf))) u⟩
theorem keeps_drew {w w' : World} (h : KeepsFrames w w') : KeepsFrames w w'.drew := ⟨h.1, fun g t cs ht hh => h.2 g t cs ht hh⟩
end
theorem bool_plain : ¬ frameType 4 := by unfold frameType; decide
theorem int_plain : ¬ frameType 3 := by unfold frameType; decide
theorem ne_frame {t t' : TypeId} (h : ¬ frameType t) (h' : frameType t') : t ≠ t' := fun e => h (by rw [e]; exact h')

/-- Good's function value. -/
def goodP (w0 : World) (g : Nat) : Picks Bool where
  fn := 26
  caps := #[.pointer (some ⟨g, 0, none⟩)]
  base := w0.heap.size
  inv s w := One w0 g 4 (.bool s) w
  next s k n := s && okF (k, n)
  tells _ _ n := n
  good _ k n := Kinds k ∧ Fits n
theorem goodP_right (w0 : World) (g : Nat) : (goodP w0 g).Right where
  enters := enters_of Try.func26 (by kernel_rfl) rfl
  call s k n w h hg := (good_pick_any g k n s w hg.1 hg.2 h.holds).mono fun e w' ⟨he, hw⟩ => ⟨he, by rw [hw]; exact h.put _, by rw [hw]; exact keeps_put h.holds bool_plain _⟩
  drew s w h := h.drew
  alloc s w o h := h.alloc o
  size s w h := h.below.size
  store s w b i u t cs h hb ht _ hh := h.far hb hh (ne_frame bool_plain ht) u
/-- length's function value. -/
def lengthP (w0 : World) (g : Nat) : Picks Nat where
  fn := 39
  caps := #[.pointer (some ⟨g, 0, none⟩)]
  base := w0.heap.size
  inv s w := One w0 g 3 (.int .i64 (s : Int)) w
  next s k _ := s + sizeF k
  tells _ _ n := n
  good s k _ := Kinds k ∧ s ≤ 100000
theorem lengthP_right (w0 : World) (g : Nat) : (lengthP w0 g).Right where
  enters := enters_of Try.func39 (by kernel_rfl) rfl
  call s k n w h hg := (length_pick_any g k n s w hg.1 hg.2 h.holds).mono fun e w' ⟨he, hw⟩ => ⟨he, by rw [hw]; exact (h.put _).drew, by rw [hw]; exact keeps_drew (keeps_put h.holds int_plain _)⟩
  drew s w h := h.drew
  alloc s w o h := h.alloc o
  size s w h := h.below.size
  store s w b i u t cs h hb ht _ hh := h.far hb hh (ne_frame int_plain ht) u
/-- Where a number is told as it stands. -/
theorem chain_same {S : Type} (p : Picks S) (ht : ∀ s k n, p.tells s k n = n) : ∀ (qs : List (Int × Int)) (s : S), (∀ (pre : List (Int × Int)) q post, qs = pre ++ q :: post → p.good (pre.foldl (fun s q => p.next s q.1 q.2) s) q.1 q.2) →
    Chain p s qs (qs.map (·.2)) (qs.foldl (fun s q => p.next s q.1 q.2) s)
  | [], s, _ => ⟨rfl, rfl⟩
  | q :: qs, s, h => ⟨q.2, _, _, rfl, ⟨h [] q qs rfl, ht _ _ _, rfl⟩, chain_same p ht qs _ fun pre q' post e => h (q :: pre) q' post (by rw [e]; rfl)⟩
theorem asks_kinds (f : Fr) : ∀ q ∈ f.asks, Kinds q.1 := by
  intro q hq
  rcases List.mem_cons.1 hq with rfl | hq
  · exact ⟨by show (0 : Int) ≤ 0; omega, by show (0 : Int) ≤ 4; omega⟩
  · have := f.fields_range q hq
    exact ⟨by omega, by omega⟩
theorem asks_fits {f : Fr} (h : f.wf) : ∀ q ∈ f.asks, Fits q.2 := by
  intro q hq
  rcases List.mem_cons.1 hq with rfl | hq
  · have := f.kind_range
    exact ⟨by show _ ≤ f.kind; omega, by show f.kind ≤ _; omega⟩
  · have := h q hq
    split at this
    · obtain ⟨h1, h2⟩ := this
      exact ⟨by omega, by omega⟩
    · exact this
theorem fold_and (qs : List (Int × Int)) (s : Bool) : qs.foldl (fun s q => s && okF (q.1, q.2)) s = (s && qs.all okF) := by
  induction qs generalizing s with
  | nil => simp
  | cons q qs ih => rw [List.foldl_cons, ih, List.all_cons, Bool.and_assoc]
theorem fold_add (qs : List (Int × Int)) (s : Nat) : qs.foldl (fun s q => s + sizeF q.1) s = s + lenF (qs.map (·.1)) := by
  induction qs generalizing s with
  | nil => simp [lenF]
  | cons q qs ih => rw [List.foldl_cons, ih]; simp [lenF]; omega
theorem kind_ok (f : Fr) : okF (0, f.kind) = true := by cases f <;> rfl
theorem chain_good (w0 : World) (g : Nat) (f : Fr) (h : f.wf) : Chain (goodP w0 g) true f.asks (f.kind :: f.nums) f.good := by
  have := chain_same (goodP w0 g) (fun _ _ _ => rfl) f.asks true fun pre q post e => ⟨asks_kinds f q (by rw [e]; simp), asks_fits h q (by rw [e]; simp)⟩
  have e : f.asks.foldl (fun s q => (goodP w0 g).next s q.1 q.2) true = f.good := by
    show f.asks.foldl (fun s q => s && okF (q.1, q.2)) true = _
    rw [fold_and, Fr.asks, List.all_cons, kind_ok]
    rfl
  rw [e] at this
  exact this
theorem chain_length (w0 : World) (g : Nat) (f : Fr) : Chain (lengthP w0 g) 2 f.asks (f.kind :: f.nums) (f.bytes.length + 2) := by
  have hb : ∀ pre q post, f.asks = pre ++ q :: post → pre.length ≤ 8 := fun pre q post e => by
    have h := congrArg List.length e
    have : f.asks.length ≤ 9 := by cases f <;> simp [Fr.asks, Fr.fields]
    simp at h
    omega
  have hl : ∀ l : List (Int × Int), lenF (l.map (·.1)) ≤ 8 * l.length := fun l => by
    induction l with
    | nil => simp [lenF]
    | cons x l ih => have := size_le x.1; simp [lenF] at ih ⊢; omega
  have := chain_same (lengthP w0 g) (fun _ _ _ => rfl) f.asks 2 fun pre q post e => ⟨asks_kinds f q (by rw [e]; simp), by
    show pre.foldl (fun s q => s + sizeF q.1) 2 ≤ _
    rw [fold_add]
    have := hl pre
    have := hb pre q post e
    omega⟩
  have e : f.asks.foldl (fun s q => (lengthP w0 g).next s q.1 q.2) 2 = f.bytes.length + 2 := by
    show f.asks.foldl (fun s q => s + sizeF q.1) 2 = _
    rw [fold_add, f.bytes_length, Fr.asks, List.map_cons, f.fields_whats, lenF, List.map_cons, List.sum_cons]
    show 2 + (1 + lenF _) = _
    omega
  rw [e] at this
  exact this
/-- A bool was answered, and nothing that was has changed. -/
def Told (v : Value) (w : World) (e : Ending) (w' : World) : Prop := e = .returned v ∧ Below w.heap.size w w'
theorem good_any (f : Fr) (w : World) (h : f.wf) : Calls Try.prog 12 #[f.val] w (Told (.bool f.good) w) := by
  have hp := picked_any (goodP w w.heap.size) (goodP_right w w.heap.size) true f.good f.kind (w.alloc (.cells #[.bool true] 4)) (One.start w _ _) f f rfl (chain_good w w.heap.size f h) h.marks h.marks
  obtain ⟨u, v, hv⟩ : ∃ u v, f.val = .iface u v := by cases f <;> exact ⟨_, _, rfl⟩
  have hne : ∀ (u : TypeId) (v : Value) (W : World), (binOp .neq 27 (.iface u v) .nilIface).run Try.prog W = .ok (.bool true) W := fun u v W => by kernel_rfl
  rw [hv] at hp ⊢
  obtain ⟨G, hG⟩ : ∃ G, f.good = G := ⟨_, rfl⟩
  rw [hG] at hp ⊢
  clear hv hG h
  cases G
  all_goals
    go_enter Try.func12, Try.ntmps12
    go_wp2_with (go_at_call 20; refine hp.mono ?_; rintro e w1 ⟨rfl, hi, hk⟩; have c0 := hi.holds.cell 0)
    go_ret
    exact ⟨rfl, hi.below⟩
theorem good_nil (w : World) : Calls Try.prog 12 #[.nilIface] w (Told (.bool false) w) := by
  have hne : ∀ (W : World), (binOp .neq 27 .nilIface .nilIface).run Try.prog W = .ok (.bool false) W := fun W => by kernel_rfl
  go_enter Try.func12, Try.ntmps12
  go_wp2_with (go_at_call 20; refine (picked_nil _ _).mono ?_; rintro e w1 ⟨rfl, rfl⟩)
  go_ret
  exact ⟨rfl, (Below.refl _ _).alloc (Nat.le_refl _) _⟩
theorem length_any (f : Fr) (w : World) (h : f.marks) : Calls Try.prog 31 #[f.val] w (Told (.int .i64 ((f.bytes.length + 2 : Nat) : Int)) w) := by
  have hp := picked_any (lengthP w w.heap.size) (lengthP_right w w.heap.size) 2 (f.bytes.length + 2) f.kind (w.alloc (.cells #[.int .i64 2] 3)) (One.start w _ _) f f rfl (chain_length w w.heap.size f) h h
  obtain ⟨G, hG⟩ : ∃ G, f.bytes.length + 2 = G := ⟨_, rfl⟩
  obtain ⟨v, hv⟩ : ∃ v, f.val = v := ⟨_, rfl⟩
  rw [hG, hv] at hp
  rw [hG, hv]
  clear hv hG h
  go_enter Try.func31, Try.ntmps31
  go_wp2_with (go_at_call 20; refine hp.mono ?_; rintro e w1 ⟨rfl, hi, hk⟩; have c0 := hi.holds.cell 0)
  go_ret
  exact ⟨rfl, hi.below⟩
end Go.Proofs.Ytbdlpkkgfhknkaa
