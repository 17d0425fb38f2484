/- What a frame's numbers are read as. -/
import Derived.Test.YtbdlpkkgfhknkaaFrmE
import Derived.Deep.RegionWith
namespace Go.Proofs.Ytbdlpkkgfhknkaa
open Go.RowKit
set_option linter.unusedSimpArgs false

theorem eye_plain : ¬ frameType 95 := by unfold frameType; decide
theorem ptr_plain : ¬ frameType 83 := by unfold frameType; decide
/-- While numbers are read: the eye at g, what holds it at b, and whether all was good at c. -/
structure Readings (w0 : World) (B g b c : Nat) (zs : List Int) (s : Bool) (w : World) : Prop where
  below : Below w0.heap.size w0 w
  eye : Eyes w B g zs
  box : Holds w b 83 #[.pointer (some ⟨g, 0, none⟩)]
  good : Holds w c 4 #[.bool s]
  newg : w0.heap.size ≤ g
  newc : w0.heap.size ≤ c
section
variable {w0 w w' : World} {B g b c : Nat} {zs : List Int} {s : Bool}
theorem Readings.drewN (h : Readings w0 B g b c zs s w) (m : Nat) : Readings w0 B g b c zs s (w.drewN m) := ⟨below_drewN h.below m, h.eye.drewN m, h.box, h.good, h.newg, h.newc⟩
theorem Readings.drew (h : Readings w0 B g b c zs s w) : Readings w0 B g b c zs s w.drew := h.drewN 1
theorem Readings.alloc (h : Readings w0 B g b c zs s w) (o : Obj) : Readings w0 B g b c zs s (w.alloc o) := ⟨h.below.alloc h.below.size o, h.eye.below (below_alloc w o), h.box.alloc o, h.good.alloc o, h.newg, h.newc⟩
theorem Eyes.holds (h : Eyes w B g zs) : ∃ A n, Holds w g 95 #[.slice A zs.length n] := by
  obtain ⟨_, A, n, hh, _⟩ := h
  exact ⟨A, n, hh⟩
theorem slice_no_int {A : Option Addr} {n m : Nat} {k : IntKind} : ∀ (i : Nat) z, (#[Value.slice A n m] : Array Value)[i]? ≠ some (Value.int k z) := one_slice
/-- A block that holds no byte was written. -/
theorem Eyes.far (h : Eyes w B g zs) {x i : Nat} {t : TypeId} {cs : Array Value} (hh' : Holds w x t cs) (ht : t ≠ 95) (hcs : ∀ (i : Nat) z, cs[i]? ≠ some (Value.int .u8 z)) (u : Value) : Eyes (w.setCell ⟨x, i, none⟩ u) B g zs := by
  obtain ⟨h1, A, n, hh, hr⟩ := h
  exact ⟨h1, A, n, hh.far (hh.apart hh' (Ne.symm ht)) u, hr.grown (grown_set w x i u) hh' hcs⟩
theorem Readings.put (h : Readings w0 B g b c zs s w) (s' : Bool) : Readings w0 B g b c zs s' (w.setCell ⟨c, 0, none⟩ (.bool s')) :=
  ⟨h.below.setCell (p := ⟨c, 0, none⟩) h.newc _, h.eye.far h.good (by decide) (fun i z => by rcases i with _ | i <;> simp) _, h.box.far (h.box.apart h.good (by decide)) _, by simpa using h.good.put 0 (.bool s'), h.newg, h.newc⟩
theorem Readings.read (h : Readings w0 B g b c zs s w) {zs' : List Int} (he : Eyes w' B g zs') (hg : w.grownBy w' (some g)) : Readings w0 B g b c zs' s w' := by
  obtain ⟨A, n, hh⟩ := h.eye.holds
  have hb := hh.apart h.box (by decide)
  have hc := hh.apart h.good (by decide)
  exact ⟨h.below.grown hg h.below.size (fun k hk => by simp at hk; have := h.newg; omega), he, h.box.grown hg (by simp; omega), h.good.grown hg (by simp; omega), h.newg, h.newc⟩
theorem keeps_read (h : Eyes w B g zs) (hg : w.grownBy w' (some g)) : KeepsFrames w w' := by
  obtain ⟨A, n, hh⟩ := h.holds
  exact ⟨hg.size, fun x t cs ht hx => hx.grown hg (by
    have := hh.apart hx (ne_frame eye_plain ht)
    simp
    omega)⟩
end
/-- A number was read. -/
def PickedOne (w0 : World) (B g b c : Nat) (rest : List Int) (N : Int) (s : Bool) (w : World) (e : Ending) (w' : World) : Prop :=
  e = .returned (.int .i64 (wrap64 N)) ∧ Readings w0 B g b c rest s w' ∧ KeepsFrames w w'
set_option maxHeartbeats 1000000 in
theorem read_pick_any (w0 : World) (B g b c : Nat) (k n : Int) (zs : List Int) (s : Bool) (w : World) (hk : Kinds k) (h : Readings w0 B g b c zs s w) (hl : sizeF k ≤ zs.length) :
    Calls Try.prog 40 #[.int .i64 k, .int .i64 n, .pointer (some ⟨b, 0, none⟩), .pointer (some ⟨c, 0, none⟩)] w (PickedOne w0 B g b c (zs.drop (sizeF k)) (getB (zs.take (sizeF k))) (s && decide (getB (zs.take (sizeF k)) ≤ mostF k)) w) := by
  have hz := size_le k
  have hs := fun W => size_any k W hk
  have hm := fun W => most_any k W hk
  have hM : 0 ≤ mostF k ∧ mostF k ≤ 1125899906842624 := by rcases hk.cases with rfl | rfl | rfl | rfl | rfl <;> simp [mostF]
  have hN := get_lt (zs.take (sizeF k)) (fun z hz => f8s h.eye.wf z (List.mem_of_mem_take hz)) (by rw [List.length_take]; omega)
  have hn := num_yes B g (sizeF k) zs
  obtain ⟨Z, hZ⟩ : ∃ Z, sizeF k = Z := ⟨_, rfl⟩
  obtain ⟨M, hMM⟩ : ∃ M, mostF k = M := ⟨_, rfl⟩
  rw [hZ] at hN hz hn hl ⊢
  simp only [hZ] at hs
  rw [hMM] at hM ⊢
  simp only [hMM] at hm
  obtain ⟨N, hNN⟩ : ∃ N, getB (zs.take Z) = N := ⟨_, rfl⟩
  rw [hNN] at hN ⊢
  obtain ⟨n1, n2⟩ := hN
  obtain ⟨m1, m2⟩ := hM
  obtain ⟨k1, k2⟩ := hk
  have hnum : ∀ W : World, Readings w0 B g b c zs s W → KeepsFrames w W → Calls Try.prog 41 #[.pointer (some ⟨g, 0, none⟩), .int .i64 (Z : Int)] W fun e w' => e = .returned (.tuple #[.int .u64 N, .bool true]) ∧ Readings w0 B g b c (zs.drop Z) s w' ∧ KeepsFrames w w' := fun W hW hkW =>
    (hn W hW.eye hz.2 hl).mono fun e w' ⟨he, hy, hg⟩ => ⟨by rw [he, hNN], hW.read hy hg, hkW.trans (keeps_read hW.eye hg)⟩
  have c0 := h.box.cell 0
  have H := Lib.hid h
  clear hn hZ hMM hNN h hl hz
  have hcase : (s = false) ∨ (s = true ∧ N ≤ M) ∨ (s = true ∧ M < N) := by cases s <;> simp; omega
  rcases hcase with rfl | ⟨rfl, hle⟩ | ⟨rfl, hgt⟩
  · have e0 : (false && decide (N ≤ M)) = false := rfl
    rw [e0]
    have HE := Lib.hid e0
    clear e0
    go_enter Try.func40, Try.ntmps40
    go_wp2
    go_region_held3 (fun w' => w'.cell? ⟨b, 0, none⟩ = some (.pointer (some ⟨g, 0, none⟩))) (first | exact hr1.box.cell 0 | go_keep) (first
      | (go_at_call 23; refine (hs _).mono ?_; rintro e w' ⟨rfl, rfl⟩)
      | (go_at_call 41; refine (hnum _ H.out.drew ⟨Nat.le_refl _, fun _ _ _ _ h => h⟩).mono ?_; rintro e w1 ⟨rfl, hr1, hk1⟩; have c1 := hr1.good.cell 0; have f1 := hr1.good.soft 0))
    have c1 := hr1.good.cell 0
    have f1 := hr1.good.soft 0
    go_wp2_with (go_at_call 27; refine (hm _).mono ?_; rintro e w' ⟨rfl, rfl⟩)
    go_ret
    exact ⟨rfl, hr1.put _, hk1.trans (keeps_put hr1.good bool_plain _)⟩
  · have e0 : (true && decide (N ≤ M)) = true := by simpa using hle
    rw [e0]
    have e1 : decide (N ≤ M) = true := by simpa using hle
    go_enter Try.func40, Try.ntmps40
    go_wp2
    go_region_held3 (fun w' => w'.cell? ⟨b, 0, none⟩ = some (.pointer (some ⟨g, 0, none⟩))) (first | exact hr1.box.cell 0 | go_keep) (first
      | (go_at_call 23; refine (hs _).mono ?_; rintro e w' ⟨rfl, rfl⟩)
      | (go_at_call 41; refine (hnum _ H.out.drew ⟨Nat.le_refl _, fun _ _ _ _ h => h⟩).mono ?_; rintro e w1 ⟨rfl, hr1, hk1⟩; have c1 := hr1.good.cell 0; have f1 := hr1.good.soft 0))
    have c1 := hr1.good.cell 0
    have f1 := hr1.good.soft 0
    go_wp2_with (go_at_call 27; refine (hm _).mono ?_; rintro e w' ⟨rfl, rfl⟩)
    go_ret
    exact ⟨ret_int (by rw [IntWalk.wrap64_in _ ⟨by omega, by omega⟩]), hr1.put _, hk1.trans (keeps_put hr1.good bool_plain _)⟩
  · have e1 : decide (N ≤ M) = false := by simp; omega
    have e0 : (true && decide (N ≤ M)) = false := by rw [e1]; rfl
    rw [e0]
    clear e0
    go_enter Try.func40, Try.ntmps40
    go_wp2
    go_region_held3 (fun w' => w'.cell? ⟨b, 0, none⟩ = some (.pointer (some ⟨g, 0, none⟩))) (first | exact hr1.box.cell 0 | go_keep) (first
      | (go_at_call 23; refine (hs _).mono ?_; rintro e w' ⟨rfl, rfl⟩)
      | (go_at_call 41; refine (hnum _ H.out.drew ⟨Nat.le_refl _, fun _ _ _ _ h => h⟩).mono ?_; rintro e w1 ⟨rfl, hr1, hk1⟩; have c1 := hr1.good.cell 0; have f1 := hr1.good.soft 0))
    have c1 := hr1.good.cell 0
    have f1 := hr1.good.soft 0
    go_wp2_with (go_at_call 27; refine (hm _).mono ?_; rintro e w' ⟨rfl, rfl⟩)
    go_ret
    exact ⟨rfl, hr1.put _, hk1.trans (keeps_put hr1.good bool_plain _)⟩

/-- read's function value. -/
def readP (w0 : World) (B g b c : Nat) : Picks (List Int × Bool) where
  fn := 40
  caps := #[.pointer (some ⟨b, 0, none⟩), .pointer (some ⟨c, 0, none⟩)]
  base := w0.heap.size
  inv s w := Readings w0 B g b c s.1 s.2 w
  next s k _ := (s.1.drop (sizeF k), s.2 && decide (getB (s.1.take (sizeF k)) ≤ mostF k))
  tells s k _ := wrap64 (getB (s.1.take (sizeF k)))
  good s k _ := Kinds k ∧ sizeF k ≤ s.1.length
theorem Readings.far {w0 w : World} {B g b c : Nat} {zs : List Int} {s : Bool} (h : Readings w0 B g b c zs s w) {x i : Nat} {t : TypeId} {cs : Array Value} (hx : w0.heap.size ≤ x) (ht : frameType t) (hn : noByte cs) (hh : Holds w x t cs) (u : Value) :
    Readings w0 B g b c zs s (w.setCell ⟨x, i, none⟩ u) :=
  ⟨h.below.setCell (p := ⟨x, i, none⟩) hx u, h.eye.far hh (Ne.symm (ne_frame eye_plain ht)) hn.int u, h.box.far (h.box.apart hh (ne_frame ptr_plain ht)) u, h.good.far (h.good.apart hh (ne_frame bool_plain ht)) u, h.newg, h.newc⟩
theorem readP_right (w0 : World) (B g b c : Nat) : (readP w0 B g b c).Right where
  enters := enters_of Try.func40 (by kernel_rfl) rfl
  call s k n w h hg := (read_pick_any w0 B g b c k n s.1 s.2 w hg.1 h hg.2).mono fun e w' ⟨he, hr, hk⟩ => ⟨he, hr, hk⟩
  drew s w h := h.drew
  alloc s w o h := h.alloc o
  size s w h := h.below.size
  store s w x i u t cs h hx ht hn hh := h.far hx ht hn hh u
/-- Is each of these numbers no greater than it may be? -/
def okN : List Int → List Int → Bool
  | [], _ => true
  | k :: ks, ns => decide (ns.headD 0 ≤ mostF k) && okN ks ns.tail
theorem chain_read (w0 : World) (B g b c : Nat) : ∀ (qs : List (Int × Int)) (zs : List Int) (s : Bool), (∀ q ∈ qs, Kinds q.1) → zs.length = lenF (qs.map (·.1)) →
    Chain (readP w0 B g b c) (zs, s) qs ((numsF (qs.map (·.1)) zs).map wrap64) ([], s && okN (qs.map (·.1)) (numsF (qs.map (·.1)) zs))
  | [], zs, s, _, hl => by
    obtain rfl : zs = [] := List.eq_nil_of_length_eq_zero (by simpa [lenF] using hl)
    exact ⟨rfl, by simp [okN]⟩
  | q :: qs, zs, s, hk, hl => by
    have hl' : zs.length = sizeF q.1 + lenF (qs.map (·.1)) := by simpa [lenF] using hl
    refine ⟨_, _, _, rfl, ⟨⟨hk q (List.mem_cons_self ..), by show sizeF q.1 ≤ zs.length; omega⟩, rfl, rfl⟩, ?_⟩
    have := chain_read w0 B g b c qs (zs.drop (sizeF q.1)) (s && decide (getB (zs.take (sizeF q.1)) ≤ mostF q.1)) (fun x hx => hk x (List.mem_cons_of_mem _ hx)) (by rw [List.length_drop]; omega)
    simp only [List.map_cons, numsF, okN, List.headD_cons, List.tail_cons, ← Bool.and_assoc]
    exact this

theorem empty_any (k : Int) (w : World) (h1 : 0 ≤ k) (h2 : k ≤ 255) : Calls Try.prog 30 #[.int .u8 k] w fun e w' => e = .returned (if 1 ≤ k ∧ k ≤ 6 then (Fr.of k []).val else .nilIface) ∧ w = w' := by
  by_cases h : 1 ≤ k ∧ k ≤ 6
  · rw [if_pos h]
    rcases kind_cases h.1 h.2 with rfl | rfl | rfl | rfl | rfl | rfl
    all_goals
      clear h h1 h2
      go_enter Try.func30, Try.ntmps30
      go_wp2
      go_ret
      exact ⟨rfl, rfl⟩
  · rw [if_neg h]
    have e1 : (k == 1) = false := by simp; omega
    have e2 : (k == 2) = false := by simp; omega
    have e3 : (k == 3) = false := by simp; omega
    have e4 : (k == 4) = false := by simp; omega
    have e5 : (k == 5) = false := by simp; omega
    have e6 : (k == 6) = false := by simp; omega
    clear h
    go_enter Try.func30, Try.ntmps30
    go_wp2
    go_ret
    exact ⟨rfl, rfl⟩
end Go.Proofs.Ytbdlpkkgfhknkaa
