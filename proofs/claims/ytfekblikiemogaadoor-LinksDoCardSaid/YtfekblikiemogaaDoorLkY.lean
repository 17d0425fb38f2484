/- The law's numbers: what Each goes over, up to so many. -/
import Derived.Test.YtfekblikiemogaaDoorLkX
import Derived.Test.YtfekblikiemogaaDoorRowN
import Derived.RangeFuncBox
namespace Go.Proofs.YtfekblikiemogaaDoor
open Go.RowKit Go.Shelf
set_option linter.unusedVariables false
set_option linter.unusedSimpArgs false
attribute [local go_sem] Oper.semAt_some

theorem Row.own {w : World} {B n c : Nat} {A : Option Addr} {zs : List Int} (h : w.ownsRow B 3 1 (.slice A n c) n (zs.map (.int .i64))) (hn : n ≤ 64) : Row w A n zs ∧ n ≤ c ∧ c ≤ 9223372036854775807 := by
  have hl : zs.length = n := by simpa using h.1
  rcases own_open h with ⟨e, rfl, hz⟩ | ⟨g, cap, cur, e, _, hH, hc, hm, hlen, hx⟩
  · cases e
    exact ⟨⟨hl, by omega, fun h0 => absurd h0 (Nat.lt_irrefl _)⟩, by omega, by omega⟩
  · cases e
    unfold maxLen at hm
    refine ⟨⟨hl, by omega, fun h0 => ⟨g, 0, rfl, hH.lt, fun j hj => ?_⟩⟩, hc, by omega⟩
    rw [Nat.zero_add, hH.cell j]
    have h1 : cur.toArray[j]? = (cur.take (n * 1))[j]? := by simp [List.getElem?_take, show j < n by omega]
    rw [h1, hx]
    simp [show j < zs.length by omega]
theorem Row.turned {w w' : World} {A : Option Addr} {n : Nat} {zs : List Int} {row : Option Nat} (h : Row w A n zs) (hg : w.grownBy w' row) (hr : NoCells w row) : Row w' A n zs :=
  ⟨h.1, h.2.1, fun hn => by
    obtain ⟨b, off, e, hlt, hc⟩ := h.2.2 hn
    refine ⟨b, off, e, Nat.lt_of_lt_of_le hlt hg.size, fun j hj => (World.cell?_of_block (hg.block b hlt (fun e' => ?_))).trans (hc j hj)⟩
    obtain ⟨o, ho, hcc⟩ := hr _ e'.symm
    have := hc j hj
    unfold World.cell? at this
    rw [ho] at this
    cases o <;> simp [Obj.isCells] at hcc this⟩
/-- What numbers gave. -/
def GaveNums (zs : List Int) (w : World) (e : Ending) (w' : World) : Prop := ∃ A n c, e = .returned (.slice A n c) ∧ Row w' A n zs ∧ n ≤ c ∧ c ≤ 9223372036854775807 ∧ n ≤ 64 ∧ Below w.heap.size w w'
def asInts (l : List Nat) : List Int := l.map fun (i : Nat) => (i : Int)
/-- Between two rounds of numbers. -/
def NRun (w : World) (most : Int) (pre : List Nat) (W : World) : Prop :=
  (∃ v, Boxed W (w.heap.size + 1) 35 v ∧ W.ownsRow (w.heap.size + 1) 3 1 v pre.length ((asInts pre).map (Value.int .i64))) ∧ Holds W w.heap.size 3 #[.int .i64 most] ∧ Tab W ∧ Below w.heap.size w W ∧ (pre.length : Int) ≤ max most 0 ∧ pre.length ≤ 64
theorem NRun.turned {w : World} {most : Int} {pre : List Nat} {W W' : World} {row : Option Nat} (h : NRun w most pre W) (hg : W.grownBy W' row) (hr : NoCells W row) (hb : ∀ k, row = some k → w.heap.size ≤ k) : NRun w most pre W' := by
  obtain ⟨⟨v, h1, h2⟩, h3, h4, h5, h6⟩ := h
  refine ⟨⟨v, h1.kept hg (fun e => ?_), h2.kept hg ?_⟩, h3.turned hg hr, h4.turned hg hr, h5.grown hg h5.size hb, h6⟩
  · obtain ⟨o, ho, hc⟩ := hr _ e.symm
    rw [show W.heap[w.heap.size + 1]? = _ from h1] at ho
    cases ho
    cases hc
  · rcases own_open h2 with ⟨rfl, _⟩ | ⟨g, cap, cur, rfl, _, hH, _⟩
    · exact .inl rfl
    · refine .inr (fun e => ?_)
      simp [Value.ownBlock] at e
      obtain ⟨o, ho, hc⟩ := hr _ e.symm
      rw [show W.heap[g]? = _ from hH] at ho
      cases ho
      cases hc
theorem asInts_snoc (l : List Nat) (i : Nat) : asInts (l ++ [i]) = asInts l ++ [(i : Int)] := by simp [asInts]
theorem nums_len {x : Nat} (pre : List (Bit x)) : (nums pre).length = pre.length := by simp [nums]
theorem NRun.gave {w : World} {most : Int} {pre : List Nat} {W : World} (h : NRun w most pre W) {v : Value} (hv : W.cell? ⟨w.heap.size + 1, 0, none⟩ = some v) : ∃ A c, v = .slice A pre.length c ∧ Row W A pre.length (asInts pre) ∧ pre.length ≤ c ∧ c ≤ 9223372036854775807 := by
  obtain ⟨⟨v', h1, h2⟩, _, _, _, _, h6⟩ := h
  have e : v = v' := by
    have := hv.symm.trans h1.cell
    cases this
    rfl
  subst e
  obtain ⟨A, c, rfl⟩ := own_shape h2
  obtain ⟨r1, r2, r3⟩ := Row.own h2 h6
  exact ⟨A, c, rfl, r1, r2, r3⟩
set_option maxRecDepth 100000 in
set_option maxHeartbeats 4000000 in
theorem numbers_any (w : World) (x : Nat) (hx : x < 18446744073709551616) (hT : Tab w) (most : Int) : Calls Tryd.prog 23 #[.int .u64 x, .int .i64 most] w (GaveNums (asInts ((bitsOf x).take (max most 0).toNat)) w) := by
  obtain ⟨i0, hi, hz0, hz1, hz2⟩ := info_parts int_info
  refine (callsIn_wide (n := 4)).1 ?_
  refine callsIn_of_wp_marks Tryd.func23 rfl trivial ?_ rfl
  simp only [Tryd.ntmps23, List.size_toArray, List.length_cons, List.length_nil, Nat.reduceAdd, Nat.reduceSub, Array.replicate_succ, Array.replicate_zero, List.push_toArray, List.append_toArray, List.nil_append, List.cons_append]
  gi_wp2_with (refine ⟨trivial, ?_⟩; gi_at_call 25; refine (callsIn_wide.2 (each_any _ _)).mono ?_; rintro e w' ⟨rfl, rfl⟩)
  have hb1 : Below w.heap.size w (((w.alloc (.cells #[.int .i64 most] 3)).alloc (.cells #[.slice none 0 0] 35)).alloc (.cells #[.int .u64 x] 30)) := ((below_alloc w _).alloc (by simp) _).alloc (by simp; omega) _
  have k3 := (Holds.new ((w.alloc (.cells #[.int .i64 most] 3)).alloc (.cells #[.slice none 0 0] 35)) 30 #[.int .u64 x]).cell 0
  have k2 := (Holds.new (w.alloc (.cells #[.int .i64 most] 3)) 35 #[.slice none 0 0]).alloc (.cells #[.int .u64 x] 30)
  have k1 := ((Holds.new w 3 #[.int .i64 most]).alloc (.cells #[.slice none 0 0] 35)).alloc (.cells #[.int .u64 x] 30)
  simp only [size_alloc] at k2 k3
  have hs : (((w.alloc (.cells #[.int .i64 most] 3)).alloc (.cells #[.slice none 0 0] 35)).alloc (.cells #[.int .u64 x] 30)).heap.size = w.heap.size + 3 := by simp
  have hT1 : Tab (((w.alloc (.cells #[.int .i64 most] 3)).alloc (.cells #[.slice none 0 0] 35)).alloc (.cells #[.int .u64 x] 30)) := hT.below hb1 hT.2
  obtain ⟨WR, hWR⟩ : ∃ WR, ((w.alloc (.cells #[.int .i64 most] 3)).alloc (.cells #[.slice none 0 0] 35)).alloc (.cells #[.int .u64 x] 30) = WR := ⟨_, rfl⟩
  rw [hWR] at hb1 k1 k2 k3 hs hT1
  simp only [hWR]
  have ht0 := hT.2
  have hblen := bits_len x
  have h0 : NRun w most [] WR := ⟨⟨_, k2, World.ownsRow_nil _ _ _ _⟩, k1, hT1, hb1, by simp; omega, by simp⟩
  clear hWR
  refine range_outer rfl (by omega) (gf := 28) (lb := #[.pointer (some ⟨w.heap.size + 1 + 1, 0, none⟩)]) rfl trivial (enters_of Tryd.func28 (by kernel_rfl) rfl)
    (each1_stops _ (by omega) (w.heap.size + 1 + 1) x hx WR hT1 k3) keepTab_t (keepTab_b _) keepTab_r (Below.refl _ _) (fun _ => rfl)
    (fun (pre : List (Bit x)) W => NRun w most (nums pre) W)
    (fun c pre W => c = .exit 0 ∧ ∃ p0 y, pre = p0 ++ [y] ∧ most ≤ (p0.length : Int) ∧ NRun w most (nums p0) W)
    (fun s W W' row hs' hg hr => hs'.turned hg (fun k e => (hr k e).2) (fun k e => by have := (hr k e).1; omega))
    (fun c s W W' row hs' hg hr => by
      obtain ⟨e, p0, y, h1, h2, h3⟩ := hs'
      exact ⟨e, p0, y, h1, h2, h3.turned hg (fun k e => (hr k e).2) (fun k e => by have := (hr k e).1; omega)⟩)
    h0 ?a₁ ?assign ?body ?done ?stop
  case assign =>
    intro l y W K hK
    gi_wp2
    exact hK
  case body =>
    rintro l pre y W hl _ hrun hlen
    have hlen64 : pre.length < 64 := by omega
    obtain ⟨⟨v, hv, hrow⟩, hm, hT2, hB, hle, _⟩ := hrun
    rw [nums_len] at hrow hle
    obtain ⟨A, c, rfl⟩ := own_shape hrow
    have c5 := hv.cell
    have c3 := hm.cell 0
    by_cases hst : most ≤ (pre.length : Int)
    · have hd : decide (most ≤ (pre.length : Int)) = true := decide_eq_true hst
      have HFin := Lib.hid (show NRun w most (nums pre) W from ⟨⟨_, hv, by rw [nums_len]; exact hrow⟩, hm, hT2, hB, by rw [nums_len]; exact hle, by rw [nums_len]; omega⟩)
      clear hv hrow hm hT2 hB
      gi_wp2
      exact ⟨KeepsFrom.refl _ _, rfl, pre, y, rfl, hst, HFin.out⟩
    · have hd : decide (most ≤ (pre.length : Int)) = false := decide_eq_false hst
      gi_wp2_with (gi_at_builtin; refine wpListIn_append_own _ rfl _ _ 35 rfl (w.heap.size + 1) 3 i0 (.int .i64 0) 1 8 Tryd.underlying35 hi hz0 hz1 hz2 rfl (by decide) _ _ _ rfl (hrow.alloc _) ⟨W.heap.size, 0, none⟩ 1 1 [.int .i64 y.1] rfl rfl (cell_one_new _ _ _) (by simp [Value.oneCell']) (by unfold maxLen; omega) (by omega) (by have := hv.lt; simp; omega) ?_; intro v' w1 hown' hgrow _; obtain ⟨g', cap', rfl⟩ := ownsRow_succ hown'; obtain ⟨hv1, hv2, hr2, hk2, hb2⟩ := hv.appended (by decide) hrow (by have := hv.lt; omega) (Nat.le_refl _) hown' hgrow; have hc1 := hv1.cell; have hf1 := hv1.frozen)
      have hm2 : Holds (w1.setCell ⟨w.heap.size + 1, 0, none⟩ (.slice (some ⟨g', 0, none⟩) (pre.length + 1) cap')) w.heap.size 3 #[.int .i64 most] := hm.below hb2 (Nat.lt_succ_self _)
      refine ⟨hk2.from _, ⟨hk2.size, fun t => t.below hb2 (Nat.lt_succ_of_lt ht0)⟩, ⟨⟨_, hv2, ?_⟩, hm2, hT2.below hb2 (Nat.lt_succ_of_lt ht0), hB.trans (hb2.mono (Nat.le_succ _)), ?_, ?_⟩⟩
      · rw [nums_len, nums_snoc, asInts_snoc, List.length_append, List.map_append]
        simpa using hr2
      · rw [nums_len, List.length_append]
        simp
        omega
      · rw [nums_len, List.length_append]
        simp
        omega
  case done =>
    rintro D ys W hD hys hrun hDk
    have hv := hrun.1
    obtain ⟨v, hbx, hrow⟩ := hv
    have c5 := hbx.cell
    obtain ⟨A, c, rfl, hr, hc1, hc2⟩ := hrun.gave c5
    have hle := hrun.2.2.2.2.1
    rw [hys] at hr hc1 hle c5
    have ht : (bitsOf x).take (max most 0).toNat = bitsOf x := List.take_of_length_le (by omega)
    have hbk := belowK_b (w := w) (Nat.le_refl _) W D (.deferred (some [])) (.deferred none) (by omega) hDk rfl rfl
    have HRow := Lib.hid (hr.turned (grownBy_putObj' W D (.deferred none)) (fun k e => by cases e; exact ⟨_, hDk, rfl⟩))
    have HB := Lib.hid (hrun.2.2.2.1.trans hbk)
    have HDk := Lib.hid hDk
    have HT := Lib.hid ht
    have HC := Lib.hid hc1
    clear hrun hbx hrow hr hDk ht hys hc1
    gi_wp2
    refine ⟨by simp, .inl ⟨_, _, rfl, run_takeDeferred HDk.out, ?_⟩⟩
    exact ⟨_, results_tmp rfl _ _ _, _, _, _, rfl, by rw [HT.out]; exact HRow.out, HC.out, hc2, hblen, HB.out⟩
  case stop =>
    rintro D c pre W hD hp ⟨rfl, p0, y, rfl, hst, hrun⟩ hDk
    have hv := hrun.1
    obtain ⟨v, hbx, hrow⟩ := hv
    have c5 := hbx.cell
    obtain ⟨A, c, rfl, hr, hc1, hc2⟩ := hrun.gave c5
    have hle := hrun.2.2.2.2.1
    have hl64 := hrun.2.2.2.2.2
    have hlp : (nums p0).length = p0.length := nums_len p0
    have ht : (bitsOf x).take (max most 0).toNat = nums p0 := by
      rw [nums_snoc] at hp
      obtain ⟨rest, hrest⟩ := hp
      rw [← hrest, List.append_assoc, List.take_append_of_le_length (by omega), List.take_of_length_le (by omega)]
    have hbk := belowK_b (w := w) (Nat.le_refl _) W D (.deferred (some [])) (.deferred none) (by omega) hDk rfl rfl
    have HRow := Lib.hid (hr.turned (grownBy_putObj' W D (.deferred none)) (fun k e => by cases e; exact ⟨_, hDk, rfl⟩))
    have HB := Lib.hid (hrun.2.2.2.1.trans hbk)
    have HDk := Lib.hid hDk
    have HT := Lib.hid ht
    have HC := Lib.hid hc1
    clear hrun hbx hrow hr hDk ht hp hc1 hlp
    gi_wp2
    refine ⟨by simp, .inl ⟨_, _, rfl, run_takeDeferred HDk.out, ?_⟩⟩
    exact ⟨_, results_tmp rfl _ _ _, _, _, _, rfl, by rw [HT.out]; exact HRow.out, HC.out, hc2, hl64, HB.out⟩
end Go.Proofs.YtfekblikiemogaaDoor
