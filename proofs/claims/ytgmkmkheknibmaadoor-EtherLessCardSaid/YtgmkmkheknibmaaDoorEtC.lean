/- Package ether: Ask. -/
import Derived.Test.YtgmkmkheknibmaaDoorEtB
import Derived.Test.YtgmkmkheknibmaaDoorRound
namespace Go.Proofs.YtgmkmkheknibmaaDoor
open Go.RowKit Go.Shelf
set_option linter.unusedVariables false
set_option linter.unusedSimpArgs false
attribute [local go_sem] Oper.semAt_some

/-- Those of a list whose ear is the one asked for. -/
def hitB (f : Nat → Int × Int) (from_ : Int) (i : Nat) : Bool := decide (f i = (from_, 1))
def heardOf (f : Nat → Int × Int) (from_ : Int) (l : List Nat) : Nat := l.foldl (fun h i => if hitB f from_ i then h ||| 2 ^ i else h) 0
theorem heardOf_snoc (f : Nat → Int × Int) (from_ : Int) (l : List Nat) (i : Nat) : heardOf f from_ (l ++ [i]) = if hitB f from_ i then heardOf f from_ l ||| 2 ^ i else heardOf f from_ l := by simp [heardOf]
theorem heardOf_fit (f : Nat → Int × Int) (from_ : Int) (l : List Nat) (h : ∀ i ∈ l, i < 64) : heardOf f from_ l < 18446744073709551616 := by
  obtain ⟨l, rfl⟩ : ∃ l', l = List.reverse l' := ⟨l.reverse, by simp⟩
  induction l with
  | nil => exact Nat.zero_lt_of_lt (show 0 < 18446744073709551616 by decide)
  | cons i l ih =>
    rw [List.reverse_cons, heardOf_snoc]
    have ih := ih (fun j hj => h j (by rw [List.reverse_cons]; simp at hj ⊢; exact .inl hj))
    split
    · exact Nat.or_lt_two_pow (n := 64) ih (Nat.pow_lt_pow_right (by decide) (h i (by simp)))
    · exact ih
theorem heardOf_bit (f : Nat → Int × Int) (from_ : Int) (l : List Nat) (j : Nat) : (heardOf f from_ l).testBit j = (decide (j ∈ l) && hitB f from_ j) := by
  obtain ⟨l, rfl⟩ : ∃ l', l = List.reverse l' := ⟨l.reverse, by simp⟩
  induction l with
  | nil => simp [heardOf]
  | cons i l ih =>
    rw [List.reverse_cons, heardOf_snoc]
    by_cases e : i = j
    · subst e
      split
      · rename_i h
        simp [Nat.testBit_or, ih, h, Nat.testBit_two_pow_self]
      · rename_i h
        simp [ih, h]
    · have e' : ¬ j = i := fun h => e h.symm
      split
      · rw [Nat.testBit_or, ih, Nat.testBit_two_pow_of_ne e]
        simp [e']
      · rw [ih]
        simp [e']
/-- Those to whom the node has a link, and whose ear is the one asked for. -/
def askV (x : Nat) (f : Nat → Int × Int) (from_ : Int) : Nat := heardOf f from_ (bitsOf x)
theorem askV_bit (x : Nat) (f : Nat → Int × Int) (from_ : Int) (j : Nat) (hj : j < 64) : (askV x f from_).testBit j = (x.testBit j && hitB f from_ j) := by
  unfold askV
  rw [heardOf_bit]
  simp [mem_bits, hj]
theorem askV_fit (x : Nat) (f : Nat → Int × Int) (from_ : Int) : askV x f from_ < 18446744073709551616 := heardOf_fit _ _ _ fun i hi => (mem_bits.1 hi).1
/-- Between two steps of Ask. -/
structure ARun (w : World) (q m : Nat) (f : Nat → Int × Int) (from_ : Int) (h : Nat) (W : World) : Prop where
  from_ : Holds W w.heap.size 3 #[.int .i64 from_]
  ears : Holds W (w.heap.size + 1) 30 #[.slice (some ⟨q, 0, none⟩) m m]
  heard : Holds W (w.heap.size + 2) 23 #[.int .u64 h]
  row : Holds W q 35 (earRow f m)
  below : Below w.heap.size w W
section
variable {w W W' : World} {q m : Nat} {f : Nat → Int × Int} {from_ : Int} {h : Nat}
theorem ARun.turned {row : Option Nat} (a : ARun w q m f from_ h W) (hg : W.grownBy W' row) (hr : NoCells W row) (hb : ∀ k, row = some k → w.heap.size ≤ k) : ARun w q m f from_ h W' :=
  ⟨a.from_.turned hg hr, a.ears.turned hg hr, a.heard.turned hg hr, a.row.turned hg hr, a.below.grown hg a.below.size hb⟩
theorem ARun.below' (a : ARun w q m f from_ h W) (hb : Below W.heap.size W W') : ARun w q m f from_ h W' :=
  ⟨a.from_.below hb a.from_.lt, a.ears.below hb a.ears.lt, a.heard.below hb a.heard.lt, a.row.below hb a.row.lt, a.below.trans (hb.mono a.below.size)⟩
theorem ARun.set (a : ARun w q m f from_ h W) (hq : q < w.heap.size) (h' : Nat) : ARun w q m f from_ h' (W.setCell ⟨w.heap.size + 2, 0, none⟩ (.int .u64 h')) :=
  ⟨a.from_.far (by omega) _, a.ears.far (by omega) _, a.heard.put 0 _, a.row.far (by omega) _, a.below.setCell (p := ⟨w.heap.size + 2, 0, none⟩) (by show w.heap.size ≤ w.heap.size + 2; omega) _⟩
end
theorem ask_leaves {n : Nat} {w : World} {W : World} {tmps : Array Value} {v : Nat} {D : Nat} (hb : Below w.heap.size w W)
    (hD : w.heap.size ≤ D) (hDk : W.heap[D]? = some (.deferred (some []))) (t6 : tmps.getD 6 undef = .int .u64 v) :
    LeavesInM Fence.wide n Tryd.prog Tryd.f9 tmps (fun e w' => e = .returned (.int .u64 v) ∧ Below w.heap.size w w') [mark D] .returning W := by
  refine leaves_marks (I := fun W => Below w.heap.size w W) (lo := w.heap.size) (hi := D + 1) (fun W D' hD' hI hd => ?_) (fun W hI => ?_) [D] W ⟨by simp, fun E hE => by
    simp only [List.mem_cons, List.not_mem_nil, or_false] at hE
    subst hE
    exact ⟨hD, Nat.lt_succ_self _, hDk⟩⟩ hb
  · have hg := grownBy_putObj' W D' (.deferred none)
    exact hI.grown hg hI.size (fun k e => by cases e; exact hD')
  · refine ⟨.int .u64 v, ?_, rfl, hI⟩
    have t6' : tmps[6]?.getD undef = .int .u64 v := by simpa using t6
    simp [results, Tryd.f9, go_sem, t6']
set_option maxRecDepth 100000 in
set_option maxHeartbeats 4000000 in
/-- Ask, of a node that has links to those of a set. -/
theorem ask_of (w : World) (p : Value) (from_ : Int) (x : Nat) (hnear : ∀ W, Below w.heap.size w W → Calls Tryd.prog 17 #[p, .int .i64 from_] W fun e w' => e = .returned (.int .u64 x) ∧ w' = W) (hx : x < 18446744073709551616) (hT : Tab w)
    (q m : Nat) (f : Nat → Int × Int) (hE : Holds w q 35 (earRow f m)) (hm : ∀ i, x.testBit i = true → i < m) (h64 : m ≤ 64) : Calls Tryd.prog 9 #[p, .int .i64 from_, .slice (some ⟨q, 0, none⟩) m m] w fun e w' => e = .returned (.int .u64 (askV x f from_)) ∧ Below w.heap.size w w' := by
  refine (callsIn_wide (n := 4)).1 ?_
  refine callsIn_of_wp_marks Tryd.func9 rfl trivial ?_ rfl
  simp only [Tryd.ntmps9, List.size_toArray, List.length_cons, List.length_nil, Nat.reduceAdd, Nat.reduceSub, Array.replicate_succ, Array.replicate_zero, List.push_toArray, List.append_toArray, List.nil_append, List.cons_append]
  have heach := fun W => each_any W x
  have hqw := hE.lt
  have b0 : ARun w q m f from_ 0 (((w.alloc (.cells #[.int .i64 from_] 3)).alloc (.cells #[.slice (some ⟨q, 0, none⟩) m m] 30)).alloc (.cells #[.int .u64 0] 23)) := by
    refine ⟨((Holds.new w _ _).alloc _).alloc _, ?_, ?_, ((hE.alloc _).alloc _).alloc _, ((below_alloc w _).alloc (by simp) _).alloc (by simp; omega) _⟩
    · have := (Holds.new (w.alloc (.cells #[.int .i64 from_] 3)) 30 #[.slice (some ⟨q, 0, none⟩) m m]).alloc (.cells #[.int .u64 0] 23)
      rwa [size_alloc] at this
    · have := Holds.new ((w.alloc (.cells #[.int .i64 from_] 3)).alloc (.cells #[.slice (some ⟨q, 0, none⟩) m m] 30)) 23 #[.int .u64 0]
      rwa [size_alloc, size_alloc] at this
  have hn0 := hnear _ b0.below
  have cR := (Holds.new (((w.alloc (.cells #[.int .i64 from_] 3)).alloc (.cells #[.slice (some ⟨q, 0, none⟩) m m] 30)).alloc (.cells #[.int .u64 0] 23)) 23 #[.int .u64 x]).cell 0
  rw [size_alloc, size_alloc, size_alloc] at cR
  have sR : ((((w.alloc (.cells #[.int .i64 from_] 3)).alloc (.cells #[.slice (some ⟨q, 0, none⟩) m m] 30)).alloc (.cells #[.int .u64 0] 23)).alloc (.cells #[.int .u64 x] 23)).heap.size = w.heap.size + 4 := by simp
  have b1 := b0.below' (below_alloc _ (.cells #[.int .u64 (x : Int)] 23))
  have HB0 := Lib.hid b0
  have HB1 := Lib.hid b1
  clear b0 b1
  gi_wp2_with (first
    | (refine ⟨trivial, ?_⟩; gi_at_call 17; refine (callsIn_wide.2 hn0).mono ?_; rintro e w' ⟨rfl, hw⟩; subst w')
    | (refine ⟨trivial, ?_⟩; gi_at_call 20; refine (callsIn_wide.2 (heach _)).mono ?_; rintro e w' ⟨rfl, hw⟩; subst w'))
  have b1 := HB1.out
  obtain ⟨WR, hWR⟩ : ∃ WR, ((((w.alloc (.cells #[.int .i64 from_] 3)).alloc (.cells #[.slice (some ⟨q, 0, none⟩) m m] 30)).alloc (.cells #[.int .u64 0] 23)).alloc (.cells #[.int .u64 x] 23)) = WR := ⟨_, rfl⟩
  rw [hWR] at b1 cR sR
  simp only [hWR]
  have tR : Tab WR := hT.below b1.below hT.2
  clear hWR HB0 HB1 hn0
  have ht0 := hT.2
  refine range_outer rfl (by omega) (gf := 23) (lb := #[.pointer (some ⟨w.heap.size + 1 + 1 + 1, 0, none⟩)]) rfl trivial (enters_of Tryd.func23 (by kernel_rfl) rfl)
    (each1_stops _ (by omega) (w.heap.size + 1 + 1 + 1) x hx _ tR cR) keepTab_t (keepTab_b _) keepTab_r (Below.refl _ _) (fun _ => rfl)
    (fun (pre : List (Bit x)) W => ARun w q m f from_ (heardOf f from_ (nums pre)) W)
    (fun _ _ _ => False)
    (fun s W W' row hs hg hr => hs.turned hg (fun k e => (hr k e).2) (fun k e => by have := (hr k e).1; omega))
    (fun _ _ _ _ _ hs _ _ => hs)
    b1 ?a₁ ?assign ?body ?done ?stop
  case assign =>
    intro l y W K hK
    gi_wp2
    exact hK
  case body =>
    rintro l pre y W hl ⟨rc, hrc⟩ hrn hlen
    have hy64 := (mem_bits.1 y.2).1
    have hym := hm y.1 (mem_bits.1 y.2).2
    have hyi : (y.1 : Int) < (m : Int) := by omega
    have c5 : W.drew.cell? ⟨w.heap.size + 1, 0, none⟩ = some (.slice (some ⟨q, 0, none⟩) m m) := hrn.ears.cell 0
    have c4 : W.drew.cell? ⟨w.heap.size, 0, none⟩ = some (.int .i64 from_) := hrn.from_.cell 0
    have ce0 : W.drew.cell? ⟨q, y.1 * 2, none⟩ = some (.int .i64 (f y.1).1) := by
      have := hrn.row.cell (y.1 * 2)
      rw [earRow_from f hym] at this
      exact this
    have ce1 : W.drew.cell? ⟨q, y.1 * 2 + 1, none⟩ = some (.int .i64 (f y.1).2) := by
      have := hrn.row.cell (y.1 * 2 + 1)
      rw [earRow_why f hym] at this
      exact this
    have eh : hitB f from_ y.1 = decide ((f y.1).1 = from_ ∧ (f y.1).2 = 1) := by
      unfold hitB
      rw [decide_eq_decide, Prod.ext_iff]
    obtain ⟨a, ha⟩ : ∃ a, (f y.1).1 = a := ⟨_, rfl⟩
    obtain ⟨b, hb⟩ : ∃ b, (f y.1).2 = b := ⟨_, rfl⟩
    rw [ha] at ce0 eh
    rw [hb] at ce1 eh
    have HRn := Lib.hid hrn
    have dm : decide ((y.1 : Int) < (m : Int)) = true := decide_eq_true hyi
    clear ha hb hrn
    by_cases h1 : a = from_
    · subst h1
      by_cases h2 : b = 1
      · subst h2
        have hh : hitB f a y.1 = true := by rw [eh]; simp
        have hH := heardOf_fit f a (nums pre) (fun i hi => by
          obtain ⟨z, _, rfl⟩ := List.mem_map.1 hi
          exact (mem_bits.1 z.2).1)
        have hor := u64_or_nat (heardOf f a (nums pre)) (2 ^ y.1) hH (pow_fit hy64)
        have hsnoc : heardOf f a (nums (pre ++ [y])) = heardOf f a (nums pre) ||| 2 ^ y.1 := by rw [nums_snoc, heardOf_snoc, hh, if_pos rfl]
        rw [← hsnoc, show (((2 ^ y.1 : Nat) : Nat) : Int) = (2 : Int) ^ y.1 by simp] at hor
        have s1 := shl_fit (k := y.1) hy64
        have hmin : min y.1 64 = y.1 := by omega
        obtain ⟨H0, hH0⟩ : ∃ H0, heardOf f a (nums pre) = H0 := ⟨_, rfl⟩
        obtain ⟨H1, hH1⟩ : ∃ H1, heardOf f a (nums (pre ++ [y])) = H1 := ⟨_, rfl⟩
        rw [hH0, hH1] at hor
        have r1 := HRn.out
        rw [hH0] at r1
        have r2 := (r1.below' (below_drewN (Below.refl _ _) 2)).set hqw H1
        have x2 : W.drew.drew.cell? ⟨w.heap.size + 2, 0, none⟩ = some (.int .u64 (H0 : Int)) := r1.heard.cell 0
        have y2 : W.drew.drew.frozen? ⟨w.heap.size + 2, 0, none⟩ = false := r1.heard.soft 0
        have HX := Lib.hid x2
        have HFin := Lib.hid (show KeepsFrom WR.heap.size W (W.drew.drew.setCell ⟨w.heap.size + 2, 0, none⟩ (.int .u64 (H1 : Int))) ∧ KeepTab W (W.drew.drew.setCell ⟨w.heap.size + 2, 0, none⟩ (.int .u64 (H1 : Int))) ∧ ARun w q m f a H1 (W.drew.drew.setCell ⟨w.heap.size + 2, 0, none⟩ (.int .u64 (H1 : Int))) from
          ⟨((KeepsOthers.drew W).trans ((KeepsOthers.drew _).trans (KeepsOthers.setCell _ ⟨w.heap.size + 2, 0, none⟩ (.int .u64 (H1 : Int))))).from _, ⟨(Chg.set (S := fun _ => True) W.drew.drew (w.heap.size + 2) 0 (.int .u64 (H1 : Int)) trivial).size, fun t => (keepTab_chg (Chg.set (S := fun k => k = w.heap.size + 2) W.drew.drew (w.heap.size + 2) 0 (.int .u64 (H1 : Int)) rfl) (by omega)).2 (t.below (below_drewN (Below.refl _ _) 2) t.2)⟩, r2⟩)
        have HS := Lib.hid (And.intro c5 (And.intro c4 (And.intro ce0 ce1)))
        have HH1 := Lib.hid hH1
        have hy0 : (0 : Int) ≤ (y.1 : Int) := Int.natCast_nonneg _
        clear r1 r2 hH0 hH1 hsnoc hH
        gi_wp2
        refine round_turns (fun (w' : World) => w'.cell? ⟨w.heap.size + 1, 0, none⟩ = some (.slice (some ⟨q, 0, none⟩) m m) ∧ w'.cell? ⟨w.heap.size, 0, none⟩ = some (.int .i64 a) ∧ w'.cell? ⟨q, y.1 * 2, none⟩ = some (.int .i64 a) ∧ w'.cell? ⟨q, y.1 * 2 + 1, none⟩ = some (.int .i64 1)) (fun j => decide (13 ≤ j)) (by kernel_rfl) (by kernel_rfl) (by rintro ⟨_, _, h⟩; exact h) (HS.out) (fun hS => ?_)
        refine Turns.take hS 0 _ rfl (by kernel_rfl) (by kernel_rfl) (by kernel_rfl) (by kernel_rfl) (fun _ _ _ h => h) (by rfl) (fun w' hS' => by (try dsimp only at hS'); go_split_ands; go_simp; (try with_reducible rfl)) ?_
        simp only [Act.put, List.getElem_toArray, List.getElem_cons_succ, List.getElem_cons_zero, List.setIfInBounds_toArray, List.set_cons_zero, List.set_cons_succ]
        refine Turns.take hS 1 _ rfl (by kernel_rfl) (by kernel_rfl) (by kernel_rfl) (by kernel_rfl) (fun _ _ _ h => h) (by rfl) (fun w' hS' => by (try dsimp only at hS'); go_split_ands; go_simp; (try with_reducible rfl)) ?_
        simp only [Act.put, List.getElem_toArray, List.getElem_cons_succ, List.getElem_cons_zero, List.setIfInBounds_toArray, List.set_cons_zero, List.set_cons_succ]
        refine Turns.take hS 2 _ rfl (by kernel_rfl) (by kernel_rfl) (by kernel_rfl) (by kernel_rfl) (fun _ _ _ h => h) (by rfl) (fun w' hS' => by (try dsimp only at hS'); go_split_ands; go_simp; (try with_reducible rfl)) ?_
        simp only [Act.put, List.getElem_toArray, List.getElem_cons_succ, List.getElem_cons_zero, List.setIfInBounds_toArray, List.set_cons_zero, List.set_cons_succ]
        refine Turns.take hS 3 _ rfl (by kernel_rfl) (by kernel_rfl) (by kernel_rfl) (by kernel_rfl) (fun _ _ _ h => h) (by rfl) (fun w' hS' => by (try dsimp only at hS'); go_split_ands; go_simp; (try with_reducible rfl)) ?_
        simp only [Act.put, List.getElem_toArray, List.getElem_cons_succ, List.getElem_cons_zero, List.setIfInBounds_toArray, List.set_cons_zero, List.set_cons_succ]
        refine Turns.take hS 4 _ rfl (by kernel_rfl) (by kernel_rfl) (by kernel_rfl) (by kernel_rfl) (fun _ _ _ h => h) (by rfl) (fun w' hS' => by (try dsimp only at hS'); go_split_ands; go_simp; (try with_reducible rfl)) ?_
        simp only [Act.put, List.getElem_toArray, List.getElem_cons_succ, List.getElem_cons_zero, List.setIfInBounds_toArray, List.set_cons_zero, List.set_cons_succ]
        refine Turns.take hS 5 _ rfl (by kernel_rfl) (by kernel_rfl) (by kernel_rfl) (by kernel_rfl) (fun _ _ _ h => h) (by rfl) (fun w' hS' => by (try dsimp only at hS'); go_split_ands; go_simp; (try with_reducible rfl)) ?_
        simp only [Act.put, List.getElem_toArray, List.getElem_cons_succ, List.getElem_cons_zero, List.setIfInBounds_toArray, List.set_cons_zero, List.set_cons_succ]
        refine Turns.take hS 6 _ rfl (by kernel_rfl) (by kernel_rfl) (by kernel_rfl) (by kernel_rfl) (fun _ _ _ h => h) (by rfl) (fun w' hS' => by (try dsimp only at hS'); go_split_ands; go_simp; (try with_reducible rfl)) ?_
        simp only [Act.put, List.getElem_toArray, List.getElem_cons_succ, List.getElem_cons_zero, List.setIfInBounds_toArray, List.set_cons_zero, List.set_cons_succ]
        refine Turns.take hS 7 _ rfl (by kernel_rfl) (by kernel_rfl) (by kernel_rfl) (by kernel_rfl) (fun _ _ _ h => h) (by rfl) (fun w' hS' => by (try dsimp only at hS'); go_split_ands; go_simp; (try with_reducible rfl)) ?_
        simp only [Act.put, List.getElem_toArray, List.getElem_cons_succ, List.getElem_cons_zero, List.setIfInBounds_toArray, List.set_cons_zero, List.set_cons_succ]
        refine Turns.take hS 8 _ rfl (by kernel_rfl) (by kernel_rfl) (by kernel_rfl) (by kernel_rfl) (fun _ _ _ h => h) (by rfl) (fun w' hS' => by (try dsimp only at hS'); go_split_ands; go_simp; (try with_reducible rfl)) ?_
        simp only [Act.put, List.getElem_toArray, List.getElem_cons_succ, List.getElem_cons_zero, List.setIfInBounds_toArray, List.set_cons_zero, List.set_cons_succ]
        refine Turns.take hS 9 _ rfl (by kernel_rfl) (by kernel_rfl) (by kernel_rfl) (by kernel_rfl) (fun _ _ _ h => h) (by rfl) (fun w' hS' => by (try dsimp only at hS'); go_split_ands; go_simp; (try with_reducible rfl)) ?_
        simp only [Act.put, List.getElem_toArray, List.getElem_cons_succ, List.getElem_cons_zero, List.setIfInBounds_toArray, List.set_cons_zero, List.set_cons_succ]
        refine Turns.take hS 10 _ rfl (by kernel_rfl) (by kernel_rfl) (by kernel_rfl) (by kernel_rfl) (fun _ _ _ h => h) (by rfl) (fun w' hS' => by (try dsimp only at hS'); go_split_ands; go_simp; (try with_reducible rfl)) ?_
        simp only [Act.put, List.getElem_toArray, List.getElem_cons_succ, List.getElem_cons_zero, List.setIfInBounds_toArray, List.set_cons_zero, List.set_cons_succ]
        refine Turns.take hS 11 _ rfl (by kernel_rfl) (by kernel_rfl) (by kernel_rfl) (by kernel_rfl) (fun _ _ _ h => h) (by rfl) (fun w' hS' => by (try dsimp only at hS'); go_split_ands; go_simp; (try with_reducible rfl)) ?_
        simp only [Act.put, List.getElem_toArray, List.getElem_cons_succ, List.getElem_cons_zero, List.setIfInBounds_toArray, List.set_cons_zero, List.set_cons_succ]
        refine Turns.take hS 12 _ rfl (by kernel_rfl) (by kernel_rfl) (by kernel_rfl) (by kernel_rfl) (fun _ _ _ h => h) (by rfl) (fun w' hS' => by (try dsimp only at hS'); go_split_ands; go_simp; (try with_reducible rfl)) ?_
        simp only [Act.put, List.getElem_toArray, List.getElem_cons_succ, List.getElem_cons_zero, List.setIfInBounds_toArray, List.set_cons_zero, List.set_cons_succ]
        refine Turns.rest (late_done (by kernel_rfl)) ?_
        refine any_tail 13 (by rfl) (by kernel_rfl) ?_
        simp only [List.drop_succ_cons, List.drop_zero]
        clear hS
        go_wp2
        gi_wp2
        refine round_turns (fun (w' : World) => w'.cell? ⟨w.heap.size + 2, 0, none⟩ = some (.int .u64 (H0 : Int))) (fun j => decide (4 ≤ j)) (by kernel_rfl) (by kernel_rfl) (by rintro ⟨_, _, h⟩; exact h) (HX.out) (fun hS => ?_)
        refine Turns.take hS 0 _ rfl (by kernel_rfl) (by kernel_rfl) (by kernel_rfl) (by kernel_rfl) (fun _ _ _ h => h) (by rfl) (fun w' hS' => by (try dsimp only at hS'); go_split_ands; go_simp; (try with_reducible rfl)) ?_
        simp only [Act.put, List.getElem_toArray, List.getElem_cons_succ, List.getElem_cons_zero, List.setIfInBounds_toArray, List.set_cons_zero, List.set_cons_succ]
        refine Turns.take hS 1 _ rfl (by kernel_rfl) (by kernel_rfl) (by kernel_rfl) (by kernel_rfl) (fun _ _ _ h => h) (by rfl) (fun w' hS' => by (try dsimp only at hS'); go_split_ands; go_simp; (try with_reducible rfl)) ?_
        simp only [Act.put, List.getElem_toArray, List.getElem_cons_succ, List.getElem_cons_zero, List.setIfInBounds_toArray, List.set_cons_zero, List.set_cons_succ]
        refine Turns.take hS 2 _ rfl (by kernel_rfl) (by kernel_rfl) (by kernel_rfl) (by kernel_rfl) (fun _ _ _ h => h) (by rfl) (fun w' hS' => by (try dsimp only at hS'); go_split_ands; go_simp; (try with_reducible rfl)) ?_
        simp only [Act.put, List.getElem_toArray, List.getElem_cons_succ, List.getElem_cons_zero, List.setIfInBounds_toArray, List.set_cons_zero, List.set_cons_succ]
        refine Turns.take hS 3 _ rfl (by kernel_rfl) (by kernel_rfl) (by kernel_rfl) (by kernel_rfl) (fun _ _ _ h => h) (by rfl) (fun w' hS' => by (try dsimp only at hS'); go_split_ands; go_simp; (try with_reducible rfl)) ?_
        simp only [Act.put, List.getElem_toArray, List.getElem_cons_succ, List.getElem_cons_zero, List.setIfInBounds_toArray, List.set_cons_zero, List.set_cons_succ]
        refine Turns.rest (late_done (by kernel_rfl)) ?_
        refine any_tail 4 (by rfl) (by kernel_rfl) ?_
        simp only [List.drop_succ_cons, List.drop_zero]
        clear hS
        go_wp2
        change KeepsFrom _ W _ ∧ KeepTab W _ ∧ ARun _ _ _ _ _ (heardOf f a (nums (pre ++ [y]))) _
        rw [HH1.out]
        exact HFin.out
      · have hh : hitB f a y.1 = false := by rw [eh]; simp [h2]
        have HS := Lib.hid (And.intro c5 (And.intro c4 (And.intro ce0 ce1)))
        have HFin := Lib.hid (show KeepsFrom WR.heap.size W W.drew ∧ KeepTab W W.drew ∧ ARun w q m f a (heardOf f a (nums (pre ++ [y]))) W.drew from
          ⟨(KeepsOthers.drew W).from _, ⟨Nat.le_refl _, fun t => t.below (below_drewN (Below.refl _ _) 1) t.2⟩, by rw [nums_snoc, heardOf_snoc, hh, if_neg (by decide)]; exact HRn.out.below' (below_drewN (Below.refl _ _) 1)⟩)
        gi_wp2
        refine round_turns (fun (w' : World) => w'.cell? ⟨w.heap.size + 1, 0, none⟩ = some (.slice (some ⟨q, 0, none⟩) m m) ∧ w'.cell? ⟨w.heap.size, 0, none⟩ = some (.int .i64 a) ∧ w'.cell? ⟨q, y.1 * 2, none⟩ = some (.int .i64 a) ∧ w'.cell? ⟨q, y.1 * 2 + 1, none⟩ = some (.int .i64 b)) (fun j => decide (13 ≤ j)) (by kernel_rfl) (by kernel_rfl) (by rintro ⟨_, _, h⟩; exact h) (HS.out) (fun hS => ?_)
        refine Turns.take hS 0 _ rfl (by kernel_rfl) (by kernel_rfl) (by kernel_rfl) (by kernel_rfl) (fun _ _ _ h => h) (by rfl) (fun w' hS' => by (try dsimp only at hS'); go_split_ands; go_simp; (try with_reducible rfl)) ?_
        simp only [Act.put, List.getElem_toArray, List.getElem_cons_succ, List.getElem_cons_zero, List.setIfInBounds_toArray, List.set_cons_zero, List.set_cons_succ]
        refine Turns.take hS 1 _ rfl (by kernel_rfl) (by kernel_rfl) (by kernel_rfl) (by kernel_rfl) (fun _ _ _ h => h) (by rfl) (fun w' hS' => by (try dsimp only at hS'); go_split_ands; go_simp; (try with_reducible rfl)) ?_
        simp only [Act.put, List.getElem_toArray, List.getElem_cons_succ, List.getElem_cons_zero, List.setIfInBounds_toArray, List.set_cons_zero, List.set_cons_succ]
        refine Turns.take hS 2 _ rfl (by kernel_rfl) (by kernel_rfl) (by kernel_rfl) (by kernel_rfl) (fun _ _ _ h => h) (by rfl) (fun w' hS' => by (try dsimp only at hS'); go_split_ands; go_simp; (try with_reducible rfl)) ?_
        simp only [Act.put, List.getElem_toArray, List.getElem_cons_succ, List.getElem_cons_zero, List.setIfInBounds_toArray, List.set_cons_zero, List.set_cons_succ]
        refine Turns.take hS 3 _ rfl (by kernel_rfl) (by kernel_rfl) (by kernel_rfl) (by kernel_rfl) (fun _ _ _ h => h) (by rfl) (fun w' hS' => by (try dsimp only at hS'); go_split_ands; go_simp; (try with_reducible rfl)) ?_
        simp only [Act.put, List.getElem_toArray, List.getElem_cons_succ, List.getElem_cons_zero, List.setIfInBounds_toArray, List.set_cons_zero, List.set_cons_succ]
        refine Turns.take hS 4 _ rfl (by kernel_rfl) (by kernel_rfl) (by kernel_rfl) (by kernel_rfl) (fun _ _ _ h => h) (by rfl) (fun w' hS' => by (try dsimp only at hS'); go_split_ands; go_simp; (try with_reducible rfl)) ?_
        simp only [Act.put, List.getElem_toArray, List.getElem_cons_succ, List.getElem_cons_zero, List.setIfInBounds_toArray, List.set_cons_zero, List.set_cons_succ]
        refine Turns.take hS 5 _ rfl (by kernel_rfl) (by kernel_rfl) (by kernel_rfl) (by kernel_rfl) (fun _ _ _ h => h) (by rfl) (fun w' hS' => by (try dsimp only at hS'); go_split_ands; go_simp; (try with_reducible rfl)) ?_
        simp only [Act.put, List.getElem_toArray, List.getElem_cons_succ, List.getElem_cons_zero, List.setIfInBounds_toArray, List.set_cons_zero, List.set_cons_succ]
        refine Turns.take hS 6 _ rfl (by kernel_rfl) (by kernel_rfl) (by kernel_rfl) (by kernel_rfl) (fun _ _ _ h => h) (by rfl) (fun w' hS' => by (try dsimp only at hS'); go_split_ands; go_simp; (try with_reducible rfl)) ?_
        simp only [Act.put, List.getElem_toArray, List.getElem_cons_succ, List.getElem_cons_zero, List.setIfInBounds_toArray, List.set_cons_zero, List.set_cons_succ]
        refine Turns.take hS 7 _ rfl (by kernel_rfl) (by kernel_rfl) (by kernel_rfl) (by kernel_rfl) (fun _ _ _ h => h) (by rfl) (fun w' hS' => by (try dsimp only at hS'); go_split_ands; go_simp; (try with_reducible rfl)) ?_
        simp only [Act.put, List.getElem_toArray, List.getElem_cons_succ, List.getElem_cons_zero, List.setIfInBounds_toArray, List.set_cons_zero, List.set_cons_succ]
        refine Turns.take hS 8 _ rfl (by kernel_rfl) (by kernel_rfl) (by kernel_rfl) (by kernel_rfl) (fun _ _ _ h => h) (by rfl) (fun w' hS' => by (try dsimp only at hS'); go_split_ands; go_simp; (try with_reducible rfl)) ?_
        simp only [Act.put, List.getElem_toArray, List.getElem_cons_succ, List.getElem_cons_zero, List.setIfInBounds_toArray, List.set_cons_zero, List.set_cons_succ]
        refine Turns.take hS 9 _ rfl (by kernel_rfl) (by kernel_rfl) (by kernel_rfl) (by kernel_rfl) (fun _ _ _ h => h) (by rfl) (fun w' hS' => by (try dsimp only at hS'); go_split_ands; go_simp; (try with_reducible rfl)) ?_
        simp only [Act.put, List.getElem_toArray, List.getElem_cons_succ, List.getElem_cons_zero, List.setIfInBounds_toArray, List.set_cons_zero, List.set_cons_succ]
        refine Turns.take hS 10 _ rfl (by kernel_rfl) (by kernel_rfl) (by kernel_rfl) (by kernel_rfl) (fun _ _ _ h => h) (by rfl) (fun w' hS' => by (try dsimp only at hS'); go_split_ands; go_simp; (try with_reducible rfl)) ?_
        simp only [Act.put, List.getElem_toArray, List.getElem_cons_succ, List.getElem_cons_zero, List.setIfInBounds_toArray, List.set_cons_zero, List.set_cons_succ]
        refine Turns.take hS 11 _ rfl (by kernel_rfl) (by kernel_rfl) (by kernel_rfl) (by kernel_rfl) (fun _ _ _ h => h) (by rfl) (fun w' hS' => by (try dsimp only at hS'); go_split_ands; go_simp; (try with_reducible rfl)) ?_
        simp only [Act.put, List.getElem_toArray, List.getElem_cons_succ, List.getElem_cons_zero, List.setIfInBounds_toArray, List.set_cons_zero, List.set_cons_succ]
        refine Turns.take hS 12 _ rfl (by kernel_rfl) (by kernel_rfl) (by kernel_rfl) (by kernel_rfl) (fun _ _ _ h => h) (by rfl) (fun w' hS' => by (try dsimp only at hS'); go_split_ands; go_simp; (try with_reducible rfl)) ?_
        simp only [Act.put, List.getElem_toArray, List.getElem_cons_succ, List.getElem_cons_zero, List.setIfInBounds_toArray, List.set_cons_zero, List.set_cons_succ]
        refine Turns.rest (late_done (by kernel_rfl)) ?_
        refine any_tail 13 (by rfl) (by kernel_rfl) ?_
        simp only [List.drop_succ_cons, List.drop_zero]
        clear hS
        go_wp2
        gi_wp2
        exact HFin.out
    · have hh : hitB f from_ y.1 = false := by rw [eh]; simp [h1]
      have HS := Lib.hid (And.intro c5 (And.intro c4 (And.intro ce0 ce1)))
      have HFin := Lib.hid (show KeepsFrom WR.heap.size W W.drew ∧ KeepTab W W.drew ∧ ARun w q m f from_ (heardOf f from_ (nums (pre ++ [y]))) W.drew from
        ⟨(KeepsOthers.drew W).from _, ⟨Nat.le_refl _, fun t => t.below (below_drewN (Below.refl _ _) 1) t.2⟩, by rw [nums_snoc, heardOf_snoc, hh, if_neg (by decide)]; exact HRn.out.below' (below_drewN (Below.refl _ _) 1)⟩)
      gi_wp2
      refine round_turns (fun (w' : World) => w'.cell? ⟨w.heap.size + 1, 0, none⟩ = some (.slice (some ⟨q, 0, none⟩) m m) ∧ w'.cell? ⟨w.heap.size, 0, none⟩ = some (.int .i64 from_) ∧ w'.cell? ⟨q, y.1 * 2, none⟩ = some (.int .i64 a) ∧ w'.cell? ⟨q, y.1 * 2 + 1, none⟩ = some (.int .i64 b)) (fun j => decide (13 ≤ j)) (by kernel_rfl) (by kernel_rfl) (by rintro ⟨_, _, h⟩; exact h) (HS.out) (fun hS => ?_)
      refine Turns.take hS 0 _ rfl (by kernel_rfl) (by kernel_rfl) (by kernel_rfl) (by kernel_rfl) (fun _ _ _ h => h) (by rfl) (fun w' hS' => by (try dsimp only at hS'); go_split_ands; go_simp; (try with_reducible rfl)) ?_
      simp only [Act.put, List.getElem_toArray, List.getElem_cons_succ, List.getElem_cons_zero, List.setIfInBounds_toArray, List.set_cons_zero, List.set_cons_succ]
      refine Turns.take hS 1 _ rfl (by kernel_rfl) (by kernel_rfl) (by kernel_rfl) (by kernel_rfl) (fun _ _ _ h => h) (by rfl) (fun w' hS' => by (try dsimp only at hS'); go_split_ands; go_simp; (try with_reducible rfl)) ?_
      simp only [Act.put, List.getElem_toArray, List.getElem_cons_succ, List.getElem_cons_zero, List.setIfInBounds_toArray, List.set_cons_zero, List.set_cons_succ]
      refine Turns.take hS 2 _ rfl (by kernel_rfl) (by kernel_rfl) (by kernel_rfl) (by kernel_rfl) (fun _ _ _ h => h) (by rfl) (fun w' hS' => by (try dsimp only at hS'); go_split_ands; go_simp; (try with_reducible rfl)) ?_
      simp only [Act.put, List.getElem_toArray, List.getElem_cons_succ, List.getElem_cons_zero, List.setIfInBounds_toArray, List.set_cons_zero, List.set_cons_succ]
      refine Turns.take hS 3 _ rfl (by kernel_rfl) (by kernel_rfl) (by kernel_rfl) (by kernel_rfl) (fun _ _ _ h => h) (by rfl) (fun w' hS' => by (try dsimp only at hS'); go_split_ands; go_simp; (try with_reducible rfl)) ?_
      simp only [Act.put, List.getElem_toArray, List.getElem_cons_succ, List.getElem_cons_zero, List.setIfInBounds_toArray, List.set_cons_zero, List.set_cons_succ]
      refine Turns.take hS 4 _ rfl (by kernel_rfl) (by kernel_rfl) (by kernel_rfl) (by kernel_rfl) (fun _ _ _ h => h) (by rfl) (fun w' hS' => by (try dsimp only at hS'); go_split_ands; go_simp; (try with_reducible rfl)) ?_
      simp only [Act.put, List.getElem_toArray, List.getElem_cons_succ, List.getElem_cons_zero, List.setIfInBounds_toArray, List.set_cons_zero, List.set_cons_succ]
      refine Turns.take hS 5 _ rfl (by kernel_rfl) (by kernel_rfl) (by kernel_rfl) (by kernel_rfl) (fun _ _ _ h => h) (by rfl) (fun w' hS' => by (try dsimp only at hS'); go_split_ands; go_simp; (try with_reducible rfl)) ?_
      simp only [Act.put, List.getElem_toArray, List.getElem_cons_succ, List.getElem_cons_zero, List.setIfInBounds_toArray, List.set_cons_zero, List.set_cons_succ]
      refine Turns.take hS 6 _ rfl (by kernel_rfl) (by kernel_rfl) (by kernel_rfl) (by kernel_rfl) (fun _ _ _ h => h) (by rfl) (fun w' hS' => by (try dsimp only at hS'); go_split_ands; go_simp; (try with_reducible rfl)) ?_
      simp only [Act.put, List.getElem_toArray, List.getElem_cons_succ, List.getElem_cons_zero, List.setIfInBounds_toArray, List.set_cons_zero, List.set_cons_succ]
      refine Turns.take hS 7 _ rfl (by kernel_rfl) (by kernel_rfl) (by kernel_rfl) (by kernel_rfl) (fun _ _ _ h => h) (by rfl) (fun w' hS' => by (try dsimp only at hS'); go_split_ands; go_simp; (try with_reducible rfl)) ?_
      simp only [Act.put, List.getElem_toArray, List.getElem_cons_succ, List.getElem_cons_zero, List.setIfInBounds_toArray, List.set_cons_zero, List.set_cons_succ]
      refine Turns.take hS 8 _ rfl (by kernel_rfl) (by kernel_rfl) (by kernel_rfl) (by kernel_rfl) (fun _ _ _ h => h) (by rfl) (fun w' hS' => by (try dsimp only at hS'); go_split_ands; go_simp; (try with_reducible rfl)) ?_
      simp only [Act.put, List.getElem_toArray, List.getElem_cons_succ, List.getElem_cons_zero, List.setIfInBounds_toArray, List.set_cons_zero, List.set_cons_succ]
      refine Turns.take hS 9 _ rfl (by kernel_rfl) (by kernel_rfl) (by kernel_rfl) (by kernel_rfl) (fun _ _ _ h => h) (by rfl) (fun w' hS' => by (try dsimp only at hS'); go_split_ands; go_simp; (try with_reducible rfl)) ?_
      simp only [Act.put, List.getElem_toArray, List.getElem_cons_succ, List.getElem_cons_zero, List.setIfInBounds_toArray, List.set_cons_zero, List.set_cons_succ]
      refine Turns.take hS 10 _ rfl (by kernel_rfl) (by kernel_rfl) (by kernel_rfl) (by kernel_rfl) (fun _ _ _ h => h) (by rfl) (fun w' hS' => by (try dsimp only at hS'); go_split_ands; go_simp; (try with_reducible rfl)) ?_
      simp only [Act.put, List.getElem_toArray, List.getElem_cons_succ, List.getElem_cons_zero, List.setIfInBounds_toArray, List.set_cons_zero, List.set_cons_succ]
      refine Turns.take hS 11 _ rfl (by kernel_rfl) (by kernel_rfl) (by kernel_rfl) (by kernel_rfl) (fun _ _ _ h => h) (by rfl) (fun w' hS' => by (try dsimp only at hS'); go_split_ands; go_simp; (try with_reducible rfl)) ?_
      simp only [Act.put, List.getElem_toArray, List.getElem_cons_succ, List.getElem_cons_zero, List.setIfInBounds_toArray, List.set_cons_zero, List.set_cons_succ]
      refine Turns.take hS 12 _ rfl (by kernel_rfl) (by kernel_rfl) (by kernel_rfl) (by kernel_rfl) (fun _ _ _ h => h) (by rfl) (fun w' hS' => by (try dsimp only at hS'); go_split_ands; go_simp; (try with_reducible rfl)) ?_
      simp only [Act.put, List.getElem_toArray, List.getElem_cons_succ, List.getElem_cons_zero, List.setIfInBounds_toArray, List.set_cons_zero, List.set_cons_succ]
      refine Turns.rest (late_done (by kernel_rfl)) ?_
      refine any_tail 13 (by rfl) (by kernel_rfl) ?_
      simp only [List.drop_succ_cons, List.drop_zero]
      clear hS
      go_wp2
      gi_wp2
      exact HFin.out
  case done =>
    rintro D ys W hD hys hrn hDk
    rw [hys] at hrn
    have c7 := hrn.heard.cell 0
    have HB := Lib.hid hrn.below
    clear hrn
    gi_wp2
    exact ask_leaves HB.out (by omega) hDk rfl
  case stop =>
    rintro D c pre W hD _ h
    exact h.elim
/-- Ask, of links. -/
theorem ask_any (w : World) (B g r : Nat) (M : List Nat) (h : Lk w B g r M) (hT : Tab w) (hN : Net M) (from_ : Int) (q : Nat) (f : Nat → Int × Int) (hE : Holds w q 35 (earRow f M.length)) :
    Calls Tryd.prog 9 #[.pointer (some ⟨g, 0, none⟩), .int .i64 from_, .slice (some ⟨q, 0, none⟩) M.length M.length] w fun e w' => e = .returned (.int .u64 (askV (nearV M from_) f from_)) ∧ Below w.heap.size w w' :=
  ask_of w _ from_ _ (fun W hb => near_lk W B g r M (h.below hb) from_) (near_fit h from_) hT q M.length f hE (fun i hi => by
    unfold nearV at hi
    split at hi
    · exact hN.lt _ _ hi
    · simp at hi) h.le
theorem ask_nil (w : World) (hT : Tab w) (from_ : Int) (q m : Nat) (f : Nat → Int × Int) (hE : Holds w q 35 (earRow f m)) (h64 : m ≤ 64) :
    Calls Tryd.prog 9 #[.pointer none, .int .i64 from_, .slice (some ⟨q, 0, none⟩) m m] w fun e w' => e = .returned (.int .u64 0) ∧ Below w.heap.size w w' := by
  have := ask_of w (.pointer none) from_ 0 (fun W _ => near_nil W from_) (by decide) hT q m f hE (fun i hi => by simp at hi) h64
  rw [show askV 0 f from_ = 0 from rfl] at this
  exact this
end Go.Proofs.YtgmkmkheknibmaaDoor
