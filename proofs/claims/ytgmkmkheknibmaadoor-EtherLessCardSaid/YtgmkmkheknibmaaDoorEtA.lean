/- Package ether: has, only. -/
import Derived.Test.YtgmkmkheknibmaaDoorLkS
import Derived.Test.YtgmkmkheknibmaaDoorMarks
import Derived.Test.YtgmkmkheknibmaaDoorRange
import Derived.Shelf.RegionOpen
namespace Go.Proofs.YtgmkmkheknibmaaDoor
open Go.RowKit Go.Shelf
set_option linter.unusedVariables false
set_option linter.unusedSimpArgs false
attribute [local go_sem] Oper.semAt_some

theorem ehas_any (w : World) (x k : Nat) (hx : x < 18446744073709551616) (hk : k < 64) : Calls Tryd.prog 19 #[.int .u64 x, .int .i64 k] w fun e w' => e = .returned (.bool (x.testBit k)) ∧ w' = w := by
  have e1 := bit_of (k := k) hx
  have e2 := bit_is x k
  obtain ⟨Y, hY⟩ : ∃ Y, x / 2 ^ k % 2 = Y := ⟨_, rfl⟩
  rw [hY] at e1 e2
  have hj0 : (0 : Int) ≤ (k : Int) := Int.natCast_nonneg _
  have hmin : min k 64 = k := by omega
  clear hY hx
  go_enter Tryd.func19, Tryd.ntmps19
  go_wp2
  go_ret
  exact ⟨rfl, rfl⟩
/-- The one of a list, or -1. -/
def oneOf : List Nat → Int
  | [i] => i
  | _ => -1
def onlyV (x : Nat) : Int := oneOf (bitsOf x)
theorem oneOf_two {l : List Nat} (h : 2 ≤ l.length) : oneOf l = -1 := by
  match l, h with
  | _ :: _ :: _, _ => rfl
/-- Between two steps of only. -/
structure ORun (w : World) (one : Int) (W : World) : Prop where
  out : Holds W w.heap.size 3 #[.int .i64 0]
  one : Holds W (w.heap.size + 1) 3 #[.int .i64 one]
  below : Below w.heap.size w W
theorem ORun.turned {w : World} {one : Int} {W W' : World} {row : Option Nat} (h : ORun w one W) (hg : W.grownBy W' row) (hr : NoCells W row) (hb : ∀ k, row = some k → w.heap.size ≤ k) : ORun w one W' :=
  ⟨h.out.turned hg hr, h.one.turned hg hr, h.below.grown hg h.below.size hb⟩
/-- Where only was left at once. -/
def OOut (w : World) (W : World) : Prop := Holds W w.heap.size 3 #[.int .i64 (-1)] ∧ Below w.heap.size w W
theorem OOut.turned {w W W' : World} {row : Option Nat} (h : OOut w W) (hg : W.grownBy W' row) (hr : NoCells W row) (hb : ∀ k, row = some k → w.heap.size ≤ k) : OOut w W' :=
  ⟨h.1.turned hg hr, h.2.grown hg h.2.size hb⟩
theorem keepTab_r (W : World) : KeepTab W W := ⟨Nat.le_refl _, id⟩
theorem only_leaves {n : Nat} {w : World} {W : World} {tmps : Array Value} {v : Int} {D : Nat} (h2 : Holds W w.heap.size 3 #[.int .i64 v]) (hb : Below w.heap.size w W)
    (hD : w.heap.size ≤ D) (hDk : W.heap[D]? = some (.deferred (some []))) (t2 : tmps.getD 2 undef = .pointer (some ⟨w.heap.size, 0, none⟩)) :
    LeavesInM Fence.wide n Tryd.prog Tryd.f18 tmps (fun e w' => e = .returned (.int .i64 v) ∧ Below w.heap.size w w') [mark D] .returning W := by
  refine leaves_marks (I := fun W => Holds W w.heap.size 3 #[.int .i64 v] ∧ Below w.heap.size w W) (lo := w.heap.size) (hi := D + 1) (fun W D' hD' hI hd => ?_) (fun W hI => ?_) [D] W ⟨by simp, fun E hE => by
    simp only [List.mem_cons, List.not_mem_nil, or_false] at hE
    subst hE
    exact ⟨hD, Nat.lt_succ_self _, hDk⟩⟩ ⟨h2, hb⟩
  · have hg := grownBy_putObj' W D' (.deferred none)
    exact ⟨hI.1.turned hg (fun k e => by cases e; exact ⟨_, hd, rfl⟩), hI.2.grown hg hI.2.size (fun k e => by cases e; exact hD')⟩
  · refine ⟨.int .i64 v, ?_, rfl, hI.2⟩
    have c2 := hI.1.cell 0
    have t2' : tmps[2]?.getD undef = .pointer (some ⟨w.heap.size, 0, none⟩) := by simpa using t2
    simp [results, Tryd.f18, go_sem, c2, t2']
set_option maxRecDepth 100000 in
set_option maxHeartbeats 4000000 in
theorem only_any (w : World) (hT : Tab w) (x : Nat) (hx : x < 18446744073709551616) : Calls Tryd.prog 18 #[.int .u64 x] w fun e w' => e = .returned (.int .i64 (onlyV x)) ∧ Below w.heap.size w w' := by
  refine (callsIn_wide (n := 4)).1 ?_
  refine callsIn_of_wp_marks Tryd.func18 rfl trivial ?_ rfl
  simp only [Tryd.ntmps18, List.size_toArray, List.length_cons, List.length_nil, Nat.reduceAdd, Nat.reduceSub, Array.replicate_succ, Array.replicate_zero, List.push_toArray, List.append_toArray, List.nil_append, List.cons_append]
  have heach := fun W => each_any W x
  gi_wp2_with (refine ⟨trivial, ?_⟩; gi_at_call 20; refine (callsIn_wide.2 (heach _)).mono ?_; rintro e w' ⟨rfl, rfl⟩)
  have b0 : ORun w (-1) (((w.alloc (.cells #[.int .i64 0] 3)).alloc (.cells #[.int .i64 (-1)] 3)).alloc (.cells #[.int .u64 x] 23)) := by
    refine ⟨((Holds.new w _ _).alloc _).alloc _, ?_, ((below_alloc w _).alloc (by simp) _).alloc (by simp; omega) _⟩
    have := (Holds.new (w.alloc (.cells #[.int .i64 0] 3)) 3 #[.int .i64 (-1)]).alloc (.cells #[.int .u64 x] 23)
    rwa [size_alloc] at this
  have cR := (Holds.new ((w.alloc (.cells #[.int .i64 0] 3)).alloc (.cells #[.int .i64 (-1)] 3)) 23 #[.int .u64 x]).cell 0
  rw [size_alloc, size_alloc] at cR
  have sR : (((w.alloc (.cells #[.int .i64 0] 3)).alloc (.cells #[.int .i64 (-1)] 3)).alloc (.cells #[.int .u64 x] 23)).heap.size = w.heap.size + 3 := by simp
  obtain ⟨WR, hWR⟩ : ∃ WR, (((w.alloc (.cells #[.int .i64 0] 3)).alloc (.cells #[.int .i64 (-1)] 3)).alloc (.cells #[.int .u64 x] 23)) = WR := ⟨_, rfl⟩
  rw [hWR] at b0 cR sR
  simp only [hWR]
  have tR : Tab WR := hT.below b0.below hT.2
  clear hWR
  have ht0 := hT.2
  refine range_outer rfl (by omega) (gf := 23) (lb := #[.pointer (some ⟨w.heap.size + 1 + 1, 0, none⟩)]) rfl trivial (enters_of Tryd.func23 (by kernel_rfl) rfl)
    (each1_stops _ (by omega) (w.heap.size + 1 + 1) x hx _ tR cR) keepTab_t (keepTab_b _) keepTab_r (Below.refl _ _) (fun _ => rfl)
    (fun (pre : List (Bit x)) W => ORun w (oneOf (nums pre)) W ∧ pre.length ≤ 1)
    (fun c pre W => c = .ret ∧ OOut w W ∧ 2 ≤ (nums pre).length)
    (fun s W W' row hs hg hr => ⟨hs.1.turned hg (fun k e => (hr k e).2) (fun k e => by have := (hr k e).1; omega), hs.2⟩)
    (fun c s W W' row hs hg hr => ⟨hs.1, hs.2.1.turned hg (fun k e => (hr k e).2) (fun k e => by have := (hr k e).1; omega), hs.2.2⟩)
    ⟨b0, Nat.zero_le _⟩ ?a₁ ?assign ?body ?done ?stop
  case assign =>
    intro l y W K hK
    gi_wp2
    exact hK
  case body =>
    rintro l pre y W hl ⟨rc, hrc⟩ ⟨hrn, hone⟩ hlen
    have c3 := hrn.one.cell 0
    match pre, hone with
    | [], _ =>
      have f3 := hrn.one.soft 0
      have hc := Chg.set (S := fun k => k = w.heap.size + 1) W (w.heap.size + 1) 0 (.int .i64 (y.1 : Int)) rfl
      have hr2 : ORun w (oneOf (nums ([] ++ [y]))) (W.setCell ⟨w.heap.size + 1, 0, none⟩ (.int .i64 (y.1 : Int))) :=
        ⟨hrn.out.far (by omega) _, hrn.one.put 0 _, hrn.below.setCell (p := ⟨w.heap.size + 1, 0, none⟩) (by show w.heap.size ≤ w.heap.size + 1; omega) _⟩
      have HR := Lib.hid hr2
      have HK := Lib.hid (show KeepTab W (W.setCell ⟨w.heap.size + 1, 0, none⟩ (.int .i64 (y.1 : Int))) from keepTab_chg hc (by omega))
      have HO := Lib.hid (show KeepsFrom WR.heap.size W (W.setCell ⟨w.heap.size + 1, 0, none⟩ (.int .i64 (y.1 : Int))) from (KeepsOthers.setCell W ⟨w.heap.size + 1, 0, none⟩ (.int .i64 (y.1 : Int))).from _)
      have c3' : W.cell? ⟨w.heap.size + 1, 0, none⟩ = some (.int .i64 (-1)) := c3
      clear hrn hc hr2 c3
      gi_wp2
      exact ⟨HO.out, HK.out, HR.out, by simp⟩
    | [z], _ =>
      have c3' : W.cell? ⟨w.heap.size + 1, 0, none⟩ = some (.int .i64 (z.1 : Int)) := c3
      have f2 := hrn.out.soft 0
      have c2 : W.cell? ⟨w.heap.size, 0, none⟩ = some (.int .i64 0) := hrn.out.cell 0
      have hge : decide ((0 : Int) ≤ (z.1 : Int)) = true := by simp
      have hc := Chg.set (S := fun k => k = w.heap.size) W w.heap.size 0 (.int .i64 (-1)) rfl
      have HR := Lib.hid (show OOut w (W.setCell ⟨w.heap.size, 0, none⟩ (.int .i64 (-1))) from ⟨hrn.out.put 0 _, hrn.below.setCell (p := ⟨w.heap.size, 0, none⟩) (Nat.le_refl _) _⟩)
      have HO := Lib.hid (show KeepsFrom WR.heap.size W (W.setCell ⟨w.heap.size, 0, none⟩ (.int .i64 (-1))) from (KeepsOthers.setCell W ⟨w.heap.size, 0, none⟩ (.int .i64 (-1))).from _)
      clear hrn hc c3
      gi_wp2
      exact ⟨HO.out, rfl, HR.out, by simp [nums]⟩
  case done =>
    rintro D ys W hD hys ⟨hrn, hone⟩ hDk
    rw [hys] at hrn
    have c3 := hrn.one.cell 0
    have f2 := hrn.out.soft 0
    have c2 : W.cell? ⟨w.heap.size, 0, none⟩ = some (.int .i64 0) := hrn.out.cell 0
    have HP := Lib.hid (show Holds (W.setCell ⟨w.heap.size, 0, none⟩ (.int .i64 (onlyV x))) w.heap.size 3 #[.int .i64 (onlyV x)] from hrn.out.put 0 _)
    have HB := Lib.hid (hrn.below.setCell (p := ⟨w.heap.size, 0, none⟩) (Nat.le_refl _) (.int .i64 (onlyV x)))
    have HD := Lib.hid ((KeepsOthers.setCell W ⟨w.heap.size, 0, none⟩ (.int .i64 (onlyV x))).same D _ hDk rfl)
    have c3' : W.cell? ⟨w.heap.size + 1, 0, none⟩ = some (.int .i64 (onlyV x)) := c3
    clear hrn hDk c3
    gi_wp2
    exact only_leaves HP.out HB.out (by omega) HD.out rfl
  case stop =>
    rintro D c pre W hD hpre ⟨rfl, hout, h2⟩ hDk
    have h3 : onlyV x = -1 := oneOf_two (Nat.le_trans h2 hpre.length_le)
    gi_wp2
    rw [h3]
    exact only_leaves hout.1 hout.2 (by omega) hDk rfl
end Go.Proofs.YtgmkmkheknibmaaDoor
