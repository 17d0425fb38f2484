/- Wide of nil. -/
import Derived.Test.YtfekblikiemogaaDoorLkW
namespace Go.Proofs.YtfekblikiemogaaDoor
open Go.RowKit Go.Shelf
set_option linter.unusedVariables false
set_option linter.unusedSimpArgs false
attribute [local go_sem] Oper.semAt_some

/-- Between two steps of Wide, of nil. -/
structure ZRun (w : World) (b1 b2 b3 b4 : Nat) (W : World) : Prop where
  set : Holds W b1 30 #[.int .u64 0]
  num : Holds W b2 3 #[.int .i64 0]
  ok : Holds W b3 4 #[.bool false]
  wide : Holds W b4 3 #[.int .i64 0]
  tab : Tab W
  below : Below w.heap.size w W
theorem ZRun.turned {w : World} {b1 b2 b3 b4 : Nat} {W W' : World} {row : Option Nat} (h : ZRun w b1 b2 b3 b4 W) (hg : W.grownBy W' row) (hr : NoCells W row) (hb : ∀ k, row = some k → w.heap.size ≤ k) : ZRun w b1 b2 b3 b4 W' :=
  ⟨h.set.turned hg hr, h.num.turned hg hr, h.ok.turned hg hr, h.wide.turned hg hr, h.tab.turned hg hr, h.below.grown hg h.below.size hb⟩
theorem ZRun.below' {w : World} {b1 b2 b3 b4 : Nat} {W W' : World} (h : ZRun w b1 b2 b3 b4 W) (hb : Below W.heap.size W W') : ZRun w b1 b2 b3 b4 W' :=
  ⟨h.set.below hb h.set.lt, h.num.below hb h.num.lt, h.ok.below hb h.ok.lt, h.wide.below hb h.wide.lt, h.tab.below hb h.tab.2, h.below.trans (hb.mono h.below.size)⟩
set_option maxRecDepth 100000 in
set_option maxHeartbeats 4000000 in
theorem wide_nil0 (w : World) (hT : Tab w) : Calls Tryd.prog 11 #[.pointer none, .int .u64 1] w (GaveWide [] 0 w) := by
  refine (callsIn_wide (n := 4)).1 ?_
  refine callsIn_of_wp_marks Tryd.func11 rfl trivial ?_ rfl
  simp only [Tryd.ntmps11, List.size_toArray, List.length_cons, List.length_nil, Nat.reduceAdd, Nat.reduceSub, Array.replicate_succ, Array.replicate_zero, List.push_toArray, List.append_toArray, List.nil_append, List.cons_append]
  obtain ⟨w0, hw0⟩ : ∃ w0, (((w.alloc (.cells #[.pointer none] 24)).alloc (.cells #[.int .u64 1] 30)).alloc (.cells #[.int .i64 0] 3)).alloc (.cells #[.bool false] 4) = w0 := ⟨_, rfl⟩
  have hb0 : Below w.heap.size w w0 := by rw [← hw0]; exact (((below_alloc w _).alloc (by simp) _).alloc (by simp; omega) _).alloc (by simp; omega) _
  have k0 : Holds w0 w.heap.size 24 #[.pointer none] := by rw [← hw0]; exact (((Holds.new w _ _).alloc _).alloc _).alloc _
  have k1 : Holds w0 (w.heap.size + 1) 30 #[.int .u64 1] := by
    have := ((Holds.new (w.alloc (.cells #[.pointer none] 24)) 30 #[.int .u64 1]).alloc (.cells #[.int .i64 0] 3)).alloc (.cells #[.bool false] 4)
    rw [size_alloc, hw0] at this
    exact this
  have k2 : Holds w0 (w.heap.size + 2) 3 #[.int .i64 0] := by
    have := (Holds.new ((w.alloc (.cells #[.pointer none] 24)).alloc (.cells #[.int .u64 1] 30)) 3 #[.int .i64 0]).alloc (.cells #[.bool false] 4)
    rw [size_alloc, size_alloc, hw0] at this
    exact this
  have k3 : Holds w0 (w.heap.size + 3) 4 #[.bool false] := by
    have := Holds.new (((w.alloc (.cells #[.pointer none] 24)).alloc (.cells #[.int .u64 1] 30)).alloc (.cells #[.int .i64 0] 3)) 4 #[.bool false]
    rw [size_alloc, size_alloc, size_alloc, hw0] at this
    exact this
  have hs0 : w0.heap.size = w.heap.size + 1 + 1 + 1 + 1 := by rw [← hw0]; simp
  obtain ⟨b1, hb1⟩ : ∃ b1, w.heap.size + 1 = b1 := ⟨_, rfl⟩
  obtain ⟨b2, hb2⟩ : ∃ b2, b1 + 1 = b2 := ⟨_, rfl⟩
  obtain ⟨b3, hb3⟩ : ∃ b3, b2 + 1 = b3 := ⟨_, rfl⟩
  obtain ⟨b4, hb4⟩ : ∃ b4, b3 + 1 = b4 := ⟨_, rfl⟩
  have k1 : Holds w0 b1 30 #[.int .u64 1] := by rw [← hb1]; exact k1
  have k2 : Holds w0 b2 3 #[.int .i64 0] := by rw [← hb2, ← hb1]; exact k2
  have k3 : Holds w0 b3 4 #[.bool false] := by rw [← hb3, ← hb2, ← hb1]; exact k3
  have hord : w.heap.size < b1 ∧ b1 < b2 ∧ b2 < b3 ∧ b3 < b4 := by omega
  simp only [hb1, hb2, hb3, hb4] at hs0
  have hall := all_nil w0.drew
  have hand : bits .and .u64 1 0 = 0 := by decide +kernel
  have c0 := k0.cell 0
  have c1 := k1.cell 0
  have d0 : w0.drew.cell? ⟨w.heap.size, 0, none⟩ = some (.pointer none) := k0.cell 0
  have d1 : w0.drew.cell? ⟨b1, 0, none⟩ = some (.int .u64 1) := k1.cell 0
  have f1 : w0.drew.frozen? ⟨b1, 0, none⟩ = false := k1.soft 0
  have ht0 := hT.2
  have hrun : ZRun w b1 b2 b3 b4 ((w0.setCell ⟨b1, 0, none⟩ (.int .u64 0)).alloc (.cells #[.int .i64 0] 3)) := by
    have hc := Chg.set (S := fun k => k = b1) w0 b1 0 (.int .u64 0) rfl
    have hw5 := Holds.new (w0.setCell ⟨b1, 0, none⟩ (.int .u64 0)) 3 #[.int .i64 0]
    rw [show (w0.setCell ⟨b1, 0, none⟩ (.int .u64 0)).heap.size = b4 from by rw [← hs0]; simp [World.setCell]] at hw5
    refine ⟨(k1.put 0 _).alloc _, (k2.far (by omega) _).alloc _, (k3.far (by omega) _).alloc _, hw5, ?_, ?_⟩
    · have t1 : Tab w0 := hT.below hb0 hT.2
      have t2 := (keepTab_chg hc (by omega)).2 t1
      exact t2.below (below_alloc _ _) t2.2
    · exact (hb0.setCell (p := ⟨b1, 0, none⟩) (by show w.heap.size ≤ b1; omega) _).alloc (by simp [World.setCell]; omega) _
  have c5 := hrun.set.cell 0
  have hrun : ZRun w b1 b2 b3 b4 ((w0.setCell ⟨b1, 0, none⟩ (.int .u64 0)).alloc (.cells #[.int .i64 0] 3)).drew := hrun.below' (below_drewN (Below.refl _ _) 1)
  have HRun0 := Lib.hid hrun
  have HS0 := Lib.hid (show w0.drew.cell? ⟨b1, 0, none⟩ = some (.int .u64 1) ∧ w0.drew.cell? ⟨w.heap.size, 0, none⟩ = some (.pointer none) from ⟨d1, d0⟩)
  have heach : ∀ W : World, Calls Tryd.prog 25 #[.int .u64 0] W fun e w' => e = .returned (.func (.func 28) #[] #[.pointer (some ⟨W.heap.size, 0, none⟩)]) ∧ w' = W.alloc (.cells #[.int .u64 0] 30) := fun W => each_any W 0
  have HHd := Lib.hid hord
  clear hrun hb0 k0 k1 k2 k3 hT hord
  gi_wp2
  refine wpIn_normal (wpIn_wide.2 ?_)
  refine region_turns (fun (w' : World) => w'.cell? ⟨b1, 0, none⟩ = some (.int .u64 1) ∧ w'.cell? ⟨w.heap.size, 0, none⟩ = some (.pointer none)) (fun j => decide (4 ≤ j)) (by kernel_rfl) (HS0.out) (fun hS => ?_)
  refine Turns.take hS 0 _ rfl (by kernel_rfl) (by kernel_rfl) (by kernel_rfl) (by kernel_rfl) (fun _ _ _ h => h) (by rfl) (fun w' hS' => by (try dsimp only at hS'); go_split_ands; go_simp; (try with_reducible rfl)) ?_
  simp only [Act.put, List.getElem_toArray, List.getElem_cons_succ, List.getElem_cons_zero, List.setIfInBounds_toArray, List.set_cons_zero, List.set_cons_succ]
  refine Turns.take hS 1 _ rfl (by kernel_rfl) (by kernel_rfl) (by kernel_rfl) (by kernel_rfl) (fun _ _ _ h => h) (by rfl) (fun w' hS' => by (try dsimp only at hS'); go_split_ands; go_simp; (try with_reducible rfl)) ?_
  simp only [Act.put, List.getElem_toArray, List.getElem_cons_succ, List.getElem_cons_zero, List.setIfInBounds_toArray, List.set_cons_zero, List.set_cons_succ]
  refine Turns.next 2 rfl (by kernel_rfl) (by rfl) (fun K hK => ?_)
  go_simp
  go_at_call 24
  refine hall.mono ?_
  rintro e w' ⟨rfl, hw⟩
  subst w'
  refine hK.out _ _ (show (fun (w' : World) => w'.cell? ⟨b1, 0, none⟩ = some (.int .u64 1) ∧ w'.cell? ⟨w.heap.size, 0, none⟩ = some (.pointer none)) _ from HS0.out) ?_
  clear hK K hS
  have hS := (show (fun (w' : World) => w'.cell? ⟨b1, 0, none⟩ = some (.int .u64 1) ∧ w'.cell? ⟨w.heap.size, 0, none⟩ = some (.pointer none)) _ from HS0.out)
  refine Turns.take hS 3 _ rfl (by kernel_rfl) (by kernel_rfl) (by kernel_rfl) (by kernel_rfl) (fun _ _ _ h => h) (by rfl) (fun w' hS' => by (try dsimp only at hS'); go_split_ands; go_simp; (try with_reducible rfl)) ?_
  simp only [Act.put, List.getElem_toArray, List.getElem_cons_succ, List.getElem_cons_zero, List.setIfInBounds_toArray, List.set_cons_zero, List.set_cons_succ]
  refine Turns.rest (late_done (by kernel_rfl)) ?_
  refine any_tail 4 (by rfl) (by kernel_rfl) ?_
  simp only [List.drop_succ_cons, List.drop_zero]
  clear hS
  go_wp2
  gi_wp2_with (refine ⟨trivial, ?_⟩; gi_at_call 25; refine (callsIn_wide.2 (heach _)).mono ?_; rintro e w' ⟨rfl, rfl⟩)
  have hrR : ZRun w b1 b2 b3 b4 (((w0.setCell ⟨b1, 0, none⟩ (.int .u64 0)).alloc (.cells #[.int .i64 0] 3)).alloc (.cells #[.int .u64 0] 30)).drew := HRun0.out.below' (below_alloc _ _)
  have hsz : ((w0.setCell ⟨b1, 0, none⟩ (.int .u64 0)).alloc (.cells #[.int .i64 0] 3)).heap.size = b4 + 1 := by rw [size_alloc, ← hs0]; simp [World.setCell]
  have hcR := (Holds.new ((w0.setCell ⟨b1, 0, none⟩ (.int .u64 0)).alloc (.cells #[.int .i64 0] 3)) 30 #[.int .u64 0]).cell 0
  rw [hsz] at hcR
  have hsR : (((w0.setCell ⟨b1, 0, none⟩ (.int .u64 0)).alloc (.cells #[.int .i64 0] 3)).alloc (.cells #[.int .u64 0] 30)).drew.heap.size = b4 + 2 := by
    show (((w0.setCell ⟨b1, 0, none⟩ (.int .u64 0)).alloc (.cells #[.int .i64 0] 3)).alloc (.cells #[.int .u64 0] 30)).heap.size = b4 + 2
    rw [size_alloc, hsz]
  have hcR : (((w0.setCell ⟨b1, 0, none⟩ (.int .u64 0)).alloc (.cells #[.int .i64 0] 3)).alloc (.cells #[.int .u64 0] 30)).drew.cell? ⟨b4 + 1, 0, none⟩ = some (.int .u64 ((0 : Nat) : Int)) := hcR
  obtain ⟨WR, hWR⟩ : ∃ WR, (((w0.setCell ⟨b1, 0, none⟩ (.int .u64 0)).alloc (.cells #[.int .i64 0] 3)).alloc (.cells #[.int .u64 0] 30)).drew = WR := ⟨_, rfl⟩
  rw [hWR] at hrR hsR hcR
  simp only [hWR]
  have hord := HHd.out
  clear hWR c0 c1 c5 d0 d1 f1 hall hsz hw0 hs0
  refine range_outer rfl (by omega) (gf := 28) (lb := #[.pointer (some ⟨b4 + 1, 0, none⟩)]) rfl trivial (enters_of Tryd.func28 (by kernel_rfl) rfl)
    (each1_stops _ (by omega) (b4 + 1) 0 (by decide) _ hrR.tab hcR) keepTab_t (keepTab_b _) keepTab_r (Below.refl _ _) (fun _ => rfl)
    (fun (pre : List (Bit 0)) W => ZRun w b1 b2 b3 b4 W)
    (fun c pre W => False)
    (fun s W W' row hs hg hr => hs.turned hg (fun k e => (hr k e).2) (fun k e => by have := (hr k e).1; omega))
    (fun c s W W' row hs hg hr => hs)
    hrR ?a₁ ?assign ?body ?done ?stop
  case assign =>
    intro l x W K hK
    gi_wp2
    exact hK
  case body =>
    rintro l pre x W _ _ _ hlen
    rw [bits_zero] at hlen
    exact absurd hlen (Nat.not_lt_zero _)
  case done =>
    rintro D ys W hD hys hrn hDk
    have c4 := hrn.wide.cell 0
    have c3 := hrn.set.cell 0
    have x2 := hrn.num.cell 0
    have x3 := hrn.ok.cell 0
    have y2 := hrn.num.soft 0
    have y3 := hrn.ok.soft 0
    have p2 : Holds (((W.setCell ⟨b2, 0, none⟩ (.int .i64 0)).setCell ⟨b3, 0, none⟩ (.bool false)).drew) b2 3 #[.int .i64 0] := ((hrn.num.put 0 _).far (by omega) _).drewN 1
    have p3 : Holds (((W.setCell ⟨b2, 0, none⟩ (.int .i64 0)).setCell ⟨b3, 0, none⟩ (.bool false)).drew) b3 4 #[.bool false] := ((hrn.ok.far (by omega) _).put 0 _).drewN 1
    have pb : Below w.heap.size w (((W.setCell ⟨b2, 0, none⟩ (.int .i64 0)).setCell ⟨b3, 0, none⟩ (.bool false)).drew) := ((hrn.below.setCell (p := ⟨b2, 0, none⟩) (by show w.heap.size ≤ b2; omega) _).setCell (p := ⟨b3, 0, none⟩) (by show w.heap.size ≤ b3; omega) _).drew
    have pk : (((W.setCell ⟨b2, 0, none⟩ (.int .i64 0)).setCell ⟨b3, 0, none⟩ (.bool false)).drew).heap[D]? = some (.deferred (some [])) :=
      ((KeepsOthers.setCell W ⟨b2, 0, none⟩ (.int .i64 0)).trans (KeepsOthers.setCell _ ⟨b3, 0, none⟩ (.bool false))).same D _ hDk rfl
    have HP2 := Lib.hid p2
    have HP3 := Lib.hid p3
    have HPB := Lib.hid pb
    have HPK := Lib.hid pk
    have hw : WideIs [] 0 0 false := .inr ⟨rfl, rfl, .inl (by simp)⟩
    have HW := Lib.hid hw
    clear hrn hDk p2 p3 pb pk hw
    gi_wp2
    gi_region
    gi_wp2
    exact wide_leaves HP2.out HP3.out HPB.out HW.out (by omega) HPK.out rfl rfl
  case stop =>
    rintro D c pre W hD _ h hDk
    exact h.elim
theorem wide_nil (w : World) (hT : Tab w) : Calls Tryd.prog 11 #[.pointer none, .int .u64 1] w fun e w' => e = .returned (.tuple #[.int .i64 0, .bool false]) ∧ Below w.heap.size w w' :=
  (wide_nil0 w hT).mono fun e w' ⟨v, ok, he, hw, hb⟩ => by
    rcases hw with ⟨_, _, _, ⟨i, hi⟩, _⟩ | ⟨rfl, rfl, _⟩
    · simp at hi
    · exact ⟨he, hb⟩
end Go.Proofs.YtfekblikiemogaaDoor
