/- Package elect: new lives, new nodes. -/
import Derived.Test.YtpcbbpcibmpopaaElE
namespace Go.Proofs.Ytpcbbpcibmpopaa
open Go.RowKit
set_option linter.unusedVariables false
set_option linter.unusedSimpArgs false

theorem boot_nil (w : World) (x : Int) : Calls Try.prog 10 #[.pointer none, .int .u16 x] w fun e w' => e = .returned (.tuple #[]) ∧ w = w' := by
  go_enter Try.func10, Try.ntmps10
  go_wp2
  refine bodyPost_ret (results_none rfl _ _ _) rfl ?_
  exact ⟨rfl, rfl⟩
/-- The cells that Boot lays, whatever was there ahead. -/
def bootC (me tmo ign x : Int) (m : Nat) : Array Value := #[.int .i64 me, .int .i64 tmo, .int .i64 ign, .int .u16 x, .int .u16 0, .int .i64 (-1), .int .i64 0, .int .i64 0, .map (some m)]
/-- The world behind nine stores. -/
def nine (w : World) (g : Nat) (me tmo ign x : Int) (m : Nat) : World := (((((((((w.setCell ⟨g, 0, none⟩ (.int .i64 me)).setCell ⟨g, 1, none⟩ (.int .i64 tmo)).setCell ⟨g, 2, none⟩ (.int .i64 ign)).setCell ⟨g, 3, none⟩ (.int .u16 x)).setCell ⟨g, 4, none⟩ (.int .u16 0)).setCell ⟨g, 5, none⟩ (.int .i64 (-1))).setCell ⟨g, 6, none⟩ (.int .i64 0)).setCell ⟨g, 7, none⟩ (.int .i64 0)).setCell ⟨g, 8, none⟩ (.map (some m)))
theorem nine_holds {w : World} {g : Nat} {me tmo ign x : Int} {m : Nat} {c3 c4 c5 c6 c7 c8 : Value} (h : Holds w g 58 #[.int .i64 me, .int .i64 tmo, .int .i64 ign, c3, c4, c5, c6, c7, c8]) : Holds (nine w g me tmo ign x m) g 58 (bootC me tmo ign x m) ∧ w.grownBy (nine w g me tmo ign x m) (some g) ∧ (nine w g me tmo ign x m).heap.size = w.heap.size := by
  have h0 := h.put 0 (.int .i64 me)
  have h1 := h0.put 1 (.int .i64 tmo)
  have h2 := h1.put 2 (.int .i64 ign)
  have h3 := h2.put 3 (.int .u16 x)
  have h4 := h3.put 4 (.int .u16 0)
  have h5 := h4.put 5 (.int .i64 (-1))
  have h6 := h5.put 6 (.int .i64 0)
  have h7 := h6.put 7 (.int .i64 0)
  have h8 := h7.put 8 (.map (some m))
  refine ⟨?_, ?_, by simp [nine, World.setCell]⟩
  · unfold nine bootC
    simpa using h8
  · unfold nine
    exact grown_trans (grown_trans (grown_trans (grown_trans (grown_trans (grown_trans (grown_trans (grown_trans (grown_set w g 0 _) (grown_set _ g 1 _)) (grown_set _ g 2 _)) (grown_set _ g 3 _)) (grown_set _ g 4 _)) (grown_set _ g 5 _)) (grown_set _ g 6 _)) (grown_set _ g 7 _)) (grown_set _ g 8 _)
theorem boot_end {w : World} {g : Nat} {me tmo ign x : Int} {c3 c4 c5 c6 c7 c8 : Value} (h : Holds w g 58 #[.int .i64 me, .int .i64 tmo, .int .i64 ign, c3, c4, c5, c6, c7, c8]) :
    Holds ((nine w g me tmo ign x w.heap.size).alloc (.map #[] 0)).drew g 58 (bootC me tmo ign x w.heap.size) ∧ ((nine w g me tmo ign x w.heap.size).alloc (.map #[] 0)).drew.heap[w.heap.size]? = some (.map #[] 0) ∧ Chg (fun k => k = g) w ((nine w g me tmo ign x w.heap.size).alloc (.map #[] 0)).drew := by
  obtain ⟨h1, g1, hs⟩ := nine_holds (x := x) (m := w.heap.size) h
  refine ⟨(h1.alloc (.map #[] 0)).drewN 1, ?_, ?_⟩
  · have h2 := heap_alloc_new (nine w g me tmo ign x w.heap.size) (.map #[] 0)
    rw [hs] at h2
    exact h2
  · exact (Chg.of_grown g1 (fun k e => by cases e; rfl)).trans (Chg.of_below (fun _ => False) (below_alloc _ (.map #[] 0)).drew) (fun _ _ h => h.elim)
set_option maxHeartbeats 4000000 in
theorem boot_raw (w : World) (g : Nat) (me tmo ign x : Int) (c3 c4 c5 c6 c7 c8 : Value) (h : Holds w g 58 #[.int .i64 me, .int .i64 tmo, .int .i64 ign, c3, c4, c5, c6, c7, c8]) : Calls Try.prog 10 #[.pointer (some ⟨g, 0, none⟩), .int .u16 x] w fun e w' =>
    e = .returned (.tuple #[]) ∧ Holds w' g 58 (bootC me tmo ign x w.heap.size) ∧ w'.heap[w.heap.size]? = some (.map #[] 0) ∧ Chg (fun k => k = g) w w' := by
  have hmm := @run_makeMap Try.prog
  have hgl := h.lt
  have k0 := h.cell 0
  have k1 := h.cell 1
  have k2 := h.cell 2
  have k3 := h.cell 3
  have k4 := h.cell 4
  have k5 := h.cell 5
  have k6 := h.cell 6
  have k7 := h.cell 7
  have k8 := h.cell 8
  have z0 := h.soft 0
  have z1 := h.soft 1
  have z2 := h.soft 2
  have z3 := h.soft 3
  have z4 := h.soft 4
  have z5 := h.soft 5
  have z6 := h.soft 6
  have z7 := h.soft 7
  have z8 := h.soft 8
  have hend := boot_end (x := x) h
  unfold nine at hend
  have HE := Lib.hid hend
  clear h hend
  go_enter Try.func10, Try.ntmps10
  go_upto_region 1 with fail
  go_region
  go_wp2
  go_end0
  exact ⟨rfl, HE.out⟩
theorem KM.empty {w : World} {b : Nat} (h : w.heap[b]? = some (.map #[] 0)) : KM w b 0 fun _ => none := by
  obtain ⟨D, ⟨es, clock, h1, h2⟩, h3⟩ := KM.made w
  have e : some (Obj.map es clock) = some (Obj.map #[] 0) := h1.symm.trans (heap_alloc_new w _)
  cases e
  exact ⟨D, ⟨#[], 0, h, h2⟩, h3⟩
/-- What becomes of a node in a new life. -/
def Booted (B g b : Nat) (s : St) (x : Int) (w : World) (e : Ending) (w' : World) : Prop := e = .returned (.tuple #[]) ∧ Now B g b 0 (bootS s x) w w'
theorem boot_any (w : World) (B g b n : Nat) (s : St) (h : En w B g b n s) (x : Int) (hx : F16 x) : Calls Try.prog 10 #[.pointer (some ⟨g, 0, none⟩), .int .u16 x] w (Booted B g b s x w) := by
  refine (boot_raw w g s.me s.tmo s.ign x _ _ _ _ _ _ h.holds).mono fun e w' ⟨he, h1, h2, h3⟩ => ⟨he, w.heap.size, ⟨⟨h.newer.1, ?_⟩, h1, KM.empty h2, h.inv.reboot hx⟩, h3.mono (fun k _ e => .inl e), .inr (Nat.le_refl _)⟩
  have := h.newer.1
  have := h.lt
  omega
theorem new_no (w : World) (me tmo ign : Int) (h : goodB me tmo ign = false) : Calls Try.prog 9 #[.int .i64 me, .agg #[.int .i64 tmo, .int .i64 ign]] w fun e w' => e = .returned (.tuple #[.pointer none, .int .i64 1]) ∧ Below w.heap.size w w' := by
  have HX := Lib.hid (Box.start w 23 #[.int .i64 tmo, .int .i64 ign])
  have x0 := HX.out.holds.cell 0
  have x1 := HX.out.holds.cell 1
  have hgood := fun W => rules_any W tmo ign
  by_cases h0 : me < 0
  · have d0 : decide (me < 0) = true := decide_eq_true h0
    go_enter Try.func9, Try.ntmps9
    go_wp2
    go_ret2
    exact ⟨rfl, HX.out.below⟩
  · have d0 : decide (me < 0) = false := decide_eq_false h0
    by_cases h1 : 64 ≤ me
    · have d1 : decide (64 ≤ me) = true := decide_eq_true h1
      go_enter Try.func9, Try.ntmps9
      go_wp2
      go_ret2
      exact ⟨rfl, HX.out.below⟩
    · have d1 : decide (64 ≤ me) = false := decide_eq_false h1
      have hr : rulesB tmo ign = false := by
        unfold goodB at h
        unfold rulesB
        have h' := of_decide_eq_false h
        exact decide_eq_false (by omega)
      simp only [hr] at hgood
      clear h hr
      go_enter Try.func9, Try.ntmps9
      go_wp2_with (go_at_call 18; refine (hgood _).mono ?_; rintro e w2 ⟨rfl, hb2⟩; have hx2 := HX.out.next hb2)
      go_ret2
      exact ⟨rfl, hx2.below⟩
theorem new_yes (w : World) (me tmo ign : Int) (h : goodB me tmo ign = true) : Calls Try.prog 9 #[.int .i64 me, .agg #[.int .i64 tmo, .int .i64 ign]] w fun e w' => ∃ g b, e = .returned (.tuple #[.pointer (some ⟨g, 0, none⟩), .int .i64 0]) ∧ En w' w.heap.size g b 0 (newS me tmo ign 0) ∧ Below w.heap.size w w' := by
  have HX := Lib.hid (Box.start w 23 #[.int .i64 tmo, .int .i64 ign])
  have hgood := fun W => rules_any W tmo ign
  have hI := Inv.new h (b := 0) ⟨by decide, by decide⟩
  obtain ⟨m0, m1, t0, t1, i0, i1⟩ := (good_iff me tmo ign).1 h
  have d0 : decide (me < 0) = false := decide_eq_false (by omega)
  have d1 : decide (64 ≤ me) = false := decide_eq_false (by omega)
  have hr : rulesB tmo ign = true := decide_eq_true (by omega)
  simp only [hr] at hgood
  have HI := Lib.hid hI
  clear h hr hI
  go_enter Try.func9, Try.ntmps9
  go_wp2_with (first
    | (go_at_call 18; refine (hgood _).mono ?_; rintro e w2 ⟨rfl, hb2⟩; have hx2 := HX.out.next hb2; have HX2 := Lib.hid hx2; have x0 := hx2.holds.cell 0; have x1 := hx2.holds.cell 1; have hboot := boot_raw _ _ _ _ _ 0 _ _ _ _ _ _ (Holds.new w2 58 #[.int .i64 me, .int .i64 tmo, .int .i64 ign, .int .u16 0, .int .u16 0, .int .i64 0, .int .i64 0, .int .i64 0, .map none]); clear hx2)
    | (go_at_call 10; refine hboot.mono ?_; rintro e w4 ⟨rfl, h1, h2, h3⟩))
  go_ret2
  have hs2 := HX2.out.lt
  have hb4 : Below w.heap.size w w4 := Below.chg (HX2.out.alloc (.cells #[.int .i64 me, .int .i64 tmo, .int .i64 ign, .int .u16 0, .int .u16 0, .int .i64 0, .int .i64 0, .int .i64 0, .map none] 58)).below h3 (by simp; omega) (fun k e => by omega)
  exact ⟨_, _, rfl, ⟨⟨by omega, by simp; omega⟩, h1, KM.empty h2, HI.out⟩, hb4⟩
end Go.Proofs.Ytpcbbpcibmpopaa
