/- Package leap: Step. -/
import Derived.Test.YtcknllkbeadmlaaDoorLpI
namespace Go.Proofs.YtcknllkbeadmlaaDoor
open Go.RowKit Go.Shelf
set_option linter.unusedVariables false
set_option linter.unusedSimpArgs false
attribute [local go_sem] Oper.semAt_some

theorem stepL_none {L : List (Int × Int)} {d : Int} (h : ∀ e ∈ L, ¬ e.1 = d) : stepL L d = 0 := by
  unfold stepL
  rw [List.find?_eq_none.2 (fun e he => by simpa using h e he)]
theorem stepL_hit {L pre : List (Int × Int)} {d y : Int} (hp : pre ++ [(d, y)] <+: L) (h : ∀ e ∈ pre, ¬ e.1 = d) : stepL L d = y := by
  obtain ⟨r, rfl⟩ := hp
  unfold stepL
  rw [List.append_assoc, List.find?_append, List.find?_eq_none.2 (fun e he => by simpa using h e he)]
  simp
theorem stepL_cons (e : Int × Int) (L : List (Int × Int)) (d : Int) : stepL (e :: L) d = if e.1 = d then e.2 else stepL L d := by
  unfold stepL
  rw [List.find?_cons]
  by_cases h : e.1 = d
  · simp [h]
  · simp [h]
/-- Between two leaps that Step looks at. -/
structure QRun (w : World) (d : Int) (pre : List (Int × Int)) (W : World) : Prop where
  none : ∀ e ∈ pre, ¬ e.1 = d
  day : Holds W w.heap.size 3 #[.int .i64 d]
  res : Holds W (w.heap.size + 1) 3 #[.int .i64 0]
  below : Below w.heap.size w W
theorem QRun.turned {w : World} {d : Int} {pre : List (Int × Int)} {W W' : World} {row : Option Nat} (h : QRun w d pre W) (hg : W.grownBy W' row) (hr : NoCells W row) (hb : ∀ k, row = some k → w.heap.size ≤ k) : QRun w d pre W' :=
  ⟨h.none, h.day.turned hg hr, h.res.turned hg hr, h.below.grown hg h.below.size hb⟩
/-- A leap of the day was found. -/
structure QOut (w : World) (d : Int) (L pre : List (Int × Int)) (W : World) : Prop where
  res : Holds W (w.heap.size + 1) 3 #[.int .i64 (stepL pre d)]
  hit : pre <+: L → stepL L d = stepL pre d
  below : Below w.heap.size w W
theorem QOut.turned {w : World} {d : Int} {L pre : List (Int × Int)} {W W' : World} {row : Option Nat} (h : QOut w d L pre W) (hg : W.grownBy W' row) (hr : NoCells W row) (hb : ∀ k, row = some k → w.heap.size ≤ k) : QOut w d L pre W' :=
  ⟨h.res.turned hg hr, h.hit, h.below.grown hg h.below.size hb⟩
theorem step_leaves {n : Nat} {w : World} {W : World} {tmps : Array Value} {v : Int} {D : Nat} (h2 : Holds W (w.heap.size + 1) 3 #[.int .i64 v]) (hb : Below w.heap.size w W)
    (hD : w.heap.size ≤ D) (hDk : W.heap[D]? = some (.deferred (some []))) (t4 : tmps.getD 4 undef = .pointer (some ⟨w.heap.size + 1, 0, none⟩)) :
    LeavesInM Fence.wide n Tryd.prog Tryd.f52 tmps (fun e w' => e = .returned (.int .i64 v) ∧ Below w.heap.size w w') [mark D] .returning W := by
  refine leaves_marks (I := fun W => Holds W (w.heap.size + 1) 3 #[.int .i64 v] ∧ Below w.heap.size w W) (lo := w.heap.size) (hi := D + 1) (fun W D' hD' hI hd => ?_) (fun W hI => ?_) [D] W ⟨by simp, fun E hE => by
    simp only [List.mem_cons, List.not_mem_nil, or_false] at hE
    subst hE
    exact ⟨hD, Nat.lt_succ_self _, hDk⟩⟩ ⟨h2, hb⟩
  · have hg := grownBy_putObj' W D' (.deferred none)
    exact ⟨hI.1.turned hg (fun k e => by cases e; exact ⟨_, hd, rfl⟩), hI.2.grown hg hI.2.size (fun k e => by cases e; exact hD')⟩
  · refine ⟨.int .i64 v, ?_, rfl, hI.2⟩
    have c2 := hI.1.cell 0
    have t4' : tmps[4]?.getD undef = .pointer (some ⟨w.heap.size + 1, 0, none⟩) := by simpa using t4
    simp [results, Tryd.f52, go_sem, c2, t4']
set_option maxRecDepth 100000 in
set_option maxHeartbeats 4000000 in
theorem step_any (w : World) (p : Option Addr) (st en : Int) (L : List (Int × Int)) (d : Int) (h : Src w w.heap.size p st en L) :
    Calls Tryd.prog 52 #[.pointer p, .int .i64 d] w fun e w' => e = .returned (.int .i64 (stepL L d)) ∧ Below w.heap.size w w' := by
  have H := Lib.hid h
  clear h
  refine (callsIn_wide (n := 4)).1 ?_
  refine callsIn_of_wp_marks Tryd.func52 rfl trivial ?_ rfl
  simp only [Tryd.ntmps52, List.size_toArray, List.length_cons, List.length_nil, Nat.reduceAdd, Nat.reduceSub, Array.replicate_succ, Array.replicate_zero, List.push_toArray, List.append_toArray, List.nil_append, List.cons_append]
  gi_wp2_with (refine ⟨trivial, ?_⟩; gi_at_call 63; refine (callsIn_wide.2 (all_any _ _)).mono ?_; rintro e w' ⟨rfl, rfl⟩)
  have sR : (((w.alloc (.cells #[.int .i64 d] 3)).alloc (.cells #[.int .i64 0] 3)).alloc (.cells #[.pointer p] 30)).heap.size = w.heap.size + 3 := by simp
  have b0 : QRun w d [] (((w.alloc (.cells #[.int .i64 d] 3)).alloc (.cells #[.int .i64 0] 3)).alloc (.cells #[.pointer p] 30)) := by
    refine ⟨by simp, ((Holds.new w _ _).alloc _).alloc _, ?_, ((below_alloc w _).alloc (by simp) _).alloc (by simp; omega) _⟩
    have := (Holds.new (w.alloc (.cells #[.int .i64 d] 3)) 3 #[.int .i64 0]).alloc (.cells #[.pointer p] 30)
    rwa [size_alloc] at this
  have cR := (Holds.new ((w.alloc (.cells #[.int .i64 d] 3)).alloc (.cells #[.int .i64 0] 3)) 30 #[.pointer p]).cell 0
  rw [size_alloc, size_alloc] at cR
  have hS := H.out.below b0.below
  obtain ⟨WR, hWR⟩ : ∃ WR, (((w.alloc (.cells #[.int .i64 d] 3)).alloc (.cells #[.int .i64 0] 3)).alloc (.cells #[.pointer p] 30)) = WR := ⟨_, rfl⟩
  rw [hWR] at b0 cR sR hS
  simp only [hWR]
  clear hWR
  refine range_boxed rfl (by omega) (gf := 68) (lb := #[.pointer (some ⟨w.heap.size + 1 + 1, 0, none⟩)]) rfl trivial (enters_of Tryd.func68 (by kernel_rfl) rfl)
    (all1_stops _ (by omega) (w.heap.size + 1 + 1) w.heap.size (w.heap.size + 3) _ st en L WR hS cR (by omega)) keptO_t (fun W l o o' _ h hc hw => keptO_b W l o o' h hc hw) (fun _ _ h => keptO_below h) (Below.refl _ _) (fun _ => rfl)
    (fun (pre : List (Int × Int)) W => QRun w d pre W)
    (fun c pre W => c = .ret ∧ QOut w d L pre W)
    (fun s W W' row hs hg hr => hs.turned hg (fun k e => (hr k e).2) (fun k e => by have := (hr k e).1; omega))
    (fun c s W W' row hs hg hr => ⟨hs.1, hs.2.turned hg (fun k e => (hr k e).2) (fun k e => by have := (hr k e).1; omega)⟩)
    b0 63 (fun x => #[.int .i64 x.1, .int .i64 x.2]) ?a₁ ?assign ?body ?done ?stop
  case assign =>
    intro l y b W K hb hK
    simp only [lpA]
    have HB := Lib.hid hb
    clear hb
    gi_wp2
    simp only [HB.out]
    exact hK
  case body =>
    rintro l pre y q W hl ⟨rc, hrc⟩ hrn he hlen
    obtain ⟨x, y⟩ := y
    dsimp only at he ⊢
    have c0 := hrn.day.cell 0
    have c1 := hrn.res.cell 0
    have f1 := hrn.res.soft 0
    have e0 := he.cell 0
    have e1' := he.cell 1
    by_cases hx : x = d
    · subst hx
      have hs : stepL (pre ++ [(x, y)]) x = y := stepL_hit (List.prefix_refl _) hrn.none
      have hch := Chg.set (S := fun k => k = w.heap.size + 1) W (w.heap.size + 1) 0 (.int .i64 y) rfl
      have HR := Lib.hid (show QOut w x L (pre ++ [(x, y)]) (W.setCell ⟨w.heap.size + 1, 0, none⟩ (.int .i64 y)) from
        ⟨by rw [hs]; exact hrn.res.put 0 _, fun hp => by rw [hs]; exact stepL_hit hp hrn.none, hrn.below.setCell (p := ⟨w.heap.size + 1, 0, none⟩) (by dsimp only; omega) _⟩)
      have HO := Lib.hid (show KeepsFrom WR.heap.size W _ from (others_of_chg hch (fun k e => by subst e; exact ⟨_, _, _, hrn.res⟩)).from _)
      clear hrn hch hs he
      gi_wp2
      exact ⟨HO.out, rfl, HR.out⟩
    · have hb := beq_no hx
      have HR := Lib.hid (show QRun w d (pre ++ [(x, y)]) W from ⟨fun e he => by
        rcases List.mem_append.1 he with h | h
        · exact hrn.none e h
        · simp only [List.mem_singleton] at h
          subst h
          exact hx, hrn.day, hrn.res, hrn.below⟩)
      have HK := Lib.hid (keptO_below (a := w.heap.size) (n := w.heap.size + 3) (Below.refl W.heap.size W))
      have HO := Lib.hid (show KeepsFrom WR.heap.size W W from (others_of_below (Below.refl W.heap.size W)).from _)
      clear hrn he
      gi_wp2
      exact ⟨HO.out, HK.out, HR.out⟩
  case done =>
    rintro D ys W hD rfl hrn hDk
    have c1 := hrn.res.cell 0
    have f1 := hrn.res.soft 0
    have HV := Lib.hid (stepL_none hrn.none)
    have HP := Lib.hid (show Holds (W.setCell ⟨w.heap.size + 1, 0, none⟩ (.int .i64 0)) (w.heap.size + 1) 3 #[.int .i64 (stepL ys d)] by rw [HV.out]; exact hrn.res.put 0 _)
    have HB := Lib.hid (hrn.below.setCell (p := ⟨w.heap.size + 1, 0, none⟩) (by show w.heap.size ≤ w.heap.size + 1; omega) (.int .i64 0))
    have HD := Lib.hid ((KeepsOthers.setCell W ⟨w.heap.size + 1, 0, none⟩ (.int .i64 0)).same D _ hDk rfl)
    clear hrn hDk
    gi_wp2
    exact step_leaves HP.out HB.out (by omega) HD.out rfl
  case stop =>
    rintro D c pre W hD hpre ⟨rfl, hout⟩ hDk
    have hs := hout.hit hpre
    have HP := Lib.hid (show Holds W (w.heap.size + 1) 3 #[.int .i64 (stepL L d)] by rw [hs]; exact hout.res)
    have HB := Lib.hid hout.below
    clear hout hs
    gi_wp2
    exact step_leaves HP.out HB.out (by omega) hDk rfl
end Go.Proofs.YtcknllkbeadmlaaDoor
