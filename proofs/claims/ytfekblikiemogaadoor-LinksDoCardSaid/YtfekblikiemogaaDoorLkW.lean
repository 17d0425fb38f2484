/- Package links: Wide. -/
import Derived.Test.YtfekblikiemogaaDoorLkV
import Derived.Test.YtfekblikiemogaaDoorLkI
import Derived.Test.YtfekblikiemogaaDoorRange
namespace Go.Proofs.YtfekblikiemogaaDoor
open Go.RowKit Go.Shelf
set_option linter.unusedVariables false
set_option linter.unusedSimpArgs false
attribute [local go_sem] Oper.semAt_some

theorem keepTab_r (W : World) : KeepTab W W := ⟨Nat.le_refl _, id⟩
/-- Between two steps of Wide. -/
structure WRun (w : World) (b1 b2 b3 b4 B g r : Nat) (M : List Nat) (O v : Nat) (W : World) : Prop where
  box : Holds W w.heap.size 24 #[.pointer (some ⟨g, 0, none⟩)]
  set : Holds W b1 30 #[.int .u64 O]
  num : Holds W b2 3 #[.int .i64 0]
  ok : Holds W b3 4 #[.bool false]
  wide : Holds W b4 3 #[.int .i64 v]
  lk : Lk W B g r M
  tab : Tab W
  below : Below w.heap.size w W
section
variable {w : World} {b1 b2 b3 b4 B g r : Nat} {M : List Nat} {O v : Nat} {W W' : World}
theorem WRun.turned {row : Option Nat} (h : WRun w b1 b2 b3 b4 B g r M O v W) (hg : W.grownBy W' row) (hr : NoCells W row) (hb : ∀ k, row = some k → w.heap.size ≤ k) : WRun w b1 b2 b3 b4 B g r M O v W' :=
  ⟨h.box.turned hg hr, h.set.turned hg hr, h.num.turned hg hr, h.ok.turned hg hr, h.wide.turned hg hr, h.lk.turned hg hr, h.tab.turned hg hr, h.below.grown hg h.below.size hb⟩
theorem WRun.below' (h : WRun w b1 b2 b3 b4 B g r M O v W) (hb : Below W.heap.size W W') : WRun w b1 b2 b3 b4 B g r M O v W' :=
  ⟨h.box.below hb h.box.lt, h.set.below hb h.set.lt, h.num.below hb h.num.lt, h.ok.below hb h.ok.lt, h.wide.below hb h.wide.lt, h.lk.below hb, h.tab.below hb h.tab.2, h.below.trans (hb.mono h.below.size)⟩
theorem WRun.setw (h : WRun w b1 b2 b3 b4 B g r M O v W) (h0 : 0 < w.heap.size) (hg : g < w.heap.size) (hr : r < w.heap.size) (ho : w.heap.size < b1 ∧ b1 < b2 ∧ b2 < b3 ∧ b3 < b4) (v' : Nat) : WRun w b1 b2 b3 b4 B g r M O v' (W.setCell ⟨b4, 0, none⟩ (.int .i64 v')) := by
  have hc := Chg.set (S := fun k => k = b4) W b4 0 (.int .i64 v') rfl
  exact ⟨h.box.far (by omega) _, h.set.far (by omega) _, h.num.far (by omega) _, h.ok.far (by omega) _, h.wide.put 0 _, h.lk.chg hc (by omega) (by omega), (keepTab_chg hc (by omega)).2 h.tab, h.below.setCell (p := ⟨b4, 0, none⟩) (by show w.heap.size ≤ b4; omega) _⟩
end
/-- What Wide gave. -/
def GaveWide (M : List Nat) (O : Nat) (w : World) (e : Ending) (w' : World) : Prop := ∃ v ok, e = .returned (.tuple #[.int .i64 v, .bool ok]) ∧ WideIs M O v ok ∧ Below w.heap.size w w'
/-- Where Wide was left at once. -/
def WOut (w : World) (b2 b3 : Nat) (M : List Nat) (O : Nat) (W : World) : Prop :=
  Holds W b2 3 #[.int .i64 0] ∧ Holds W b3 4 #[.bool false] ∧ Below w.heap.size w W ∧ WideIs M O 0 false

theorem WOut.turned {w : World} {b2 b3 : Nat} {M : List Nat} {O : Nat} {W W' : World} {row : Option Nat} (h : WOut w b2 b3 M O W) (hg : W.grownBy W' row) (hr : NoCells W row) (hb : ∀ k, row = some k → w.heap.size ≤ k) : WOut w b2 b3 M O W' :=
  ⟨h.1.turned hg hr, h.2.1.turned hg hr, h.2.2.1.grown hg h.2.2.1.size hb, h.2.2.2⟩
theorem keepsFrom_turned {n0 B : Nat} {W W' W'' : World} {row : Option Nat} (h : KeepsFrom B W W') (hg : W'.grownBy W'' row) (hr : ∀ k, row = some k → W.heap.size ≤ k) : KeepsFrom B W W'' :=
  ⟨Nat.le_trans h.size hg.size, fun k o hB hk ho => (hg.block k (Array.getElem?_eq_some_iff.1 (h.same k o hB hk ho)).1 (fun e => by
    have h1 := hr k e.symm
    have h2 := (Array.getElem?_eq_some_iff.1 hk).1
    omega)).trans (h.same k o hB hk ho)⟩
theorem wide_leaves {n : Nat} {w : World} {b2 b3 : Nat} {M : List Nat} {O : Nat} {W : World} {tmps : Array Value} {v : Int} {ok : Bool} {D : Nat} (h2 : Holds W b2 3 #[.int .i64 v]) (h3 : Holds W b3 4 #[.bool ok]) (hb : Below w.heap.size w W) (hw : WideIs M O v ok)
    (hD : w.heap.size ≤ D) (hDk : W.heap[D]? = some (.deferred (some []))) (t4 : tmps.getD 4 undef = .pointer (some ⟨b2, 0, none⟩)) (t5 : tmps.getD 5 undef = .pointer (some ⟨b3, 0, none⟩)) :
    LeavesInM Fence.wide n Tryd.prog Tryd.f11 tmps (GaveWide M O w) [mark D] .returning W := by
  refine leaves_marks (I := fun W => Holds W b2 3 #[.int .i64 v] ∧ Holds W b3 4 #[.bool ok] ∧ Below w.heap.size w W) (lo := w.heap.size) (hi := D + 1) (fun W D' hD' hI hd => ?_) (fun W hI => ?_) [D] W ⟨by simp, fun E hE => by
    simp only [List.mem_cons, List.not_mem_nil, or_false] at hE
    subst hE
    exact ⟨hD, Nat.lt_succ_self _, hDk⟩⟩ ⟨h2, h3, hb⟩
  · have hg := grownBy_putObj' W D' (.deferred none)
    exact ⟨hI.1.turned hg (fun k e => by cases e; exact ⟨_, hd, rfl⟩), hI.2.1.turned hg (fun k e => by cases e; exact ⟨_, hd, rfl⟩), hI.2.2.grown hg hI.2.2.size (fun k e => by cases e; exact hD')⟩
  · refine ⟨.tuple #[.int .i64 v, .bool ok], ?_, v, ok, rfl, hw, hI.2.2⟩
    have c2 := hI.1.cell 0
    have c3 := hI.2.1.cell 0
    have t4' : tmps[4]?.getD undef = .pointer (some ⟨b2, 0, none⟩) := by simpa using t4
    have t5' : tmps[5]?.getD undef = .pointer (some ⟨b3, 0, none⟩) := by simpa using t5
    simp [results, Tryd.f11, go_sem, c2, c3, t4', t5']
set_option maxRecDepth 100000 in
set_option maxHeartbeats 4000000 in
theorem wide_in (w : World) (B g r : Nat) (M : List Nat) (h : Lk w B g r M) (hN : Net M) (hT : Tab w) (on : Nat) (hon : on < 18446744073709551616) : Calls Tryd.prog 11 #[.pointer (some ⟨g, 0, none⟩), .int .u64 on] w (GaveWide M (on &&& (2 ^ M.length - 1)) w) := by
  refine (callsIn_wide (n := 4)).1 ?_
  refine callsIn_of_wp_marks Tryd.func11 rfl trivial ?_ rfl
  simp only [Tryd.ntmps11, List.size_toArray, List.length_cons, List.length_nil, Nat.reduceAdd, Nat.reduceSub, Array.replicate_succ, Array.replicate_zero, List.push_toArray, List.append_toArray, List.nil_append, List.cons_append]
  obtain ⟨w0, hw0⟩ : ∃ w0, (((w.alloc (.cells #[.pointer (some ⟨g, 0, none⟩)] 24)).alloc (.cells #[.int .u64 on] 30)).alloc (.cells #[.int .i64 0] 3)).alloc (.cells #[.bool false] 4) = w0 := ⟨_, rfl⟩
  have hb0 : Below w.heap.size w w0 := by rw [← hw0]; exact (((below_alloc w _).alloc (by simp) _).alloc (by simp; omega) _).alloc (by simp; omega) _
  have k0 : Holds w0 w.heap.size 24 #[.pointer (some ⟨g, 0, none⟩)] := by rw [← hw0]; exact (((Holds.new w _ _).alloc _).alloc _).alloc _
  have k1 : Holds w0 (w.heap.size + 1) 30 #[.int .u64 on] := by
    have := ((Holds.new (w.alloc (.cells #[.pointer (some ⟨g, 0, none⟩)] 24)) 30 #[.int .u64 on]).alloc (.cells #[.int .i64 0] 3)).alloc (.cells #[.bool false] 4)
    rw [size_alloc, hw0] at this
    exact this
  have k2 : Holds w0 (w.heap.size + 2) 3 #[.int .i64 0] := by
    have := (Holds.new ((w.alloc (.cells #[.pointer (some ⟨g, 0, none⟩)] 24)).alloc (.cells #[.int .u64 on] 30)) 3 #[.int .i64 0]).alloc (.cells #[.bool false] 4)
    rw [size_alloc, size_alloc, hw0] at this
    exact this
  have k3 : Holds w0 (w.heap.size + 3) 4 #[.bool false] := by
    have := Holds.new (((w.alloc (.cells #[.pointer (some ⟨g, 0, none⟩)] 24)).alloc (.cells #[.int .u64 on] 30)).alloc (.cells #[.int .i64 0] 3)) 4 #[.bool false]
    rw [size_alloc, size_alloc, size_alloc, hw0] at this
    exact this
  have hs0 : w0.heap.size = w.heap.size + 1 + 1 + 1 + 1 := by rw [← hw0]; simp
  obtain ⟨b1, hb1⟩ : ∃ b1, w.heap.size + 1 = b1 := ⟨_, rfl⟩
  obtain ⟨b2, hb2⟩ : ∃ b2, b1 + 1 = b2 := ⟨_, rfl⟩
  obtain ⟨b3, hb3⟩ : ∃ b3, b2 + 1 = b3 := ⟨_, rfl⟩
  obtain ⟨b4, hb4⟩ : ∃ b4, b3 + 1 = b4 := ⟨_, rfl⟩
  have k1 : Holds w0 b1 30 #[.int .u64 on] := by rw [← hb1]; exact k1
  have k2 : Holds w0 b2 3 #[.int .i64 0] := by rw [← hb2, ← hb1]; exact k2
  have k3 : Holds w0 b3 4 #[.bool false] := by rw [← hb3, ← hb2, ← hb1]; exact k3
  have hord : w.heap.size < b1 ∧ b1 < b2 ∧ b2 < b3 ∧ b3 < b4 := by omega
  simp only [hb1, hb2, hb3, hb4] at hs0
  have L0 := h.below hb0
  have hall := all_lk w0.drew B g r M L0.drew
  have h2 : 2 ^ M.length ≤ 2 ^ 64 := Nat.pow_le_pow_right (by decide) h.le
  have hand := u64_and_nat on (2 ^ M.length - 1) hon (by omega)
  obtain ⟨A, hA⟩ : ∃ A, 2 ^ M.length - 1 = A := ⟨_, rfl⟩
  rw [hA] at hall hand ⊢
  obtain ⟨O, hO⟩ : ∃ O, on &&& A = O := ⟨_, rfl⟩
  rw [hO] at hand ⊢
  have hOfit : O < 18446744073709551616 := by rw [← hO]; exact Nat.lt_of_le_of_lt Nat.and_le_left hon
  have hOn : ∀ i, O.testBit i = true → i < M.length := fun i hi => by
    rw [← hO, Nat.testBit_and, ← hA, all_bit] at hi
    simp at hi
    exact hi.2
  have c0 := k0.cell 0
  have c1 := k1.cell 0
  have d0 : w0.drew.cell? ⟨w.heap.size, 0, none⟩ = some (.pointer (some ⟨g, 0, none⟩)) := k0.cell 0
  have d1 : w0.drew.cell? ⟨b1, 0, none⟩ = some (.int .u64 (on : Int)) := k1.cell 0
  have f1 : w0.drew.frozen? ⟨b1, 0, none⟩ = false := k1.soft 0
  have hglt := h.lt
  have hrlt := h.rlt
  have ht0 := hT.2
  have hrun : WRun w b1 b2 b3 b4 B g r M O 0 ((w0.setCell ⟨b1, 0, none⟩ (.int .u64 (O : Int))).alloc (.cells #[.int .i64 0] 3)) := by
    have hc := Chg.set (S := fun k => k = b1) w0 b1 0 (.int .u64 (O : Int)) rfl
    have hw5 := Holds.new (w0.setCell ⟨b1, 0, none⟩ (.int .u64 (O : Int))) 3 #[.int .i64 0]
    rw [show (w0.setCell ⟨b1, 0, none⟩ (.int .u64 (O : Int))).heap.size = b4 from by rw [← hs0]; simp [World.setCell]] at hw5
    refine ⟨(k0.far (by omega) _).alloc _, (k1.put 0 _).alloc _, (k2.far (by omega) _).alloc _, (k3.far (by omega) _).alloc _, hw5, (L0.chg hc (by omega) (by omega)).below (below_alloc _ _), ?_, ?_⟩
    · have t1 : Tab w0 := hT.below hb0 hT.2
      have t2 := (keepTab_chg hc (by omega)).2 t1
      exact t2.below (below_alloc _ _) t2.2
    · exact (hb0.setCell (p := ⟨b1, 0, none⟩) (by show w.heap.size ≤ b1; omega) _).alloc (by simp [World.setCell]; omega) _
  have c5 := hrun.set.cell 0
  have hrun : WRun w b1 b2 b3 b4 B g r M O 0 ((w0.setCell ⟨b1, 0, none⟩ (.int .u64 (O : Int))).alloc (.cells #[.int .i64 0] 3)).drew := hrun.below' (below_drewN (Below.refl _ _) 1)
  have HRun0 := Lib.hid hrun
  have HOn := Lib.hid hOn
  have HNet := Lib.hid hN
  have HB0 := Lib.hid hb0
  have HS0 := Lib.hid (show w0.drew.cell? ⟨b1, 0, none⟩ = some (.int .u64 (on : Int)) ∧ w0.drew.cell? ⟨w.heap.size, 0, none⟩ = some (.pointer (some ⟨g, 0, none⟩)) from ⟨d1, d0⟩)
  have heach := fun W => each_any W O
  have HHd := Lib.hid hord
  clear hrun hOn hN hb0 k0 k1 k2 k3 L0 h h2 hO hA hT hord
  gi_wp2
  refine wpIn_normal (wpIn_wide.2 ?_)
  refine region_turns (fun (w' : World) => w'.cell? ⟨b1, 0, none⟩ = some (.int .u64 (on : Int)) ∧ w'.cell? ⟨w.heap.size, 0, none⟩ = some (.pointer (some ⟨g, 0, none⟩))) (fun j => decide (4 ≤ j)) (by kernel_rfl) (HS0.out) (fun hS => ?_)
  refine Turns.take hS 0 _ rfl (by kernel_rfl) (by kernel_rfl) (by kernel_rfl) (by kernel_rfl) (fun _ _ _ h => h) (by rfl) (fun w' hS' => by (try dsimp only at hS'); go_split_ands; go_simp; (try with_reducible rfl)) ?_
  simp only [Act.put, List.getElem_toArray, List.getElem_cons_succ, List.getElem_cons_zero, List.setIfInBounds_toArray, List.set_cons_zero, List.set_cons_succ]
  refine Turns.take hS 1 _ rfl (by kernel_rfl) (by kernel_rfl) (by kernel_rfl) (by kernel_rfl) (fun _ _ _ h => h) (by rfl) (fun w' hS' => by (try dsimp only at hS'); go_split_ands; go_simp; (try with_reducible rfl)) ?_
  simp only [Act.put, List.getElem_toArray, List.getElem_cons_succ, List.getElem_cons_zero, List.setIfInBounds_toArray, List.set_cons_zero, List.set_cons_succ]
  refine Turns.next 2 rfl (by kernel_rfl) (by rfl) (fun K hK => ?_)
  go_simp
  go_at_call 24
  refine hall.mono ?_
  rintro e w' ⟨rfl, hw⟩
  subst w'
  refine hK.out _ _ (show (fun (w' : World) => w'.cell? ⟨b1, 0, none⟩ = some (.int .u64 (on : Int)) ∧ w'.cell? ⟨w.heap.size, 0, none⟩ = some (.pointer (some ⟨g, 0, none⟩))) _ from HS0.out) ?_
  clear hK K hS
  have hS := (show (fun (w' : World) => w'.cell? ⟨b1, 0, none⟩ = some (.int .u64 (on : Int)) ∧ w'.cell? ⟨w.heap.size, 0, none⟩ = some (.pointer (some ⟨g, 0, none⟩))) _ from HS0.out)
  refine Turns.take hS 3 _ rfl (by kernel_rfl) (by kernel_rfl) (by kernel_rfl) (by kernel_rfl) (fun _ _ _ h => h) (by rfl) (fun w' hS' => by (try dsimp only at hS'); go_split_ands; go_simp; (try with_reducible rfl)) ?_
  simp only [Act.put, List.getElem_toArray, List.getElem_cons_succ, List.getElem_cons_zero, List.setIfInBounds_toArray, List.set_cons_zero, List.set_cons_succ]
  refine Turns.rest (late_done (by kernel_rfl)) ?_
  refine any_tail 4 (by rfl) (by kernel_rfl) ?_
  simp only [List.drop_succ_cons, List.drop_zero]
  clear hS
  go_wp2
  gi_wp2_with (refine ⟨trivial, ?_⟩; gi_at_call 25; refine (callsIn_wide.2 (heach _)).mono ?_; rintro e w' ⟨rfl, rfl⟩)
  have hrR : WRun w b1 b2 b3 b4 B g r M O 0 (((w0.setCell ⟨b1, 0, none⟩ (.int .u64 (O : Int))).alloc (.cells #[.int .i64 0] 3)).alloc (.cells #[.int .u64 (O : Int)] 30)).drew := HRun0.out.below' (below_alloc _ _)
  have hsz : ((w0.setCell ⟨b1, 0, none⟩ (.int .u64 (O : Int))).alloc (.cells #[.int .i64 0] 3)).heap.size = b4 + 1 := by rw [size_alloc, ← hs0]; simp [World.setCell]
  have hcR := (Holds.new ((w0.setCell ⟨b1, 0, none⟩ (.int .u64 (O : Int))).alloc (.cells #[.int .i64 0] 3)) 30 #[.int .u64 (O : Int)]).cell 0
  rw [hsz] at hcR
  have hsR : (((w0.setCell ⟨b1, 0, none⟩ (.int .u64 (O : Int))).alloc (.cells #[.int .i64 0] 3)).alloc (.cells #[.int .u64 (O : Int)] 30)).drew.heap.size = b4 + 2 := by
    show (((w0.setCell ⟨b1, 0, none⟩ (.int .u64 (O : Int))).alloc (.cells #[.int .i64 0] 3)).alloc (.cells #[.int .u64 (O : Int)] 30)).heap.size = b4 + 2
    rw [size_alloc, hsz]
  have hcR : (((w0.setCell ⟨b1, 0, none⟩ (.int .u64 (O : Int))).alloc (.cells #[.int .i64 0] 3)).alloc (.cells #[.int .u64 (O : Int)] 30)).drew.cell? ⟨b4 + 1, 0, none⟩ = some (.int .u64 (O : Int)) := hcR
  obtain ⟨WR, hWR⟩ : ∃ WR, (((w0.setCell ⟨b1, 0, none⟩ (.int .u64 (O : Int))).alloc (.cells #[.int .i64 0] 3)).alloc (.cells #[.int .u64 (O : Int)] 30)).drew = WR := ⟨_, rfl⟩
  rw [hWR] at hrR hsR hcR
  simp only [hWR]
  have hord := HHd.out
  clear hWR c0 c1 c5 d0 d1 f1 hall hsz hw0 hs0
  refine range_outer rfl (by omega) (gf := 28) (lb := #[.pointer (some ⟨b4 + 1, 0, none⟩)]) rfl trivial (enters_of Tryd.func28 (by kernel_rfl) rfl)
    (each1_stops _ (by omega) (b4 + 1) O hOfit _ hrR.tab hcR) keepTab_t (keepTab_b _) keepTab_r (Below.refl _ _) (fun _ => rfl)
    (fun (pre : List (Bit O)) W => ∃ v : Nat, WRun w b1 b2 b3 b4 B g r M O v W ∧ WideUp M O (nums pre) v)
    (fun c pre W => c = .ret ∧ WOut w b2 b3 M O W)
    (fun s W W' row hs hg hr => by obtain ⟨v, h1, h2⟩ := hs; exact ⟨v, h1.turned hg (fun k e => (hr k e).2) (fun k e => by have := (hr k e).1; omega), h2⟩)
    (fun c s W W' row hs hg hr => ⟨hs.1, hs.2.turned hg (fun k e => (hr k e).2) (fun k e => by have := (hr k e).1; omega)⟩)
    ⟨0, hrR, WideUp.nil⟩ ?a₁ ?assign ?body ?done ?stop
  case assign =>
    intro l x W K hK
    gi_wp2
    exact hK
  case body =>
    rintro l pre x W hl ⟨rc, hrc⟩ ⟨v, hrn, hup⟩ hlen
    have hxO := (mem_bits.1 x.2).2
    have hx := HOn.out x.1 hxO
    have c2 := hrn.box.cell 0
    have c3 := hrn.set.cell 0
    have hops := hops_in W B g r M hrn.lk HNet.out hrn.tab x.1 hx O hOfit
    have HRn := Lib.hid hrn
    have HUp := Lib.hid hup
    have HRc := Lib.hid hrc
    clear hrn hup hrc
    gi_wp2_with (first
      | (refine ⟨trivial, ?_⟩; gi_at_call 17; refine (CallsIn.inRound l (callsIn_wide.2 hops)).mono ?_; rintro e w2 ⟨hb, H, rfl, hhb, hh, hlenH, hH, hbw⟩; have r2 := HRn.out.below' hbw; have c3' := (r2.set.alloc (.cells #[.slice (some ⟨hb, 0, none⟩) M.length M.length] 35)).cell 0)
      | (refine ⟨trivial, ?_⟩; gi_at_call 25; refine (CallsIn.inRound l (callsIn_wide.2 (heach _))).mono ?_; rintro e w' ⟨rfl, rfl⟩))
    have hwsz := hbw.size
    have hcI := (Holds.new (w2.alloc (.cells #[.slice (some ⟨hb, 0, none⟩) M.length M.length] 35)) 30 #[.int .u64 (O : Int)]).cell 0
    rw [size_alloc] at hcI
    have hrI : WRun w b1 b2 b3 b4 B g r M O v ((w2.alloc (.cells #[.slice (some ⟨hb, 0, none⟩) M.length M.length] 35)).alloc (.cells #[.int .u64 (O : Int)] 30)) := (r2.below' (below_alloc _ _)).below' (below_alloc _ _)
    have hxI : Holds ((w2.alloc (.cells #[.slice (some ⟨hb, 0, none⟩) M.length M.length] 35)).alloc (.cells #[.int .u64 (O : Int)] 30)) w2.heap.size 35 #[.slice (some ⟨hb, 0, none⟩) M.length M.length] := (Holds.new w2 _ _).alloc _
    have hhI : Holds ((w2.alloc (.cells #[.slice (some ⟨hb, 0, none⟩) M.length M.length] 35)).alloc (.cells #[.int .u64 (O : Int)] 30)) hb 3 (ints H) := (hh.alloc _).alloc _
    have hbI : Below W.heap.size W ((w2.alloc (.cells #[.slice (some ⟨hb, 0, none⟩) M.length M.length] 35)).alloc (.cells #[.int .u64 (O : Int)] 30)) := (hbw.alloc hwsz _).alloc (by simp; omega) _
    have hsI : ((w2.alloc (.cells #[.slice (some ⟨hb, 0, none⟩) M.length M.length] 35)).alloc (.cells #[.int .u64 (O : Int)] 30)).heap.size = w2.heap.size + 2 := by simp
    obtain ⟨WI, hWI⟩ : ∃ WI, (w2.alloc (.cells #[.slice (some ⟨hb, 0, none⟩) M.length M.length] 35)).alloc (.cells #[.int .u64 (O : Int)] 30) = WI := ⟨_, rfl⟩
    rw [hWI] at hcI hrI hxI hhI hbI hsI
    simp only [hWI]
    have hrcI : WI.heap[l]? = some (.loop rc) := (hbI.block l (Array.getElem?_eq_some_iff.1 HRc.out).1).trans HRc.out
    have hwW : w.heap.size ≤ W.heap.size := HRn.out.below.size
    have hbhW : W.heap.size ≤ w2.heap.size := hwsz
    have hb4W : b4 < W.heap.size := HRn.out.wide.lt
    have HH := Lib.hid hH
    have HLenH := Lib.hid hlenH
    clear hWI c2 c3 c3' r2 hh hbw hops hH hlenH
    refine range_inner (l₀ := l) (r₀ := rc) rfl hrcI (by omega) (gf := 28) (lb := #[.pointer (some ⟨w2.heap.size + 1, 0, none⟩)]) rfl trivial (enters_of Tryd.func28 (by kernel_rfl) rfl)
      ((each1_stops _ (by omega) (w2.heap.size + 1) O hOfit WI hrI.tab hcI).inRound l) keepTab_t (keepTab_b _) keepTab_r (Below.refl _ _) (fun _ => rfl)
      (fun (pre2 : List (Bit O)) W' => ∃ v' : Nat, (WRun w b1 b2 b3 b4 B g r M O v' W' ∧ Holds W' w2.heap.size 35 #[.slice (some ⟨hb, 0, none⟩) M.length M.length] ∧ Holds W' hb 3 (ints H) ∧ KeepsFrom WR.heap.size W W') ∧ WideUp M O (nums pre) v' ∧ WideTo M O x.1 (nums pre2) v')
      (fun c pre2 W' => c = .ret ∧ WOut w b2 b3 M O W' ∧ KeepsFrom WR.heap.size W W')
      (fun s X Y row hs hg hr => by
        obtain ⟨v', ⟨h1, h2, h3, h4⟩, h5⟩ := hs
        exact ⟨v', ⟨h1.turned hg (fun k e => (hr k e).2) (fun k e => by have := (hr k e).1; omega), h2.turned hg (fun k e => (hr k e).2), h3.turned hg (fun k e => (hr k e).2), keepsFrom_turned (n0 := 0) h4 hg (fun k e => by have := (hr k e).1; omega)⟩, h5⟩)
      (fun c s X Y row hs hg hr => ⟨hs.1, hs.2.1.turned hg (fun k e => (hr k e).2) (fun k e => by have := (hr k e).1; omega), keepsFrom_turned (n0 := 0) hs.2.2 hg (fun k e => by have := (hr k e).1; omega)⟩)
      ⟨v, ⟨hrI, hxI, hhI, (others_of_below hbI).from _⟩, HUp.out, WideTo.nil⟩ ?a₂ ?assign2 ?body2 ?done2 ?stop2
    case assign2 =>
      intro l2 y W' K hK
      gi_wp2
      exact hK
    case body2 =>
      rintro l2 pre2 y W' hl2 _ ⟨v', ⟨hrn2, hbx, hcs, hkf⟩, hup2, hto⟩ hlen2
      have hyO := (mem_bits.1 y.2).2
      have hy := HOn.out y.1 hyO
      have hyi : (y.1 : Int) < M.length := by omega
      have hyl : y.1 < H.length := by rw [HLenH.out]; exact hy
      have c8 := hbx.cell 0
      have cy : W'.cell? ⟨hb, y.1, none⟩ = some (.int .i64 (H.getD y.1 0)) := by rw [hcs.cell]; simp [ints, List.getD, hyl]
      have hkW' : KeepsFrom WR.heap.size W W' := hkf
      change Code.wpIn (Fence.wide.inRound l2) _ _ _ _ _ _
      rcases HH.out.2 y.1 hy with ⟨h1, hno⟩ | ⟨e, h1, hf⟩
      · rw [h1] at cy
        have x2 := hrn2.num.cell 0
        have y2 := hrn2.num.soft 0
        have n2 : Holds (W'.setCell ⟨b2, 0, none⟩ (.int .i64 0)) b2 3 #[.int .i64 0] := hrn2.num.put 0 _
        have n3 : Holds (W'.setCell ⟨b2, 0, none⟩ (.int .i64 0)) b3 4 #[.bool false] := hrn2.ok.far (by omega) _
        have x3 := n3.cell 0
        have y3 := n3.soft 0
        have m2 : Holds ((W'.setCell ⟨b2, 0, none⟩ (.int .i64 0)).setCell ⟨b3, 0, none⟩ (.bool false)) b2 3 #[.int .i64 0] := n2.far (by omega) _
        have m3 : Holds ((W'.setCell ⟨b2, 0, none⟩ (.int .i64 0)).setCell ⟨b3, 0, none⟩ (.bool false)) b3 4 #[.bool false] := n3.put 0 _
        have mb : Below w.heap.size w ((W'.setCell ⟨b2, 0, none⟩ (.int .i64 0)).setCell ⟨b3, 0, none⟩ (.bool false)) := (hrn2.below.setCell (p := ⟨b2, 0, none⟩) (by show w.heap.size ≤ b2; omega) _).setCell (p := ⟨b3, 0, none⟩) (by show w.heap.size ≤ b3; omega) _
        have mk : KeepsOthers W' ((W'.setCell ⟨b2, 0, none⟩ (.int .i64 0)).setCell ⟨b3, 0, none⟩ (.bool false)) := (KeepsOthers.setCell W' ⟨b2, 0, none⟩ (.int .i64 0)).trans (KeepsOthers.setCell _ ⟨b3, 0, none⟩ (.bool false))
        have HFin := Lib.hid (show KeepsFrom WI.heap.size W' ((W'.setCell ⟨b2, 0, none⟩ (.int .i64 0)).setCell ⟨b3, 0, none⟩ (.bool false)) ∧ Code.ret = Code.ret ∧ WOut w b2 b3 M O ((W'.setCell ⟨b2, 0, none⟩ (.int .i64 0)).setCell ⟨b3, 0, none⟩ (.bool false)) ∧ KeepsFrom WR.heap.size W ((W'.setCell ⟨b2, 0, none⟩ (.int .i64 0)).setCell ⟨b3, 0, none⟩ (.bool false)) from
          ⟨mk.from _, rfl, ⟨m2, m3, mb, WideIs.cut hxO hyO hno⟩, hkf.trans (mk.from _)⟩)
        clear hrn2 hbx hcs hkf hkW' hup2 hto n2 n3 m2 m3 mb mk hsI hsR
        gi_wp2
        exact ⟨HFin.out.1, rfl, HFin.out.2.2⟩
      · rw [h1] at cy
        have hlt0 : decide ((e : Int) < 0) = false := decide_eq_false (by omega)
        obtain ⟨V, hV⟩ : ∃ V : Nat, (if v' < e then e else v') = V := ⟨_, rfl⟩
        have hVi : (if (v' : Int) < (e : Int) then (e : Int) else (v' : Int)) = (V : Int) := by
          rw [← hV]
          split <;> split <;> omega
        have hmax := run_max2 (v' : Int) (e : Int) W'.drew
        rw [hVi] at hmax
        have hrn3 := hrn2.setw ht0 hglt hrlt hord V
        have hcw := Chg.set (S := fun k => k = b4) W' b4 0 (.int .i64 (V : Int)) rfl
        have mk : KeepsOthers W' (W'.setCell ⟨b4, 0, none⟩ (.int .i64 (V : Int))).drew := (KeepsOthers.setCell W' ⟨b4, 0, none⟩ (.int .i64 (V : Int))).trans (KeepsOthers.drew _)
        have hup3 : WideUp M O (nums pre) V := by rw [← hV]; exact hup2.max hxO hyO hf
        have hto3 : WideTo M O x.1 (nums (pre2 ++ [y])) V := by rw [← hV, nums_snoc]; exact hto.snoc hf
        have x4 : W'.drew.cell? ⟨b4, 0, none⟩ = some (.int .i64 (v' : Int)) := hrn2.wide.cell 0
        have y4 : W'.drew.frozen? ⟨b4, 0, none⟩ = false := hrn2.wide.soft 0
        have c8' : W'.drew.cell? ⟨w2.heap.size, 0, none⟩ = some (.slice (some ⟨hb, 0, none⟩) M.length M.length) := c8
        have cy' : W'.drew.cell? ⟨hb, y.1, none⟩ = some (.int .i64 (e : Int)) := cy
        have HS1 := Lib.hid (show W'.drew.cell? ⟨b4, 0, none⟩ = some (.int .i64 (v' : Int)) ∧ W'.drew.cell? ⟨w2.heap.size, 0, none⟩ = some (.slice (some ⟨hb, 0, none⟩) M.length M.length) ∧ W'.drew.cell? ⟨hb, y.1, none⟩ = some (.int .i64 (e : Int)) from ⟨x4, c8', cy'⟩)
        have HFin := Lib.hid (show KeepsFrom WI.heap.size W' (W'.setCell ⟨b4, 0, none⟩ (.int .i64 (V : Int))).drew ∧ KeepTab W' (W'.setCell ⟨b4, 0, none⟩ (.int .i64 (V : Int))).drew ∧ ∃ v' : Nat, (WRun w b1 b2 b3 b4 B g r M O v' (W'.setCell ⟨b4, 0, none⟩ (.int .i64 (V : Int))).drew ∧ Holds (W'.setCell ⟨b4, 0, none⟩ (.int .i64 (V : Int))).drew w2.heap.size 35 #[.slice (some ⟨hb, 0, none⟩) M.length M.length] ∧ Holds (W'.setCell ⟨b4, 0, none⟩ (.int .i64 (V : Int))).drew hb 3 (ints H) ∧ KeepsFrom WR.heap.size W (W'.setCell ⟨b4, 0, none⟩ (.int .i64 (V : Int))).drew) ∧ WideUp M O (nums pre) v' ∧ WideTo M O x.1 (nums (pre2 ++ [y])) v' from by
          have hrn4 : WRun w b1 b2 b3 b4 B g r M O V (W'.setCell ⟨b4, 0, none⟩ (.int .i64 (V : Int))).drew := hrn3.below' (below_drewN (Below.refl _ _) 1)
          exact ⟨mk.from _, ⟨by simp [World.setCell, World.drew], fun _ => hrn4.tab⟩, V, ⟨hrn4, (hbx.chg hcw (by omega)).drewN 1, (hcs.chg hcw (by omega)).drewN 1, hkf.trans (mk.from _)⟩, hup3, hto3⟩)
        clear hrn2 hbx hcs hkf hkW' hup2 hto hrn3 hcw mk hup3 hto3 hV hVi hf h1 hsI hsR
        gi_wp2
        refine round_turns (fun (w' : World) => w'.cell? ⟨b4, 0, none⟩ = some (.int .i64 (v' : Int)) ∧ w'.cell? ⟨w2.heap.size, 0, none⟩ = some (.slice (some ⟨hb, 0, none⟩) M.length M.length) ∧ w'.cell? ⟨hb, y.1, none⟩ = some (.int .i64 (e : Int))) (fun j => decide (5 ≤ j)) (by kernel_rfl) (by kernel_rfl) (by rintro ⟨_, _, h⟩; exact h) (HS1.out) (fun hS => ?_)
        refine Turns.take hS 0 _ rfl (by kernel_rfl) (by kernel_rfl) (by kernel_rfl) (by kernel_rfl) (fun _ _ _ h => h) (by rfl) (fun w' hS' => by (try dsimp only at hS'); go_split_ands; go_simp; (try with_reducible rfl)) ?_
        simp only [Act.put, List.getElem_toArray, List.getElem_cons_succ, List.getElem_cons_zero, List.setIfInBounds_toArray, List.set_cons_zero, List.set_cons_succ]
        refine Turns.take hS 1 _ rfl (by kernel_rfl) (by kernel_rfl) (by kernel_rfl) (by kernel_rfl) (fun _ _ _ h => h) (by rfl) (fun w' hS' => by (try dsimp only at hS'); go_split_ands; go_simp; (try with_reducible rfl)) ?_
        simp only [Act.put, List.getElem_toArray, List.getElem_cons_succ, List.getElem_cons_zero, List.setIfInBounds_toArray, List.set_cons_zero, List.set_cons_succ]
        refine Turns.take hS 2 _ rfl (by kernel_rfl) (by kernel_rfl) (by kernel_rfl) (by kernel_rfl) (fun _ _ _ h => h) (by rfl) (fun w' hS' => by (try dsimp only at hS'); go_split_ands; go_simp; (try with_reducible rfl)) ?_
        simp only [Act.put, List.getElem_toArray, List.getElem_cons_succ, List.getElem_cons_zero, List.setIfInBounds_toArray, List.set_cons_zero, List.set_cons_succ]
        refine Turns.take hS 3 _ rfl (by kernel_rfl) (by kernel_rfl) (by kernel_rfl) (by kernel_rfl) (fun _ _ _ h => h) (by rfl) (fun w' hS' => by (try dsimp only at hS'); go_split_ands; go_simp; (try with_reducible rfl)) ?_
        simp only [Act.put, List.getElem_toArray, List.getElem_cons_succ, List.getElem_cons_zero, List.setIfInBounds_toArray, List.set_cons_zero, List.set_cons_succ]
        refine Turns.take hS 4 _ rfl (by kernel_rfl) (by kernel_rfl) (by kernel_rfl) (by kernel_rfl) (fun _ _ _ h => h) (by rfl) (fun w' hS' => by (try dsimp only at hS'); go_split_ands; go_simp; (try with_reducible rfl)) ?_
        simp only [Act.put, List.getElem_toArray, List.getElem_cons_succ, List.getElem_cons_zero, List.setIfInBounds_toArray, List.set_cons_zero, List.set_cons_succ]
        refine Turns.rest (late_done (by kernel_rfl)) ?_
        refine any_tail 5 (by rfl) (by kernel_rfl) ?_
        simp only [List.drop_succ_cons, List.drop_zero]
        clear hS
        go_wp2
        exact HFin.out
    case done2 =>
      rintro ys W' hys ⟨v', ⟨hrn2, _, _, hkf⟩, hup2, hto⟩
      rw [hys] at hto
      have hup3 := hup2.snoc hto hOfit
      rw [← nums_snoc] at hup3
      gi_wp2
      exact ⟨hkf, ⟨hkf.size, fun _ => hrn2.tab⟩, v', hrn2, hup3⟩
    case stop2 =>
      rintro c pre2 W' _ ⟨rfl, hout, hkf⟩
      gi_wp2
      exact ⟨hkf, rfl, hout⟩
  case done =>
    rintro D ys W hD hys ⟨v, hrn, hup⟩ hDk
    rw [hys] at hup
    have hw := hup.done hOfit
    have c4 := hrn.wide.cell 0
    have c3 := hrn.set.cell 0
    have x2 := hrn.num.cell 0
    have x3 := hrn.ok.cell 0
    have y2 := hrn.num.soft 0
    have y3 := hrn.ok.soft 0
    have hne : ((O : Int) != 0) = !decide (O = 0) := by
      by_cases h0 : O = 0 <;> simp [h0]
    have hw' : WideIs M O (v : Int) (!decide (O = 0)) := by simpa using hw
    have p2 : Holds (((W.setCell ⟨b2, 0, none⟩ (.int .i64 (v : Int))).setCell ⟨b3, 0, none⟩ (.bool !decide (O = 0))).drew) b2 3 #[.int .i64 (v : Int)] := ((hrn.num.put 0 _).far (by omega) _).drewN 1
    have p3 : Holds (((W.setCell ⟨b2, 0, none⟩ (.int .i64 (v : Int))).setCell ⟨b3, 0, none⟩ (.bool !decide (O = 0))).drew) b3 4 #[.bool !decide (O = 0)] := ((hrn.ok.far (by omega) _).put 0 _).drewN 1
    have pb : Below w.heap.size w (((W.setCell ⟨b2, 0, none⟩ (.int .i64 (v : Int))).setCell ⟨b3, 0, none⟩ (.bool !decide (O = 0))).drew) := ((hrn.below.setCell (p := ⟨b2, 0, none⟩) (by show w.heap.size ≤ b2; omega) _).setCell (p := ⟨b3, 0, none⟩) (by show w.heap.size ≤ b3; omega) _).drew
    have pk : (((W.setCell ⟨b2, 0, none⟩ (.int .i64 (v : Int))).setCell ⟨b3, 0, none⟩ (.bool !decide (O = 0))).drew).heap[D]? = some (.deferred (some [])) :=
      ((KeepsOthers.setCell W ⟨b2, 0, none⟩ (.int .i64 (v : Int))).trans (KeepsOthers.setCell _ ⟨b3, 0, none⟩ (.bool !decide (O = 0)))).same D _ hDk rfl
    have HP2 := Lib.hid p2
    have HP3 := Lib.hid p3
    have HPB := Lib.hid pb
    have HPK := Lib.hid pk
    have HW := Lib.hid hw'
    clear hrn hup hw hDk p2 p3 pb pk hw'
    gi_wp2
    gi_region
    gi_wp2
    exact wide_leaves HP2.out HP3.out HPB.out HW.out (by omega) HPK.out rfl rfl
  case stop =>
    rintro D c pre W hD _ ⟨rfl, hout⟩ hDk
    gi_wp2
    exact wide_leaves hout.1 hout.2.1 hout.2.2.1 hout.2.2.2 (by omega) hDk rfl rfl
end Go.Proofs.YtfekblikiemogaaDoor
