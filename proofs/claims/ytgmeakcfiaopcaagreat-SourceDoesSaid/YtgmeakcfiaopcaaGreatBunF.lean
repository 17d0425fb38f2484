/- Texts of this seat, one behind the other. -/
import Derived.Test.YtgmeakcfiaopcaaGreatBunE
import Derived.Test.YtgmeakcfiaopcaaGreatBunT
import Derived.LoopTactic
import Derived.Test.YtgmeakcfiaopcaaGreatBunA
import Derived.Deep.CutBlock
/- Package elect: words of its own, what it tells of its root's. -/
namespace Go.Proofs.YtgmeakcfiaopcaaGreat
open Go.RowKit
set_option linter.unusedVariables false
set_option linter.unusedSimpArgs false

theorem wf_of {n : Int} (h0 : -9223372036854775808 ≤ n) (h1 : n ≤ 9223372036854775807) : (Lit.int .i64 n).wf = true := WalkArith.wf_i64 (by omega)
theorem mark_size : (Tryz.prog.info? 99).map (·.size) = some 2 := by kernel_rfl
/-- The end of a call that answers a mark, which lies in a variable of its own, and whether. -/
theorem end_mark {fn : Func} {p u : Tmp} {R : Ending → World → Prop} {a : Act} {w : World} {g : Nat} {x y : Int} {c : Bool} (h : fn.results = #[.cell p 99, .tmp u]) (hp : a.tmps.getD p undef = .pointer (some ⟨g, 0, none⟩)) (hv : a.tmps.getD u undef = .bool c)
    (hg : Holds w g 99 #[.int .u16 x, .int .u16 y]) (hd : a.defers = []) (hR : R (.returned (.tuple #[markV (x, y), .bool c])) w) : bodyPost Tryz.prog fn R .ret a w :=
  bodyPost_ret (results_row_tmp h _ _ g 99 [.int .u16 x, .int .u16 y] _ _ hp hg Tryz.underlying99 rfl mark_size hv) hd hR
theorem Box.put2 {w V : World} {t : TypeId} {a b : Value} (h : Box w t #[a, b] V) (x y : Value) : Box w t #[x, y] ((V.setCell ⟨w.heap.size, 0, none⟩ x).setCell ⟨w.heap.size, 1, none⟩ y) :=
  ⟨(h.holds.put 0 x).put 1 y, (h.below.setCell (p := ⟨w.heap.size, 0, none⟩) (Nat.le_refl _) x).setCell (p := ⟨w.heap.size, 1, none⟩) (Nat.le_refl _) y⟩
def zeroC : Array Value := #[.int .u16 0, .int .u16 0]
/-- What Issue answers, and what becomes of the node. -/
def Issued (B g b n : Nat) (s : St) (w : World) (e : Ending) (w' : World) : Prop := e = .returned (.tuple #[markV (issueV s), .bool (decide (s.root = s.me))]) ∧ ENow B g b n (issueS s) w w'
theorem issue_nil (w : World) : Calls Tryz.prog 41 #[.pointer none] w fun e w' => e = .returned (.tuple #[markV (0, 0), .bool false]) ∧ Below w.heap.size w w' := by
  have HX := Lib.hid (Box.start w 99 #[.int .u16 0, .int .u16 0])
  go_enter Tryz.func41, Tryz.ntmps41
  go_wp2_with (go_at_call 40; refine (emine_nil _).mono ?_; rintro e w' ⟨rfl, nq, rfl⟩)
  (try simp only [Exit.inBlock, Exit.then])
  have hE := (HX.out.drewN nq).put2 (.int .u16 0) (.int .u16 0)
  refine end_mark rfl rfl rfl hE.holds rfl ?_
  exact ⟨rfl, hE.below⟩
theorem issue_tail {w : World} {B g b n : Nat} {s : St} (h : En w B g b n s) (hr : s.root = s.me) (nq : Nat) :
    let V := ((w.alloc (.cells #[.int .u16 0, .int .u16 0] 99)).drewN nq).setCell ⟨g, 4, none⟩ (.int .u16 (nextV s.seq))
    let F := (V.setCell ⟨w.heap.size, 0, none⟩ (.int .u16 s.boot)).setCell ⟨w.heap.size, 1, none⟩ (.int .u16 (nextV s.seq))
    V.cell? ⟨g, 3, none⟩ = some (.int .u16 s.boot) ∧ V.cell? ⟨g, 4, none⟩ = some (.int .u16 (nextV s.seq)) ∧ V.cell? ⟨w.heap.size, 0, none⟩ = some (.int .u16 0) ∧ V.cell? ⟨w.heap.size, 1, none⟩ = some (.int .u16 0) ∧ V.frozen? ⟨w.heap.size, 0, none⟩ = false ∧ V.frozen? ⟨w.heap.size, 1, none⟩ = false ∧
    Hid (Holds F w.heap.size 99 #[.int .u16 s.boot, .int .u16 (nextV s.seq)] ∧ ENow B g b n (issueS s) w F) := by
  intro V F
  have hgl := h.lt
  have hbl := h.ltb
  have hb0 : Below w.heap.size w ((w.alloc (.cells #[.int .u16 0, .int .u16 0] 99)).drewN nq) := below_drewN (below_alloc w _) nq
  have h0 := h.below hb0
  have hI := h.inv.issue
  have hS : issueS s = { s with seq := nextV s.seq } := by unfold issueS; rw [if_pos hr]
  rw [hS] at hI ⊢
  have h1 : En V B g b n { s with seq := nextV s.seq } := h0.put 4 (.int .u16 (nextV s.seq)) rfl rfl hI
  have r0 : Holds V w.heap.size 99 #[.int .u16 0, .int .u16 0] := Holds.far ((Holds.new w _ _).drewN nq) (by omega) _
  have r1 : Holds F w.heap.size 99 #[.int .u16 s.boot, .int .u16 (nextV s.seq)] := (r0.put 0 _).put 1 _
  have cF : Chg (fun k => k = w.heap.size) V F := (Chg.set V w.heap.size 0 _ (S := fun k => k = w.heap.size) rfl).trans (Chg.set _ w.heap.size 1 _ (S := fun k => k = w.heap.size) rfl) (fun _ _ h => h)
  refine ⟨h1.holds.cell 3, h1.holds.cell 4, r0.cell 0, r0.cell 1, r0.soft 0, r0.soft 1, Lib.hid ⟨r1, b, h1.chg cF (fun k hk e => ?_), ?_, .inl rfl⟩⟩
  · rcases hk with rfl | rfl <;> omega
  · exact ((Chg.of_below (epart g b) hb0).trans (Chg.set _ g 4 _ (S := epart g b) (.inl rfl)) (fun _ _ h => h)).trans cF (fun k hk e => by omega)
theorem issue_any (w : World) (B g b n : Nat) (s : St) (h : En w B g b n s) : Calls Tryz.prog 41 #[.pointer (some ⟨g, 0, none⟩)] w (Issued B g b n s w) := by
  have HX := Lib.hid (Box.start w 99 #[.int .u16 0, .int .u16 0])
  have h0 := h.below (below_alloc w (.cells #[.int .u16 0, .int .u16 0] 99))
  have hm := emine_any _ B g b n s h0
  unfold Issued
  by_cases hr : s.root = s.me
  · have hV : issueV s = (s.boot, nextV s.seq) := by unfold issueV; rw [if_pos hr]
    have HT := Lib.hid (fun nq => issue_tail h hr nq)
    rw [hV]
    rw [decide_eq_true hr] at hm ⊢
    have hnx := fun W => next_any s.seq W
    obtain ⟨_, _, _, _, c4, _⟩ := h0.cells
    have f4 := h0.holds.soft 4
    obtain ⟨N, hN⟩ : ∃ N, nextV s.seq = N := ⟨_, rfl⟩
    simp only [hN] at hnx HT ⊢
    clear h h0 hr hV hN
    go_enter Tryz.func41, Tryz.ntmps41
    go_upto_region 4 with (first
      | (go_at_call 40; refine hm.mono ?_; rintro e w' ⟨rfl, nq, rfl⟩)
      | (go_at_call 64; refine (hnx _).mono ?_; rintro e w' ⟨rfl, rfl⟩))
    obtain ⟨k3, k4, r0, r1, z0, z1, HF⟩ := HT.out nq
    go_region
    go_wp2
    (try simp only [Exit.inBlock, Exit.then])
    refine end_mark rfl rfl rfl (HF.out.1.drewN 1) rfl ?_
    exact ⟨rfl, HF.out.2.of_below (Below.refl _ _).drew⟩
  · have hV : issueV s = (0, 0) := by unfold issueV; rw [if_neg hr]
    have hS : issueS s = s := by unfold issueS; rw [if_neg hr]
    rw [hV, hS]
    rw [decide_eq_false hr] at hm ⊢
    have HE := Lib.hid h
    clear hV hS hr h h0
    go_enter Tryz.func41, Tryz.ntmps41
    go_wp2_with (go_at_call 40; refine hm.mono ?_; rintro e w' ⟨rfl, nq, rfl⟩)
    (try simp only [Exit.inBlock, Exit.then])
    have hE := (HX.out.drewN nq).put2 (.int .u16 0) (.int .u16 0)
    refine end_mark rfl rfl rfl hE.holds rfl ?_
    exact ⟨rfl, (ENow.refl HE.out).of_below hE.below⟩
theorem emark_nil (w : World) : Calls Tryz.prog 56 #[.pointer none] w fun e w' => e = .returned (.tuple #[markV (0, 0), .bool false]) ∧ Below w.heap.size w w' := by
  have HX := Lib.hid (Box.start w 99 #[.int .u16 0, .int .u16 0])
  go_enter Tryz.func56, Tryz.ntmps56
  go_wp2_with (first
    | (go_at_call 40; refine (emine_nil _).mono ?_; rintro e w' ⟨rfl, nq, rfl⟩)
    | (go_at_call 57; refine (eroot_nil _).mono ?_; rintro e w' ⟨rfl, rfl⟩))
  (try simp only [Exit.inBlock, Exit.then])
  have hE := (HX.out.drewN nq).put2 (.int .u16 0) (.int .u16 0)
  refine end_mark rfl rfl rfl hE.holds rfl ?_
  exact ⟨rfl, hE.below⟩
theorem emark_any (w : World) (B g b n : Nat) (s : St) (h : En w B g b n s) : Calls Tryz.prog 56 #[.pointer (some ⟨g, 0, none⟩)] w fun e w' => e = .returned (.tuple #[markV (saidV s), .bool (saidB s)]) ∧ Below w.heap.size w w' := by
  have HX := Lib.hid (Box.start w 99 #[.int .u16 0, .int .u16 0])
  have h0 := h.below (below_alloc w (.cells #[.int .u16 0, .int .u16 0] 99))
  have hm := emine_any _ B g b n s h0
  have hroot := fun m => eroot_any _ B g b n s (h0.drewN m)
  obtain ⟨r0, r1⟩ := h.inv.root
  obtain ⟨m0, m1⟩ := h.inv.me
  by_cases hr : s.root = s.me
  · rw [decide_eq_true hr] at hm
    have hV : saidV s = (s.boot, s.seq) := by unfold saidV; rw [if_pos hr]
    have hB : saidB s = decide (s.seq ≠ 0) := by unfold saidB; simp [hr]
    rw [hV, hB]
    have dq : (s.seq != 0) = decide (s.seq ≠ 0) := by by_cases e : s.seq = 0 <;> simp [e]
    obtain ⟨_, _, _, c3, c4, _⟩ := h0.cells
    obtain ⟨q, hq⟩ : ∃ q, decide (s.seq ≠ 0) = q := ⟨_, rfl⟩
    rw [hq] at dq ⊢
    clear h h0 hr hV hB hq hroot
    have x0 := HX.out.holds.cell 0
    have x1 := HX.out.holds.cell 1
    have z0 := HX.out.holds.soft 0
    have z1 := HX.out.holds.soft 1
    go_enter Tryz.func56, Tryz.ntmps56
    go_upto_region 2 with (go_at_call 40; refine hm.mono ?_; rintro e w' ⟨rfl, nq, rfl⟩)
    go_region
    go_wp2
    (try simp only [Exit.inBlock, Exit.then])
    have hE := (HX.out.drewN nq).put2 (.int .u16 s.boot) (.int .u16 s.seq)
    refine end_mark rfl rfl rfl (hE.holds.drewN 1) rfl ?_
    exact ⟨rfl, hE.below.drew⟩
  · rw [decide_eq_false hr] at hm
    by_cases hn : s.root = -1
    · have hV : saidV s = (0, 0) := by unfold saidV; rw [if_neg hr, if_pos hn]
      have hB : saidB s = false := by unfold saidB; simp [hr, hn]; omega
      have dn : (s.root == -1) = true := by simp [hn]
      rw [hV, hB]
      clear h h0 hr hV hB hn
      go_enter Tryz.func56, Tryz.ntmps56
      go_wp2_with (first
        | (go_at_call 40; refine hm.mono ?_; rintro e w' ⟨rfl, nq, rfl⟩)
        | (go_at_call 57; refine (hroot _).mono ?_; rintro e w' ⟨rfl, rfl⟩))
      (try simp only [Exit.inBlock, Exit.then])
      have hE := (HX.out.drewN nq).put2 (.int .u16 0) (.int .u16 0)
      refine end_mark rfl rfl rfl hE.holds rfl ?_
      exact ⟨rfl, hE.below⟩
    · obtain ⟨⟨v0, v1⟩, hp⟩ := h.inv.knows (by omega) hr
      have hV : saidV s = (v0, v1) := by unfold saidV; rw [if_neg hr, if_neg hn, hp]; rfl
      have hB : saidB s = true := by unfold saidB; simp [hr, hn]
      have dn : (s.root == -1) = false := by simp [hn]
      have hlk := fun m => (h0.drewN m).km.get s.root (wf_of (by omega) (by omega))
      simp only [hp, Option.getD_some, markV] at hlk
      rw [hV, hB]
      obtain ⟨_, _, _, _, _, c5, _, _, c8⟩ := h0.cells
      clear h h0 hr hV hB hn hp
      have x0 := HX.out.holds.cell 0
      have x1 := HX.out.holds.cell 1
      have z0 := HX.out.holds.soft 0
      have z1 := HX.out.holds.soft 1
      go_enter Tryz.func56, Tryz.ntmps56
      go_upto_region 5 with (first
        | (go_at_call 40; refine hm.mono ?_; rintro e w' ⟨rfl, nq, rfl⟩)
        | (go_at_call 57; refine (hroot _).mono ?_; rintro e w' ⟨rfl, rfl⟩))
      have hlk1 := hlk nq
      go_region
      go_wp2
      (try simp only [Exit.inBlock, Exit.then])
      have hE := (HX.out.drewN nq).put2 (.int .u16 v0) (.int .u16 v1)
      refine end_mark rfl rfl rfl (hE.holds.drewN 1) rfl ?_
      exact ⟨rfl, hE.below.drew⟩
end Go.Proofs.YtgmeakcfiaopcaaGreat

/- Package elect: new lives, new nodes. -/
namespace Go.Proofs.YtgmeakcfiaopcaaGreat
open Go.RowKit
set_option linter.unusedVariables false
set_option linter.unusedSimpArgs false

theorem eboot_nil (w : World) (x : Int) : Calls Tryz.prog 53 #[.pointer none, .int .u16 x] w fun e w' => e = .returned (.tuple #[]) ∧ w = w' := by
  go_enter Tryz.func53, Tryz.ntmps53
  go_wp2
  refine bodyPost_ret (results_none rfl _ _ _) rfl ?_
  exact ⟨rfl, rfl⟩
/-- The cells that Boot lays, whatever was there ahead. -/
def bootC (me tmo ign x : Int) (m : Nat) : Array Value := #[.int .i64 me, .int .i64 tmo, .int .i64 ign, .int .u16 x, .int .u16 0, .int .i64 (-1), .int .i64 0, .int .i64 0, .map (some m)]
/-- The world behind nine stores. -/
def nine (w : World) (g : Nat) (me tmo ign x : Int) (m : Nat) : World := (((((((((w.setCell ⟨g, 0, none⟩ (.int .i64 me)).setCell ⟨g, 1, none⟩ (.int .i64 tmo)).setCell ⟨g, 2, none⟩ (.int .i64 ign)).setCell ⟨g, 3, none⟩ (.int .u16 x)).setCell ⟨g, 4, none⟩ (.int .u16 0)).setCell ⟨g, 5, none⟩ (.int .i64 (-1))).setCell ⟨g, 6, none⟩ (.int .i64 0)).setCell ⟨g, 7, none⟩ (.int .i64 0)).setCell ⟨g, 8, none⟩ (.map (some m)))
theorem nine_holds {w : World} {g : Nat} {me tmo ign x : Int} {m : Nat} {c3 c4 c5 c6 c7 c8 : Value} (h : Holds w g 120 #[.int .i64 me, .int .i64 tmo, .int .i64 ign, c3, c4, c5, c6, c7, c8]) : Holds (nine w g me tmo ign x m) g 120 (bootC me tmo ign x m) ∧ w.grownBy (nine w g me tmo ign x m) (some g) ∧ (nine w g me tmo ign x m).heap.size = w.heap.size := by
  have h0 := h.put 0 (.int .i64 me)
  have h1 := h0.put 1 (.int .i64 tmo)
  have h2 := h1.put 2 (.int .i64 ign)
  have h3 := h2.put 3 (.int .u16 x)
  have h4 := h3.put 4 (.int .u16 0)
  have h5 := h4.put 5 (.int .i64 (-1))
  have h6 := h5.put 6 (.int .i64 0)
  have h7 := h6.put 7 (.int .i64 0)
  have h8 := h7.put 8 (.map (some m))
  refine ⟨?_, ?_, by simp [nine, World.setCell]⟩
  · unfold nine bootC
    simpa using h8
  · unfold nine
    exact grown_trans (grown_trans (grown_trans (grown_trans (grown_trans (grown_trans (grown_trans (grown_trans (grown_set w g 0 _) (grown_set _ g 1 _)) (grown_set _ g 2 _)) (grown_set _ g 3 _)) (grown_set _ g 4 _)) (grown_set _ g 5 _)) (grown_set _ g 6 _)) (grown_set _ g 7 _)) (grown_set _ g 8 _)
theorem boot_end {w : World} {g : Nat} {me tmo ign x : Int} {c3 c4 c5 c6 c7 c8 : Value} (h : Holds w g 120 #[.int .i64 me, .int .i64 tmo, .int .i64 ign, c3, c4, c5, c6, c7, c8]) :
    Holds ((nine w g me tmo ign x w.heap.size).alloc (.map #[] 0)).drew g 120 (bootC me tmo ign x w.heap.size) ∧ ((nine w g me tmo ign x w.heap.size).alloc (.map #[] 0)).drew.heap[w.heap.size]? = some (.map #[] 0) ∧ Chg (fun k => k = g) w ((nine w g me tmo ign x w.heap.size).alloc (.map #[] 0)).drew := by
  obtain ⟨h1, g1, hs⟩ := nine_holds (x := x) (m := w.heap.size) h
  refine ⟨(h1.alloc (.map #[] 0)).drewN 1, ?_, ?_⟩
  · have h2 := heap_alloc_new (nine w g me tmo ign x w.heap.size) (.map #[] 0)
    rw [hs] at h2
    exact h2
  · exact (Chg.of_grown g1 (fun k e => by cases e; rfl)).trans (Chg.of_below (fun _ => False) (below_alloc _ (.map #[] 0)).drew) (fun _ _ h => h.elim)
set_option maxHeartbeats 4000000 in
theorem boot_raw (w : World) (g : Nat) (me tmo ign x : Int) (c3 c4 c5 c6 c7 c8 : Value) (h : Holds w g 120 #[.int .i64 me, .int .i64 tmo, .int .i64 ign, c3, c4, c5, c6, c7, c8]) : Calls Tryz.prog 53 #[.pointer (some ⟨g, 0, none⟩), .int .u16 x] w fun e w' =>
    e = .returned (.tuple #[]) ∧ Holds w' g 120 (bootC me tmo ign x w.heap.size) ∧ w'.heap[w.heap.size]? = some (.map #[] 0) ∧ Chg (fun k => k = g) w w' := by
  have hmm := @run_makeMap Tryz.prog
  have hgl := h.lt
  have k0 := h.cell 0
  have k1 := h.cell 1
  have k2 := h.cell 2
  have k3 := h.cell 3
  have k4 := h.cell 4
  have k5 := h.cell 5
  have k6 := h.cell 6
  have k7 := h.cell 7
  have k8 := h.cell 8
  have z0 := h.soft 0
  have z1 := h.soft 1
  have z2 := h.soft 2
  have z3 := h.soft 3
  have z4 := h.soft 4
  have z5 := h.soft 5
  have z6 := h.soft 6
  have z7 := h.soft 7
  have z8 := h.soft 8
  have hend := boot_end (x := x) h
  unfold nine at hend
  have HE := Lib.hid hend
  clear h hend
  go_enter Tryz.func53, Tryz.ntmps53
  go_upto_region 1 with fail
  go_region
  go_wp2
  go_end0
  exact ⟨rfl, HE.out⟩
theorem KM.empty {w : World} {b : Nat} (h : w.heap[b]? = some (.map #[] 0)) : KM w b 0 fun _ => none := by
  obtain ⟨D, ⟨es, clock, h1, h2⟩, h3⟩ := KM.made w
  have e : some (Obj.map es clock) = some (Obj.map #[] 0) := h1.symm.trans (heap_alloc_new w _)
  cases e
  exact ⟨D, ⟨#[], 0, h, h2⟩, h3⟩
/-- What becomes of a node in a new life. -/
def Booted (B g b : Nat) (s : St) (x : Int) (w : World) (e : Ending) (w' : World) : Prop := e = .returned (.tuple #[]) ∧ ENow B g b 0 (bootS s x) w w'
theorem eboot_any (w : World) (B g b n : Nat) (s : St) (h : En w B g b n s) (x : Int) (hx : F16 x) : Calls Tryz.prog 53 #[.pointer (some ⟨g, 0, none⟩), .int .u16 x] w (Booted B g b s x w) := by
  refine (boot_raw w g s.me s.tmo s.ign x _ _ _ _ _ _ h.holds).mono fun e w' ⟨he, h1, h2, h3⟩ => ⟨he, w.heap.size, ⟨⟨h.newer.1, ?_⟩, h1, KM.empty h2, h.inv.reboot hx⟩, h3.mono (fun k _ e => .inl e), .inr (Nat.le_refl _)⟩
  have := h.newer.1
  have := h.lt
  omega
theorem enew_no (w : World) (me tmo ign : Int) (h : goodB me tmo ign = false) : Calls Tryz.prog 25 #[.int .i64 me, .agg #[.int .i64 tmo, .int .i64 ign]] w fun e w' => e = .returned (.tuple #[.pointer none, .int .i64 1]) ∧ Below w.heap.size w w' := by
  have HX := Lib.hid (Box.start w 35 #[.int .i64 tmo, .int .i64 ign])
  have x0 := HX.out.holds.cell 0
  have x1 := HX.out.holds.cell 1
  have hgood := fun W => rules_any W tmo ign
  by_cases h0 : me < 0
  · have d0 : decide (me < 0) = true := decide_eq_true h0
    go_enter Tryz.func25, Tryz.ntmps25
    go_wp2
    go_ret2
    exact ⟨rfl, HX.out.below⟩
  · have d0 : decide (me < 0) = false := decide_eq_false h0
    by_cases h1 : 64 ≤ me
    · have d1 : decide (64 ≤ me) = true := decide_eq_true h1
      go_enter Tryz.func25, Tryz.ntmps25
      go_wp2
      go_ret2
      exact ⟨rfl, HX.out.below⟩
    · have d1 : decide (64 ≤ me) = false := decide_eq_false h1
      have hr : rulesB tmo ign = false := by
        unfold goodB at h
        unfold rulesB
        have h' := of_decide_eq_false h
        exact decide_eq_false (by omega)
      simp only [hr] at hgood
      clear h hr
      go_enter Tryz.func25, Tryz.ntmps25
      go_wp2_with (go_at_call 52; refine (hgood _).mono ?_; rintro e w2 ⟨rfl, hb2⟩; have hx2 := HX.out.next hb2)
      go_ret2
      exact ⟨rfl, hx2.below⟩
theorem enew_yes (w : World) (me tmo ign : Int) (h : goodB me tmo ign = true) : Calls Tryz.prog 25 #[.int .i64 me, .agg #[.int .i64 tmo, .int .i64 ign]] w fun e w' => ∃ g b, e = .returned (.tuple #[.pointer (some ⟨g, 0, none⟩), .int .i64 0]) ∧ En w' w.heap.size g b 0 (newS me tmo ign 0) ∧ Below w.heap.size w w' := by
  have HX := Lib.hid (Box.start w 35 #[.int .i64 tmo, .int .i64 ign])
  have hgood := fun W => rules_any W tmo ign
  have hI := Inv.new h (b := 0) ⟨by decide, by decide⟩
  obtain ⟨m0, m1, t0, t1, i0, i1⟩ := (good_iff me tmo ign).1 h
  have d0 : decide (me < 0) = false := decide_eq_false (by omega)
  have d1 : decide (64 ≤ me) = false := decide_eq_false (by omega)
  have hr : rulesB tmo ign = true := decide_eq_true (by omega)
  simp only [hr] at hgood
  have HI := Lib.hid hI
  clear h hr hI
  go_enter Tryz.func25, Tryz.ntmps25
  go_wp2_with (first
    | (go_at_call 52; refine (hgood _).mono ?_; rintro e w2 ⟨rfl, hb2⟩; have hx2 := HX.out.next hb2; have HX2 := Lib.hid hx2; have x0 := hx2.holds.cell 0; have x1 := hx2.holds.cell 1; have hboot := boot_raw _ _ _ _ _ 0 _ _ _ _ _ _ (Holds.new w2 120 #[.int .i64 me, .int .i64 tmo, .int .i64 ign, .int .u16 0, .int .u16 0, .int .i64 0, .int .i64 0, .int .i64 0, .map none]); clear hx2)
    | (go_at_call 53; refine hboot.mono ?_; rintro e w4 ⟨rfl, h1, h2, h3⟩))
  go_ret2
  have hs2 := HX2.out.lt
  have hb4 : Below w.heap.size w w4 := Below.chg (HX2.out.alloc (.cells #[.int .i64 me, .int .i64 tmo, .int .i64 ign, .int .u16 0, .int .u16 0, .int .i64 0, .int .i64 0, .int .i64 0, .map none] 120)).below h3 (by simp; omega) (fun k e => by omega)
  exact ⟨_, _, rfl, ⟨⟨by omega, by simp; omega⟩, h1, KM.empty h2, HI.out⟩, hb4⟩
end Go.Proofs.YtgmeakcfiaopcaaGreat

/- A node's calls, as laws meet them. -/
namespace Go.Proofs.YtgmeakcfiaopcaaGreat
open Go.RowKit
set_option linter.unusedVariables false
set_option linter.unusedSimpArgs false

section
variable {w : World} {B g b n : Nat} {s s' : St}
/-- What a law knows behind a call: the node goes on, and nothing older than B was changed. -/
def Goes (B g : Nat) (b n : Nat) (s : St) (w w' : World) : Prop := ∃ b', En w' B g b' n s ∧ Chg (epart g b) w w' ∧ (b' = b ∨ w.heap.size ≤ b')
theorem hear_at (h : En w B g b n s) (hn : n ≤ 100000) (r x q : Int) (hr : (Lit.int .i64 r).wf = true) (hx : F16 x) (hq : F16 q) {v : Int} (hv : hearV s r x q = v) (hs : hearS s r x q = s') : Calls Tryz.prog 32 #[.pointer (some ⟨g, 0, none⟩), .int .i64 r, .agg #[.int .u16 x, .int .u16 q]] w fun e w' => e = .returned (.int .i64 v) ∧ Goes B g b (n + 1) s' w w' := by
  have := hear_any w B g b n s h hn r x q hr hx hq
  unfold Heard at this
  rw [hv, hs] at this
  exact this
theorem beat_at (h : En w B g b n s) {v : Bool} (hv : beatB s = v) (hs : beatS s = s') : Calls Tryz.prog 39 #[.pointer (some ⟨g, 0, none⟩)] w fun e w' => e = .returned (.bool v) ∧ Goes B g b n s' w w' := by
  have := beat_any w B g b n s h
  unfold Beaten at this
  rw [hv, hs] at this
  exact this
theorem mine_at (h : En w B g b n s) {v : Bool} (hv : decide (s.root = s.me) = v) : Calls Tryz.prog 40 #[.pointer (some ⟨g, 0, none⟩)] w fun e w' => e = .returned (.bool v) ∧ ∃ nq, w' = w.drewN nq := by
  have := emine_any w B g b n s h
  rw [hv] at this
  exact this
end
end Go.Proofs.YtgmeakcfiaopcaaGreat

/- A law's node, beside its rules, which lie in a block of the law's own. -/
namespace Go.Proofs.YtgmeakcfiaopcaaGreat
open Go.RowKit
set_option linter.unusedVariables false
set_option linter.unusedSimpArgs false

/-- The rules' block as the law began, and a node that is younger. -/
structure Lw (w wr : World) (t e : Int) (g b n : Nat) (s : St) : Prop where
  box : Box w 35 #[.int .i64 t, .int .i64 e] wr
  node : En wr (w.heap.size + 1) g b n s
section
variable {w wr w' : World} {t e : Int} {g b n n' : Nat} {s s' : St}
theorem Box.chg {ty : TypeId} {cs : Array Value} {S : Nat → Prop} (h : Box w ty cs wr) (hc : Chg S wr w') (hS : ∀ k, S k → w.heap.size + 1 ≤ k) : Box w ty cs w' :=
  ⟨h.holds.chg hc (fun e => by have := hS _ e; omega), Below.chg h.below hc (Nat.le_of_lt h.lt) (fun k hk => by have := hS k hk; omega)⟩
theorem Lw.start {w1 : World} (hB : Box w 35 #[.int .i64 t, .int .i64 e] w1) (hE : En wr w1.heap.size g b n s) (hb : Below w1.heap.size w1 wr) : Lw w wr t e g b n s :=
  ⟨hB.next hb, hE.at (by have := hE.newer; have := hB.lt; omega) (by have := hE.newer; have := hB.lt; omega)⟩
theorem Lw.next (h : Lw w wr t e g b n s) (hg : Goes (w.heap.size + 1) g b n' s' wr w') : ∃ b', Lw w w' t e g b' n' s' ∧ Chg (epart g b) wr w' ∧ (b' = b ∨ wr.heap.size ≤ b') := by
  obtain ⟨b', h1, h2, h3⟩ := hg
  refine ⟨b', ⟨h.box.chg h2 (fun k hk => ?_), h1⟩, h2, h3⟩
  rcases hk with rfl | rfl
  · exact h.node.newer.1
  · exact h.node.newer.2
theorem Lw.below (h : Lw w wr t e g b n s) (hb : Below wr.heap.size wr w') : Lw w w' t e g b n s := ⟨h.box.next hb, h.node.below hb⟩
theorem Lw.alloc (h : Lw w wr t e g b n s) (o : Obj) : Lw w (wr.alloc o) t e g b n s := h.below (below_alloc _ _)
theorem Lw.drewN (h : Lw w wr t e g b n s) (m : Nat) : Lw w (wr.drewN m) t e g b n s := h.below (below_drewN (Below.refl _ _) m)
theorem Lw.mono (h : Lw w wr t e g b n s) (hn : n ≤ n') : Lw w wr t e g b n' s := ⟨h.box, h.node.mono hn⟩
theorem Lw.cells (h : Lw w wr t e g b n s) : wr.cell? ⟨w.heap.size, 0, none⟩ = some (.int .i64 t) ∧ wr.cell? ⟨w.heap.size, 1, none⟩ = some (.int .i64 e) := ⟨h.box.holds.cell 0, h.box.holds.cell 1⟩
theorem Lw.law (h : Lw w wr t e g b n s) : Below w.heap.size w wr := h.box.below
end
end Go.Proofs.YtgmeakcfiaopcaaGreat

/- A law's node in scripts: what becomes of it, call by call. -/
namespace Go.Proofs.YtgmeakcfiaopcaaGreat
open Go.RowKit
set_option linter.unusedVariables false
set_option linter.unusedSimpArgs false

section
variable {w wr w' : World} {t e : Int} {g b n n' : Nat} {s s' : St}
/-- A step of the node: a block of the law's own besides stays. -/
theorem Lw.step (h : Lw w wr t e g b n s) (hg : Goes (w.heap.size + 1) g b n' s' wr w') {o : Nat} {ty : TypeId} {cs : Array Value} (HO : Holds wr o ty cs) (h1 : o ≠ g) (h2 : o ≠ b) : ∃ b', Lw w w' t e g b' n' s' ∧ Holds w' o ty cs ∧ Chg (epart g b) wr w' ∧ (b' = b ∨ wr.heap.size ≤ b') := by
  obtain ⟨b', k1, k2, k3⟩ := h.next hg
  exact ⟨b', k1, HO.chg k2 (fun e => e.elim h1 h2), k2, k3⟩
theorem Lw.apart (h : Lw w wr t e g b n s) : g < wr.heap.size ∧ b < wr.heap.size := ⟨h.node.lt, h.node.ltb⟩
end
theorem hear_keeps (s : St) (r x q : Int) : (hearS s r x q).me = s.me := by unfold hearS; split <;> rfl
theorem beat_keeps (s : St) : (beatS s).me = s.me := by
  unfold beatS
  split
  · rfl
  · split <;> rfl
theorem issue_keeps (s : St) : (issueS s).me = s.me := by unfold issueS; split <;> rfl
/-- A word is refused, and nothing changed, or it is taken, and the root is the word's. -/
theorem hear_ways {s : St} (r x q : Int) (hi : Inv s) : (hearV s r x q = 0 ∧ hearS s r x q = s) ∨ ((hearV s r x q == 0) = false ∧ (hearV s r x q != 0) = true ∧ (hearS s r x q).root = r ∧ 0 ≤ r ∧ r < s.me ∧ (0 ≤ s.root → r ≤ s.root) ∧ takeB s r x q = true) := by
  cases h : takeB s r x q with
  | false => exact .inl (by unfold hearV hearS; rw [h]; exact ⟨rfl, rfl⟩)
  | true =>
    right
    obtain ⟨h0, h1, h2⟩ := (heed_iff s r).1 (take_heed h)
    have hv : hearV s r x q = if movB s r x = true then 2 else 1 := by unfold hearV; rw [h]; rfl
    have hs : (hearS s r x q).root = r := by unfold hearS; rw [h]; rfl
    refine ⟨?_, ?_, hs, h0, h1, fun h3 => ?_, rfl⟩
    · rw [hv]
      split <;> rfl
    · rw [hv]
      split <;> rfl
    · by_cases e : s.root = s.me
      · omega
      · rw [if_neg e] at h2
        omega
theorem beat_ways {s : St} (hi : Inv s) : (beatB s = false ∧ (beatS s).root = s.root) ∨ (beatB s = true ∧ (beatS s).root = s.me ∧ s.root ≠ s.me) := by
  unfold beatB beatS
  by_cases e : s.root = s.me
  · left
    rw [if_pos e]
    exact ⟨decide_eq_false (fun k => k.1 e), rfl⟩
  · rw [if_neg e]
    by_cases e2 : s.waited + 1 < s.tmo
    · left
      rw [if_pos e2]
      exact ⟨decide_eq_false (fun k => by omega), rfl⟩
    · right
      rw [if_neg e2]
      exact ⟨decide_eq_true ⟨e, by omega⟩, rfl, e⟩
theorem issue_at {w : World} {B g b n : Nat} {s : St} (h : En w B g b n s) : Calls Tryz.prog 41 #[.pointer (some ⟨g, 0, none⟩)] w fun e w' => e = .returned (.tuple #[.agg #[.int .u16 (issueV s).1, .int .u16 (issueV s).2], .bool (decide (s.root = s.me))]) ∧ Goes B g b n (issueS s) w w' := issue_any w B g b n s h
theorem boot_at {w : World} {B g b n : Nat} {s : St} (h : En w B g b n s) (x : Int) (hx : F16 x) : Calls Tryz.prog 53 #[.pointer (some ⟨g, 0, none⟩), .int .u16 x] w fun e w' => e = .returned (.tuple #[]) ∧ Goes B g b 0 (bootS s x) w w' := eboot_any w B g b n s h x hx
theorem mark_at {w : World} {B g b n : Nat} {s : St} (h : En w B g b n s) : Calls Tryz.prog 56 #[.pointer (some ⟨g, 0, none⟩)] w fun e w' => e = .returned (.tuple #[.agg #[.int .u16 (saidV s).1, .int .u16 (saidV s).2], .bool (saidB s)]) ∧ Below w.heap.size w w' := emark_any w B g b n s h
end Go.Proofs.YtgmeakcfiaopcaaGreat

