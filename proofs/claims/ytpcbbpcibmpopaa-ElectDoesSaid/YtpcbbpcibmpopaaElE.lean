/- Package elect: words of its own, what it tells of its root's. -/
import Derived.Test.YtpcbbpcibmpopaaElD
import Derived.Test.YtpcbbpcibmpopaaTbM
namespace Go.Proofs.Ytpcbbpcibmpopaa
open Go.RowKit
set_option linter.unusedVariables false
set_option linter.unusedSimpArgs false

theorem wf_of {n : Int} (h0 : -9223372036854775808 ≤ n) (h1 : n ≤ 9223372036854775807) : (Lit.int .i64 n).wf = true := WalkArith.wf_i64 (by omega)
theorem mark_size : (Try.prog.info? 33).map (·.size) = some 2 := by kernel_rfl
/-- The end of a call that answers a mark, which lies in a variable of its own, and whether. -/
theorem end_mark {fn : Func} {p u : Tmp} {R : Ending → World → Prop} {a : Act} {w : World} {g : Nat} {x y : Int} {c : Bool} (h : fn.results = #[.cell p 33, .tmp u]) (hp : a.tmps.getD p undef = .pointer (some ⟨g, 0, none⟩)) (hv : a.tmps.getD u undef = .bool c)
    (hg : Holds w g 33 #[.int .u16 x, .int .u16 y]) (hd : a.defers = []) (hR : R (.returned (.tuple #[markV (x, y), .bool c])) w) : bodyPost Try.prog fn R .ret a w :=
  bodyPost_ret (results_row_tmp h _ _ g 33 [.int .u16 x, .int .u16 y] _ _ hp hg Try.underlying33 rfl mark_size hv) hd hR
theorem Box.put2 {w V : World} {t : TypeId} {a b : Value} (h : Box w t #[a, b] V) (x y : Value) : Box w t #[x, y] ((V.setCell ⟨w.heap.size, 0, none⟩ x).setCell ⟨w.heap.size, 1, none⟩ y) :=
  ⟨(h.holds.put 0 x).put 1 y, (h.below.setCell (p := ⟨w.heap.size, 0, none⟩) (Nat.le_refl _) x).setCell (p := ⟨w.heap.size, 1, none⟩) (Nat.le_refl _) y⟩
def zeroC : Array Value := #[.int .u16 0, .int .u16 0]
/-- What Issue answers, and what becomes of the node. -/
def Issued (B g b n : Nat) (s : St) (w : World) (e : Ending) (w' : World) : Prop := e = .returned (.tuple #[markV (issueV s), .bool (decide (s.root = s.me))]) ∧ Now B g b n (issueS s) w w'
theorem issue_nil (w : World) : Calls Try.prog 12 #[.pointer none] w fun e w' => e = .returned (.tuple #[markV (0, 0), .bool false]) ∧ Below w.heap.size w w' := by
  have HX := Lib.hid (Box.start w 33 #[.int .u16 0, .int .u16 0])
  go_enter Try.func12, Try.ntmps12
  go_wp2_with (go_at_call 14; refine (mine_nil _).mono ?_; rintro e w' ⟨rfl, nq, rfl⟩)
  (try simp only [Exit.inBlock, Exit.then])
  have hE := (HX.out.drewN nq).put2 (.int .u16 0) (.int .u16 0)
  refine end_mark rfl rfl rfl hE.holds rfl ?_
  exact ⟨rfl, hE.below⟩
theorem issue_tail {w : World} {B g b n : Nat} {s : St} (h : En w B g b n s) (hr : s.root = s.me) (nq : Nat) :
    let V := ((w.alloc (.cells #[.int .u16 0, .int .u16 0] 33)).drewN nq).setCell ⟨g, 4, none⟩ (.int .u16 (nextV s.seq))
    let F := (V.setCell ⟨w.heap.size, 0, none⟩ (.int .u16 s.boot)).setCell ⟨w.heap.size, 1, none⟩ (.int .u16 (nextV s.seq))
    V.cell? ⟨g, 3, none⟩ = some (.int .u16 s.boot) ∧ V.cell? ⟨g, 4, none⟩ = some (.int .u16 (nextV s.seq)) ∧ V.cell? ⟨w.heap.size, 0, none⟩ = some (.int .u16 0) ∧ V.cell? ⟨w.heap.size, 1, none⟩ = some (.int .u16 0) ∧ V.frozen? ⟨w.heap.size, 0, none⟩ = false ∧ V.frozen? ⟨w.heap.size, 1, none⟩ = false ∧
    Hid (Holds F w.heap.size 33 #[.int .u16 s.boot, .int .u16 (nextV s.seq)] ∧ Now B g b n (issueS s) w F) := by
  intro V F
  have hgl := h.lt
  have hbl := h.ltb
  have hb0 : Below w.heap.size w ((w.alloc (.cells #[.int .u16 0, .int .u16 0] 33)).drewN nq) := below_drewN (below_alloc w _) nq
  have h0 := h.below hb0
  have hI := h.inv.issue
  have hS : issueS s = { s with seq := nextV s.seq } := by unfold issueS; rw [if_pos hr]
  rw [hS] at hI ⊢
  have h1 : En V B g b n { s with seq := nextV s.seq } := h0.put 4 (.int .u16 (nextV s.seq)) rfl rfl hI
  have r0 : Holds V w.heap.size 33 #[.int .u16 0, .int .u16 0] := Holds.far ((Holds.new w _ _).drewN nq) (by omega) _
  have r1 : Holds F w.heap.size 33 #[.int .u16 s.boot, .int .u16 (nextV s.seq)] := (r0.put 0 _).put 1 _
  have cF : Chg (fun k => k = w.heap.size) V F := (Chg.set V w.heap.size 0 _ (S := fun k => k = w.heap.size) rfl).trans (Chg.set _ w.heap.size 1 _ (S := fun k => k = w.heap.size) rfl) (fun _ _ h => h)
  refine ⟨h1.holds.cell 3, h1.holds.cell 4, r0.cell 0, r0.cell 1, r0.soft 0, r0.soft 1, Lib.hid ⟨r1, b, h1.chg cF (fun k hk e => ?_), ?_, .inl rfl⟩⟩
  · rcases hk with rfl | rfl <;> omega
  · exact ((Chg.of_below (part g b) hb0).trans (Chg.set _ g 4 _ (S := part g b) (.inl rfl)) (fun _ _ h => h)).trans cF (fun k hk e => by omega)
theorem issue_any (w : World) (B g b n : Nat) (s : St) (h : En w B g b n s) : Calls Try.prog 12 #[.pointer (some ⟨g, 0, none⟩)] w (Issued B g b n s w) := by
  have HX := Lib.hid (Box.start w 33 #[.int .u16 0, .int .u16 0])
  have h0 := h.below (below_alloc w (.cells #[.int .u16 0, .int .u16 0] 33))
  have hm := mine_any _ B g b n s h0
  unfold Issued
  by_cases hr : s.root = s.me
  · have hV : issueV s = (s.boot, nextV s.seq) := by unfold issueV; rw [if_pos hr]
    have HT := Lib.hid (fun nq => issue_tail h hr nq)
    rw [hV]
    rw [decide_eq_true hr] at hm ⊢
    have hnx := fun W => next_any s.seq W
    obtain ⟨_, _, _, _, c4, _⟩ := h0.cells
    have f4 := h0.holds.soft 4
    obtain ⟨N, hN⟩ : ∃ N, nextV s.seq = N := ⟨_, rfl⟩
    simp only [hN] at hnx HT ⊢
    clear h h0 hr hV hN
    go_enter Try.func12, Try.ntmps12
    go_upto_region 4 with (first
      | (go_at_call 14; refine hm.mono ?_; rintro e w' ⟨rfl, nq, rfl⟩)
      | (go_at_call 25; refine (hnx _).mono ?_; rintro e w' ⟨rfl, rfl⟩))
    obtain ⟨k3, k4, r0, r1, z0, z1, HF⟩ := HT.out nq
    go_region
    go_wp2
    (try simp only [Exit.inBlock, Exit.then])
    refine end_mark rfl rfl rfl (HF.out.1.drewN 1) rfl ?_
    exact ⟨rfl, HF.out.2.of_below (Below.refl _ _).drew⟩
  · have hV : issueV s = (0, 0) := by unfold issueV; rw [if_neg hr]
    have hS : issueS s = s := by unfold issueS; rw [if_neg hr]
    rw [hV, hS]
    rw [decide_eq_false hr] at hm ⊢
    have HE := Lib.hid h
    clear hV hS hr h h0
    go_enter Try.func12, Try.ntmps12
    go_wp2_with (go_at_call 14; refine hm.mono ?_; rintro e w' ⟨rfl, nq, rfl⟩)
    (try simp only [Exit.inBlock, Exit.then])
    have hE := (HX.out.drewN nq).put2 (.int .u16 0) (.int .u16 0)
    refine end_mark rfl rfl rfl hE.holds rfl ?_
    exact ⟨rfl, (Now.refl HE.out).of_below hE.below⟩
theorem mark_nil (w : World) : Calls Try.prog 11 #[.pointer none] w fun e w' => e = .returned (.tuple #[markV (0, 0), .bool false]) ∧ Below w.heap.size w w' := by
  have HX := Lib.hid (Box.start w 33 #[.int .u16 0, .int .u16 0])
  go_enter Try.func11, Try.ntmps11
  go_wp2_with (first
    | (go_at_call 14; refine (mine_nil _).mono ?_; rintro e w' ⟨rfl, nq, rfl⟩)
    | (go_at_call 13; refine (root_nil _).mono ?_; rintro e w' ⟨rfl, rfl⟩))
  (try simp only [Exit.inBlock, Exit.then])
  have hE := (HX.out.drewN nq).put2 (.int .u16 0) (.int .u16 0)
  refine end_mark rfl rfl rfl hE.holds rfl ?_
  exact ⟨rfl, hE.below⟩
theorem mark_any (w : World) (B g b n : Nat) (s : St) (h : En w B g b n s) : Calls Try.prog 11 #[.pointer (some ⟨g, 0, none⟩)] w fun e w' => e = .returned (.tuple #[markV (saidV s), .bool (saidB s)]) ∧ Below w.heap.size w w' := by
  have HX := Lib.hid (Box.start w 33 #[.int .u16 0, .int .u16 0])
  have h0 := h.below (below_alloc w (.cells #[.int .u16 0, .int .u16 0] 33))
  have hm := mine_any _ B g b n s h0
  have hroot := fun m => root_any _ B g b n s (h0.drewN m)
  obtain ⟨r0, r1⟩ := h.inv.root
  obtain ⟨m0, m1⟩ := h.inv.me
  by_cases hr : s.root = s.me
  · rw [decide_eq_true hr] at hm
    have hV : saidV s = (s.boot, s.seq) := by unfold saidV; rw [if_pos hr]
    have hB : saidB s = decide (s.seq ≠ 0) := by unfold saidB; simp [hr]
    rw [hV, hB]
    have dq : (s.seq != 0) = decide (s.seq ≠ 0) := by by_cases e : s.seq = 0 <;> simp [e]
    obtain ⟨_, _, _, c3, c4, _⟩ := h0.cells
    obtain ⟨q, hq⟩ : ∃ q, decide (s.seq ≠ 0) = q := ⟨_, rfl⟩
    rw [hq] at dq ⊢
    clear h h0 hr hV hB hq hroot
    have x0 := HX.out.holds.cell 0
    have x1 := HX.out.holds.cell 1
    have z0 := HX.out.holds.soft 0
    have z1 := HX.out.holds.soft 1
    go_enter Try.func11, Try.ntmps11
    go_upto_region 2 with (go_at_call 14; refine hm.mono ?_; rintro e w' ⟨rfl, nq, rfl⟩)
    go_region
    go_wp2
    (try simp only [Exit.inBlock, Exit.then])
    have hE := (HX.out.drewN nq).put2 (.int .u16 s.boot) (.int .u16 s.seq)
    refine end_mark rfl rfl rfl (hE.holds.drewN 1) rfl ?_
    exact ⟨rfl, hE.below.drew⟩
  · rw [decide_eq_false hr] at hm
    by_cases hn : s.root = -1
    · have hV : saidV s = (0, 0) := by unfold saidV; rw [if_neg hr, if_pos hn]
      have hB : saidB s = false := by unfold saidB; simp [hr, hn]; omega
      have dn : (s.root == -1) = true := by simp [hn]
      rw [hV, hB]
      clear h h0 hr hV hB hn
      go_enter Try.func11, Try.ntmps11
      go_wp2_with (first
        | (go_at_call 14; refine hm.mono ?_; rintro e w' ⟨rfl, nq, rfl⟩)
        | (go_at_call 13; refine (hroot _).mono ?_; rintro e w' ⟨rfl, rfl⟩))
      (try simp only [Exit.inBlock, Exit.then])
      have hE := (HX.out.drewN nq).put2 (.int .u16 0) (.int .u16 0)
      refine end_mark rfl rfl rfl hE.holds rfl ?_
      exact ⟨rfl, hE.below⟩
    · obtain ⟨⟨v0, v1⟩, hp⟩ := h.inv.knows (by omega) hr
      have hV : saidV s = (v0, v1) := by unfold saidV; rw [if_neg hr, if_neg hn, hp]; rfl
      have hB : saidB s = true := by unfold saidB; simp [hr, hn]
      have dn : (s.root == -1) = false := by simp [hn]
      have hlk := fun m => (h0.drewN m).km.get s.root (wf_of (by omega) (by omega))
      simp only [hp, Option.getD_some, markV] at hlk
      rw [hV, hB]
      obtain ⟨_, _, _, _, _, c5, _, _, c8⟩ := h0.cells
      clear h h0 hr hV hB hn hp
      have x0 := HX.out.holds.cell 0
      have x1 := HX.out.holds.cell 1
      have z0 := HX.out.holds.soft 0
      have z1 := HX.out.holds.soft 1
      go_enter Try.func11, Try.ntmps11
      go_upto_region 5 with (first
        | (go_at_call 14; refine hm.mono ?_; rintro e w' ⟨rfl, nq, rfl⟩)
        | (go_at_call 13; refine (hroot _).mono ?_; rintro e w' ⟨rfl, rfl⟩))
      have hlk1 := hlk nq
      go_region
      go_wp2
      (try simp only [Exit.inBlock, Exit.then])
      have hE := (HX.out.drewN nq).put2 (.int .u16 v0) (.int .u16 v1)
      refine end_mark rfl rfl rfl (hE.holds.drewN 1) rfl ?_
      exact ⟨rfl, hE.below.drew⟩
end Go.Proofs.Ytpcbbpcibmpopaa
