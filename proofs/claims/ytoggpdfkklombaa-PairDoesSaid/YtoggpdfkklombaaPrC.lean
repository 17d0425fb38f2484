/- Package pair: Ask, Beat. -/
import Derived.Test.YtoggpdfkklombaaPrB
namespace Go.Proofs.Ytoggpdfkklombaa
open Go.RowKit
set_option linter.unusedVariables false
set_option linter.unusedSimpArgs false

/-- What Ask answers. -/
def askV (p : PS) (tt l : Int) : Value := if askB p tt l = true then .tuple #[.agg #[.int .i64 p.me, .int .i64 tt, .int .i64 l], .bool true] else .tuple #[.agg #[.int .i64 0, .int .i64 0, .int .i64 0], .bool false]
theorem pask_nil (w : World) (tt l : Int) : Calls Try.prog 17 #[.pointer none, .int .i64 tt, .int .i64 l] w fun e w' => e = .returned (.tuple #[.agg #[.int .i64 0, .int .i64 0, .int .i64 0], .bool false]) ∧ Below w.heap.size w w' := by
  have hb := below_alloc w (.cells #[.int .i64 0, .int .i64 0, .int .i64 0] 36)
  have HH := Lib.hid (Holds.new w 36 #[.int .i64 0, .int .i64 0, .int .i64 0])
  go_enter Try.func17, Try.ntmps17
  go_wp2
  refine bodyPost_ret (results_row_tmp rfl _ _ w.heap.size 36 [.int .i64 0, .int .i64 0, .int .i64 0] _ _ rfl (HH.out) Try.underlying36 rfl (by kernel_rfl) rfl) rfl ?_
  exact ⟨rfl, hb⟩
/-- While somebody is asked: the node's block, the result's, the Pulse's. -/
structure Ak (w0 : World) (g : Nat) (cs : Array Value) (rs : Array Value) (bs : Array Value) (w : World) : Prop where
  node : Holds w g 68 cs
  res : Holds w w0.heap.size 36 rs
  box : Holds w (w0.heap.size + 1) 36 bs
  chg : Chg (fun k => k = g) w0 w
  old : g < w0.heap.size
section
variable {w0 w w' : World} {g : Nat} {cs rs bs : Array Value}
theorem Ak.start (h : Holds w0 g 68 cs) (rs bs : Array Value) : Ak w0 g cs rs bs ((w0.alloc (.cells rs 36)).alloc (.cells bs 36)) := by
  have h2 := Holds.new (w0.alloc (.cells rs 36)) 36 bs
  rw [size_alloc] at h2
  exact ⟨(h.alloc _).alloc _, (Holds.new w0 _ _).alloc _, h2, Chg.of_below _ (((Below.refl _ _).alloc (Nat.le_refl _) _).alloc (by simp) _), h.lt⟩
theorem Ak.below (h : Ak w0 g cs rs bs w) (hb : Below w.heap.size w w') : Ak w0 g cs rs bs w' :=
  ⟨h.node.below hb h.node.lt, h.res.below hb h.res.lt, h.box.below hb h.box.lt, h.chg.trans (Chg.of_below (fun _ => False) hb) (fun _ _ e => e.elim), h.old⟩
theorem Ak.drewN (h : Ak w0 g cs rs bs w) (n : Nat) : Ak w0 g cs rs bs (w.drewN n) := h.below (below_drewN (Below.refl _ _) n)
theorem Ak.put (h : Ak w0 g cs rs bs w) (i : Nat) (u : Value) : Ak w0 g (cs.setIfInBounds i u) rs bs (w.setCell ⟨g, i, none⟩ u) :=
  ⟨h.node.put i u, h.res.far (by have := h.old; omega) u, h.box.far (by have := h.old; omega) u, h.chg.trans (Chg.set (S := fun k => k = g) w g i u rfl) (fun _ _ e => e), h.old⟩
theorem Ak.to {cs' : Array Value} (h : Ak w0 g cs rs bs w) (e : cs = cs') : Ak w0 g cs' rs bs w := e ▸ h
theorem Ak.row (h : Ak w0 g cs rs bs w) (l : List Value) : Ak w0 g l.toArray rs bs (w.setRow g l.toArray) := by
  have hg := grown_row w g l.toArray
  have ho := h.old
  exact ⟨h.node.row _, h.res.grown hg (fun e => absurd (Option.some.inj e) (by omega)), h.box.grown hg (fun e => absurd (Option.some.inj e) (by omega)), h.chg.trans (Chg.of_grown hg (S := fun k => k = g) (fun k e => by cases e; rfl)) (fun _ _ e => e), h.old⟩
theorem Ak.answer (h : Ak w0 g cs rs bs w) (l : List Value) : Ak w0 g cs l.toArray bs (w.setRow w0.heap.size l.toArray) := by
  have hg := grown_row w w0.heap.size l.toArray
  have ho := h.old
  exact ⟨h.node.grown hg (fun e => absurd (Option.some.inj e) (by omega)), h.res.row _, h.box.grown hg (fun e => absurd (Option.some.inj e) (by omega)), h.chg.trans (Chg.of_grown hg (S := fun k => w0.heap.size ≤ k) (fun k e => by cases e; omega)) (fun k hk e => by omega), h.old⟩
end
set_option maxHeartbeats 2000000 in
set_option maxRecDepth 100000 in
theorem pask_no (w : World) (g : Nat) (p : PS) (h : Par w g p) (tt l : Int) (hm : Fits p.me) (ft : Fits tt) (fl : Fits l) (hn : askB p tt l = false) :
    Calls Try.prog 17 #[.pointer (some ⟨g, 0, none⟩), .int .i64 tt, .int .i64 l] w fun e w' => e = .returned (.tuple #[.agg #[.int .i64 0, .int .i64 0, .int .i64 0], .bool false]) ∧ PGoes g p w w' := by
  have hst : Par (w.alloc (.cells #[.int .i64 0, .int .i64 0, .int .i64 0] 36)) g p := h.alloc _
  have c0 := hst.c0
  have c1 := hst.c1
  have c7 := hst.c7
  clear hst
  have HE := Lib.hid (PGoes.of_below h (below_alloc w (.cells #[.int .i64 0, .int .i64 0, .int .i64 0] 36)))
  have HH := Lib.hid (Holds.new w 36 #[.int .i64 0, .int .i64 0, .int .i64 0])
  have hcase : p.w = true ∨ p.w = false ∧ decide (0 < p.rests) = true ∨ p.w = false ∧ decide (0 < p.rests) = false ∧ (tt == p.me) = true ∨ p.w = false ∧ decide (0 < p.rests) = false ∧ (tt == p.me) = false ∧ pulseB p.me tt l = false := by
    unfold askB at hn
    cases e1 : p.w <;> cases e2 : decide (0 < p.rests) <;> cases e3 : (tt == p.me) <;> simp_all
  obtain ⟨me, b, f, t, s, ro, va, re⟩ := p
  dsimp only at c0 c1 c7 hcase hm
  clear hn
  rcases hcase with d1 | ⟨d1, d2⟩ | ⟨d1, d2, d3⟩ | ⟨d1, d2, d3, d4⟩
  rotate_left 3
  · have hg := fun W => pgood_any me tt l W hm ft fl
    rw [d4] at hg
    subst d1
    have HA := Lib.hid (Ak.start h #[.int .i64 0, .int .i64 0, .int .i64 0] #[.int .i64 me, .int .i64 tt, .int .i64 l])
    have hsp : splice ([.int .i64 0, .int .i64 0, .int .i64 0] : List Value) 0 ([.int .i64 0, .int .i64 0, .int .i64 0] : List Value) = [.int .i64 0, .int .i64 0, .int .i64 0] := splice_all _ _ rfl
    clear h HE HH d4
    go_enter Try.func17, Try.ntmps17
    go_wp2_with (first
      | (go_at_call 29; refine (hg _).mono ?_; rintro e w1 ⟨rfl, hb1⟩; replace HA := Lib.hid (HA.out.below hb1); clear hb1)
      | (refine wpList_store_at rfl 36 (.tmp 6) (.tmp 44) rfl w.heap.size 0 [.int .i64 0, .int .i64 0, .int .i64 0] rfl rfl 36 [.int .i64 0, .int .i64 0, .int .i64 0] HA.out.res (by kernel_rfl) (Nat.le_refl 3) (one_ints3 _ _ _) ?_; rw [hsp]; replace HA := Lib.hid (HA.out.answer [.int .i64 0, .int .i64 0, .int .i64 0])))
    refine bodyPost_ret (results_row_tmp rfl _ _ w.heap.size 36 [.int .i64 0, .int .i64 0, .int .i64 0] _ _ rfl HA.out.res Try.underlying36 rfl (by kernel_rfl) rfl) rfl ?_
    exact ⟨rfl, HA.out.node, HA.out.chg⟩
  all_goals
    (try subst d1)
    clear h hm ft fl
    go_enter Try.func17, Try.ntmps17
    go_wp2
    refine bodyPost_ret (results_row_tmp rfl _ _ w.heap.size 36 [.int .i64 0, .int .i64 0, .int .i64 0] _ _ rfl (HH.out) Try.underlying36 rfl (by kernel_rfl) rfl) rfl ?_
    exact ⟨rfl, HE.out⟩
set_option maxHeartbeats 2000000 in
set_option maxRecDepth 100000 in
theorem pask_yes (w : World) (g : Nat) (p : PS) (h : Par w g p) (tt l : Int) (hm : Fits p.me) (ft : Fits tt) (fl : Fits l) (hy : askB p tt l = true) :
    Calls Try.prog 17 #[.pointer (some ⟨g, 0, none⟩), .int .i64 tt, .int .i64 l] w fun e w' => e = .returned (.tuple #[.agg #[.int .i64 p.me, .int .i64 tt, .int .i64 l], .bool true]) ∧ PGoes g ⟨p.me, true, p.me, tt, l, p.rounds, p.vain, p.rests⟩ w w' := by
  have hst : Par (w.alloc (.cells #[.int .i64 0, .int .i64 0, .int .i64 0] 36)) g p := h.alloc _
  have c0 := hst.c0
  have c1 := hst.c1
  have c7 := hst.c7
  clear hst
  have hcase : p.w = false ∧ decide (0 < p.rests) = false ∧ (tt == p.me) = false ∧ pulseB p.me tt l = true := by
    unfold askB at hy
    cases e1 : p.w <;> cases e2 : decide (0 < p.rests) <;> cases e3 : (tt == p.me) <;> simp_all
  obtain ⟨me, b, f, t, s, ro, va, re⟩ := p
  dsimp only at c0 c1 c7 hcase hm
  obtain ⟨d1, d2, d3, d4⟩ := hcase
  have hg := fun W => pgood_any me tt l W hm ft fl
  rw [d4] at hg
  subst d1
  have HA := Lib.hid (Ak.start h #[.int .i64 0, .int .i64 0, .int .i64 0] #[.int .i64 me, .int .i64 tt, .int .i64 l])
  have hsp : splice ([.int .i64 0, .int .i64 0, .int .i64 0] : List Value) 0 ([.int .i64 me, .int .i64 tt, .int .i64 l] : List Value) = [.int .i64 me, .int .i64 tt, .int .i64 l] := splice_all _ _ rfl
  have hsp2 : splice ([.int .i64 me, .bool true, .int .i64 f, .int .i64 t, .int .i64 s, .int .i64 ro, .int .i64 va, .int .i64 re] : List Value) 2 ([.int .i64 me, .int .i64 tt, .int .i64 l] : List Value) = [.int .i64 me, .bool true, .int .i64 me, .int .i64 tt, .int .i64 l, .int .i64 ro, .int .i64 va, .int .i64 re] := rfl
  clear h hy d4 hm ft fl
  go_enter Try.func17, Try.ntmps17
  go_upto_region 6 with (go_at_call 29; refine (hg _).mono ?_; rintro e w1 ⟨rfl, hb1⟩; replace HA := Lib.hid (HA.out.below hb1); clear hb1)
  clear c0 c1 c7 d2 d3
  replace HA : Hid (Ak w g _ _ _ w1.drew) := Lib.hid (HA.out.drewN 1)
  have c1 := HA.out.node.cell 1
  have f1 := HA.out.node.soft 1
  refine region_turns (fun (w' : World) => w'.cell? ⟨w.heap.size + 1, 0, none⟩ = some (.int .i64 me) ∧ w'.cell? ⟨w.heap.size + 1, 1, none⟩ = some (.int .i64 tt) ∧ w'.cell? ⟨w.heap.size + 1, 2, none⟩ = some (.int .i64 l)) (fun j => decide (9 ≤ j)) (by kernel_rfl) (⟨HA.out.box.cell 0, HA.out.box.cell 1, HA.out.box.cell 2⟩) (fun hS => ?_)
  refine Turns.take hS 0 _ rfl (by kernel_rfl) (by kernel_rfl) (by kernel_rfl) (by kernel_rfl) (fun _ _ _ h => h) (by rfl) (fun w' hS' => by (try dsimp only at hS'); go_split_ands; go_simp; (try with_reducible rfl)) ?_
  simp only [Act.put, List.getElem_toArray, List.getElem_cons_succ, List.getElem_cons_zero, List.setIfInBounds_toArray, List.set_cons_zero, List.set_cons_succ]
  refine Turns.take hS 1 _ rfl (by kernel_rfl) (by kernel_rfl) (by kernel_rfl) (by kernel_rfl) (fun _ _ _ h => h) (by rfl) (fun w' hS' => by (try dsimp only at hS'); go_split_ands; go_simp; (try with_reducible rfl)) ?_
  simp only [Act.put, List.getElem_toArray, List.getElem_cons_succ, List.getElem_cons_zero, List.setIfInBounds_toArray, List.set_cons_zero, List.set_cons_succ]
  refine Turns.take hS 2 _ rfl (by kernel_rfl) (by kernel_rfl) (by kernel_rfl) (by kernel_rfl) (fun _ _ _ h => h) (by rfl) (fun w' hS' => by (try dsimp only at hS'); go_split_ands; go_simp; (try with_reducible rfl)) ?_
  simp only [Act.put, List.getElem_toArray, List.getElem_cons_succ, List.getElem_cons_zero, List.setIfInBounds_toArray, List.set_cons_zero, List.set_cons_succ]
  refine Turns.take hS 3 _ rfl (by kernel_rfl) (by kernel_rfl) (by kernel_rfl) (by kernel_rfl) (fun _ _ _ h => h) (by rfl) (fun w' hS' => by (try dsimp only at hS'); go_split_ands; go_simp; (try with_reducible rfl)) ?_
  simp only [Act.put, List.getElem_toArray, List.getElem_cons_succ, List.getElem_cons_zero, List.setIfInBounds_toArray, List.set_cons_zero, List.set_cons_succ]
  refine Turns.take hS 4 _ rfl (by kernel_rfl) (by kernel_rfl) (by kernel_rfl) (by kernel_rfl) (fun _ _ _ h => h) (by rfl) (fun w' hS' => by (try dsimp only at hS'); go_split_ands; go_simp; (try with_reducible rfl)) ?_
  simp only [Act.put, List.getElem_toArray, List.getElem_cons_succ, List.getElem_cons_zero, List.setIfInBounds_toArray, List.set_cons_zero, List.set_cons_succ]
  refine Turns.next 5 rfl (by kernel_rfl) (by rfl) (fun K hK => ?_)
  go_simp
  replace HA := Lib.hid ((HA.out.put 1 (.bool true)).to (cs' := [.int .i64 me, .bool true, .int .i64 f, .int .i64 t, .int .i64 s, .int .i64 ro, .int .i64 va, .int .i64 re].toArray) rfl)
  refine hK.out _ _ (show (fun (w' : World) => w'.cell? ⟨w.heap.size + 1, 0, none⟩ = some (.int .i64 me) ∧ w'.cell? ⟨w.heap.size + 1, 1, none⟩ = some (.int .i64 tt) ∧ w'.cell? ⟨w.heap.size + 1, 2, none⟩ = some (.int .i64 l)) _ from ⟨HA.out.box.cell 0, HA.out.box.cell 1, HA.out.box.cell 2⟩) ?_
  clear hK K hS
  have hS := (show (fun (w' : World) => w'.cell? ⟨w.heap.size + 1, 0, none⟩ = some (.int .i64 me) ∧ w'.cell? ⟨w.heap.size + 1, 1, none⟩ = some (.int .i64 tt) ∧ w'.cell? ⟨w.heap.size + 1, 2, none⟩ = some (.int .i64 l)) _ from ⟨HA.out.box.cell 0, HA.out.box.cell 1, HA.out.box.cell 2⟩)
  refine Turns.take hS 6 _ rfl (by kernel_rfl) (by kernel_rfl) (by kernel_rfl) (by kernel_rfl) (fun _ _ _ h => h) (by rfl) (fun w' hS' => by (try dsimp only at hS'); go_split_ands; go_simp; (try with_reducible rfl)) ?_
  simp only [Act.put, List.getElem_toArray, List.getElem_cons_succ, List.getElem_cons_zero, List.setIfInBounds_toArray, List.set_cons_zero, List.set_cons_succ]
  refine Turns.take hS 7 _ rfl (by kernel_rfl) (by kernel_rfl) (by kernel_rfl) (by kernel_rfl) (fun _ _ _ h => h) (by rfl) (fun w' hS' => by (try dsimp only at hS'); go_split_ands; go_simp; (try with_reducible rfl)) ?_
  simp only [Act.put, List.getElem_toArray, List.getElem_cons_succ, List.getElem_cons_zero, List.setIfInBounds_toArray, List.set_cons_zero, List.set_cons_succ]
  refine Turns.next 8 rfl (by kernel_rfl) (by rfl) (fun K hK => ?_)
  simp only [List.getElem_toArray, List.getElem_cons_succ, List.getElem_cons_zero]
  refine wp_store_at 36 (.tmp 51) (.tmp 47) rfl g 2 [.int .i64 me, .int .i64 tt, .int .i64 l] ?hs ?hx 68 [.int .i64 me, .bool true, .int .i64 f, .int .i64 t, .int .i64 s, .int .i64 ro, .int .i64 va, .int .i64 re] HA.out.node (by kernel_rfl) (by show 5 ≤ 8; omega) (one_ints3 _ _ _) ?_
  case hs => first | rfl | simp [Act.eval, Act.put]
  case hx => first | rfl | simp [Act.eval, Act.put]
  rw [hsp2]
  replace HA := Lib.hid (HA.out.row [.int .i64 me, .bool true, .int .i64 me, .int .i64 tt, .int .i64 l, .int .i64 ro, .int .i64 va, .int .i64 re])
  obtain ⟨W3, hW3⟩ : ∃ W3, W3 = ((w1.drew.setCell ⟨g, 1, none⟩ (.bool true)).setRow g [.int .i64 me, .bool true, .int .i64 me, .int .i64 tt, .int .i64 l, .int .i64 ro, .int .i64 va, .int .i64 re].toArray) := ⟨_, rfl⟩
  rw [← hW3] at HA
  first | rw [← hW3] | (rw [show ((w1.setCell ⟨g, 1, none⟩ (.bool true)).drew.setRow g [.int .i64 me, .bool true, .int .i64 me, .int .i64 tt, .int .i64 l, .int .i64 ro, .int .i64 va, .int .i64 re].toArray) = W3 from hW3.symm])
  clear hW3 c1 f1
  refine hK.out _ _ (show (fun (w' : World) => w'.cell? ⟨w.heap.size + 1, 0, none⟩ = some (.int .i64 me) ∧ w'.cell? ⟨w.heap.size + 1, 1, none⟩ = some (.int .i64 tt) ∧ w'.cell? ⟨w.heap.size + 1, 2, none⟩ = some (.int .i64 l)) _ from ⟨HA.out.box.cell 0, HA.out.box.cell 1, HA.out.box.cell 2⟩) ?_
  clear hK K hS
  have hS := (show (fun (w' : World) => w'.cell? ⟨w.heap.size + 1, 0, none⟩ = some (.int .i64 me) ∧ w'.cell? ⟨w.heap.size + 1, 1, none⟩ = some (.int .i64 tt) ∧ w'.cell? ⟨w.heap.size + 1, 2, none⟩ = some (.int .i64 l)) _ from ⟨HA.out.box.cell 0, HA.out.box.cell 1, HA.out.box.cell 2⟩)
  refine Turns.rest (late_done (by kernel_rfl)) ?_
  refine any_tail 9 (by rfl) (by kernel_rfl) ?_
  simp only [List.drop_succ_cons, List.drop_zero]
  clear hS
  have x0 := HA.out.box.cell 0
  have x1 := HA.out.box.cell 1
  have x2 := HA.out.box.cell 2
  go_wp2_with (refine wpList_store_at rfl 36 (.tmp 6) (.tmp 52) rfl w.heap.size 0 [.int .i64 me, .int .i64 tt, .int .i64 l] rfl rfl 36 [.int .i64 0, .int .i64 0, .int .i64 0] HA.out.res (by kernel_rfl) (Nat.le_refl 3) (one_ints3 _ _ _) ?_; rw [hsp]; replace HA := Lib.hid (HA.out.answer [.int .i64 me, .int .i64 tt, .int .i64 l]))
  refine bodyPost_ret (results_row_tmp rfl _ _ w.heap.size 36 [.int .i64 me, .int .i64 tt, .int .i64 l] _ _ rfl HA.out.res Try.underlying36 rfl (by kernel_rfl) rfl) rfl ?_
  exact ⟨rfl, HA.out.node, HA.out.chg⟩
theorem pask_any (w : World) (g : Nat) (p : PS) (h : Par w g p) (tt l : Int) (hm : Fits p.me) (ft : Fits tt) (fl : Fits l) :
    Calls Try.prog 17 #[.pointer (some ⟨g, 0, none⟩), .int .i64 tt, .int .i64 l] w fun e w' => e = .returned (askV p tt l) ∧ PGoes g (askP p tt l) w w' := by
  unfold askV askP
  by_cases e : askB p tt l = true
  · rw [if_pos e, if_pos e]
    exact pask_yes w g p h tt l hm ft fl e
  · rw [if_neg e, if_neg e]
    exact pask_no w g p h tt l hm ft fl (by simpa using e)
end Go.Proofs.Ytoggpdfkklombaa
