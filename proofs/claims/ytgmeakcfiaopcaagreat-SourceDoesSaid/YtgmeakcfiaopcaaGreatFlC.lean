/- Package flood: what is forgotten, what is kept; a word. -/
import Derived.Test.YtgmeakcfiaopcaaGreatFlB
import Derived.Test.YtgmeakcfiaopcaaGreatBunA
import Derived.Deep.CutBlock
namespace Go.Proofs.YtgmeakcfiaopcaaGreat
open Go.RowKit
set_option linter.unusedVariables false
set_option linter.unusedSimpArgs false

theorem ptV_one (l x y : Int) : ∀ v ∈ ptV l x y, v.oneCell' = true := by
  intro v hv
  simp only [ptV, List.mem_cons, List.not_mem_nil, or_false] at hv
  rcases hv with rfl | rfl | rfl <;> rfl
theorem forget_any (w : World) (B gf g b n : Nat) (f : FS) (h : Fo w B gf g b n f) : Calls Tryz.prog 33 #[.pointer (some ⟨gf, 0, none⟩)] w fun e w' => e = .returned (.tuple #[]) ∧ FGoes B gf g b n f.clear w w' := by
  have hc := clear_any w gf 6 _ _ _ _ h.tab
  have HF := Lib.hid h
  clear h
  go_enter Tryz.func33, Tryz.ntmps33
  go_wp2_with (first
    | (go_at_call 61; refine hc.mono ?_; rintro e w1 ⟨rfl, ht, hch⟩; obtain ⟨b1, hF1, hC1, hp1⟩ := HF.out.tab_goes ht hch; obtain ⟨cur, hcur, hfit, hgo⟩ := hF1.put 0 0 0; have HG := Lib.hid (FGoes.trans hF1 hC1 hp1 hgo hch.size); have HH := Lib.hid hcur; have HI := Lib.hid hfit; clear hgo hF1 hC1 hp1 ht hch hc hcur hfit)
    | (refine wpList_store_at rfl 87 (.tmp 9) (.tmp 7) rfl gf 31 (ptV 0 0 0) rfl rfl 89 _ HH.out (by kernel_rfl) HI.out (ptV_one 0 0 0) ?_))
  go_end0
  exact ⟨rfl, HG.out⟩
set_option maxHeartbeats 1000000 in
set_option maxRecDepth 100000 in
theorem word_any (w : World) (B gf g b n : Nat) (f : FS) (h : Fo w B gf g b n f) (x y l t hp : Int) :
    Calls Tryz.prog 42 #[.pointer (some ⟨gf, 0, none⟩), .agg #[.int .u16 x, .int .u16 y], .agg #[.int .i64 l, .int .i64 t, .int .i64 hp]] w fun e w' => e = .returned (wordV (f.s.me, f.s.root, x, y, hp, t)) ∧ Below w.heap.size w w' := by
  obtain ⟨V, hV⟩ : ∃ V, V = ((w.alloc (.cells #[.int .u16 x, .int .u16 y] 99)).alloc (.cells #[.int .i64 l, .int .i64 t, .int .i64 hp] 87)).alloc (.cells #[.int .i64 0, .int .i64 0, .int .u16 0, .int .u16 0, .int .i64 0, .int .i64 0] 63) := ⟨_, rfl⟩
  have hb1 : Below w.heap.size w (w.alloc (.cells #[.int .u16 x, .int .u16 y] 99)) := below_alloc w _
  have hb2 := hb1.alloc (o := .cells #[.int .i64 l, .int .i64 t, .int .i64 hp] 87) hb1.size
  have hb : Below w.heap.size w V := by rw [hV]; exact hb2.alloc hb2.size _
  have hM : Holds V w.heap.size 99 #[.int .u16 x, .int .u16 y] := by rw [hV]; exact ((Holds.new w _ _).alloc _).alloc _
  have hP : Holds V (w.heap.size + 1) 87 #[.int .i64 l, .int .i64 t, .int .i64 hp] := by
    have := (Holds.new (w.alloc (.cells #[.int .u16 x, .int .u16 y] 99)) 87 #[.int .i64 l, .int .i64 t, .int .i64 hp]).alloc (.cells #[.int .i64 0, .int .i64 0, .int .u16 0, .int .u16 0, .int .i64 0, .int .i64 0] 63)
    rw [size_alloc] at this
    rw [hV]
    exact this
  have hZ : Holds V (w.heap.size + 1 + 1) 63 #[.int .i64 0, .int .i64 0, .int .u16 0, .int .u16 0, .int .i64 0, .int .i64 0] := by
    have := Holds.new ((w.alloc (.cells #[.int .u16 x, .int .u16 y] 99)).alloc (.cells #[.int .i64 l, .int .i64 t, .int .i64 hp] 87)) 63 #[.int .i64 0, .int .i64 0, .int .u16 0, .int .u16 0, .int .i64 0, .int .i64 0]
    rw [size_alloc, size_alloc] at this
    rw [hV]
    exact this
  have hf := (h.below hb).drewN 1
  obtain ⟨c0, c1, _⟩ : V.drew.cell? ⟨gf, 0, none⟩ = some (.pointer (some ⟨g, 0, none⟩)) ∧ V.drew.cell? ⟨gf, 1, none⟩ = some (.int .i64 f.s.me) ∧ True := ⟨hf.cells.1, hf.cells.2.1, trivial⟩
  have m0 : V.drew.cell? ⟨w.heap.size, 0, none⟩ = some (.int .u16 x) := hM.cell 0
  have m1 : V.drew.cell? ⟨w.heap.size, 1, none⟩ = some (.int .u16 y) := hM.cell 1
  have p1 : V.drew.cell? ⟨w.heap.size + 1, 1, none⟩ = some (.int .i64 t) := hP.cell 1
  have p2 : V.drew.cell? ⟨w.heap.size + 1, 2, none⟩ = some (.int .i64 hp) := hP.cell 2
  have hro : Calls Tryz.prog 57 #[.pointer (some ⟨g, 0, none⟩)] V.drew fun e w' => e = .returned (.int .i64 f.s.root) ∧ V.drew = w' := eroot_any _ B g b n _ hf.node
  have HZ : Hid (Holds V.drew (w.heap.size + 1 + 1) 63 #[.int .i64 0, .int .i64 0, .int .u16 0, .int .u16 0, .int .i64 0, .int .i64 0]) := Lib.hid (hZ.drewN 1)
  have HB := Lib.hid hb.drew
  have HF := Lib.hid (show Fo V.drew B gf g b n f from hf)
  have HM := Lib.hid (show Holds V.drew w.heap.size 99 #[.int .u16 x, .int .u16 y] from hM)
  have HP := Lib.hid (show Holds V.drew (w.heap.size + 1) 87 #[.int .i64 l, .int .i64 t, .int .i64 hp] from hP)
  have hgl := h.lt
  have hbl := h.node.lt
  have hkl := h.node.ltb
  clear hf h hM hP hZ hb1 hb2 hb
  go_enter Tryz.func42, Tryz.ntmps42
  go_upto_region 1 with fail
  rw [← hV]
  clear hV
  refine region_turns (fun (w' : World) => w'.cell? ⟨gf, 0, none⟩ = some (.pointer (some ⟨g, 0, none⟩)) ∧ w'.cell? ⟨gf, 1, none⟩ = some (.int .i64 f.s.me) ∧ w'.cell? ⟨w.heap.size, 0, none⟩ = some (.int .u16 x) ∧ w'.cell? ⟨w.heap.size, 1, none⟩ = some (.int .u16 y) ∧ w'.cell? ⟨w.heap.size + 1, 1, none⟩ = some (.int .i64 t) ∧ w'.cell? ⟨w.heap.size + 1, 2, none⟩ = some (.int .i64 hp)) (fun j => decide (19 ≤ j)) (by kernel_rfl) (⟨c0, c1, m0, m1, p1, p2⟩) (fun hS => ?_)
  refine Turns.take hS 0 _ rfl (by kernel_rfl) (by kernel_rfl) (by kernel_rfl) (by kernel_rfl) (fun _ _ _ h => h) (by rfl) (fun w' hS' => by (try dsimp only at hS'); go_split_ands; go_simp; (try with_reducible rfl)) ?_
  simp only [Act.put, List.getElem_toArray, List.getElem_cons_succ, List.getElem_cons_zero, List.setIfInBounds_toArray, List.set_cons_zero, List.set_cons_succ]
  refine Turns.take hS 1 _ rfl (by kernel_rfl) (by kernel_rfl) (by kernel_rfl) (by kernel_rfl) (fun _ _ _ h => h) (by rfl) (fun w' hS' => by (try dsimp only at hS'); go_split_ands; go_simp; (try with_reducible rfl)) ?_
  simp only [Act.put, List.getElem_toArray, List.getElem_cons_succ, List.getElem_cons_zero, List.setIfInBounds_toArray, List.set_cons_zero, List.set_cons_succ]
  refine Turns.take hS 2 _ rfl (by kernel_rfl) (by kernel_rfl) (by kernel_rfl) (by kernel_rfl) (fun _ _ _ h => h) (by rfl) (fun w' hS' => by (try dsimp only at hS'); go_split_ands; go_simp; (try with_reducible rfl)) ?_
  simp only [Act.put, List.getElem_toArray, List.getElem_cons_succ, List.getElem_cons_zero, List.setIfInBounds_toArray, List.set_cons_zero, List.set_cons_succ]
  refine Turns.take hS 3 _ rfl (by kernel_rfl) (by kernel_rfl) (by kernel_rfl) (by kernel_rfl) (fun _ _ _ h => h) (by rfl) (fun w' hS' => by (try dsimp only at hS'); go_split_ands; go_simp; (try with_reducible rfl)) ?_
  simp only [Act.put, List.getElem_toArray, List.getElem_cons_succ, List.getElem_cons_zero, List.setIfInBounds_toArray, List.set_cons_zero, List.set_cons_succ]
  refine Turns.take hS 4 _ rfl (by kernel_rfl) (by kernel_rfl) (by kernel_rfl) (by kernel_rfl) (fun _ _ _ h => h) (by rfl) (fun w' hS' => by (try dsimp only at hS'); go_split_ands; go_simp; (try with_reducible rfl)) ?_
  simp only [Act.put, List.getElem_toArray, List.getElem_cons_succ, List.getElem_cons_zero, List.setIfInBounds_toArray, List.set_cons_zero, List.set_cons_succ]
  refine Turns.take hS 5 _ rfl (by kernel_rfl) (by kernel_rfl) (by kernel_rfl) (by kernel_rfl) (fun _ _ _ h => h) (by rfl) (fun w' hS' => by (try dsimp only at hS'); go_split_ands; go_simp; (try with_reducible rfl)) ?_
  simp only [Act.put, List.getElem_toArray, List.getElem_cons_succ, List.getElem_cons_zero, List.setIfInBounds_toArray, List.set_cons_zero, List.set_cons_succ]
  refine Turns.take hS 6 _ rfl (by kernel_rfl) (by kernel_rfl) (by kernel_rfl) (by kernel_rfl) (fun _ _ _ h => h) (by rfl) (fun w' hS' => by (try dsimp only at hS'); go_split_ands; go_simp; (try with_reducible rfl)) ?_
  simp only [Act.put, List.getElem_toArray, List.getElem_cons_succ, List.getElem_cons_zero, List.setIfInBounds_toArray, List.set_cons_zero, List.set_cons_succ]
  refine Turns.take hS 7 _ rfl (by kernel_rfl) (by kernel_rfl) (by kernel_rfl) (by kernel_rfl) (fun _ _ _ h => h) (by rfl) (fun w' hS' => by (try dsimp only at hS'); go_split_ands; go_simp; (try with_reducible rfl)) ?_
  simp only [Act.put, List.getElem_toArray, List.getElem_cons_succ, List.getElem_cons_zero, List.setIfInBounds_toArray, List.set_cons_zero, List.set_cons_succ]
  refine Turns.take hS 9 _ rfl (by kernel_rfl) (by kernel_rfl) (by kernel_rfl) (by kernel_rfl) (fun _ _ _ h => h) (by rfl) (fun w' hS' => by (try dsimp only at hS'); go_split_ands; go_simp; (try with_reducible rfl)) ?_
  simp only [Act.put, List.getElem_toArray, List.getElem_cons_succ, List.getElem_cons_zero, List.setIfInBounds_toArray, List.set_cons_zero, List.set_cons_succ]
  refine Turns.take hS 10 _ rfl (by kernel_rfl) (by kernel_rfl) (by kernel_rfl) (by kernel_rfl) (fun _ _ _ h => h) (by rfl) (fun w' hS' => by (try dsimp only at hS'); go_split_ands; go_simp; (try with_reducible rfl)) ?_
  simp only [Act.put, List.getElem_toArray, List.getElem_cons_succ, List.getElem_cons_zero, List.setIfInBounds_toArray, List.set_cons_zero, List.set_cons_succ]
  refine Turns.take hS 11 _ rfl (by kernel_rfl) (by kernel_rfl) (by kernel_rfl) (by kernel_rfl) (fun _ _ _ h => h) (by rfl) (fun w' hS' => by (try dsimp only at hS'); go_split_ands; go_simp; (try with_reducible rfl)) ?_
  simp only [Act.put, List.getElem_toArray, List.getElem_cons_succ, List.getElem_cons_zero, List.setIfInBounds_toArray, List.set_cons_zero, List.set_cons_succ]
  refine Turns.take hS 12 _ rfl (by kernel_rfl) (by kernel_rfl) (by kernel_rfl) (by kernel_rfl) (fun _ _ _ h => h) (by rfl) (fun w' hS' => by (try dsimp only at hS'); go_split_ands; go_simp; (try with_reducible rfl)) ?_
  simp only [Act.put, List.getElem_toArray, List.getElem_cons_succ, List.getElem_cons_zero, List.setIfInBounds_toArray, List.set_cons_zero, List.set_cons_succ]
  refine Turns.take hS 13 _ rfl (by kernel_rfl) (by kernel_rfl) (by kernel_rfl) (by kernel_rfl) (fun _ _ _ h => h) (by rfl) (fun w' hS' => by (try dsimp only at hS'); go_split_ands; go_simp; (try with_reducible rfl)) ?_
  simp only [Act.put, List.getElem_toArray, List.getElem_cons_succ, List.getElem_cons_zero, List.setIfInBounds_toArray, List.set_cons_zero, List.set_cons_succ]
  refine Turns.take hS 14 _ rfl (by kernel_rfl) (by kernel_rfl) (by kernel_rfl) (by kernel_rfl) (fun _ _ _ h => h) (by rfl) (fun w' hS' => by (try dsimp only at hS'); go_split_ands; go_simp; (try with_reducible rfl)) ?_
  simp only [Act.put, List.getElem_toArray, List.getElem_cons_succ, List.getElem_cons_zero, List.setIfInBounds_toArray, List.set_cons_zero, List.set_cons_succ]
  refine Turns.take hS 15 _ rfl (by kernel_rfl) (by kernel_rfl) (by kernel_rfl) (by kernel_rfl) (fun _ _ _ h => h) (by rfl) (fun w' hS' => by (try dsimp only at hS'); go_split_ands; go_simp; (try with_reducible rfl)) ?_
  simp only [Act.put, List.getElem_toArray, List.getElem_cons_succ, List.getElem_cons_zero, List.setIfInBounds_toArray, List.set_cons_zero, List.set_cons_succ]
  refine Turns.take hS 16 _ rfl (by kernel_rfl) (by kernel_rfl) (by kernel_rfl) (by kernel_rfl) (fun _ _ _ h => h) (by rfl) (fun w' hS' => by (try dsimp only at hS'); go_split_ands; go_simp; (try with_reducible rfl)) ?_
  simp only [Act.put, List.getElem_toArray, List.getElem_cons_succ, List.getElem_cons_zero, List.setIfInBounds_toArray, List.set_cons_zero, List.set_cons_succ]
  refine Turns.next 8 rfl (by kernel_rfl) (by rfl) (fun K hK => ?_)
  go_simp
  go_at_call 57
  refine hro.mono ?_
  rintro e wx ⟨rfl, hwx⟩
  subst wx
  refine hK.out _ _ (show (fun (w' : World) => w'.cell? ⟨gf, 0, none⟩ = some (.pointer (some ⟨g, 0, none⟩)) ∧ w'.cell? ⟨gf, 1, none⟩ = some (.int .i64 f.s.me) ∧ w'.cell? ⟨w.heap.size, 0, none⟩ = some (.int .u16 x) ∧ w'.cell? ⟨w.heap.size, 1, none⟩ = some (.int .u16 y) ∧ w'.cell? ⟨w.heap.size + 1, 1, none⟩ = some (.int .i64 t) ∧ w'.cell? ⟨w.heap.size + 1, 2, none⟩ = some (.int .i64 hp)) _ from ⟨c0, c1, m0, m1, p1, p2⟩) ?_
  clear hK K hS
  have hS := (show (fun (w' : World) => w'.cell? ⟨gf, 0, none⟩ = some (.pointer (some ⟨g, 0, none⟩)) ∧ w'.cell? ⟨gf, 1, none⟩ = some (.int .i64 f.s.me) ∧ w'.cell? ⟨w.heap.size, 0, none⟩ = some (.int .u16 x) ∧ w'.cell? ⟨w.heap.size, 1, none⟩ = some (.int .u16 y) ∧ w'.cell? ⟨w.heap.size + 1, 1, none⟩ = some (.int .i64 t) ∧ w'.cell? ⟨w.heap.size + 1, 2, none⟩ = some (.int .i64 hp)) _ from ⟨c0, c1, m0, m1, p1, p2⟩)
  refine Turns.take hS 17 _ rfl (by kernel_rfl) (by kernel_rfl) (by kernel_rfl) (by kernel_rfl) (fun _ _ _ h => h) (by rfl) (fun w' hS' => by (try dsimp only at hS'); go_split_ands; go_simp; (try with_reducible rfl)) ?_
  simp only [Act.put, List.getElem_toArray, List.getElem_cons_succ, List.getElem_cons_zero, List.setIfInBounds_toArray, List.set_cons_zero, List.set_cons_succ]
  refine Turns.next 18 rfl (by kernel_rfl) (by rfl) (fun K hK => ?_)
  simp only [List.getElem_toArray, List.getElem_cons_succ, List.getElem_cons_zero]
  refine wp_store_at 63 (.tmp 6) (.tmp 24) rfl (w.heap.size + 1 + 1) 0 [.int .i64 f.s.me, .int .i64 f.s.root, .int .u16 x, .int .u16 y, .int .i64 hp, .int .i64 t] ?hs ?hx 63 [.int .i64 0, .int .i64 0, .int .u16 0, .int .u16 0, .int .i64 0, .int .i64 0] HZ.out (by kernel_rfl) (Nat.le_refl 6) (by intro v hv; simp only [List.mem_cons, List.not_mem_nil, or_false] at hv; rcases hv with rfl | rfl | rfl | rfl | rfl | rfl <;> rfl) ?_
  case hs => first | rfl | simp [Act.eval, Act.put]
  case hx => first | rfl | simp [Act.eval, Act.put]
  have hsp : splice ([.int .i64 0, .int .i64 0, .int .u16 0, .int .u16 0, .int .i64 0, .int .i64 0] : List Value) 0 ([.int .i64 f.s.me, .int .i64 f.s.root, .int .u16 x, .int .u16 y, .int .i64 hp, .int .i64 t] : List Value) = ([.int .i64 f.s.me, .int .i64 f.s.root, .int .u16 x, .int .u16 y, .int .i64 hp, .int .i64 t] : List Value) := splice_all _ _ rfl
  rw [hsp]
  have hrow := HZ.out.row [.int .i64 f.s.me, .int .i64 f.s.root, .int .u16 x, .int .u16 y, .int .i64 hp, .int .i64 t].toArray
  have hgr := grown_row V.drew (w.heap.size + 1 + 1) [.int .i64 f.s.me, .int .i64 f.s.root, .int .u16 x, .int .u16 y, .int .i64 hp, .int .i64 t].toArray
  have HE : Hid (Below w.heap.size w (V.drew.setRow (w.heap.size + 1 + 1) [.int .i64 f.s.me, .int .i64 f.s.root, .int .u16 x, .int .u16 y, .int .i64 hp, .int .i64 t].toArray)) := Lib.hid (Below.chg HB.out (Chg.of_grown hgr (S := fun k => w.heap.size ≤ k) (fun k e => by cases e; omega)) HB.out.size (fun k hk => hk))
  have hf2 := HF.out.chg (Chg.of_grown hgr (S := fun k => w.heap.size ≤ k) (fun k e => by cases e; omega)) (fun k hk => by rcases hk with e | e | e <;> omega)
  have hm2 := HM.out.grown hgr (fun e => absurd (Option.some.inj e) (by omega))
  have hp2 := HP.out.grown hgr (fun e => absurd (Option.some.inj e) (by omega))
  have HR := Lib.hid hrow
  have HC := Lib.hid (show _ ∧ _ ∧ _ ∧ _ ∧ _ ∧ _ from ⟨hf2.cells.1, hf2.cells.2.1, hm2.cell 0, hm2.cell 1, hp2.cell 1, hp2.cell 2⟩)
  clear hrow hgr hf2 hm2 hp2
  refine hK.out _ _ (show (fun (w' : World) => w'.cell? ⟨gf, 0, none⟩ = some (.pointer (some ⟨g, 0, none⟩)) ∧ w'.cell? ⟨gf, 1, none⟩ = some (.int .i64 f.s.me) ∧ w'.cell? ⟨w.heap.size, 0, none⟩ = some (.int .u16 x) ∧ w'.cell? ⟨w.heap.size, 1, none⟩ = some (.int .u16 y) ∧ w'.cell? ⟨w.heap.size + 1, 1, none⟩ = some (.int .i64 t) ∧ w'.cell? ⟨w.heap.size + 1, 2, none⟩ = some (.int .i64 hp)) _ from HC.out) ?_
  clear hK K hS
  have hS := (show (fun (w' : World) => w'.cell? ⟨gf, 0, none⟩ = some (.pointer (some ⟨g, 0, none⟩)) ∧ w'.cell? ⟨gf, 1, none⟩ = some (.int .i64 f.s.me) ∧ w'.cell? ⟨w.heap.size, 0, none⟩ = some (.int .u16 x) ∧ w'.cell? ⟨w.heap.size, 1, none⟩ = some (.int .u16 y) ∧ w'.cell? ⟨w.heap.size + 1, 1, none⟩ = some (.int .i64 t) ∧ w'.cell? ⟨w.heap.size + 1, 2, none⟩ = some (.int .i64 hp)) _ from HC.out)
  refine Turns.rest (late_done (by kernel_rfl)) ?_
  refine any_tail 19 (by rfl) (by kernel_rfl) ?_
  simp only [List.drop_succ_cons, List.drop_zero]
  clear hS
  go_wp2
  refine bodyPost_ret (results_cell_row rfl _ _ (w.heap.size + 1 + 1) 63 _ (0, 0) _ rfl HR.out Tryz.underlying63 rfl (by kernel_rfl)) rfl ?_
  exact ⟨rfl, HE.out⟩
/-- While a word is kept. -/
structure Keeping (w0 : World) (B gf g b n : Nat) (f : FS) (lo t hp : Int) (W : World) : Prop where
  fo : Fo W B gf g b n f
  chg : Chg (fun k => k = gf) w0 W
  old : gf < w0.heap.size
  point : Holds W w0.heap.size 87 #[.int .i64 lo, .int .i64 t, .int .i64 (hp + 1)]
  ent : Holds W (w0.heap.size + 1) 49 #[.int .i64 lo, .int .i64 (t - lo), .int .i64 (hp + 1)]
section
variable {w0 W W' : World} {B gf g b n : Nat} {f : FS} {lo t hp : Int}
theorem Keeping.start (h : Fo w0 B gf g b n f) (lo t hp : Int) : Keeping w0 B gf g b n f lo t hp ((w0.alloc (.cells #[.int .i64 lo, .int .i64 t, .int .i64 (hp + 1)] 87)).alloc (.cells #[.int .i64 lo, .int .i64 (t - lo), .int .i64 (hp + 1)] 49)) := by
  have hb1 := below_alloc w0 (.cells #[.int .i64 lo, .int .i64 t, .int .i64 (hp + 1)] 87)
  have hb := hb1.alloc (o := .cells #[.int .i64 lo, .int .i64 (t - lo), .int .i64 (hp + 1)] 49) hb1.size
  refine ⟨h.below hb, Chg.of_below _ hb, h.lt, (Holds.new w0 _ _).alloc _, ?_⟩
  have := Holds.new (w0.alloc (.cells #[.int .i64 lo, .int .i64 t, .int .i64 (hp + 1)] 87)) 49 #[.int .i64 lo, .int .i64 (t - lo), .int .i64 (hp + 1)]
  rw [size_alloc] at this
  exact this
theorem Keeping.drew (h : Keeping w0 B gf g b n f lo t hp W) : Keeping w0 B gf g b n f lo t hp W.drew := ⟨h.fo.drewN 1, h.chg.trans (Chg.of_below (fun _ => False) (Below.refl _ _).drew) (fun _ _ h => h.elim), h.old, h.point.drewN 1, h.ent.drewN 1⟩
theorem Keeping.tab {L' : List Ent} (h : Keeping w0 B gf g b n f lo t hp W) (ht : Tb W' gf 6 89 (preV g f) (ptV f.pl f.pg f.ph) L') (hc : Chg (fun k => k = gf) W W') : Keeping w0 B gf g b n { f with L := L' } lo t hp W' := by
  obtain ⟨n1, n2⟩ := h.fo.ne
  have := h.old
  exact ⟨⟨h.fo.node.chg hc (fun k hk e => by cases e; exact hk.elim n1 n2), h.fo.newer, ht⟩, h.chg.trans hc (fun _ _ h => h), h.old, h.point.chg hc (fun e => by omega), h.ent.chg hc (fun e => by omega)⟩
theorem Keeping.cells (h : Keeping w0 B gf g b n f lo t hp W) : W.cell? ⟨w0.heap.size, 0, none⟩ = some (.int .i64 lo) ∧ W.cell? ⟨w0.heap.size, 1, none⟩ = some (.int .i64 t) ∧ W.cell? ⟨w0.heap.size, 2, none⟩ = some (.int .i64 (hp + 1)) := ⟨h.point.cell 0, h.point.cell 1, h.point.cell 2⟩
theorem Keeping.ents (h : Keeping w0 B gf g b n f lo t hp W) : W.cell? ⟨w0.heap.size + 1, 0, none⟩ = some (.int .i64 lo) ∧ W.cell? ⟨w0.heap.size + 1, 1, none⟩ = some (.int .i64 (t - lo)) ∧ W.cell? ⟨w0.heap.size + 1, 2, none⟩ = some (.int .i64 (hp + 1)) := ⟨h.ent.cell 0, h.ent.cell 1, h.ent.cell 2⟩
theorem Keeping.done (h : Keeping w0 B gf g b n f lo t hp W) : ∃ cur : List Value, Holds W gf 89 cur.toArray ∧ 31 + (ptV lo t (hp + 1)).length ≤ cur.length ∧ FGoes B gf g b n { f with pl := lo, pg := t, ph := hp + 1 } w0 (W.setRow gf (splice cur 31 (ptV lo t (hp + 1))).toArray) := by
  obtain ⟨cur, h1, h2, h3⟩ := h.fo.put lo t (hp + 1)
  exact ⟨cur, h1, h2, FGoes.trans h.fo (h.chg.mono (fun k _ hk => .inl hk)) (.inl rfl) h3 h.chg.size⟩
end
set_option maxHeartbeats 2000000 in
set_option maxRecDepth 100000 in
theorem keep_any (w : World) (B gf g b n : Nat) (f : FS) (h : Fo w B gf g b n f) (t hp lo : Int) (hcan : canB t hp lo = true) :
    Calls Tryz.prog 34 #[.pointer (some ⟨gf, 0, none⟩), .agg #[.int .i64 lo, .int .i64 t, .int .i64 (hp + 1)]] w fun e w' => e = .returned (.tuple #[]) ∧ FGoes B gf g b n (f.keep t hp lo) w w' := by
  have hce := canE_of hcan
  obtain ⟨⟨h0, h1⟩, ⟨l0, l1⟩, ⟨t0, t1⟩⟩ := canB_iff.1 hcan
  have ew := IntWalk.i64_in (t - lo) (by omega)
  have hst := Keeping.start h lo t hp
  obtain ⟨V, hV⟩ : ∃ V, V = ((w.alloc (.cells #[.int .i64 lo, .int .i64 t, .int .i64 (hp + 1)] 87)).alloc (.cells #[.int .i64 lo, .int .i64 (t - lo), .int .i64 (hp + 1)] 49)) := ⟨_, rfl⟩
  rw [← hV] at hst
  have HK := Lib.hid hst.drew
  have hks := keep_step (L := f.L) hce
  obtain ⟨M, hM⟩ : ∃ M, keepL f.L (lo, t - lo, hp + 1) = M := ⟨_, rfl⟩
  unfold FS.keep
  rw [hM] at hks ⊢
  clear hcan hce h0 h1 l0 l1 t0 t1 h hst hM
  rcases hks with ⟨-, hs⟩ | ⟨-, hs1, hs2⟩
  · have hadd := add_step _ _ _ V.drew gf 6 _ _ _ f.L M 0 HK.out.fo.tab hs
    clear hs
    go_enter Tryz.func34, Tryz.ntmps34
    go_upto_region 2 with fail
    rw [← hV]
    clear hV
    refine region_turns (fun (w' : World) => w'.cell? ⟨w.heap.size + 1, 0, none⟩ = some (.int .i64 lo) ∧ w'.cell? ⟨w.heap.size + 1, 1, none⟩ = some (.int .i64 (t - lo)) ∧ w'.cell? ⟨w.heap.size + 1, 2, none⟩ = some (.int .i64 (hp + 1))) (fun j => decide (6 ≤ j)) (by kernel_rfl) (HK.out.ents) (fun hS => ?_)
    refine Turns.take hS 0 _ rfl (by kernel_rfl) (by kernel_rfl) (by kernel_rfl) (by kernel_rfl) (fun _ _ _ h => h) (by rfl) (fun w' hS' => by (try dsimp only at hS'); go_split_ands; go_simp; (try with_reducible rfl)) ?_
    simp only [Act.put, List.getElem_toArray, List.getElem_cons_succ, List.getElem_cons_zero, List.setIfInBounds_toArray, List.set_cons_zero, List.set_cons_succ]
    refine Turns.take hS 1 _ rfl (by kernel_rfl) (by kernel_rfl) (by kernel_rfl) (by kernel_rfl) (fun _ _ _ h => h) (by rfl) (fun w' hS' => by (try dsimp only at hS'); go_split_ands; go_simp; (try with_reducible rfl)) ?_
    simp only [Act.put, List.getElem_toArray, List.getElem_cons_succ, List.getElem_cons_zero, List.setIfInBounds_toArray, List.set_cons_zero, List.set_cons_succ]
    refine Turns.take hS 2 _ rfl (by kernel_rfl) (by kernel_rfl) (by kernel_rfl) (by kernel_rfl) (fun _ _ _ h => h) (by rfl) (fun w' hS' => by (try dsimp only at hS'); go_split_ands; go_simp; (try with_reducible rfl)) ?_
    simp only [Act.put, List.getElem_toArray, List.getElem_cons_succ, List.getElem_cons_zero, List.setIfInBounds_toArray, List.set_cons_zero, List.set_cons_succ]
    refine Turns.take hS 3 _ rfl (by kernel_rfl) (by kernel_rfl) (by kernel_rfl) (by kernel_rfl) (fun _ _ _ h => h) (by rfl) (fun w' hS' => by (try dsimp only at hS'); go_split_ands; go_simp; (try with_reducible rfl)) ?_
    simp only [Act.put, List.getElem_toArray, List.getElem_cons_succ, List.getElem_cons_zero, List.setIfInBounds_toArray, List.set_cons_zero, List.set_cons_succ]
    refine Turns.next 4 rfl (by kernel_rfl) (by rfl) (fun K hK => ?_)
    go_simp
    go_at_call 62
    refine hadd.mono ?_
    rintro e w1 ⟨rfl, ht, hch⟩
    have HK1 := Lib.hid (HK.out.tab ht hch)
    clear ht hch hadd
    refine hK.out _ _ (show (fun (w' : World) => w'.cell? ⟨w.heap.size + 1, 0, none⟩ = some (.int .i64 lo) ∧ w'.cell? ⟨w.heap.size + 1, 1, none⟩ = some (.int .i64 (t - lo)) ∧ w'.cell? ⟨w.heap.size + 1, 2, none⟩ = some (.int .i64 (hp + 1))) _ from HK1.out.ents) ?_
    clear hK K hS
    have hS := (show (fun (w' : World) => w'.cell? ⟨w.heap.size + 1, 0, none⟩ = some (.int .i64 lo) ∧ w'.cell? ⟨w.heap.size + 1, 1, none⟩ = some (.int .i64 (t - lo)) ∧ w'.cell? ⟨w.heap.size + 1, 2, none⟩ = some (.int .i64 (hp + 1))) _ from HK1.out.ents)
    refine Turns.take hS 5 _ rfl (by kernel_rfl) (by kernel_rfl) (by kernel_rfl) (by kernel_rfl) (fun _ _ _ h => h) (by rfl) (fun w' hS' => by (try dsimp only at hS'); go_split_ands; go_simp; (try with_reducible rfl)) ?_
    simp only [Act.put, List.getElem_toArray, List.getElem_cons_succ, List.getElem_cons_zero, List.setIfInBounds_toArray, List.set_cons_zero, List.set_cons_succ]
    refine Turns.rest (late_done (by kernel_rfl)) ?_
    refine any_tail 6 (by rfl) (by kernel_rfl) ?_
    simp only [List.drop_succ_cons, List.drop_zero]
    clear hS
    obtain ⟨p0, p1, p2⟩ := HK1.out.cells
    obtain ⟨cur, hcur, hfit, hgo⟩ := HK1.out.done
    have HH := Lib.hid hcur
    have HI := Lib.hid hfit
    have HG := Lib.hid hgo
    clear hcur hfit hgo
    go_wp2_with (refine wpList_store_at rfl 87 (.tmp 33) (.tmp 31) rfl gf 31 (ptV lo t (hp + 1)) rfl rfl 89 _ HH.out (by kernel_rfl) HI.out (ptV_one _ _ _) ?_)
    go_end0
    exact ⟨rfl, HG.out⟩
  · have hadd := add_step _ _ _ V.drew gf 6 _ _ _ f.L f.L 12 HK.out.fo.tab hs1
    clear hs1
    go_enter Tryz.func34, Tryz.ntmps34
    go_upto_region 2 with fail
    rw [← hV]
    clear hV
    refine region_turns (fun (w' : World) => w'.cell? ⟨w.heap.size + 1, 0, none⟩ = some (.int .i64 lo) ∧ w'.cell? ⟨w.heap.size + 1, 1, none⟩ = some (.int .i64 (t - lo)) ∧ w'.cell? ⟨w.heap.size + 1, 2, none⟩ = some (.int .i64 (hp + 1))) (fun j => decide (6 ≤ j)) (by kernel_rfl) (HK.out.ents) (fun hS => ?_)
    refine Turns.take hS 0 _ rfl (by kernel_rfl) (by kernel_rfl) (by kernel_rfl) (by kernel_rfl) (fun _ _ _ h => h) (by rfl) (fun w' hS' => by (try dsimp only at hS'); go_split_ands; go_simp; (try with_reducible rfl)) ?_
    simp only [Act.put, List.getElem_toArray, List.getElem_cons_succ, List.getElem_cons_zero, List.setIfInBounds_toArray, List.set_cons_zero, List.set_cons_succ]
    refine Turns.take hS 1 _ rfl (by kernel_rfl) (by kernel_rfl) (by kernel_rfl) (by kernel_rfl) (fun _ _ _ h => h) (by rfl) (fun w' hS' => by (try dsimp only at hS'); go_split_ands; go_simp; (try with_reducible rfl)) ?_
    simp only [Act.put, List.getElem_toArray, List.getElem_cons_succ, List.getElem_cons_zero, List.setIfInBounds_toArray, List.set_cons_zero, List.set_cons_succ]
    refine Turns.take hS 2 _ rfl (by kernel_rfl) (by kernel_rfl) (by kernel_rfl) (by kernel_rfl) (fun _ _ _ h => h) (by rfl) (fun w' hS' => by (try dsimp only at hS'); go_split_ands; go_simp; (try with_reducible rfl)) ?_
    simp only [Act.put, List.getElem_toArray, List.getElem_cons_succ, List.getElem_cons_zero, List.setIfInBounds_toArray, List.set_cons_zero, List.set_cons_succ]
    refine Turns.take hS 3 _ rfl (by kernel_rfl) (by kernel_rfl) (by kernel_rfl) (by kernel_rfl) (fun _ _ _ h => h) (by rfl) (fun w' hS' => by (try dsimp only at hS'); go_split_ands; go_simp; (try with_reducible rfl)) ?_
    simp only [Act.put, List.getElem_toArray, List.getElem_cons_succ, List.getElem_cons_zero, List.setIfInBounds_toArray, List.set_cons_zero, List.set_cons_succ]
    refine Turns.next 4 rfl (by kernel_rfl) (by rfl) (fun K hK => ?_)
    go_simp
    go_at_call 62
    refine hadd.mono ?_
    rintro e w1 ⟨rfl, ht, hch⟩
    have HK1 := Lib.hid (HK.out.tab ht hch)
    clear ht hch hadd
    refine hK.out _ _ (show (fun (w' : World) => w'.cell? ⟨w.heap.size + 1, 0, none⟩ = some (.int .i64 lo) ∧ w'.cell? ⟨w.heap.size + 1, 1, none⟩ = some (.int .i64 (t - lo)) ∧ w'.cell? ⟨w.heap.size + 1, 2, none⟩ = some (.int .i64 (hp + 1))) _ from HK1.out.ents) ?_
    clear hK K hS
    have hS := (show (fun (w' : World) => w'.cell? ⟨w.heap.size + 1, 0, none⟩ = some (.int .i64 lo) ∧ w'.cell? ⟨w.heap.size + 1, 1, none⟩ = some (.int .i64 (t - lo)) ∧ w'.cell? ⟨w.heap.size + 1, 2, none⟩ = some (.int .i64 (hp + 1))) _ from HK1.out.ents)
    refine Turns.take hS 5 _ rfl (by kernel_rfl) (by kernel_rfl) (by kernel_rfl) (by kernel_rfl) (fun _ _ _ h => h) (by rfl) (fun w' hS' => by (try dsimp only at hS'); go_split_ands; go_simp; (try with_reducible rfl)) ?_
    simp only [Act.put, List.getElem_toArray, List.getElem_cons_succ, List.getElem_cons_zero, List.setIfInBounds_toArray, List.set_cons_zero, List.set_cons_succ]
    refine Turns.rest (late_done (by kernel_rfl)) ?_
    refine any_tail 6 (by rfl) (by kernel_rfl) ?_
    simp only [List.drop_succ_cons, List.drop_zero]
    clear hS
    have hclr := clear_any w1 gf 6 _ _ _ _ HK1.out.fo.tab
    go_upto_region 4 with (go_at_call 61; refine hclr.mono ?_; rintro e w2 ⟨rfl, ht, hch⟩; have HK2 := Lib.hid (HK1.out.tab ht hch).drew; clear ht hch hclr)
    have hadd := add_step _ _ _ w2.drew gf 6 _ _ _ [] M 0 HK2.out.fo.tab hs2
    clear hs2
    refine region_turns (fun (w' : World) => w'.cell? ⟨w.heap.size + 1, 0, none⟩ = some (.int .i64 lo) ∧ w'.cell? ⟨w.heap.size + 1, 1, none⟩ = some (.int .i64 (t - lo)) ∧ w'.cell? ⟨w.heap.size + 1, 2, none⟩ = some (.int .i64 (hp + 1))) (fun j => decide (5 ≤ j)) (by kernel_rfl) (HK2.out.ents) (fun hS => ?_)
    refine Turns.take hS 0 _ rfl (by kernel_rfl) (by kernel_rfl) (by kernel_rfl) (by kernel_rfl) (fun _ _ _ h => h) (by rfl) (fun w' hS' => by (try dsimp only at hS'); go_split_ands; go_simp; (try with_reducible rfl)) ?_
    simp only [Act.put, List.getElem_toArray, List.getElem_cons_succ, List.getElem_cons_zero, List.setIfInBounds_toArray, List.set_cons_zero, List.set_cons_succ]
    refine Turns.take hS 1 _ rfl (by kernel_rfl) (by kernel_rfl) (by kernel_rfl) (by kernel_rfl) (fun _ _ _ h => h) (by rfl) (fun w' hS' => by (try dsimp only at hS'); go_split_ands; go_simp; (try with_reducible rfl)) ?_
    simp only [Act.put, List.getElem_toArray, List.getElem_cons_succ, List.getElem_cons_zero, List.setIfInBounds_toArray, List.set_cons_zero, List.set_cons_succ]
    refine Turns.take hS 2 _ rfl (by kernel_rfl) (by kernel_rfl) (by kernel_rfl) (by kernel_rfl) (fun _ _ _ h => h) (by rfl) (fun w' hS' => by (try dsimp only at hS'); go_split_ands; go_simp; (try with_reducible rfl)) ?_
    simp only [Act.put, List.getElem_toArray, List.getElem_cons_succ, List.getElem_cons_zero, List.setIfInBounds_toArray, List.set_cons_zero, List.set_cons_succ]
    refine Turns.take hS 3 _ rfl (by kernel_rfl) (by kernel_rfl) (by kernel_rfl) (by kernel_rfl) (fun _ _ _ h => h) (by rfl) (fun w' hS' => by (try dsimp only at hS'); go_split_ands; go_simp; (try with_reducible rfl)) ?_
    simp only [Act.put, List.getElem_toArray, List.getElem_cons_succ, List.getElem_cons_zero, List.setIfInBounds_toArray, List.set_cons_zero, List.set_cons_succ]
    refine Turns.next 4 rfl (by kernel_rfl) (by rfl) (fun K hK => ?_)
    go_simp
    go_at_call 62
    refine hadd.mono ?_
    rintro e w3 ⟨rfl, ht, hch⟩
    have HK3 := Lib.hid (HK2.out.tab ht hch)
    clear ht hch hadd
    refine hK.out _ _ (show (fun (w' : World) => w'.cell? ⟨w.heap.size + 1, 0, none⟩ = some (.int .i64 lo) ∧ w'.cell? ⟨w.heap.size + 1, 1, none⟩ = some (.int .i64 (t - lo)) ∧ w'.cell? ⟨w.heap.size + 1, 2, none⟩ = some (.int .i64 (hp + 1))) _ from HK3.out.ents) ?_
    clear hK K hS
    have hS := (show (fun (w' : World) => w'.cell? ⟨w.heap.size + 1, 0, none⟩ = some (.int .i64 lo) ∧ w'.cell? ⟨w.heap.size + 1, 1, none⟩ = some (.int .i64 (t - lo)) ∧ w'.cell? ⟨w.heap.size + 1, 2, none⟩ = some (.int .i64 (hp + 1))) _ from HK3.out.ents)
    refine Turns.rest (late_done (by kernel_rfl)) ?_
    refine any_tail 5 (by rfl) (by kernel_rfl) ?_
    simp only [List.drop_succ_cons, List.drop_zero]
    clear hS
    obtain ⟨p0, p1, p2⟩ := HK3.out.cells
    obtain ⟨cur, hcur, hfit, hgo⟩ := HK3.out.done
    have HH := Lib.hid hcur
    have HI := Lib.hid hfit
    have HG := Lib.hid hgo
    clear hcur hfit hgo
    go_wp2_with (refine wpList_store_at rfl 87 (.tmp 33) (.tmp 31) rfl gf 31 (ptV lo t (hp + 1)) rfl rfl 89 _ HH.out (by kernel_rfl) HI.out (ptV_one _ _ _) ?_)
    go_end0
    exact ⟨rfl, HG.out⟩
end Go.Proofs.YtgmeakcfiaopcaaGreat
