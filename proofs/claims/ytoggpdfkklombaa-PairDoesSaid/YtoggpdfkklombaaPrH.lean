/- The document's node of layer 18: Hear. -/
import Derived.Test.YtoggpdfkklombaaPrG
import Derived.BigQuiet
namespace Go.Proofs.Ytoggpdfkklombaa
open Go.RowKit
set_option linter.unusedVariables false
set_option linter.unusedSimpArgs false

/-- While the document's node hears. -/
structure Hd (w0 : World) (g : Nat) (cs bs rs : Array Value) (w : World) : Prop where
  node : Holds w g 48 cs
  box : Holds w w0.heap.size 50 bs
  res : Holds w (w0.heap.size + 1) 55 rs
  chg : Chg (fun k => k = g) w0 w
  old : g < w0.heap.size
section
variable {w0 w w' : World} {g : Nat} {cs bs rs : Array Value}
theorem Hd.start (h : Holds w0 g 48 cs) (bs rs : Array Value) : Hd w0 g cs bs rs ((w0.alloc (.cells bs 50)).alloc (.cells rs 55)) := by
  have h2 := Holds.new (w0.alloc (.cells bs 50)) 55 rs
  rw [size_alloc] at h2
  exact ⟨(h.alloc _).alloc _, (Holds.new w0 _ _).alloc _, h2, Chg.of_below _ (((Below.refl _ _).alloc (Nat.le_refl _) _).alloc (by simp) _), h.lt⟩
theorem Hd.below (h : Hd w0 g cs bs rs w) (hb : Below w.heap.size w w') : Hd w0 g cs bs rs w' :=
  ⟨h.node.below hb h.node.lt, h.box.below hb h.box.lt, h.res.below hb h.res.lt, h.chg.trans (Chg.of_below (fun _ => False) hb) (fun _ _ e => e.elim), h.old⟩
theorem Hd.drewN (h : Hd w0 g cs bs rs w) (n : Nat) : Hd w0 g cs bs rs (w.drewN n) := h.below (below_drewN (Below.refl _ _) n)
theorem Hd.alloc (h : Hd w0 g cs bs rs w) (o : Obj) : Hd w0 g cs bs rs (w.alloc o) := h.below (below_alloc _ _)
theorem Hd.put (h : Hd w0 g cs bs rs w) (i : Nat) (u : Value) : Hd w0 g (cs.setIfInBounds i u) bs rs (w.setCell ⟨g, i, none⟩ u) :=
  ⟨h.node.put i u, h.box.far (by have := h.old; omega) u, h.res.far (by have := h.old; omega) u, h.chg.trans (Chg.set (S := fun k => k = g) w g i u rfl) (fun _ _ e => e), h.old⟩
theorem Hd.to {cs' : Array Value} (h : Hd w0 g cs bs rs w) (e : cs = cs') : Hd w0 g cs' bs rs w := e ▸ h
theorem Hd.answer (h : Hd w0 g cs bs rs w) (l : List Value) : Hd w0 g cs bs l.toArray (w.setRow (w0.heap.size + 1) l.toArray) := by
  have hg := grown_row w (w0.heap.size + 1) l.toArray
  have ho := h.old
  exact ⟨h.node.grown hg (fun e => absurd (Option.some.inj e) (by omega)), h.box.grown hg (fun e => absurd (Option.some.inj e) (by omega)), h.res.row _, h.chg.trans (Chg.of_grown hg (S := fun k => w0.heap.size ≤ k) (fun k e => by cases e; omega)) (fun k hk e => by omega), h.old⟩
theorem Hd.other (h : Hd w0 g cs bs rs w) (x : Nat) (l : List Value) (n1 : x ≠ g) (n2 : w0.heap.size + 1 < x) : Hd w0 g cs bs rs (w.setRow x l.toArray) := by
  have hg := grown_row w x l.toArray
  have ho := h.old
  exact ⟨h.node.grown hg (fun e => absurd (Option.some.inj e) (by omega)), h.box.grown hg (fun e => absurd (Option.some.inj e) (by omega)), h.res.grown hg (fun e => absurd (Option.some.inj e) (by omega)), h.chg.trans (Chg.of_grown hg (S := fun k => w0.heap.size ≤ k) (fun k e => by cases e; omega)) (fun k hk e => by omega), h.old⟩
end
set_option maxHeartbeats 4000000 in
set_option maxRecDepth 100000 in
theorem rhear_any (w : World) (g : Nat) (p : PS) (h : Dn w g p) (a0 a1 a2 a3 a4 a5 a6 a7 a8 a9 a10 a11 a12 a13 l : Int) :
    Calls Try.prog 24 #[.pointer (some ⟨g, 0, none⟩), .agg #[.int .i64 a0, .int .i64 a1, .int .i64 a2, .int .i64 a3, .int .u16 a4, .int .u16 a5, .int .i64 a6, .int .i64 a7, .int .i64 a8, .int .i64 a9, .int .i64 a10, .int .i64 a11, .int .i64 a12, .int .i64 a13], .int .i64 l] w fun e w' => e = .returned (hearV p a1 a2 a9 a10 a11 a6 l) ∧ DGoes g (hearP p a1 a2 a9 a10 a11 a6 l) w w' := by
  obtain ⟨dt, ds, dn, h, hk⟩ := h
  have hst := Hd.start h #[.int .i64 a0, .int .i64 a1, .int .i64 a2, .int .i64 a3, .int .u16 a4, .int .u16 a5, .int .i64 a6, .int .i64 a7, .int .i64 a8, .int .i64 a9, .int .i64 a10, .int .i64 a11, .int .i64 a12, .int .i64 a13] #[.int .i64 0, .int .i64 0, .int .i64 0]
  obtain ⟨V, hV⟩ : ∃ V, V = (w.alloc (.cells #[.int .i64 a0, .int .i64 a1, .int .i64 a2, .int .i64 a3, .int .u16 a4, .int .u16 a5, .int .i64 a6, .int .i64 a7, .int .i64 a8, .int .i64 a9, .int .i64 a10, .int .i64 a11, .int .i64 a12, .int .i64 a13] 50)).alloc (.cells #[.int .i64 0, .int .i64 0, .int .i64 0] 55) := ⟨_, rfl⟩
  rw [← hV] at hst
  have HK := Lib.hid hst
  have c0 : V.cell? ⟨g, 0, none⟩ = some (.int .i64 p.me) := hst.node.cell 0
  have c1 : V.cell? ⟨g, 1, none⟩ = some (.int .i64 dt) := hst.node.cell 1
  have c2 : V.cell? ⟨g, 2, none⟩ = some (.int .i64 ds) := hst.node.cell 2
  have c3 : V.cell? ⟨g, 3, none⟩ = some (.bool p.w) := hst.node.cell 3
  have x1 : V.cell? ⟨w.heap.size, 1, none⟩ = some (.int .i64 a1) := hst.box.cell 1
  have x2 : V.cell? ⟨w.heap.size, 2, none⟩ = some (.int .i64 a2) := hst.box.cell 2
  have x6 : V.cell? ⟨w.heap.size, 6, none⟩ = some (.int .i64 a6) := hst.box.cell 6
  have x9 : V.cell? ⟨w.heap.size, 9, none⟩ = some (.int .i64 a9) := hst.box.cell 9
  have x10 : V.cell? ⟨w.heap.size, 10, none⟩ = some (.int .i64 a10) := hst.box.cell 10
  have x11 : V.cell? ⟨w.heap.size, 11, none⟩ = some (.int .i64 a11) := hst.box.cell 11
  have hgd := fun W => rgoodT_any a9 a10 a11 l W
  have hsp : splice ([.int .i64 0, .int .i64 0, .int .i64 0] : List Value) 0 ([.int .i64 0, .int .i64 0, .int .i64 0] : List Value) = [.int .i64 0, .int .i64 0, .int .i64 0] := splice_all _ _ rfl
  have hcase : (takenB p a1 a2 a9 a10 a11 a6 l = false ∧ (p.w = false ∨ p.w = true ∧ (a2 != p.me) = true ∨ p.w = true ∧ (a2 != p.me) = false ∧ (a1 != dt) = true ∨ p.w = true ∧ (a2 != p.me) = false ∧ (a1 != dt) = false ∧ (a9 != ds) = true ∨
      p.w = true ∧ (a2 != p.me) = false ∧ (a1 != dt) = false ∧ (a9 != ds) = false ∧ goodT a9 a10 a11 l = false ∨ p.w = true ∧ (a2 != p.me) = false ∧ (a1 != dt) = false ∧ (a9 != ds) = false ∧ goodT a9 a10 a11 l = true ∧ decide (a6 < 0) = true ∨
      p.w = true ∧ (a2 != p.me) = false ∧ (a1 != dt) = false ∧ (a9 != ds) = false ∧ goodT a9 a10 a11 l = true ∧ decide (a6 < 0) = false ∧ decide (62 < a6) = true)) ∨
      takenB p a1 a2 a9 a10 a11 a6 l = true ∧ p.w = true ∧ (a2 != p.me) = false ∧ (a1 != dt) = false ∧ (a9 != ds) = false ∧ goodT a9 a10 a11 l = true ∧ decide (a6 < 0) = false ∧ decide (62 < a6) = false := by
    unfold takenB askedB
    cases hw : p.w with
    | false => exact .inl ⟨by simp, .inl rfl⟩
    | true =>
      obtain ⟨rfl, rfl, -⟩ := hk hw
      by_cases e1 : a2 = p.me
      · by_cases e2 : a1 = p.t
        · by_cases e3 : a9 = p.s
          · cases e4 : goodT a9 a10 a11 l with
            | false => exact .inl ⟨by simp, .inr (.inr (.inr (.inr (.inl ⟨rfl, by simp [e1], by simp [e2], by simp [e3], rfl⟩))))⟩
            | true =>
              by_cases e5 : a6 < 0
              · exact .inl ⟨by simp; omega, .inr (.inr (.inr (.inr (.inr (.inl ⟨rfl, by simp [e1], by simp [e2], by simp [e3], rfl, decide_eq_true e5⟩)))))⟩
              · by_cases e6 : 62 < a6
                · exact .inl ⟨by simp; omega, .inr (.inr (.inr (.inr (.inr (.inr ⟨rfl, by simp [e1], by simp [e2], by simp [e3], rfl, decide_eq_false e5, decide_eq_true e6⟩)))))⟩
                · exact .inr ⟨by simp [e1, e2, e3]; omega, rfl, by simp [e1], by simp [e2], by simp [e3], rfl, decide_eq_false e5, decide_eq_false e6⟩
          · exact .inl ⟨by simp [e3], .inr (.inr (.inr (.inl ⟨rfl, by simp [e1], by simp [e2], by simp [e3]⟩)))⟩
        · exact .inl ⟨by simp [e2], .inr (.inr (.inl ⟨rfl, by simp [e1], by simp [e2]⟩))⟩
      · exact .inl ⟨by simp [e1], .inr (.inl ⟨rfl, by simp [e1]⟩)⟩
  unfold hearV hearP
  clear h hst
  rcases hcase with ⟨hn, hcase⟩ | ⟨hy, d1, d2, d3, d4, d5, d6, d7⟩
  · rw [if_neg (by rw [hn]; decide), if_neg (by rw [hn]; decide)]
    have HE : Hid (Hd w g (dnC p dt ds dn) #[.int .i64 a0, .int .i64 a1, .int .i64 a2, .int .i64 a3, .int .u16 a4, .int .u16 a5, .int .i64 a6, .int .i64 a7, .int .i64 a8, .int .i64 a9, .int .i64 a10, .int .i64 a11, .int .i64 a12, .int .i64 a13] #[.int .i64 0, .int .i64 0, .int .i64 0] V → ∀ W, Hd w g (dnC p dt ds dn) #[.int .i64 a0, .int .i64 a1, .int .i64 a2, .int .i64 a3, .int .u16 a4, .int .u16 a5, .int .i64 a6, .int .i64 a7, .int .i64 a8, .int .i64 a9, .int .i64 a10, .int .i64 a11, .int .i64 a12, .int .i64 a13] #[.int .i64 0, .int .i64 0, .int .i64 0] W → DGoes g p w W) := Lib.hid (fun _ W hh => ⟨⟨dt, ds, dn, hh.node, hk⟩, hh.chg⟩)
    have HS := Lib.hid HK.out
    clear hn hk
    obtain ⟨me, b, f, t, s, ro, va, re⟩ := p
    dsimp only at c0 c3 hcase
    rcases hcase with d1 | ⟨d1, d2⟩ | ⟨d1, d2, d3⟩ | ⟨d1, d2, d3, d4⟩ | ⟨d1, d2, d3, d4, d5⟩ | ⟨d1, d2, d3, d4, d5, d6⟩ | ⟨d1, d2, d3, d4, d5, d6, d7⟩
    all_goals
      subst d1
      (try simp only [d5] at hgd)
      (try clear d5)
      go_enter Try.func24, Try.ntmps24
      go_upto_region 1 with fail
      rw [← hV]
      clear hV
      go_quiet ((go_at_call 9; refine (hgd _).mono ?_; rintro e wx ⟨rfl, rfl⟩; exact ⟨rfl, _, rfl⟩))
      replace HK := Lib.hid (HK.out.drewN nq)
      go_wp2_with (refine wpList_store_at rfl 55 (.tmp 6) (.tmp 62) rfl (w.heap.size + 1) 0 [.int .i64 0, .int .i64 0, .int .i64 0] rfl rfl 55 [.int .i64 0, .int .i64 0, .int .i64 0] HK.out.res (by kernel_rfl) (Nat.le_refl 3) (one_ints3 _ _ _) ?_; rw [hsp]; replace HK := Lib.hid (HK.out.answer [.int .i64 0, .int .i64 0, .int .i64 0]))
      refine bodyPost_ret (results_row_tmp rfl _ _ (w.heap.size + 1) 55 [.int .i64 0, .int .i64 0, .int .i64 0] _ _ rfl HK.out.res Try.underlying55 rfl (by kernel_rfl) rfl) rfl ?_
      exact ⟨rfl, HE.out HS.out _ HK.out⟩
  · rw [if_pos hy, if_pos hy]
    have hbd := good_bd d5
    have hob := off_bd d5
    have h6 : 0 ≤ a6 ∧ a6 ≤ 62 := by
      have e1 := of_decide_eq_false d6
      have e2 := of_decide_eq_false d7
      omega
    have ew := IntWalk.i64_in (a6 + 1) (by omega)
    have hro : ∀ W : World, Calls Try.prog 13 #[.int .i64 a9, .int .i64 a10, .int .i64 a11, .int .i64 l] W fun e w' => e = .returned (.int .i64 (offV a9 a10 a11 l)) ∧ Below W.heap.size W w' :=
      fun W => (roff_any a9 a10 a11 l W d5).mono fun e w' ⟨he, m, hm⟩ => ⟨he, by rw [hm]; exact below_drewN (Below.refl _ _) m⟩
    have hen : ∀ W : World, Calls Try.prog 34 #[.agg #[.int .i64 l, .int .i64 (offV a9 a10 a11 l), .int .i64 (a6 + 1)]] W fun e w' => e = .returned (.bool true) ∧ Below W.heap.size W w' :=
      fun W => rgood_yes _ _ _ W ⟨hbd.2.2.2.1.1, hbd.2.2.2.1.2, hob.1, hob.2, by show 1 ≤ a6 + 1; omega, by show a6 + 1 ≤ 63; omega⟩
    obtain ⟨O, hO⟩ : ∃ O, offV a9 a10 a11 l = O := ⟨_, rfl⟩
    simp only [hO] at hro hen ⊢
    have hsp3 : splice ([.int .i64 0, .int .i64 0, .int .i64 0] : List Value) 0 ([.int .i64 l, .int .i64 O, .int .i64 (a6 + 1)] : List Value) = [.int .i64 l, .int .i64 O, .int .i64 (a6 + 1)] := splice_all _ _ rfl
    simp only [d5] at hgd
    obtain ⟨me, b, f, t, s, ro, va, re⟩ := p
    dsimp only at c0 c3 d1 d2 hk
    subst d1
    clear hO hy hk d5 hbd hob h6 hsp
    go_enter Try.func24, Try.ntmps24
    go_upto_region 1 with fail
    rw [← hV]
    clear hV
    go_quiet ((go_at_call 9; refine (hgd _).mono ?_; rintro e wx ⟨rfl, rfl⟩; exact ⟨rfl, _, rfl⟩))
    replace HK := Lib.hid (HK.out.drewN nq)
    go_upto_region 3 with fail
    obtain ⟨V1, hV1⟩ : ∃ V1, V1 = V.drewN nq := ⟨_, rfl⟩
    rw [← hV1] at HK ⊢
    clear hV1 c0 c1 c2 c3 x1 x2 x6 x9 x10 x11 d2 d3 d4 d6 d7 hgd
    replace HK : Hid (Hd w g _ _ _ V1.drew) := Lib.hid (HK.out.drewN 1)
    refine region_turns (fun (w' : World) => w'.cell? ⟨w.heap.size, 9, none⟩ = some (.int .i64 a9) ∧ w'.cell? ⟨w.heap.size, 10, none⟩ = some (.int .i64 a10) ∧ w'.cell? ⟨w.heap.size, 11, none⟩ = some (.int .i64 a11) ∧ w'.cell? ⟨w.heap.size, 6, none⟩ = some (.int .i64 a6)) (fun j => decide (15 ≤ j)) (by kernel_rfl) (⟨HK.out.box.cell 9, HK.out.box.cell 10, HK.out.box.cell 11, HK.out.box.cell 6⟩) (fun hS => ?_)
    refine Turns.take hS 0 _ rfl (by kernel_rfl) (by kernel_rfl) (by kernel_rfl) (by kernel_rfl) (fun _ _ _ h => h) (by rfl) (fun w' hS' => by (try dsimp only at hS'); go_split_ands; go_simp; (try with_reducible rfl)) ?_
    simp only [Act.put, List.getElem_toArray, List.getElem_cons_succ, List.getElem_cons_zero, List.setIfInBounds_toArray, List.set_cons_zero, List.set_cons_succ]
    refine Turns.take hS 1 _ rfl (by kernel_rfl) (by kernel_rfl) (by kernel_rfl) (by kernel_rfl) (fun _ _ _ h => h) (by rfl) (fun w' hS' => by (try dsimp only at hS'); go_split_ands; go_simp; (try with_reducible rfl)) ?_
    simp only [Act.put, List.getElem_toArray, List.getElem_cons_succ, List.getElem_cons_zero, List.setIfInBounds_toArray, List.set_cons_zero, List.set_cons_succ]
    refine Turns.take hS 2 _ rfl (by kernel_rfl) (by kernel_rfl) (by kernel_rfl) (by kernel_rfl) (fun _ _ _ h => h) (by rfl) (fun w' hS' => by (try dsimp only at hS'); go_split_ands; go_simp; (try with_reducible rfl)) ?_
    simp only [Act.put, List.getElem_toArray, List.getElem_cons_succ, List.getElem_cons_zero, List.setIfInBounds_toArray, List.set_cons_zero, List.set_cons_succ]
    refine Turns.take hS 3 _ rfl (by kernel_rfl) (by kernel_rfl) (by kernel_rfl) (by kernel_rfl) (fun _ _ _ h => h) (by rfl) (fun w' hS' => by (try dsimp only at hS'); go_split_ands; go_simp; (try with_reducible rfl)) ?_
    simp only [Act.put, List.getElem_toArray, List.getElem_cons_succ, List.getElem_cons_zero, List.setIfInBounds_toArray, List.set_cons_zero, List.set_cons_succ]
    refine Turns.take hS 4 _ rfl (by kernel_rfl) (by kernel_rfl) (by kernel_rfl) (by kernel_rfl) (fun _ _ _ h => h) (by rfl) (fun w' hS' => by (try dsimp only at hS'); go_split_ands; go_simp; (try with_reducible rfl)) ?_
    simp only [Act.put, List.getElem_toArray, List.getElem_cons_succ, List.getElem_cons_zero, List.setIfInBounds_toArray, List.set_cons_zero, List.set_cons_succ]
    refine Turns.take hS 5 _ rfl (by kernel_rfl) (by kernel_rfl) (by kernel_rfl) (by kernel_rfl) (fun _ _ _ h => h) (by rfl) (fun w' hS' => by (try dsimp only at hS'); go_split_ands; go_simp; (try with_reducible rfl)) ?_
    simp only [Act.put, List.getElem_toArray, List.getElem_cons_succ, List.getElem_cons_zero, List.setIfInBounds_toArray, List.set_cons_zero, List.set_cons_succ]
    refine Turns.take hS 6 _ rfl (by kernel_rfl) (by kernel_rfl) (by kernel_rfl) (by kernel_rfl) (fun _ _ _ h => h) (by rfl) (fun w' hS' => by (try dsimp only at hS'); go_split_ands; go_simp; (try with_reducible rfl)) ?_
    simp only [Act.put, List.getElem_toArray, List.getElem_cons_succ, List.getElem_cons_zero, List.setIfInBounds_toArray, List.set_cons_zero, List.set_cons_succ]
    refine Turns.take hS 7 _ rfl (by kernel_rfl) (by kernel_rfl) (by kernel_rfl) (by kernel_rfl) (fun _ _ _ h => h) (by rfl) (fun w' hS' => by (try dsimp only at hS'); go_split_ands; go_simp; (try with_reducible rfl)) ?_
    simp only [Act.put, List.getElem_toArray, List.getElem_cons_succ, List.getElem_cons_zero, List.setIfInBounds_toArray, List.set_cons_zero, List.set_cons_succ]
    refine Turns.take hS 9 _ rfl (by kernel_rfl) (by kernel_rfl) (by kernel_rfl) (by kernel_rfl) (fun _ _ _ h => h) (by rfl) (fun w' hS' => by (try dsimp only at hS'); go_split_ands; go_simp; (try with_reducible rfl)) ?_
    simp only [Act.put, List.getElem_toArray, List.getElem_cons_succ, List.getElem_cons_zero, List.setIfInBounds_toArray, List.set_cons_zero, List.set_cons_succ]
    refine Turns.take hS 10 _ rfl (by kernel_rfl) (by kernel_rfl) (by kernel_rfl) (by kernel_rfl) (fun _ _ _ h => h) (by rfl) (fun w' hS' => by (try dsimp only at hS'); go_split_ands; go_simp; (try with_reducible rfl)) ?_
    simp only [Act.put, List.getElem_toArray, List.getElem_cons_succ, List.getElem_cons_zero, List.setIfInBounds_toArray, List.set_cons_zero, List.set_cons_succ]
    refine Turns.take hS 11 _ rfl (by kernel_rfl) (by kernel_rfl) (by kernel_rfl) (by kernel_rfl) (fun _ _ _ h => h) (by rfl) (fun w' hS' => by (try dsimp only at hS'); go_split_ands; go_simp; (try with_reducible rfl)) ?_
    simp only [Act.put, List.getElem_toArray, List.getElem_cons_succ, List.getElem_cons_zero, List.setIfInBounds_toArray, List.set_cons_zero, List.set_cons_succ]
    refine Turns.either 8 13 rfl rfl (by kernel_rfl) (by rfl) (by rfl) (fun K hK => ?_) (fun K hK => ?_)
    · go_simp
      go_at_call 13
      refine (hro _).mono ?_
      rintro e w2 ⟨rfl, hb2⟩
      replace HK := Lib.hid (HK.out.below hb2)
      clear hb2 hro
      refine hK.out _ _ (show (fun (w' : World) => w'.cell? ⟨w.heap.size, 9, none⟩ = some (.int .i64 a9) ∧ w'.cell? ⟨w.heap.size, 10, none⟩ = some (.int .i64 a10) ∧ w'.cell? ⟨w.heap.size, 11, none⟩ = some (.int .i64 a11) ∧ w'.cell? ⟨w.heap.size, 6, none⟩ = some (.int .i64 a6)) _ from ⟨HK.out.box.cell 9, HK.out.box.cell 10, HK.out.box.cell 11, HK.out.box.cell 6⟩) ?_
      clear hK K hS
      have hS := (show (fun (w' : World) => w'.cell? ⟨w.heap.size, 9, none⟩ = some (.int .i64 a9) ∧ w'.cell? ⟨w.heap.size, 10, none⟩ = some (.int .i64 a10) ∧ w'.cell? ⟨w.heap.size, 11, none⟩ = some (.int .i64 a11) ∧ w'.cell? ⟨w.heap.size, 6, none⟩ = some (.int .i64 a6)) _ from ⟨HK.out.box.cell 9, HK.out.box.cell 10, HK.out.box.cell 11, HK.out.box.cell 6⟩)
      refine Turns.take hS 12 _ rfl (by kernel_rfl) (by kernel_rfl) (by kernel_rfl) (by kernel_rfl) (fun _ _ _ h => h) (by rfl) (fun w' hS' => by (try dsimp only at hS'); go_split_ands; go_simp; (try with_reducible rfl)) ?_
      simp only [Act.put, List.getElem_toArray, List.getElem_cons_succ, List.getElem_cons_zero, List.setIfInBounds_toArray, List.set_cons_zero, List.set_cons_succ]
      refine Turns.next 13 rfl (by kernel_rfl) (by rfl) (fun K hK => ?_)
      go_simp
      have hlt : g < w2.heap.size ∧ w.heap.size + 1 < w2.heap.size := ⟨HK.out.node.lt, HK.out.res.lt⟩
      have he := Holds.new w2 55 #[.int .i64 0, .int .i64 0, .int .i64 0]
      replace HK : Hid (Hd w g _ _ _ (w2.alloc (.cells #[.int .i64 0, .int .i64 0, .int .i64 0] 55))) := Lib.hid (HK.out.alloc (.cells #[.int .i64 0, .int .i64 0, .int .i64 0] 55))
      have HE : Hid (Holds (w2.alloc (.cells #[.int .i64 0, .int .i64 0, .int .i64 0] 55)) w2.heap.size 55 _) := Lib.hid he
      obtain ⟨xe, hxe⟩ : ∃ xe, w2.heap.size = xe := ⟨_, rfl⟩
      rw [hxe] at hlt HE
      simp only [hxe]
      obtain ⟨U, hU⟩ : ∃ U, U = (w2.alloc (.cells #[.int .i64 0, .int .i64 0, .int .i64 0] 55)) := ⟨_, rfl⟩
      rw [← hU] at HK HE ⊢
      have HLT := Lib.hid hlt
      clear hxe hU hlt he
      refine hK.out _ _ (show (fun (w' : World) => w'.cell? ⟨w.heap.size, 9, none⟩ = some (.int .i64 a9) ∧ w'.cell? ⟨w.heap.size, 10, none⟩ = some (.int .i64 a10) ∧ w'.cell? ⟨w.heap.size, 11, none⟩ = some (.int .i64 a11) ∧ w'.cell? ⟨w.heap.size, 6, none⟩ = some (.int .i64 a6)) _ from ⟨HK.out.box.cell 9, HK.out.box.cell 10, HK.out.box.cell 11, HK.out.box.cell 6⟩) ?_
      clear hK K hS
      have hS := (show (fun (w' : World) => w'.cell? ⟨w.heap.size, 9, none⟩ = some (.int .i64 a9) ∧ w'.cell? ⟨w.heap.size, 10, none⟩ = some (.int .i64 a10) ∧ w'.cell? ⟨w.heap.size, 11, none⟩ = some (.int .i64 a11) ∧ w'.cell? ⟨w.heap.size, 6, none⟩ = some (.int .i64 a6)) _ from ⟨HK.out.box.cell 9, HK.out.box.cell 10, HK.out.box.cell 11, HK.out.box.cell 6⟩)
      refine Turns.next 14 rfl (by kernel_rfl) (by rfl) (fun K hK => ?_)
      simp only [List.getElem_toArray, List.getElem_cons_succ, List.getElem_cons_zero]
      refine wp_store_at 55 (.tmp 8) (.tmp 75) rfl xe 0 [.int .i64 l, .int .i64 O, .int .i64 (a6 + 1)] ?hs ?hx 55 [.int .i64 0, .int .i64 0, .int .i64 0] HE.out (by kernel_rfl) (Nat.le_refl 3) (one_ints3 _ _ _) ?_
      case hs => first | rfl | simp [Act.eval, Act.put]
      case hx => first | rfl | simp [Act.eval, Act.put]
      rw [hsp3]
      replace HK := Lib.hid (HK.out.other xe [.int .i64 l, .int .i64 O, .int .i64 (a6 + 1)] (by have := HLT.out; omega) (by have := HLT.out; omega))
      replace HE := Lib.hid (HE.out.row [.int .i64 l, .int .i64 O, .int .i64 (a6 + 1)].toArray)
      obtain ⟨W3, hW3⟩ : ∃ W3, W3 = U.setRow xe [.int .i64 l, .int .i64 O, .int .i64 (a6 + 1)].toArray := ⟨_, rfl⟩
      rw [← hW3] at HK HE ⊢
      clear hW3
      refine hK.out _ _ (show (fun (w' : World) => w'.cell? ⟨w.heap.size, 9, none⟩ = some (.int .i64 a9) ∧ w'.cell? ⟨w.heap.size, 10, none⟩ = some (.int .i64 a10) ∧ w'.cell? ⟨w.heap.size, 11, none⟩ = some (.int .i64 a11) ∧ w'.cell? ⟨w.heap.size, 6, none⟩ = some (.int .i64 a6)) _ from ⟨HK.out.box.cell 9, HK.out.box.cell 10, HK.out.box.cell 11, HK.out.box.cell 6⟩) ?_
      clear hK K hS
      have hS := (show (fun (w' : World) => w'.cell? ⟨w.heap.size, 9, none⟩ = some (.int .i64 a9) ∧ w'.cell? ⟨w.heap.size, 10, none⟩ = some (.int .i64 a10) ∧ w'.cell? ⟨w.heap.size, 11, none⟩ = some (.int .i64 a11) ∧ w'.cell? ⟨w.heap.size, 6, none⟩ = some (.int .i64 a6)) _ from ⟨HK.out.box.cell 9, HK.out.box.cell 10, HK.out.box.cell 11, HK.out.box.cell 6⟩)
      refine Turns.rest (late_done (by kernel_rfl)) ?_
      refine any_tail 15 (by rfl) (by kernel_rfl) ?_
      simp only [List.drop_succ_cons, List.drop_zero]
      clear hS
      have e0 := HE.out.cell 0
      have e1 := HE.out.cell 1
      have e2 := HE.out.cell 2
      clear ew
      go_upto_region 8 with (go_at_call 34; refine (hen _).mono ?_; rintro e w4 ⟨rfl, hb4⟩; replace HK := Lib.hid (HK.out.below hb4); replace HE := Lib.hid (HE.out.below hb4 HE.out.lt); clear hb4 hen e0 e1 e2; have k3 := HK.out.node.cell 3; have k5 := HK.out.node.cell 5; have s3 := HK.out.node.soft 3; have s5 := HK.out.node.soft 5)
      have hk1 := (HK.out.put 3 (.bool false)).to (cs' := dnC ⟨me, false, f, t, s, ro, va, re⟩ dt ds dn) rfl
      have hk2 := (hk1.put 5 (.int .i64 0)).to (cs' := dnC ⟨me, false, 0, 0, 0, 0, 0, re⟩ dt ds dn) rfl
      have hne : xe ≠ g := by have := HLT.out; omega
      have he2 := (HE.out.far (i := 3) hne (.bool false)).far (i := 5) hne (.int .i64 0)
      obtain ⟨W6, hW6⟩ : ∃ W6, W6 = ((w4.setCell ⟨g, 3, none⟩ (.bool false)).setCell ⟨g, 5, none⟩ (.int .i64 0)) := ⟨_, rfl⟩
      rw [← hW6] at hk2 he2 ⊢
      replace HK := Lib.hid hk2
      replace HE := Lib.hid he2
      clear hW6 hk1 hk2 he2 hne k3 k5 s3 s5
      have e0 := HE.out.cell 0
      have e1 := HE.out.cell 1
      have e2 := HE.out.cell 2
      go_wp2_with (refine wpList_store_at rfl 55 (.tmp 6) (.tmp 86) rfl (w.heap.size + 1) 0 [.int .i64 l, .int .i64 O, .int .i64 (a6 + 1)] rfl rfl 55 [.int .i64 0, .int .i64 0, .int .i64 0] HK.out.res (by kernel_rfl) (Nat.le_refl 3) (one_ints3 _ _ _) ?_; rw [hsp3]; replace HK := Lib.hid (HK.out.answer [.int .i64 l, .int .i64 O, .int .i64 (a6 + 1)]))
      refine bodyPost_ret (results_row_tmp rfl _ _ (w.heap.size + 1) 55 [.int .i64 l, .int .i64 O, .int .i64 (a6 + 1)] _ _ rfl HK.out.res Try.underlying55 rfl (by kernel_rfl) rfl) rfl ?_
      exact ⟨rfl, ⟨dt, ds, dn, HK.out.node, fun e => by cases e⟩, HK.out.chg⟩
    · go_simp
      have hlt : g < V1.heap.size ∧ w.heap.size + 1 < V1.heap.size := ⟨HK.out.node.lt, HK.out.res.lt⟩
      have he := Holds.new V1 55 #[.int .i64 0, .int .i64 0, .int .i64 0]
      replace HK : Hid (Hd w g _ _ _ (V1.alloc (.cells #[.int .i64 0, .int .i64 0, .int .i64 0] 55)).drew) := Lib.hid (HK.out.alloc (.cells #[.int .i64 0, .int .i64 0, .int .i64 0] 55))
      have HE : Hid (Holds (V1.alloc (.cells #[.int .i64 0, .int .i64 0, .int .i64 0] 55)).drew V1.heap.size 55 _) := Lib.hid he
      obtain ⟨xe, hxe⟩ : ∃ xe, V1.heap.size = xe := ⟨_, rfl⟩
      rw [hxe] at hlt HE
      simp only [hxe]
      obtain ⟨U, hU⟩ : ∃ U, U = (V1.alloc (.cells #[.int .i64 0, .int .i64 0, .int .i64 0] 55)).drew := ⟨_, rfl⟩
      rw [← hU] at HK HE ⊢
      have HLT := Lib.hid hlt
      clear hxe hU hlt he
      refine hK.out _ _ (show (fun (w' : World) => w'.cell? ⟨w.heap.size, 9, none⟩ = some (.int .i64 a9) ∧ w'.cell? ⟨w.heap.size, 10, none⟩ = some (.int .i64 a10) ∧ w'.cell? ⟨w.heap.size, 11, none⟩ = some (.int .i64 a11) ∧ w'.cell? ⟨w.heap.size, 6, none⟩ = some (.int .i64 a6)) _ from ⟨HK.out.box.cell 9, HK.out.box.cell 10, HK.out.box.cell 11, HK.out.box.cell 6⟩) ?_
      clear hK K hS
      have hS := (show (fun (w' : World) => w'.cell? ⟨w.heap.size, 9, none⟩ = some (.int .i64 a9) ∧ w'.cell? ⟨w.heap.size, 10, none⟩ = some (.int .i64 a10) ∧ w'.cell? ⟨w.heap.size, 11, none⟩ = some (.int .i64 a11) ∧ w'.cell? ⟨w.heap.size, 6, none⟩ = some (.int .i64 a6)) _ from ⟨HK.out.box.cell 9, HK.out.box.cell 10, HK.out.box.cell 11, HK.out.box.cell 6⟩)
      refine Turns.next 8 rfl (by kernel_rfl) (by rfl) (fun K hK => ?_)
      go_simp
      go_at_call 13
      refine (hro _).mono ?_
      rintro e w2 ⟨rfl, hb2⟩
      replace HK := Lib.hid (HK.out.below hb2)
      replace HE := Lib.hid (HE.out.below hb2 HE.out.lt)
      clear hb2 hro
      refine hK.out _ _ (show (fun (w' : World) => w'.cell? ⟨w.heap.size, 9, none⟩ = some (.int .i64 a9) ∧ w'.cell? ⟨w.heap.size, 10, none⟩ = some (.int .i64 a10) ∧ w'.cell? ⟨w.heap.size, 11, none⟩ = some (.int .i64 a11) ∧ w'.cell? ⟨w.heap.size, 6, none⟩ = some (.int .i64 a6)) _ from ⟨HK.out.box.cell 9, HK.out.box.cell 10, HK.out.box.cell 11, HK.out.box.cell 6⟩) ?_
      clear hK K hS
      have hS := (show (fun (w' : World) => w'.cell? ⟨w.heap.size, 9, none⟩ = some (.int .i64 a9) ∧ w'.cell? ⟨w.heap.size, 10, none⟩ = some (.int .i64 a10) ∧ w'.cell? ⟨w.heap.size, 11, none⟩ = some (.int .i64 a11) ∧ w'.cell? ⟨w.heap.size, 6, none⟩ = some (.int .i64 a6)) _ from ⟨HK.out.box.cell 9, HK.out.box.cell 10, HK.out.box.cell 11, HK.out.box.cell 6⟩)
      refine Turns.take hS 12 _ rfl (by kernel_rfl) (by kernel_rfl) (by kernel_rfl) (by kernel_rfl) (fun _ _ _ h => h) (by rfl) (fun w' hS' => by (try dsimp only at hS'); go_split_ands; go_simp; (try with_reducible rfl)) ?_
      simp only [Act.put, List.getElem_toArray, List.getElem_cons_succ, List.getElem_cons_zero, List.setIfInBounds_toArray, List.set_cons_zero, List.set_cons_succ]
      refine Turns.next 14 rfl (by kernel_rfl) (by rfl) (fun K hK => ?_)
      simp only [List.getElem_toArray, List.getElem_cons_succ, List.getElem_cons_zero]
      refine wp_store_at 55 (.tmp 8) (.tmp 75) rfl xe 0 [.int .i64 l, .int .i64 O, .int .i64 (a6 + 1)] ?hs ?hx 55 [.int .i64 0, .int .i64 0, .int .i64 0] HE.out (by kernel_rfl) (Nat.le_refl 3) (one_ints3 _ _ _) ?_
      case hs => first | rfl | simp [Act.eval, Act.put]
      case hx => first | rfl | simp [Act.eval, Act.put]
      rw [hsp3]
      replace HK := Lib.hid (HK.out.other xe [.int .i64 l, .int .i64 O, .int .i64 (a6 + 1)] (by have := HLT.out; omega) (by have := HLT.out; omega))
      replace HE := Lib.hid (HE.out.row [.int .i64 l, .int .i64 O, .int .i64 (a6 + 1)].toArray)
      obtain ⟨W3, hW3⟩ : ∃ W3, W3 = w2.setRow xe [.int .i64 l, .int .i64 O, .int .i64 (a6 + 1)].toArray := ⟨_, rfl⟩
      rw [← hW3] at HK HE ⊢
      clear hW3
      refine hK.out _ _ (show (fun (w' : World) => w'.cell? ⟨w.heap.size, 9, none⟩ = some (.int .i64 a9) ∧ w'.cell? ⟨w.heap.size, 10, none⟩ = some (.int .i64 a10) ∧ w'.cell? ⟨w.heap.size, 11, none⟩ = some (.int .i64 a11) ∧ w'.cell? ⟨w.heap.size, 6, none⟩ = some (.int .i64 a6)) _ from ⟨HK.out.box.cell 9, HK.out.box.cell 10, HK.out.box.cell 11, HK.out.box.cell 6⟩) ?_
      clear hK K hS
      have hS := (show (fun (w' : World) => w'.cell? ⟨w.heap.size, 9, none⟩ = some (.int .i64 a9) ∧ w'.cell? ⟨w.heap.size, 10, none⟩ = some (.int .i64 a10) ∧ w'.cell? ⟨w.heap.size, 11, none⟩ = some (.int .i64 a11) ∧ w'.cell? ⟨w.heap.size, 6, none⟩ = some (.int .i64 a6)) _ from ⟨HK.out.box.cell 9, HK.out.box.cell 10, HK.out.box.cell 11, HK.out.box.cell 6⟩)
      refine Turns.rest (late_done (by kernel_rfl)) ?_
      refine any_tail 15 (by rfl) (by kernel_rfl) ?_
      simp only [List.drop_succ_cons, List.drop_zero]
      clear hS
      have e0 := HE.out.cell 0
      have e1 := HE.out.cell 1
      have e2 := HE.out.cell 2
      clear ew
      go_upto_region 8 with (go_at_call 34; refine (hen _).mono ?_; rintro e w4 ⟨rfl, hb4⟩; replace HK := Lib.hid (HK.out.below hb4); replace HE := Lib.hid (HE.out.below hb4 HE.out.lt); clear hb4 hen e0 e1 e2; have k3 := HK.out.node.cell 3; have k5 := HK.out.node.cell 5; have s3 := HK.out.node.soft 3; have s5 := HK.out.node.soft 5)
      have hk1 := (HK.out.put 3 (.bool false)).to (cs' := dnC ⟨me, false, f, t, s, ro, va, re⟩ dt ds dn) rfl
      have hk2 := (hk1.put 5 (.int .i64 0)).to (cs' := dnC ⟨me, false, 0, 0, 0, 0, 0, re⟩ dt ds dn) rfl
      have hne : xe ≠ g := by have := HLT.out; omega
      have he2 := (HE.out.far (i := 3) hne (.bool false)).far (i := 5) hne (.int .i64 0)
      obtain ⟨W6, hW6⟩ : ∃ W6, W6 = ((w4.setCell ⟨g, 3, none⟩ (.bool false)).setCell ⟨g, 5, none⟩ (.int .i64 0)) := ⟨_, rfl⟩
      rw [← hW6] at hk2 he2 ⊢
      replace HK := Lib.hid hk2
      replace HE := Lib.hid he2
      clear hW6 hk1 hk2 he2 hne k3 k5 s3 s5
      have e0 := HE.out.cell 0
      have e1 := HE.out.cell 1
      have e2 := HE.out.cell 2
      go_wp2_with (refine wpList_store_at rfl 55 (.tmp 6) (.tmp 86) rfl (w.heap.size + 1) 0 [.int .i64 l, .int .i64 O, .int .i64 (a6 + 1)] rfl rfl 55 [.int .i64 0, .int .i64 0, .int .i64 0] HK.out.res (by kernel_rfl) (Nat.le_refl 3) (one_ints3 _ _ _) ?_; rw [hsp3]; replace HK := Lib.hid (HK.out.answer [.int .i64 l, .int .i64 O, .int .i64 (a6 + 1)]))
      refine bodyPost_ret (results_row_tmp rfl _ _ (w.heap.size + 1) 55 [.int .i64 l, .int .i64 O, .int .i64 (a6 + 1)] _ _ rfl HK.out.res Try.underlying55 rfl (by kernel_rfl) rfl) rfl ?_
      exact ⟨rfl, ⟨dt, ds, dn, HK.out.node, fun e => by cases e⟩, HK.out.chg⟩
end Go.Proofs.Ytoggpdfkklombaa
