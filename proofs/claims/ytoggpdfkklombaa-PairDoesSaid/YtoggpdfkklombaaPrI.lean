/- Layer 18: a law's node, alone and beside the document's; a reply as the program has it; what the stage's laws ask first. -/
import Derived.Test.YtoggpdfkklombaaPrE
import Derived.Test.YtoggpdfkklombaaPrH
import Derived.LoopTactic
namespace Go.Proofs.Ytoggpdfkklombaa
open Go.RowKit
set_option linter.unusedVariables false
set_option linter.unusedSimpArgs false

/-- A law's node: younger than the law, and nothing older was changed. -/
structure N1 (w wr : World) (g : Nat) (p : PS) : Prop where
  node : Par wr g p
  below : Below w.heap.size w wr
  new : w.heap.size ≤ g
section
variable {w wr w' : World} {g gm : Nat} {p p' q q' : PS}
theorem N1.next (h : N1 w wr g p) (hg : PGoes g p' wr w') : N1 w w' g p' := ⟨hg.1, Below.chg h.below hg.2 h.below.size (fun k e => by have := h.new; omega), h.new⟩
theorem N1.more (h : N1 w wr g p) (hb : Below wr.heap.size wr w') : N1 w w' g p := ⟨h.node.below hb (Holds.lt h.node), h.below.trans (hb.mono h.below.size), h.new⟩
theorem N1.alloc (h : N1 w wr g p) (o : Obj) : N1 w (wr.alloc o) g p := h.more (below_alloc _ _)
theorem N1.drewN (h : N1 w wr g p) (n : Nat) : N1 w (wr.drewN n) g p := h.more (below_drewN (Below.refl _ _) n)
end
/-- Both side by side. -/
structure N2 (w wr : World) (g gm : Nat) (p : PS) (q : PS) : Prop where
  one : N1 w wr g p
  doc : Dn wr gm q
  newd : w.heap.size ≤ gm
section
variable {w wr w' : World} {g gm : Nat} {p p' q q' : PS}
theorem Dn.apart {g' : Nat} {t' : TypeId} {cs' : Array Value} (h : Dn w gm q) (h' : Holds w g' t' cs') (hne : 48 ≠ t') : gm ≠ g' := by
  obtain ⟨t, s, n, h, hk⟩ := h
  exact h.apart h' hne
theorem N2.ne (h : N2 w wr g gm p q) : g ≠ gm := fun e => h.doc.apart h.one.node (by decide) e.symm
theorem N2.next (h : N2 w wr g gm p q) (hg : PGoes g p' wr w') : N2 w w' g gm p' q := ⟨h.one.next hg, h.doc.chg hg.2 (fun e => h.ne e.symm), h.newd⟩
theorem N2.nextd (h : N2 w wr g gm p q) (hg : DGoes gm q' wr w') : N2 w w' g gm p q' :=
  ⟨⟨Holds.chg h.one.node hg.2 (fun e => h.ne e), Below.chg h.one.below hg.2 h.one.below.size (fun k e => by have := h.newd; omega), h.one.new⟩, hg.1, h.newd⟩
theorem N2.more (h : N2 w wr g gm p q) (hb : Below wr.heap.size wr w') : N2 w w' g gm p q := ⟨h.one.more hb, h.doc.below hb h.doc.lt, h.newd⟩
theorem N2.alloc (h : N2 w wr g gm p q) (o : Obj) : N2 w (wr.alloc o) g gm p q := h.more (below_alloc _ _)
theorem N2.drewN (h : N2 w wr g gm p q) (n : Nat) : N2 w (wr.drewN n) g gm p q := h.more (below_drewN (Below.refl _ _) n)
theorem N2.fresh (h : N1 w wr g p) (me : Int) : N2 w (wr.alloc (.cells #[.int .i64 me, .int .i64 0, .int .i64 0, .bool false, .int .i64 0, .int .i64 0, .int .i64 0] 48)) g wr.heap.size p (newP me) :=
  ⟨h.alloc _, ⟨0, 0, 0, Holds.new _ _ _, fun e => by cases e⟩, h.below.size⟩
end
theorem reply_any (a0 a1 a2 a3 a4 a5 a6 a7 a8 a9 a10 a11 a12 a13 : Int) (w : World) : Calls Try.prog 23 #[.agg #[.int .i64 a0, .int .i64 a1, .int .i64 a2, .int .i64 a3, .int .u16 a4, .int .u16 a5, .int .i64 a6, .int .i64 a7, .int .i64 a8, .int .i64 a9, .int .i64 a10, .int .i64 a11, .int .i64 a12, .int .i64 a13]] w fun e w' => e = .returned (.agg #[.int .i64 a1, .int .i64 a2, .int .i64 a9, .int .i64 a10, .int .i64 a11, .int .i64 a3, .int .u16 a4, .int .i64 a6]) ∧ Below w.heap.size w w' := by
  have hx := (Box.start w 50 #[.int .i64 a0, .int .i64 a1, .int .i64 a2, .int .i64 a3, .int .u16 a4, .int .u16 a5, .int .i64 a6, .int .i64 a7, .int .i64 a8, .int .i64 a9, .int .i64 a10, .int .i64 a11, .int .i64 a12, .int .i64 a13]).alloc (.cells #[.int .i64 0, .int .i64 0, .int .i64 0, .int .i64 0, .int .i64 0, .int .i64 0, .int .u16 0, .int .i64 0] 45)
  have x1 := hx.holds.cell 1
  have x2 := hx.holds.cell 2
  have x3 := hx.holds.cell 3
  have x4 := hx.holds.cell 4
  have x6 := hx.holds.cell 6
  have x9 := hx.holds.cell 9
  have x10 := hx.holds.cell 10
  have x11 := hx.holds.cell 11
  clear hx
  go_enter Try.func23, Try.ntmps23
  go_wp2
  refine bodyPost_ret (results_cell_row rfl _ _ (w.heap.size + 1) 45 _ (0, 0) _ rfl (by have := heap_alloc_new (w.alloc (.cells #[.int .i64 a0, .int .i64 a1, .int .i64 a2, .int .i64 a3, .int .u16 a4, .int .u16 a5, .int .i64 a6, .int .i64 a7, .int .i64 a8, .int .i64 a9, .int .i64 a10, .int .i64 a11, .int .i64 a12, .int .i64 a13] 50)) (.cells #[.int .i64 a1, .int .i64 a2, .int .i64 a9, .int .i64 a10, .int .i64 a11, .int .i64 a3, .int .u16 a4, .int .i64 a6] 45); simpa using this) Try.underlying45 rfl (by kernel_rfl)) rfl ?_
  exact ⟨rfl, ((Below.refl _ _).alloc (Nat.le_refl _) _).alloc (by simp) _⟩
theorem palive_ask (w : World) (g : Nat) (h : Par w g (newP 3)) : Calls Try.prog 17 #[.pointer (some ⟨g, 0, none⟩), .int .i64 4, .int .i64 7] w fun e w' => e = .returned (.tuple #[.agg #[.int .i64 3, .int .i64 4, .int .i64 7], .bool true]) ∧ PGoes g ⟨3, true, 3, 4, 7, 0, 0, 0⟩ w w' :=
  pask_yes w g (newP 3) h 4 7 ⟨by decide, by decide⟩ ⟨by decide, by decide⟩ ⟨by decide, by decide⟩ (by decide)
set_option maxHeartbeats 2000000 in
set_option maxRecDepth 100000 in
/-- What the stage's laws ask first. -/
theorem alive_yes (w : World) : Calls Try.prog 8 #[] w fun e w' => e = .returned (.bool true) ∧ Below w.heap.size w w' := by
  have hnew := fun W => pnew_yes W 3 (by decide)
  have e1 : goodT 0 105 107 12 = true := by decide
  have e2 : offV 0 105 107 12 = 100 := by unfold offV; rw [if_pos e1]; rfl
  have e3 : delV 0 105 107 12 = 5 := by unfold delV; rw [if_pos e1]; rfl
  have h1 := fun W => tgood_any 0 105 107 12 W
  have h2 := fun W => toff_any 0 105 107 12 W
  have h3 := fun W => tdel_any 0 105 107 12 W
  rw [e1] at h1
  rw [e2] at h2
  rw [e3] at h3
  unfold timV at h1 h2 h3
  clear e1 e2 e3
  have HB := Lib.hid (below_alloc w (.cells #[.int .i64 0, .int .i64 105, .int .i64 107, .int .i64 12] 23))
  have HT := Lib.hid (Holds.new w 23 #[.int .i64 0, .int .i64 105, .int .i64 107, .int .i64 12])
  go_enter Try.func8, Try.ntmps8
  go_upto_region 4 with (first
    | (go_at_call 15; refine (hnew _).mono ?_; rintro e w1 ⟨rfl, hN1, hb1⟩; rw [size_alloc] at hN1; have HN := Lib.hid (⟨hN1, HB.out.trans (hb1.mono HB.out.size), by omega⟩ : N1 w w1 _ (newP 3)); replace HT := Lib.hid (HT.out.below hb1 HT.out.lt); have hask := palive_ask _ _ hN1; clear hN1 hb1 HB hnew)
    | (go_at_call 17; refine hask.mono ?_; rintro e w2 ⟨rfl, hg2⟩; replace HT := Lib.hid (HT.out.chg hg2.2 (fun e => by have := HT.out.apart HN.out.node (by decide); omega)); replace HN := Lib.hid ((HN.out.next hg2).alloc (.cells #[.int .i64 3, .int .i64 4, .int .i64 7] 36)); replace HT := Lib.hid (HT.out.alloc (.cells #[.int .i64 3, .int .i64 4, .int .i64 7] 36)); have HF := Lib.hid (Holds.new w2 36 #[.int .i64 3, .int .i64 4, .int .i64 7]); clear hg2 hask))
  obtain ⟨V, hV⟩ : ∃ V, V = w2.alloc (.cells #[.int .i64 3, .int .i64 4, .int .i64 7] 36) := ⟨_, rfl⟩
  rw [← hV] at HN HT HF ⊢
  clear hV
  have x0 := HT.out.cell 0
  have x1 := HT.out.cell 1
  have x2 := HT.out.cell 2
  have x3 := HT.out.cell 3
  go_wp2_with (first
    | (go_at_call 10; refine (h1 _).mono ?_; rintro e w3 ⟨rfl, hb3⟩; replace HN := Lib.hid (HN.out.more hb3); replace HT := Lib.hid (HT.out.below hb3 HT.out.lt); replace HF := Lib.hid (HF.out.below hb3 HF.out.lt); clear hb3 h1 x0 x1 x2 x3; have x0 := HT.out.cell 0; have x1 := HT.out.cell 1; have x2 := HT.out.cell 2; have x3 := HT.out.cell 3)
    | (go_at_call 11; refine (h2 _).mono ?_; rintro e w4 ⟨rfl, hb4⟩; replace HN := Lib.hid (HN.out.more hb4); replace HT := Lib.hid (HT.out.below hb4 HT.out.lt); replace HF := Lib.hid (HF.out.below hb4 HF.out.lt); clear hb4 h2 x0 x1 x2 x3; have x0 := HT.out.cell 0; have x1 := HT.out.cell 1; have x2 := HT.out.cell 2; have x3 := HT.out.cell 3)
    | (go_at_call 12; refine (h3 _).mono ?_; rintro e w5 ⟨rfl, hb5⟩; replace HN := Lib.hid (HN.out.more hb5); replace HF := Lib.hid (HF.out.below hb5 HF.out.lt); have y0 := HF.out.cell 0; have y1 := HF.out.cell 1; have y2 := HF.out.cell 2; have hwt := pwaits_any _ _ _ HN.out.node; clear hb5 h3 x0 x1 x2 x3)
    | (go_at_call 20; refine hwt.mono ?_; rintro e wx ⟨rfl, hwx⟩; subst wx))
  go_ret
  exact ⟨rfl, HN.out.below⟩
end Go.Proofs.Ytoggpdfkklombaa
