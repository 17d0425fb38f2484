/- The document's node of layer 18: Ask, Hear. -/
import Derived.Test.YtoggpdfkklombaaPrF
import Derived.BigQuiet
namespace Go.Proofs.Ytoggpdfkklombaa
open Go.RowKit
set_option linter.unusedVariables false
set_option linter.unusedSimpArgs false

/-- What the document's Ask answers. -/
def raskL (p : PS) (tt l : Int) : List Value := if askB p tt l = true then pl14 4 p.me tt l else pl14 0 0 0 0
/-- While the document's node asks. -/
structure Rk (w0 : World) (g : Nat) (cs rs bs : Array Value) (w : World) : Prop where
  node : Holds w g 48 cs
  res : Holds w w0.heap.size 50 rs
  box : Holds w (w0.heap.size + 1) 50 bs
  chg : Chg (fun k => k = g) w0 w
  old : g < w0.heap.size
section
variable {w0 w w' : World} {g : Nat} {cs rs bs : Array Value}
theorem Rk.start (h : Holds w0 g 48 cs) (rs bs : Array Value) : Rk w0 g cs rs bs ((w0.alloc (.cells rs 50)).alloc (.cells bs 50)) := by
  have h2 := Holds.new (w0.alloc (.cells rs 50)) 50 bs
  rw [size_alloc] at h2
  exact ⟨(h.alloc _).alloc _, (Holds.new w0 _ _).alloc _, h2, Chg.of_below _ (((Below.refl _ _).alloc (Nat.le_refl _) _).alloc (by simp) _), h.lt⟩
theorem Rk.below (h : Rk w0 g cs rs bs w) (hb : Below w.heap.size w w') : Rk w0 g cs rs bs w' :=
  ⟨h.node.below hb h.node.lt, h.res.below hb h.res.lt, h.box.below hb h.box.lt, h.chg.trans (Chg.of_below (fun _ => False) hb) (fun _ _ e => e.elim), h.old⟩
theorem Rk.put (h : Rk w0 g cs rs bs w) (i : Nat) (u : Value) : Rk w0 g (cs.setIfInBounds i u) rs bs (w.setCell ⟨g, i, none⟩ u) :=
  ⟨h.node.put i u, h.res.far (by have := h.old; omega) u, h.box.far (by have := h.old; omega) u, h.chg.trans (Chg.set (S := fun k => k = g) w g i u rfl) (fun _ _ e => e), h.old⟩
theorem Rk.to {cs' : Array Value} (h : Rk w0 g cs rs bs w) (e : cs = cs') : Rk w0 g cs' rs bs w := e ▸ h
theorem Rk.answer (h : Rk w0 g cs rs bs w) (l : List Value) : Rk w0 g cs l.toArray bs (w.setRow w0.heap.size l.toArray) := by
  have hg := grown_row w w0.heap.size l.toArray
  have ho := h.old
  exact ⟨h.node.grown hg (fun e => absurd (Option.some.inj e) (by omega)), h.res.row _, h.box.grown hg (fun e => absurd (Option.some.inj e) (by omega)), h.chg.trans (Chg.of_grown hg (S := fun k => w0.heap.size ≤ k) (fun k e => by cases e; omega)) (fun k hk e => by omega), h.old⟩
end
set_option maxHeartbeats 4000000 in
set_option maxRecDepth 100000 in
theorem rask_any (w : World) (g : Nat) (p : PS) (h : Dn w g p) (hi : PInv p) (tt l : Int) (ft : Fits tt) (fl : Fits l) :
    Calls Try.prog 22 #[.pointer (some ⟨g, 0, none⟩), .int .i64 tt, .int .i64 l] w fun e w' => e = .returned (.agg (raskL p tt l).toArray) ∧ DGoes g (askP p tt l) w w' := by
  obtain ⟨dt, ds, dn, h, hk⟩ := h
  have hst := Rk.start h (pl14 0 0 0 0).toArray (pl14 4 p.me tt l).toArray
  have hg := fun W => rgoodP p.me tt l W ⟨by have := hi.me; omega, by have := hi.me; omega⟩ ft fl
  obtain ⟨V, hV⟩ : ∃ V, V = (w.alloc (.cells (pl14 0 0 0 0).toArray 50)).alloc (.cells (pl14 4 p.me tt l).toArray 50) := ⟨_, rfl⟩
  rw [← hV] at hst
  have HK := Lib.hid hst
  have c0 : (w.alloc (.cells #[.int .i64 0, .int .i64 0, .int .i64 0, .int .i64 0, .int .u16 0, .int .u16 0, .int .i64 0, .int .i64 0, .int .i64 0, .int .i64 0, .int .i64 0, .int .i64 0, .int .i64 0, .int .i64 0] 50)).cell? ⟨g, 0, none⟩ = some (.int .i64 p.me) := (h.alloc _).cell 0
  have v0 : V.cell? ⟨g, 0, none⟩ = some (.int .i64 p.me) := hst.node.cell 0
  have v3 : V.cell? ⟨g, 3, none⟩ = some (.bool p.w) := hst.node.cell 3
  have v6 : V.cell? ⟨g, 6, none⟩ = some (.int .i64 p.rests) := hst.node.cell 6
  have b0 : V.cell? ⟨w.heap.size + 1, 0, none⟩ = some (.int .i64 4) := hst.box.cell 0
  have b1 : V.cell? ⟨w.heap.size + 1, 1, none⟩ = some (.int .i64 p.me) := hst.box.cell 1
  have b2 : V.cell? ⟨w.heap.size + 1, 2, none⟩ = some (.int .i64 tt) := hst.box.cell 2
  have b3 : V.cell? ⟨w.heap.size + 1, 3, none⟩ = some (.int .i64 0) := hst.box.cell 3
  have b4 : V.cell? ⟨w.heap.size + 1, 4, none⟩ = some (.int .u16 0) := hst.box.cell 4
  have b5 : V.cell? ⟨w.heap.size + 1, 5, none⟩ = some (.int .u16 0) := hst.box.cell 5
  have b6 : V.cell? ⟨w.heap.size + 1, 6, none⟩ = some (.int .i64 0) := hst.box.cell 6
  have b7 : V.cell? ⟨w.heap.size + 1, 7, none⟩ = some (.int .i64 0) := hst.box.cell 7
  have b8 : V.cell? ⟨w.heap.size + 1, 8, none⟩ = some (.int .i64 0) := hst.box.cell 8
  have b9 : V.cell? ⟨w.heap.size + 1, 9, none⟩ = some (.int .i64 l) := hst.box.cell 9
  have b10 : V.cell? ⟨w.heap.size + 1, 10, none⟩ = some (.int .i64 0) := hst.box.cell 10
  have b11 : V.cell? ⟨w.heap.size + 1, 11, none⟩ = some (.int .i64 0) := hst.box.cell 11
  have b12 : V.cell? ⟨w.heap.size + 1, 12, none⟩ = some (.int .i64 0) := hst.box.cell 12
  have b13 : V.cell? ⟨w.heap.size + 1, 13, none⟩ = some (.int .i64 0) := hst.box.cell 13
  have hsp0 : splice (pl14 0 0 0 0) 0 (pl14 0 0 0 0) = pl14 0 0 0 0 := splice_all _ _ rfl
  have hsp4 : splice (pl14 0 0 0 0) 0 (pl14 4 p.me tt l) = pl14 4 p.me tt l := splice_all _ _ rfl
  have hcase : askB p tt l = false ∧ (p.w = true ∨ p.w = false ∧ decide (0 < p.rests) = true ∨ p.w = false ∧ decide (0 < p.rests) = false ∧ (tt == p.me) = true ∨ p.w = false ∧ decide (0 < p.rests) = false ∧ (tt == p.me) = false ∧ pulseB p.me tt l = false) ∨
      askB p tt l = true ∧ p.w = false ∧ decide (0 < p.rests) = false ∧ (tt == p.me) = false ∧ pulseB p.me tt l = true := by
    unfold askB
    cases e1 : p.w <;> cases e2 : decide (0 < p.rests) <;> cases e3 : (tt == p.me) <;> cases e4 : pulseB p.me tt l <;> simp
  have hfree := hi.free
  unfold raskL askP
  obtain ⟨me, b, f, t, s, ro, va, re⟩ := p
  dsimp only at c0 v0 v3 v6 b1 hcase hg hsp4 hV hk hfree
  clear h hst hi ft fl
  rcases hcase with ⟨hn, hcase⟩ | ⟨hy, d1, d2, d3, d4⟩
  · rw [if_neg (by rw [hn]; decide), if_neg (by rw [hn]; decide)]
    have HE := Lib.hid hk
    clear hn hk hfree hsp4
    rcases hcase with d1 | ⟨d1, d2⟩ | ⟨d1, d2, d3⟩ | ⟨d1, d2, d3, d4⟩
    all_goals
      subst d1
      (try simp only [d4] at hg)
      go_enter Try.func22, Try.ntmps22
      go_upto_region 2 with fail
      rw [show (#[.int .i64 0, .int .i64 0, .int .i64 0, .int .i64 0, .int .u16 0, .int .u16 0, .int .i64 0, .int .i64 0, .int .i64 0, .int .i64 0, .int .i64 0, .int .i64 0, .int .i64 0, .int .i64 0] : Array Value) = (pl14 0 0 0 0).toArray from rfl, show (#[.int .i64 4, .int .i64 me, .int .i64 tt, .int .i64 0, .int .u16 0, .int .u16 0, .int .i64 0, .int .i64 0, .int .i64 0, .int .i64 l, .int .i64 0, .int .i64 0, .int .i64 0, .int .i64 0] : Array Value) = (pl14 4 me tt l).toArray from rfl] 
      rw [← hV]
      clear hV c0
      go_wp2_with (first
        | (go_at_call 33; refine (hg _).mono ?_; rintro e w1 ⟨rfl, hb1⟩; replace HK := Lib.hid (HK.out.below hb1); clear hb1)
        | (refine wpList_store_at rfl 50 (.tmp 6) (.tmp 39) rfl w.heap.size 0 (pl14 0 0 0 0) rfl rfl 50 (pl14 0 0 0 0) HK.out.res plain_size3 (Nat.le_refl 14) (pl14_one _ _ _ _) ?_; rw [hsp0]; replace HK := Lib.hid (HK.out.answer (pl14 0 0 0 0))))
      refine bodyPost_ret (results_cell_row rfl _ _ w.heap.size 50 _ (0, 0) _ rfl HK.out.res Try.underlying50 rfl plain_size3) rfl ?_
      exact ⟨rfl, ⟨dt, ds, dn, HK.out.node, fun e => HE.out (by first | exact e | trivial)⟩, HK.out.chg⟩
  · rw [if_pos hy, if_pos hy]
    subst d1
    have h0 : ro = 0 := hfree rfl
    have HF := Lib.hid h0
    simp only [d4] at hg
    clear hy hk hfree hsp0 h0 d4
    go_enter Try.func22, Try.ntmps22
    go_upto_region 2 with fail
    rw [show (#[.int .i64 0, .int .i64 0, .int .i64 0, .int .i64 0, .int .u16 0, .int .u16 0, .int .i64 0, .int .i64 0, .int .i64 0, .int .i64 0, .int .i64 0, .int .i64 0, .int .i64 0, .int .i64 0] : Array Value) = (pl14 0 0 0 0).toArray from rfl, show (#[.int .i64 4, .int .i64 me, .int .i64 tt, .int .i64 0, .int .u16 0, .int .u16 0, .int .i64 0, .int .i64 0, .int .i64 0, .int .i64 l, .int .i64 0, .int .i64 0, .int .i64 0, .int .i64 0] : Array Value) = (pl14 4 me tt l).toArray from rfl] 
    rw [← hV]
    clear hV c0
    go_upto_region 8 with (go_at_call 33; refine (hg _).mono ?_; rintro e w1 ⟨rfl, hb1⟩; replace HK := Lib.hid (HK.out.below hb1); have n1 := HK.out.node.cell 1; have n2 := HK.out.node.cell 2; have n3 := HK.out.node.cell 3; have n4 := HK.out.node.cell 4; have s1 := HK.out.node.soft 1; have s2 := HK.out.node.soft 2; have s3 := HK.out.node.soft 3; have s4 := HK.out.node.soft 4; clear hb1 v0 v3 v6 b0 b1 b2 b3 b4 b5 b6 b7 b8 b9 b10 b11 b12 b13)
    have hk3 := (HK.out.put 3 (.bool true)).to (cs' := dnC ⟨me, true, f, t, s, ro, va, re⟩ dt ds dn) rfl
    have hk4 := (hk3.put 4 (.int .i64 0)).to (cs' := dnC ⟨me, true, f, t, s, ro, va, re⟩ dt ds 0) rfl
    have hk5 := (hk4.put 1 (.int .i64 tt)).to (cs' := dnC ⟨me, true, f, t, s, ro, va, re⟩ tt ds 0) rfl
    have hk6 := (hk5.put 2 (.int .i64 l)).to (cs' := dnC ⟨me, true, me, tt, l, ro, va, re⟩ tt l 0) rfl
    obtain ⟨W6, hW6⟩ : ∃ W6, W6 = ((((w1.setCell ⟨g, 3, none⟩ (.bool true)).setCell ⟨g, 4, none⟩ (.int .i64 0)).setCell ⟨g, 1, none⟩ (.int .i64 tt)).setCell ⟨g, 2, none⟩ (.int .i64 l)) := ⟨_, rfl⟩
    rw [← hW6] at hk6 ⊢
    replace HK := Lib.hid hk6
    clear hW6 hk3 hk4 hk5 hk6 n1 n2 n3 n4 s1 s2 s3 s4
    have z0 : W6.cell? ⟨w.heap.size + 1, 0, none⟩ = some (.int .i64 4) := HK.out.box.cell 0
    have z1 : W6.cell? ⟨w.heap.size + 1, 1, none⟩ = some (.int .i64 me) := HK.out.box.cell 1
    have z2 : W6.cell? ⟨w.heap.size + 1, 2, none⟩ = some (.int .i64 tt) := HK.out.box.cell 2
    have z3 : W6.cell? ⟨w.heap.size + 1, 3, none⟩ = some (.int .i64 0) := HK.out.box.cell 3
    have z4 : W6.cell? ⟨w.heap.size + 1, 4, none⟩ = some (.int .u16 0) := HK.out.box.cell 4
    have z5 : W6.cell? ⟨w.heap.size + 1, 5, none⟩ = some (.int .u16 0) := HK.out.box.cell 5
    have z6 : W6.cell? ⟨w.heap.size + 1, 6, none⟩ = some (.int .i64 0) := HK.out.box.cell 6
    have z7 : W6.cell? ⟨w.heap.size + 1, 7, none⟩ = some (.int .i64 0) := HK.out.box.cell 7
    have z8 : W6.cell? ⟨w.heap.size + 1, 8, none⟩ = some (.int .i64 0) := HK.out.box.cell 8
    have z9 : W6.cell? ⟨w.heap.size + 1, 9, none⟩ = some (.int .i64 l) := HK.out.box.cell 9
    have z10 : W6.cell? ⟨w.heap.size + 1, 10, none⟩ = some (.int .i64 0) := HK.out.box.cell 10
    have z11 : W6.cell? ⟨w.heap.size + 1, 11, none⟩ = some (.int .i64 0) := HK.out.box.cell 11
    have z12 : W6.cell? ⟨w.heap.size + 1, 12, none⟩ = some (.int .i64 0) := HK.out.box.cell 12
    have z13 : W6.cell? ⟨w.heap.size + 1, 13, none⟩ = some (.int .i64 0) := HK.out.box.cell 13
    go_wp2_with (refine wpList_store_at rfl 50 (.tmp 6) (.tmp 54) rfl w.heap.size 0 (pl14 4 me tt l) rfl rfl 50 (pl14 0 0 0 0) HK.out.res plain_size3 (Nat.le_refl 14) (pl14_one _ _ _ _) ?_; rw [hsp4]; replace HK := Lib.hid (HK.out.answer (pl14 4 me tt l)))
    refine bodyPost_ret (results_cell_row rfl _ _ w.heap.size 50 _ (0, 0) _ rfl HK.out.res Try.underlying50 rfl plain_size3) rfl ?_
    exact ⟨rfl, ⟨tt, l, 0, HK.out.node, fun _ => ⟨rfl, rfl, HF.out.symm⟩⟩, HK.out.chg⟩
end Go.Proofs.Ytoggpdfkklombaa
