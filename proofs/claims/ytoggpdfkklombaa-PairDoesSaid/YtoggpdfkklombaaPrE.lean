/- Package pair: asked, Hear. -/
import Derived.Test.YtoggpdfkklombaaPrD
import Derived.BigQuiet
namespace Go.Proofs.Ytoggpdfkklombaa
open Go.RowKit
set_option linter.unusedVariables false
set_option linter.unusedSimpArgs false

def repC (fr tt se got back ro bo hops : Int) : Array Value := #[.int .i64 fr, .int .i64 tt, .int .i64 se, .int .i64 got, .int .i64 back, .int .i64 ro, .int .u16 bo, .int .i64 hops]
set_option maxHeartbeats 2000000 in
set_option maxRecDepth 100000 in
theorem pasked_any (w : World) (g : Nat) (p : PS) (h : Par w g p) (fr tt se got back ro bo hops : Int) :
    Calls Try.prog 30 #[.pointer (some ⟨g, 0, none⟩), .agg #[.int .i64 fr, .int .i64 tt, .int .i64 se, .int .i64 got, .int .i64 back, .int .i64 ro, .int .u16 bo, .int .i64 hops]] w fun e w' => e = .returned (.bool (askedB p fr tt se)) ∧ Below w.heap.size w w' := by
  have hst : Par (w.alloc (.cells #[.int .i64 fr, .int .i64 tt, .int .i64 se, .int .i64 got, .int .i64 back, .int .i64 ro, .int .u16 bo, .int .i64 hops] 45)) g p := h.alloc _
  have hbx := Box.start w 45 #[.int .i64 fr, .int .i64 tt, .int .i64 se, .int .i64 got, .int .i64 back, .int .i64 ro, .int .u16 bo, .int .i64 hops]
  obtain ⟨V, hV⟩ : ∃ V, V = w.alloc (.cells #[.int .i64 fr, .int .i64 tt, .int .i64 se, .int .i64 got, .int .i64 back, .int .i64 ro, .int .u16 bo, .int .i64 hops] 45) := ⟨_, rfl⟩
  rw [← hV] at hst hbx
  have HB := Lib.hid hbx
  have c0 := hst.c0
  have c3 := hst.c3
  have c4 := hst.c4
  have x0 : V.cell? ⟨w.heap.size, 0, none⟩ = some (.int .i64 fr) := hbx.holds.cell 0
  have x1 : V.cell? ⟨w.heap.size, 1, none⟩ = some (.int .i64 tt) := hbx.holds.cell 1
  have x2 : V.cell? ⟨w.heap.size, 2, none⟩ = some (.int .i64 se) := hbx.holds.cell 2
  clear h hst hbx
  unfold askedB
  cases d1 : (tt == p.me) <;> cases d2 : (fr == p.t) <;> cases d3 : (se == p.s)
  all_goals
    simp only [Bool.true_and, Bool.false_and, Bool.and_true, Bool.and_false]
    go_enter Try.func30, Try.ntmps30
    go_upto_region 1 with fail
    rw [← hV]
    clear hV
    go_quiet (fail)
    go_wp2
    go_ret
    exact ⟨rfl, (HB.out.drewN _).below⟩
/-- What Hear answers. -/
def hearV (p : PS) (fr tt se got back hops l : Int) : Value := if takenB p fr tt se got back hops l = true then .tuple #[.agg #[.int .i64 l, .int .i64 (offV se got back l), .int .i64 (hops + 1)], .bool true] else .tuple #[.agg #[.int .i64 0, .int .i64 0, .int .i64 0], .bool false]
/-- While a reply is heard: the node's block, the reply's, the result's. -/
structure Hk (w0 : World) (g : Nat) (p : PS) (cs rs : Array Value) (w : World) : Prop where
  node : Par w g p
  box : Holds w w0.heap.size 45 cs
  res : Holds w (w0.heap.size + 1) 40 rs
  chg : Chg (fun k => k = g) w0 w
  old : g < w0.heap.size
section
variable {w0 w w' : World} {g : Nat} {p p' : PS} {cs rs : Array Value}
theorem Hk.start (h : Par w0 g p) (cs rs : Array Value) : Hk w0 g p cs rs ((w0.alloc (.cells cs 45)).alloc (.cells rs 40)) := by
  have h2 := Holds.new (w0.alloc (.cells cs 45)) 40 rs
  rw [size_alloc] at h2
  exact ⟨(Holds.alloc h _).alloc _, (Holds.new w0 _ _).alloc _, h2, Chg.of_below _ (((Below.refl _ _).alloc (Nat.le_refl _) _).alloc (by simp) _), Holds.lt h⟩
theorem Hk.below (h : Hk w0 g p cs rs w) (hb : Below w.heap.size w w') : Hk w0 g p cs rs w' :=
  ⟨h.node.below hb (Holds.lt h.node), h.box.below hb h.box.lt, h.res.below hb h.res.lt, h.chg.trans (Chg.of_below (fun _ => False) hb) (fun _ _ e => e.elim), h.old⟩
theorem Hk.drewN (h : Hk w0 g p cs rs w) (n : Nat) : Hk w0 g p cs rs (w.drewN n) := h.below (below_drewN (Below.refl _ _) n)
theorem Hk.alloc (h : Hk w0 g p cs rs w) (o : Obj) : Hk w0 g p cs rs (w.alloc o) := h.below (below_alloc _ _)
theorem Hk.goes (h : Hk w0 g p cs rs w) (hg : PGoes g p' w w') : Hk w0 g p' cs rs w' :=
  ⟨hg.1, h.box.chg hg.2 (fun e => by have := h.old; omega), h.res.chg hg.2 (fun e => by have := h.old; omega), h.chg.trans hg.2 (fun _ _ e => e), h.old⟩
theorem Hk.answer (h : Hk w0 g p cs rs w) (l : List Value) : Hk w0 g p cs l.toArray (w.setRow (w0.heap.size + 1) l.toArray) := by
  have hg := grown_row w (w0.heap.size + 1) l.toArray
  have ho := h.old
  exact ⟨Holds.grown h.node hg (fun e => absurd (Option.some.inj e) (by omega)), h.box.grown hg (fun e => absurd (Option.some.inj e) (by omega)), h.res.row _, h.chg.trans (Chg.of_grown hg (S := fun k => w0.heap.size ≤ k) (fun k e => by cases e; omega)) (fun k hk e => by omega), h.old⟩
theorem Hk.done (h : Hk w0 g p cs rs w) : PGoes g p w0 w := ⟨h.node, h.chg⟩
end
theorem phear_nil (w : World) (fr tt se got back ro bo hops l : Int) : Calls Try.prog 18 #[.pointer none, .agg #[.int .i64 fr, .int .i64 tt, .int .i64 se, .int .i64 got, .int .i64 back, .int .i64 ro, .int .u16 bo, .int .i64 hops], .int .i64 l] w fun e w' => e = .returned (.tuple #[.agg #[.int .i64 0, .int .i64 0, .int .i64 0], .bool false]) ∧ Below w.heap.size w w' := by
  have h2 := Holds.new (w.alloc (.cells #[.int .i64 fr, .int .i64 tt, .int .i64 se, .int .i64 got, .int .i64 back, .int .i64 ro, .int .u16 bo, .int .i64 hops] 45)) 40 #[.int .i64 0, .int .i64 0, .int .i64 0]
  rw [size_alloc] at h2
  have HH := Lib.hid h2
  have HB := Lib.hid (((Below.refl w.heap.size w).alloc (Nat.le_refl _) (.cells #[.int .i64 fr, .int .i64 tt, .int .i64 se, .int .i64 got, .int .i64 back, .int .i64 ro, .int .u16 bo, .int .i64 hops] 45)).alloc (by simp) (.cells #[.int .i64 0, .int .i64 0, .int .i64 0] 40))
  clear h2
  go_enter Try.func18, Try.ntmps18
  go_wp2_with (go_at_call 20; refine (pwaits_nil _).mono ?_; rintro e wx ⟨rfl, hwx⟩; subst wx)
  refine bodyPost_ret (results_row_tmp rfl _ _ (w.heap.size + 1) 40 [.int .i64 0, .int .i64 0, .int .i64 0] _ _ rfl (HH.out) Try.underlying40 rfl (by kernel_rfl) rfl) rfl ?_
  exact ⟨rfl, HB.out⟩
/-- A reply that isn't one to what was asked. -/
theorem phear_other (w : World) (g : Nat) (p : PS) (h : Par w g p) (fr tt se got back ro bo hops l : Int) (hn : p.w = false ∨ p.w = true ∧ askedB p fr tt se = false) :
    Calls Try.prog 18 #[.pointer (some ⟨g, 0, none⟩), .agg #[.int .i64 fr, .int .i64 tt, .int .i64 se, .int .i64 got, .int .i64 back, .int .i64 ro, .int .u16 bo, .int .i64 hops], .int .i64 l] w fun e w' => e = .returned (.tuple #[.agg #[.int .i64 0, .int .i64 0, .int .i64 0], .bool false]) ∧ PGoes g p w w' := by
  have hst := Hk.start h #[.int .i64 fr, .int .i64 tt, .int .i64 se, .int .i64 got, .int .i64 back, .int .i64 ro, .int .u16 bo, .int .i64 hops] #[.int .i64 0, .int .i64 0, .int .i64 0]
  obtain ⟨V, hV⟩ : ∃ V, V = (w.alloc (.cells #[.int .i64 fr, .int .i64 tt, .int .i64 se, .int .i64 got, .int .i64 back, .int .i64 ro, .int .u16 bo, .int .i64 hops] 45)).alloc (.cells #[.int .i64 0, .int .i64 0, .int .i64 0] 40) := ⟨_, rfl⟩
  rw [← hV] at hst
  have HK := Lib.hid hst
  have hw := pwaits_any _ _ _ hst.node
  have x0 : V.cell? ⟨w.heap.size, 0, none⟩ = some (.int .i64 fr) := hst.box.cell 0
  have x1 : V.cell? ⟨w.heap.size, 1, none⟩ = some (.int .i64 tt) := hst.box.cell 1
  have x2 : V.cell? ⟨w.heap.size, 2, none⟩ = some (.int .i64 se) := hst.box.cell 2
  have x3 : V.cell? ⟨w.heap.size, 3, none⟩ = some (.int .i64 got) := hst.box.cell 3
  have x4 : V.cell? ⟨w.heap.size, 4, none⟩ = some (.int .i64 back) := hst.box.cell 4
  have x5 : V.cell? ⟨w.heap.size, 5, none⟩ = some (.int .i64 ro) := hst.box.cell 5
  have x6 : V.cell? ⟨w.heap.size, 6, none⟩ = some (.int .u16 bo) := hst.box.cell 6
  have x7 : V.cell? ⟨w.heap.size, 7, none⟩ = some (.int .i64 hops) := hst.box.cell 7
  have ha := pasked_any _ _ _ hst.node fr tt se got back ro bo hops
  have hsp : splice ([.int .i64 0, .int .i64 0, .int .i64 0] : List Value) 0 ([.int .i64 0, .int .i64 0, .int .i64 0] : List Value) = [.int .i64 0, .int .i64 0, .int .i64 0] := splice_all _ _ rfl
  clear h hst
  rcases hn with d1 | ⟨d1, d2⟩
  · rw [d1] at hw
    clear ha d1
    go_enter Try.func18, Try.ntmps18
    go_upto_region 1 with fail
    rw [← hV]
    clear hV
    go_wp2_with (first
      | (go_at_call 20; refine hw.mono ?_; rintro e wx ⟨rfl, hwx⟩; subst wx)
      | (refine wpList_store_at rfl 40 (.tmp 6) (.tmp 19) rfl (w.heap.size + 1) 0 [.int .i64 0, .int .i64 0, .int .i64 0] rfl rfl 40 [.int .i64 0, .int .i64 0, .int .i64 0] HK.out.res (by kernel_rfl) (Nat.le_refl 3) (one_ints3 _ _ _) ?_; rw [hsp]; replace HK := Lib.hid (HK.out.answer [.int .i64 0, .int .i64 0, .int .i64 0])))
    refine bodyPost_ret (results_row_tmp rfl _ _ (w.heap.size + 1) 40 [.int .i64 0, .int .i64 0, .int .i64 0] _ _ rfl HK.out.res Try.underlying40 rfl (by kernel_rfl) rfl) rfl ?_
    exact ⟨rfl, HK.out.done⟩
  · rw [d1] at hw
    rw [d2] at ha
    clear d1 d2
    go_enter Try.func18, Try.ntmps18
    go_upto_region 1 with fail
    rw [← hV]
    clear hV
    go_wp2_with (first
      | (go_at_call 20; refine hw.mono ?_; rintro e wx ⟨rfl, hwx⟩; subst wx)
      | (go_at_call 30; refine ha.mono ?_; rintro e w1 ⟨rfl, hb1⟩; replace HK := Lib.hid (HK.out.below hb1); clear hb1)
      | (refine wpList_store_at rfl 40 (.tmp 6) (.tmp 19) rfl (w.heap.size + 1) 0 [.int .i64 0, .int .i64 0, .int .i64 0] rfl rfl 40 [.int .i64 0, .int .i64 0, .int .i64 0] HK.out.res (by kernel_rfl) (Nat.le_refl 3) (one_ints3 _ _ _) ?_; rw [hsp]; replace HK := Lib.hid (HK.out.answer [.int .i64 0, .int .i64 0, .int .i64 0])))
    refine bodyPost_ret (results_row_tmp rfl _ _ (w.heap.size + 1) 40 [.int .i64 0, .int .i64 0, .int .i64 0] _ _ rfl HK.out.res Try.underlying40 rfl (by kernel_rfl) rfl) rfl ?_
    exact ⟨rfl, HK.out.done⟩
theorem Hk.other {w0 w : World} {g : Nat} {p : PS} {cs rs : Array Value} (h : Hk w0 g p cs rs w) (x : Nat) (l : List Value) (n1 : x ≠ g) (n2 : w0.heap.size + 1 < x) : Hk w0 g p cs rs (w.setRow x l.toArray) := by
  have hg := grown_row w x l.toArray
  have ho := h.old
  exact ⟨Holds.grown h.node hg (fun e => absurd (Option.some.inj e) (by omega)), h.box.grown hg (fun e => absurd (Option.some.inj e) (by omega)), h.res.grown hg (fun e => absurd (Option.some.inj e) (by omega)), h.chg.trans (Chg.of_grown hg (S := fun k => w0.heap.size ≤ k) (fun k e => by cases e; omega)) (fun k hk e => by omega), h.old⟩
theorem off_bd {a b c d : Int} (h : goodT a b c d = true) : -1125899906842624 ≤ offV a b c d ∧ offV a b c d ≤ 1125899906842624 := by
  obtain ⟨⟨a0, a1⟩, ⟨b0, b1⟩, ⟨e0, e1⟩, ⟨d0, d1⟩, le⟩ := good_bd h
  unfold offV
  rw [if_pos h]
  omega
theorem hops_wrap {hops : Int} (f : Fits hops) : (0 ≤ hops ∧ hops ≤ 62 ∧ IntKind.i64.wrap (hops + 1) = hops + 1) ∨ (¬ (0 ≤ hops ∧ hops ≤ 62) ∧ ¬ (1 ≤ IntKind.i64.wrap (hops + 1) ∧ IntKind.i64.wrap (hops + 1) ≤ 63)) := by
  obtain ⟨h0, h1⟩ := f
  by_cases e : hops = 9223372036854775807
  · right
    subst e
    exact ⟨by omega, by decide⟩
  · have ew := IntWalk.i64_in (hops + 1) (by omega)
    rw [ew]
    omega
set_option maxHeartbeats 4000000 in
set_option maxRecDepth 100000 in
theorem phear_asked (w : World) (g : Nat) (p : PS) (h : Par w g p) (fr tt se got back ro bo hops l : Int) (fh : Fits hops) (hw : p.w = true) (hk : askedB p fr tt se = true) :
    Calls Try.prog 18 #[.pointer (some ⟨g, 0, none⟩), .agg #[.int .i64 fr, .int .i64 tt, .int .i64 se, .int .i64 got, .int .i64 back, .int .i64 ro, .int .u16 bo, .int .i64 hops], .int .i64 l] w fun e w' => e = .returned (hearV p fr tt se got back hops l) ∧ PGoes g (hearP p fr tt se got back hops l) w w' := by
  have hst := Hk.start h #[.int .i64 fr, .int .i64 tt, .int .i64 se, .int .i64 got, .int .i64 back, .int .i64 ro, .int .u16 bo, .int .i64 hops] #[.int .i64 0, .int .i64 0, .int .i64 0]
  obtain ⟨V, hV⟩ : ∃ V, V = (w.alloc (.cells #[.int .i64 fr, .int .i64 tt, .int .i64 se, .int .i64 got, .int .i64 back, .int .i64 ro, .int .u16 bo, .int .i64 hops] 45)).alloc (.cells #[.int .i64 0, .int .i64 0, .int .i64 0] 40) := ⟨_, rfl⟩
  rw [← hV] at hst
  have HK := Lib.hid hst
  have hwt := pwaits_any _ _ _ hst.node
  have x0 : V.cell? ⟨w.heap.size, 0, none⟩ = some (.int .i64 fr) := hst.box.cell 0
  have x1 : V.cell? ⟨w.heap.size, 1, none⟩ = some (.int .i64 tt) := hst.box.cell 1
  have x2 : V.cell? ⟨w.heap.size, 2, none⟩ = some (.int .i64 se) := hst.box.cell 2
  have x3 : V.cell? ⟨w.heap.size, 3, none⟩ = some (.int .i64 got) := hst.box.cell 3
  have x4 : V.cell? ⟨w.heap.size, 4, none⟩ = some (.int .i64 back) := hst.box.cell 4
  have x5 : V.cell? ⟨w.heap.size, 5, none⟩ = some (.int .i64 ro) := hst.box.cell 5
  have x6 : V.cell? ⟨w.heap.size, 6, none⟩ = some (.int .u16 bo) := hst.box.cell 6
  have x7 : V.cell? ⟨w.heap.size, 7, none⟩ = some (.int .i64 hops) := hst.box.cell 7
  have ha := pasked_any _ _ _ hst.node fr tt se got back ro bo hops
  have hto := fun W => toff_any se got back l W
  have htg := fun W => tgood_any se got back l W
  unfold timV at hto htg
  rw [hk] at ha
  rw [hw] at hwt
  have hway : (goodT se got back l = false ∧ hearV p fr tt se got back hops l = .tuple #[.agg #[.int .i64 0, .int .i64 0, .int .i64 0], .bool false] ∧ hearP p fr tt se got back hops l = p) ∨
      (goodT se got back l = true ∧ (∀ W : World, Calls Try.prog 31 #[.agg #[.int .i64 l, .int .i64 (offV se got back l), .int .i64 (IntKind.i64.wrap (hops + 1))]] W fun e w' => e = .returned (.bool false) ∧ Below W.heap.size W w') ∧ hearV p fr tt se got back hops l = .tuple #[.agg #[.int .i64 0, .int .i64 0, .int .i64 0], .bool false] ∧ hearP p fr tt se got back hops l = p) ∨
      (goodT se got back l = true ∧ (∀ W : World, Calls Try.prog 31 #[.agg #[.int .i64 l, .int .i64 (offV se got back l), .int .i64 (IntKind.i64.wrap (hops + 1))]] W fun e w' => e = .returned (.bool true) ∧ Below W.heap.size W w') ∧ hearV p fr tt se got back hops l = .tuple #[.agg #[.int .i64 l, .int .i64 (offV se got back l), .int .i64 (IntKind.i64.wrap (hops + 1))], .bool true] ∧ hearP p fr tt se got back hops l = ⟨p.me, false, 0, 0, 0, 0, 0, p.rests⟩) := by
    unfold hearV hearP takenB
    rw [hw, hk]
    cases hgt : goodT se got back l with
    | false => exact .inl ⟨rfl, by simp, by simp⟩
    | true =>
      right
      have hbd := good_bd hgt
      have hob := off_bd hgt
      rcases hops_wrap fh with ⟨e1, e2, e3⟩ | ⟨e1, e2⟩
      · right
        have he : decide (0 ≤ hops ∧ hops ≤ 62) = true := decide_eq_true ⟨e1, e2⟩
        rw [e3, he]
        exact ⟨rfl, fun W => good_yes _ _ _ W ⟨hbd.2.2.2.1.1, hbd.2.2.2.1.2, hob.1, hob.2, by show 1 ≤ hops + 1; omega, by show hops + 1 ≤ 63; omega⟩, by simp, by simp⟩
      · left
        have he : decide (0 ≤ hops ∧ hops ≤ 62) = false := decide_eq_false e1
        rw [he]
        exact ⟨rfl, fun W => good_no _ _ _ W (fun hc => e2 ⟨hc.h1, hc.h2⟩), by simp, by simp⟩
  obtain ⟨O, hO⟩ : ∃ O, offV se got back l = O := ⟨_, rfl⟩
  obtain ⟨hh, hhh⟩ : ∃ hh, IntKind.i64.wrap (hops + 1) = hh := ⟨_, rfl⟩
  obtain ⟨A, hA⟩ : ∃ A, hearV p fr tt se got back hops l = A := ⟨_, rfl⟩
  obtain ⟨S', hS'⟩ : ∃ S', hearP p fr tt se got back hops l = S' := ⟨_, rfl⟩
  rw [hA, hS'] at hway ⊢
  simp only [hO, hhh] at hway hto
  clear hA hS'
  have hsp : splice ([.int .i64 0, .int .i64 0, .int .i64 0] : List Value) 0 ([.int .i64 0, .int .i64 0, .int .i64 0] : List Value) = [.int .i64 0, .int .i64 0, .int .i64 0] := splice_all _ _ rfl
  have HWay := Lib.hid hway
  clear h hst fh hk hO hway
  go_enter Try.func18, Try.ntmps18
  go_upto_region 1 with fail
  rw [← hV]
  clear hV
  go_upto_region 4 with (first
    | (go_at_call 20; refine hwt.mono ?_; rintro e wx ⟨rfl, hwx⟩; subst wx)
    | (go_at_call 30; refine ha.mono ?_; rintro e w1 ⟨rfl, hb1⟩; replace HK := Lib.hid (HK.out.below hb1); clear hb1 x0 x1 x2 x3 x4 x5 x6 x7; have x2 := HK.out.box.cell 2; have x3 := HK.out.box.cell 3; have x4 := HK.out.box.cell 4))
  clear x2 x3 x4 hwt ha hw
  have hv1 := HK.out.alloc (.cells #[.int .i64 se, .int .i64 got, .int .i64 back, .int .i64 l] 23)
  have hv2 := Holds.new w1 23 #[.int .i64 se, .int .i64 got, .int .i64 back, .int .i64 l]
  obtain ⟨V1, hV1⟩ : ∃ V1, V1 = w1.alloc (.cells #[.int .i64 se, .int .i64 got, .int .i64 back, .int .i64 l] 23) := ⟨_, rfl⟩
  rw [← hV1] at hv1 hv2 ⊢
  clear hV1
  replace HK : Hid (Hk w g p _ _ V1.drew) := Lib.hid (hv1.drewN 1)
  have HT : Hid (Holds V1.drew w1.heap.size 23 _) := Lib.hid (hv2.drewN 1)
  clear hv1 hv2
  obtain ⟨xt, hxt⟩ : ∃ xt, w1.heap.size = xt := ⟨_, rfl⟩
  rw [hxt] at HT
  simp only [hxt]
  clear hxt
  have hsp3 : splice ([.int .i64 0, .int .i64 0, .int .i64 0] : List Value) 0 ([.int .i64 l, .int .i64 O, .int .i64 hh] : List Value) = [.int .i64 l, .int .i64 O, .int .i64 hh] := splice_all _ _ rfl
  refine region_turns (fun (w' : World) => w'.cell? ⟨xt, 0, none⟩ = some (.int .i64 se) ∧ w'.cell? ⟨xt, 1, none⟩ = some (.int .i64 got) ∧ w'.cell? ⟨xt, 2, none⟩ = some (.int .i64 back) ∧ w'.cell? ⟨xt, 3, none⟩ = some (.int .i64 l) ∧ w'.cell? ⟨w.heap.size, 7, none⟩ = some (.int .i64 hops)) (fun j => decide (9 ≤ j)) (by kernel_rfl) (⟨HT.out.cell 0, HT.out.cell 1, HT.out.cell 2, HT.out.cell 3, HK.out.box.cell 7⟩) (fun hS => ?_)
  refine Turns.take hS 0 _ rfl (by kernel_rfl) (by kernel_rfl) (by kernel_rfl) (by kernel_rfl) (fun _ _ _ h => h) (by rfl) (fun w' hS' => by (try dsimp only at hS'); go_split_ands; go_simp; (try with_reducible rfl)) ?_
  simp only [Act.put, List.getElem_toArray, List.getElem_cons_succ, List.getElem_cons_zero, List.setIfInBounds_toArray, List.set_cons_zero, List.set_cons_succ]
  refine Turns.take hS 1 _ rfl (by kernel_rfl) (by kernel_rfl) (by kernel_rfl) (by kernel_rfl) (fun _ _ _ h => h) (by rfl) (fun w' hS' => by (try dsimp only at hS'); go_split_ands; go_simp; (try with_reducible rfl)) ?_
  simp only [Act.put, List.getElem_toArray, List.getElem_cons_succ, List.getElem_cons_zero, List.setIfInBounds_toArray, List.set_cons_zero, List.set_cons_succ]
  refine Turns.take hS 3 _ rfl (by kernel_rfl) (by kernel_rfl) (by kernel_rfl) (by kernel_rfl) (fun _ _ _ h => h) (by rfl) (fun w' hS' => by (try dsimp only at hS'); go_split_ands; go_simp; (try with_reducible rfl)) ?_
  simp only [Act.put, List.getElem_toArray, List.getElem_cons_succ, List.getElem_cons_zero, List.setIfInBounds_toArray, List.set_cons_zero, List.set_cons_succ]
  refine Turns.take hS 4 _ rfl (by kernel_rfl) (by kernel_rfl) (by kernel_rfl) (by kernel_rfl) (fun _ _ _ h => h) (by rfl) (fun w' hS' => by (try dsimp only at hS'); go_split_ands; go_simp; (try with_reducible rfl)) ?_
  simp only [Act.put, List.getElem_toArray, List.getElem_cons_succ, List.getElem_cons_zero, List.setIfInBounds_toArray, List.set_cons_zero, List.set_cons_succ]
  refine Turns.take hS 5 _ rfl (by kernel_rfl) (by kernel_rfl) (by kernel_rfl) (by kernel_rfl) (fun _ _ _ h => h) (by rfl) (fun w' hS' => by (try dsimp only at hS'); go_split_ands; go_simp; (try with_reducible rfl)) ?_
  simp only [Act.put, List.getElem_toArray, List.getElem_cons_succ, List.getElem_cons_zero, List.setIfInBounds_toArray, List.set_cons_zero, List.set_cons_succ]
  refine Turns.either 2 7 rfl rfl (by kernel_rfl) (by rfl) (by rfl) (fun K hK => ?_) (fun K hK => ?_)
  · go_simp
    go_at_call 11
    refine (hto _).mono ?_
    rintro e w2 ⟨rfl, hb2⟩
    replace HK := Lib.hid (HK.out.below hb2)
    replace HT := Lib.hid (HT.out.below hb2 HT.out.lt)
    clear hb2 hto
    refine hK.out _ _ (show (fun (w' : World) => w'.cell? ⟨xt, 0, none⟩ = some (.int .i64 se) ∧ w'.cell? ⟨xt, 1, none⟩ = some (.int .i64 got) ∧ w'.cell? ⟨xt, 2, none⟩ = some (.int .i64 back) ∧ w'.cell? ⟨xt, 3, none⟩ = some (.int .i64 l) ∧ w'.cell? ⟨w.heap.size, 7, none⟩ = some (.int .i64 hops)) _ from ⟨HT.out.cell 0, HT.out.cell 1, HT.out.cell 2, HT.out.cell 3, HK.out.box.cell 7⟩) ?_
    clear hK K hS
    have hS := (show (fun (w' : World) => w'.cell? ⟨xt, 0, none⟩ = some (.int .i64 se) ∧ w'.cell? ⟨xt, 1, none⟩ = some (.int .i64 got) ∧ w'.cell? ⟨xt, 2, none⟩ = some (.int .i64 back) ∧ w'.cell? ⟨xt, 3, none⟩ = some (.int .i64 l) ∧ w'.cell? ⟨w.heap.size, 7, none⟩ = some (.int .i64 hops)) _ from ⟨HT.out.cell 0, HT.out.cell 1, HT.out.cell 2, HT.out.cell 3, HK.out.box.cell 7⟩)
    refine Turns.take hS 6 _ rfl (by kernel_rfl) (by kernel_rfl) (by kernel_rfl) (by kernel_rfl) (fun _ _ _ h => h) (by rfl) (fun w' hS' => by (try dsimp only at hS'); go_split_ands; go_simp; (try with_reducible rfl)) ?_
    simp only [Act.put, List.getElem_toArray, List.getElem_cons_succ, List.getElem_cons_zero, List.setIfInBounds_toArray, List.set_cons_zero, List.set_cons_succ]
    refine Turns.next 7 rfl (by kernel_rfl) (by rfl) (fun K hK => ?_)
    go_simp
    have hlt : g < w2.heap.size ∧ w.heap.size + 1 < w2.heap.size ∧ xt < w2.heap.size := ⟨Holds.lt HK.out.node, HK.out.res.lt, HT.out.lt⟩
    have he := Holds.new w2 40 #[.int .i64 0, .int .i64 0, .int .i64 0]
    replace HK : Hid (Hk w g p _ _ (w2.alloc (.cells #[.int .i64 0, .int .i64 0, .int .i64 0] 40))) := Lib.hid (HK.out.alloc (.cells #[.int .i64 0, .int .i64 0, .int .i64 0] 40))
    replace HT : Hid (Holds (w2.alloc (.cells #[.int .i64 0, .int .i64 0, .int .i64 0] 40)) xt 23 _) := Lib.hid (HT.out.alloc (.cells #[.int .i64 0, .int .i64 0, .int .i64 0] 40))
    have HE : Hid (Holds (w2.alloc (.cells #[.int .i64 0, .int .i64 0, .int .i64 0] 40)) w2.heap.size 40 _) := Lib.hid he
    obtain ⟨xe, hxe⟩ : ∃ xe, w2.heap.size = xe := ⟨_, rfl⟩
    rw [hxe] at hlt HE
    simp only [hxe]
    obtain ⟨U, hU⟩ : ∃ U, U = (w2.alloc (.cells #[.int .i64 0, .int .i64 0, .int .i64 0] 40)) := ⟨_, rfl⟩
    rw [← hU] at HK HT HE ⊢
    have HLT := Lib.hid hlt
    clear hxe hU hlt he
    refine hK.out _ _ (show (fun (w' : World) => w'.cell? ⟨xt, 0, none⟩ = some (.int .i64 se) ∧ w'.cell? ⟨xt, 1, none⟩ = some (.int .i64 got) ∧ w'.cell? ⟨xt, 2, none⟩ = some (.int .i64 back) ∧ w'.cell? ⟨xt, 3, none⟩ = some (.int .i64 l) ∧ w'.cell? ⟨w.heap.size, 7, none⟩ = some (.int .i64 hops)) _ from ⟨HT.out.cell 0, HT.out.cell 1, HT.out.cell 2, HT.out.cell 3, HK.out.box.cell 7⟩) ?_
    clear hK K hS
    have hS := (show (fun (w' : World) => w'.cell? ⟨xt, 0, none⟩ = some (.int .i64 se) ∧ w'.cell? ⟨xt, 1, none⟩ = some (.int .i64 got) ∧ w'.cell? ⟨xt, 2, none⟩ = some (.int .i64 back) ∧ w'.cell? ⟨xt, 3, none⟩ = some (.int .i64 l) ∧ w'.cell? ⟨w.heap.size, 7, none⟩ = some (.int .i64 hops)) _ from ⟨HT.out.cell 0, HT.out.cell 1, HT.out.cell 2, HT.out.cell 3, HK.out.box.cell 7⟩)
    refine Turns.next 8 rfl (by kernel_rfl) (by rfl) (fun K hK => ?_)
    simp only [List.getElem_toArray, List.getElem_cons_succ, List.getElem_cons_zero]
    refine wp_store_at 40 (.tmp 9) (.tmp 34) rfl xe 0 [.int .i64 l, .int .i64 O, .int .i64 hh] ?hs ?hx 40 [.int .i64 0, .int .i64 0, .int .i64 0] HE.out (by kernel_rfl) (Nat.le_refl 3) (one_ints3 _ _ _) ?_
    case hs => first | rfl | simp [Act.eval, Act.put]
    case hx => first | rfl | simp [Act.eval, Act.put]
    rw [hsp3]
    replace HK := Lib.hid (HK.out.other xe [.int .i64 l, .int .i64 O, .int .i64 hh] (by have := HLT.out; omega) (by have := HLT.out; omega))
    replace HT := Lib.hid (HT.out.grown (grown_row _ xe [.int .i64 l, .int .i64 O, .int .i64 hh].toArray) (fun e => absurd (Option.some.inj e) (by have := HLT.out; omega)))
    replace HE := Lib.hid (HE.out.row [.int .i64 l, .int .i64 O, .int .i64 hh].toArray)
    obtain ⟨W3, hW3⟩ : ∃ W3, W3 = U.setRow xe [.int .i64 l, .int .i64 O, .int .i64 hh].toArray := ⟨_, rfl⟩
    rw [← hW3] at HK HT HE ⊢
    clear hW3
    refine hK.out _ _ (show (fun (w' : World) => w'.cell? ⟨xt, 0, none⟩ = some (.int .i64 se) ∧ w'.cell? ⟨xt, 1, none⟩ = some (.int .i64 got) ∧ w'.cell? ⟨xt, 2, none⟩ = some (.int .i64 back) ∧ w'.cell? ⟨xt, 3, none⟩ = some (.int .i64 l) ∧ w'.cell? ⟨w.heap.size, 7, none⟩ = some (.int .i64 hops)) _ from ⟨HT.out.cell 0, HT.out.cell 1, HT.out.cell 2, HT.out.cell 3, HK.out.box.cell 7⟩) ?_
    clear hK K hS
    have hS := (show (fun (w' : World) => w'.cell? ⟨xt, 0, none⟩ = some (.int .i64 se) ∧ w'.cell? ⟨xt, 1, none⟩ = some (.int .i64 got) ∧ w'.cell? ⟨xt, 2, none⟩ = some (.int .i64 back) ∧ w'.cell? ⟨xt, 3, none⟩ = some (.int .i64 l) ∧ w'.cell? ⟨w.heap.size, 7, none⟩ = some (.int .i64 hops)) _ from ⟨HT.out.cell 0, HT.out.cell 1, HT.out.cell 2, HT.out.cell 3, HK.out.box.cell 7⟩)
    refine Turns.rest (late_done (by kernel_rfl)) ?_
    refine any_tail 9 (by rfl) (by kernel_rfl) ?_
    simp only [List.drop_succ_cons, List.drop_zero]
    clear hS
    clear hhh
    have t0 := HT.out.cell 0
    have t1 := HT.out.cell 1
    have t2 := HT.out.cell 2
    have t3 := HT.out.cell 3
    rcases HWay.out with ⟨g1, rfl, rfl⟩ | ⟨g1, g2, rfl, rfl⟩ | ⟨g1, g2, rfl, rfl⟩
    · simp only [g1] at htg
      clear HWay g1
      go_wp2_with (first
        | (go_at_call 10; refine (htg _).mono ?_; rintro e w4 ⟨rfl, hb4⟩; replace HK := Lib.hid (HK.out.below hb4); clear hb4)
        | (refine wpList_store_at rfl 40 (.tmp 6) (.tmp 43) rfl (w.heap.size + 1) 0 [.int .i64 0, .int .i64 0, .int .i64 0] rfl rfl 40 [.int .i64 0, .int .i64 0, .int .i64 0] HK.out.res (by kernel_rfl) (Nat.le_refl 3) (one_ints3 _ _ _) ?_; rw [hsp]; replace HK := Lib.hid (HK.out.answer [.int .i64 0, .int .i64 0, .int .i64 0])))
      refine bodyPost_ret (results_row_tmp rfl _ _ (w.heap.size + 1) 40 [.int .i64 0, .int .i64 0, .int .i64 0] _ _ rfl HK.out.res Try.underlying40 rfl (by kernel_rfl) rfl) rfl ?_
      exact ⟨rfl, HK.out.done⟩
    · simp only [g1] at htg
      clear HWay g1
      go_wp2_with (first
        | (go_at_call 10; refine (htg _).mono ?_; rintro e w4 ⟨rfl, hb4⟩; replace HK := Lib.hid (HK.out.below hb4); replace HE := Lib.hid (HE.out.below hb4 HE.out.lt); have k0 := HE.out.cell 0; have k1 := HE.out.cell 1; have k2 := HE.out.cell 2; clear hb4 t0 t1 t2 t3)
        | (go_at_call 31; refine (g2 _).mono ?_; rintro e w5 ⟨rfl, hb5⟩; replace HK := Lib.hid (HK.out.below hb5); clear hb5)
        | (refine wpList_store_at rfl 40 (.tmp 6) (.tmp 43) rfl (w.heap.size + 1) 0 [.int .i64 0, .int .i64 0, .int .i64 0] rfl rfl 40 [.int .i64 0, .int .i64 0, .int .i64 0] HK.out.res (by kernel_rfl) (Nat.le_refl 3) (one_ints3 _ _ _) ?_; rw [hsp]; replace HK := Lib.hid (HK.out.answer [.int .i64 0, .int .i64 0, .int .i64 0])))
      refine bodyPost_ret (results_row_tmp rfl _ _ (w.heap.size + 1) 40 [.int .i64 0, .int .i64 0, .int .i64 0] _ _ rfl HK.out.res Try.underlying40 rfl (by kernel_rfl) rfl) rfl ?_
      exact ⟨rfl, HK.out.done⟩
    · simp only [g1] at htg
      have hne : xe ≠ g := HE.out.apart HK.out.node (by decide)
      have NE := Lib.hid hne
      clear HWay g1 hsp hne
      go_wp2_with (first
        | (go_at_call 10; refine (htg _).mono ?_; rintro e w4 ⟨rfl, hb4⟩; replace HK := Lib.hid (HK.out.below hb4); replace HE := Lib.hid (HE.out.below hb4 HE.out.lt); have k0 := HE.out.cell 0; have k1 := HE.out.cell 1; have k2 := HE.out.cell 2; clear hb4 t0 t1 t2 t3)
        | (go_at_call 31; refine (g2 _).mono ?_; rintro e w5 ⟨rfl, hb5⟩; replace HK := Lib.hid (HK.out.below hb5); replace HE := Lib.hid (HE.out.below hb5 HE.out.lt); have hst := pstill_any _ _ _ HK.out.node; clear hb5 k0 k1 k2)
        | (go_at_call 32; refine hst.mono ?_; rintro e w6 ⟨rfl, hg6⟩; have c6 := hg6.1.c6; have f6 := Holds.soft hg6.1 6; have hgo := (((Wp.start hg6.1).put 6 (.int .i64 0)).to (cs' := parC ⟨p.me, false, 0, 0, 0, 0, 0, p.rests⟩) rfl).goes; replace HK := Lib.hid ((HK.out.goes hg6).goes hgo); replace HE := Lib.hid ((HE.out.chg hg6.2 NE.out).chg hgo.2 NE.out); have k0 := HE.out.cell 0; have k1 := HE.out.cell 1; have k2 := HE.out.cell 2; clear hg6 hst hgo)
        | (refine wpList_store_at rfl 40 (.tmp 6) (.tmp 49) rfl (w.heap.size + 1) 0 [.int .i64 l, .int .i64 O, .int .i64 hh] rfl rfl 40 [.int .i64 0, .int .i64 0, .int .i64 0] HK.out.res (by kernel_rfl) (Nat.le_refl 3) (one_ints3 _ _ _) ?_; rw [hsp3]; replace HK := Lib.hid (HK.out.answer [.int .i64 l, .int .i64 O, .int .i64 hh])))
      refine bodyPost_ret (results_row_tmp rfl _ _ (w.heap.size + 1) 40 [.int .i64 l, .int .i64 O, .int .i64 hh] _ _ rfl HK.out.res Try.underlying40 rfl (by kernel_rfl) rfl) rfl ?_
      exact ⟨rfl, HK.out.done⟩
  · go_simp
    have hlt : g < V1.heap.size ∧ w.heap.size + 1 < V1.heap.size ∧ xt < V1.heap.size := ⟨Holds.lt HK.out.node, HK.out.res.lt, HT.out.lt⟩
    have he := Holds.new V1 40 #[.int .i64 0, .int .i64 0, .int .i64 0]
    replace HK : Hid (Hk w g p _ _ (V1.alloc (.cells #[.int .i64 0, .int .i64 0, .int .i64 0] 40)).drew) := Lib.hid (HK.out.alloc (.cells #[.int .i64 0, .int .i64 0, .int .i64 0] 40))
    replace HT : Hid (Holds (V1.alloc (.cells #[.int .i64 0, .int .i64 0, .int .i64 0] 40)).drew xt 23 _) := Lib.hid (HT.out.alloc (.cells #[.int .i64 0, .int .i64 0, .int .i64 0] 40))
    have HE : Hid (Holds (V1.alloc (.cells #[.int .i64 0, .int .i64 0, .int .i64 0] 40)).drew V1.heap.size 40 _) := Lib.hid he
    obtain ⟨xe, hxe⟩ : ∃ xe, V1.heap.size = xe := ⟨_, rfl⟩
    rw [hxe] at hlt HE
    simp only [hxe]
    obtain ⟨U, hU⟩ : ∃ U, U = (V1.alloc (.cells #[.int .i64 0, .int .i64 0, .int .i64 0] 40)).drew := ⟨_, rfl⟩
    rw [← hU] at HK HT HE ⊢
    have HLT := Lib.hid hlt
    clear hxe hU hlt he
    refine hK.out _ _ (show (fun (w' : World) => w'.cell? ⟨xt, 0, none⟩ = some (.int .i64 se) ∧ w'.cell? ⟨xt, 1, none⟩ = some (.int .i64 got) ∧ w'.cell? ⟨xt, 2, none⟩ = some (.int .i64 back) ∧ w'.cell? ⟨xt, 3, none⟩ = some (.int .i64 l) ∧ w'.cell? ⟨w.heap.size, 7, none⟩ = some (.int .i64 hops)) _ from ⟨HT.out.cell 0, HT.out.cell 1, HT.out.cell 2, HT.out.cell 3, HK.out.box.cell 7⟩) ?_
    clear hK K hS
    have hS := (show (fun (w' : World) => w'.cell? ⟨xt, 0, none⟩ = some (.int .i64 se) ∧ w'.cell? ⟨xt, 1, none⟩ = some (.int .i64 got) ∧ w'.cell? ⟨xt, 2, none⟩ = some (.int .i64 back) ∧ w'.cell? ⟨xt, 3, none⟩ = some (.int .i64 l) ∧ w'.cell? ⟨w.heap.size, 7, none⟩ = some (.int .i64 hops)) _ from ⟨HT.out.cell 0, HT.out.cell 1, HT.out.cell 2, HT.out.cell 3, HK.out.box.cell 7⟩)
    refine Turns.next 2 rfl (by kernel_rfl) (by rfl) (fun K hK => ?_)
    go_simp
    go_at_call 11
    refine (hto _).mono ?_
    rintro e w2 ⟨rfl, hb2⟩
    replace HK := Lib.hid (HK.out.below hb2)
    replace HT := Lib.hid (HT.out.below hb2 HT.out.lt)
    replace HE := Lib.hid (HE.out.below hb2 HE.out.lt)
    clear hb2 hto
    refine hK.out _ _ (show (fun (w' : World) => w'.cell? ⟨xt, 0, none⟩ = some (.int .i64 se) ∧ w'.cell? ⟨xt, 1, none⟩ = some (.int .i64 got) ∧ w'.cell? ⟨xt, 2, none⟩ = some (.int .i64 back) ∧ w'.cell? ⟨xt, 3, none⟩ = some (.int .i64 l) ∧ w'.cell? ⟨w.heap.size, 7, none⟩ = some (.int .i64 hops)) _ from ⟨HT.out.cell 0, HT.out.cell 1, HT.out.cell 2, HT.out.cell 3, HK.out.box.cell 7⟩) ?_
    clear hK K hS
    have hS := (show (fun (w' : World) => w'.cell? ⟨xt, 0, none⟩ = some (.int .i64 se) ∧ w'.cell? ⟨xt, 1, none⟩ = some (.int .i64 got) ∧ w'.cell? ⟨xt, 2, none⟩ = some (.int .i64 back) ∧ w'.cell? ⟨xt, 3, none⟩ = some (.int .i64 l) ∧ w'.cell? ⟨w.heap.size, 7, none⟩ = some (.int .i64 hops)) _ from ⟨HT.out.cell 0, HT.out.cell 1, HT.out.cell 2, HT.out.cell 3, HK.out.box.cell 7⟩)
    refine Turns.take hS 6 _ rfl (by kernel_rfl) (by kernel_rfl) (by kernel_rfl) (by kernel_rfl) (fun _ _ _ h => h) (by rfl) (fun w' hS' => by (try dsimp only at hS'); go_split_ands; go_simp; (try with_reducible rfl)) ?_
    simp only [Act.put, List.getElem_toArray, List.getElem_cons_succ, List.getElem_cons_zero, List.setIfInBounds_toArray, List.set_cons_zero, List.set_cons_succ]
    refine Turns.next 8 rfl (by kernel_rfl) (by rfl) (fun K hK => ?_)
    simp only [List.getElem_toArray, List.getElem_cons_succ, List.getElem_cons_zero]
    refine wp_store_at 40 (.tmp 9) (.tmp 34) rfl xe 0 [.int .i64 l, .int .i64 O, .int .i64 hh] ?hs ?hx 40 [.int .i64 0, .int .i64 0, .int .i64 0] HE.out (by kernel_rfl) (Nat.le_refl 3) (one_ints3 _ _ _) ?_
    case hs => first | rfl | simp [Act.eval, Act.put]
    case hx => first | rfl | simp [Act.eval, Act.put]
    rw [hsp3]
    replace HK := Lib.hid (HK.out.other xe [.int .i64 l, .int .i64 O, .int .i64 hh] (by have := HLT.out; omega) (by have := HLT.out; omega))
    replace HT := Lib.hid (HT.out.grown (grown_row _ xe [.int .i64 l, .int .i64 O, .int .i64 hh].toArray) (fun e => absurd (Option.some.inj e) (by have := HLT.out; omega)))
    replace HE := Lib.hid (HE.out.row [.int .i64 l, .int .i64 O, .int .i64 hh].toArray)
    obtain ⟨W3, hW3⟩ : ∃ W3, W3 = w2.setRow xe [.int .i64 l, .int .i64 O, .int .i64 hh].toArray := ⟨_, rfl⟩
    rw [← hW3] at HK HT HE ⊢
    clear hW3
    refine hK.out _ _ (show (fun (w' : World) => w'.cell? ⟨xt, 0, none⟩ = some (.int .i64 se) ∧ w'.cell? ⟨xt, 1, none⟩ = some (.int .i64 got) ∧ w'.cell? ⟨xt, 2, none⟩ = some (.int .i64 back) ∧ w'.cell? ⟨xt, 3, none⟩ = some (.int .i64 l) ∧ w'.cell? ⟨w.heap.size, 7, none⟩ = some (.int .i64 hops)) _ from ⟨HT.out.cell 0, HT.out.cell 1, HT.out.cell 2, HT.out.cell 3, HK.out.box.cell 7⟩) ?_
    clear hK K hS
    have hS := (show (fun (w' : World) => w'.cell? ⟨xt, 0, none⟩ = some (.int .i64 se) ∧ w'.cell? ⟨xt, 1, none⟩ = some (.int .i64 got) ∧ w'.cell? ⟨xt, 2, none⟩ = some (.int .i64 back) ∧ w'.cell? ⟨xt, 3, none⟩ = some (.int .i64 l) ∧ w'.cell? ⟨w.heap.size, 7, none⟩ = some (.int .i64 hops)) _ from ⟨HT.out.cell 0, HT.out.cell 1, HT.out.cell 2, HT.out.cell 3, HK.out.box.cell 7⟩)
    refine Turns.rest (late_done (by kernel_rfl)) ?_
    refine any_tail 9 (by rfl) (by kernel_rfl) ?_
    simp only [List.drop_succ_cons, List.drop_zero]
    clear hS
    clear hhh
    have t0 := HT.out.cell 0
    have t1 := HT.out.cell 1
    have t2 := HT.out.cell 2
    have t3 := HT.out.cell 3
    rcases HWay.out with ⟨g1, rfl, rfl⟩ | ⟨g1, g2, rfl, rfl⟩ | ⟨g1, g2, rfl, rfl⟩
    · simp only [g1] at htg
      clear HWay g1
      go_wp2_with (first
        | (go_at_call 10; refine (htg _).mono ?_; rintro e w4 ⟨rfl, hb4⟩; replace HK := Lib.hid (HK.out.below hb4); clear hb4)
        | (refine wpList_store_at rfl 40 (.tmp 6) (.tmp 43) rfl (w.heap.size + 1) 0 [.int .i64 0, .int .i64 0, .int .i64 0] rfl rfl 40 [.int .i64 0, .int .i64 0, .int .i64 0] HK.out.res (by kernel_rfl) (Nat.le_refl 3) (one_ints3 _ _ _) ?_; rw [hsp]; replace HK := Lib.hid (HK.out.answer [.int .i64 0, .int .i64 0, .int .i64 0])))
      refine bodyPost_ret (results_row_tmp rfl _ _ (w.heap.size + 1) 40 [.int .i64 0, .int .i64 0, .int .i64 0] _ _ rfl HK.out.res Try.underlying40 rfl (by kernel_rfl) rfl) rfl ?_
      exact ⟨rfl, HK.out.done⟩
    · simp only [g1] at htg
      clear HWay g1
      go_wp2_with (first
        | (go_at_call 10; refine (htg _).mono ?_; rintro e w4 ⟨rfl, hb4⟩; replace HK := Lib.hid (HK.out.below hb4); replace HE := Lib.hid (HE.out.below hb4 HE.out.lt); have k0 := HE.out.cell 0; have k1 := HE.out.cell 1; have k2 := HE.out.cell 2; clear hb4 t0 t1 t2 t3)
        | (go_at_call 31; refine (g2 _).mono ?_; rintro e w5 ⟨rfl, hb5⟩; replace HK := Lib.hid (HK.out.below hb5); clear hb5)
        | (refine wpList_store_at rfl 40 (.tmp 6) (.tmp 43) rfl (w.heap.size + 1) 0 [.int .i64 0, .int .i64 0, .int .i64 0] rfl rfl 40 [.int .i64 0, .int .i64 0, .int .i64 0] HK.out.res (by kernel_rfl) (Nat.le_refl 3) (one_ints3 _ _ _) ?_; rw [hsp]; replace HK := Lib.hid (HK.out.answer [.int .i64 0, .int .i64 0, .int .i64 0])))
      refine bodyPost_ret (results_row_tmp rfl _ _ (w.heap.size + 1) 40 [.int .i64 0, .int .i64 0, .int .i64 0] _ _ rfl HK.out.res Try.underlying40 rfl (by kernel_rfl) rfl) rfl ?_
      exact ⟨rfl, HK.out.done⟩
    · simp only [g1] at htg
      have hne : xe ≠ g := HE.out.apart HK.out.node (by decide)
      have NE := Lib.hid hne
      clear HWay g1 hsp hne
      go_wp2_with (first
        | (go_at_call 10; refine (htg _).mono ?_; rintro e w4 ⟨rfl, hb4⟩; replace HK := Lib.hid (HK.out.below hb4); replace HE := Lib.hid (HE.out.below hb4 HE.out.lt); have k0 := HE.out.cell 0; have k1 := HE.out.cell 1; have k2 := HE.out.cell 2; clear hb4 t0 t1 t2 t3)
        | (go_at_call 31; refine (g2 _).mono ?_; rintro e w5 ⟨rfl, hb5⟩; replace HK := Lib.hid (HK.out.below hb5); replace HE := Lib.hid (HE.out.below hb5 HE.out.lt); have hst := pstill_any _ _ _ HK.out.node; clear hb5 k0 k1 k2)
        | (go_at_call 32; refine hst.mono ?_; rintro e w6 ⟨rfl, hg6⟩; have c6 := hg6.1.c6; have f6 := Holds.soft hg6.1 6; have hgo := (((Wp.start hg6.1).put 6 (.int .i64 0)).to (cs' := parC ⟨p.me, false, 0, 0, 0, 0, 0, p.rests⟩) rfl).goes; replace HK := Lib.hid ((HK.out.goes hg6).goes hgo); replace HE := Lib.hid ((HE.out.chg hg6.2 NE.out).chg hgo.2 NE.out); have k0 := HE.out.cell 0; have k1 := HE.out.cell 1; have k2 := HE.out.cell 2; clear hg6 hst hgo)
        | (refine wpList_store_at rfl 40 (.tmp 6) (.tmp 49) rfl (w.heap.size + 1) 0 [.int .i64 l, .int .i64 O, .int .i64 hh] rfl rfl 40 [.int .i64 0, .int .i64 0, .int .i64 0] HK.out.res (by kernel_rfl) (Nat.le_refl 3) (one_ints3 _ _ _) ?_; rw [hsp3]; replace HK := Lib.hid (HK.out.answer [.int .i64 l, .int .i64 O, .int .i64 hh])))
      refine bodyPost_ret (results_row_tmp rfl _ _ (w.heap.size + 1) 40 [.int .i64 l, .int .i64 O, .int .i64 hh] _ _ rfl HK.out.res Try.underlying40 rfl (by kernel_rfl) rfl) rfl ?_
      exact ⟨rfl, HK.out.done⟩
theorem phear_any (w : World) (g : Nat) (p : PS) (h : Par w g p) (fr tt se got back ro bo hops l : Int) (fh : Fits hops) :
    Calls Try.prog 18 #[.pointer (some ⟨g, 0, none⟩), .agg #[.int .i64 fr, .int .i64 tt, .int .i64 se, .int .i64 got, .int .i64 back, .int .i64 ro, .int .u16 bo, .int .i64 hops], .int .i64 l] w fun e w' => e = .returned (hearV p fr tt se got back hops l) ∧ PGoes g (hearP p fr tt se got back hops l) w w' := by
  cases hw : p.w with
  | true =>
    cases hk : askedB p fr tt se with
    | true => exact phear_asked w g p h fr tt se got back ro bo hops l fh hw hk
    | false =>
      have hV : hearV p fr tt se got back hops l = .tuple #[.agg #[.int .i64 0, .int .i64 0, .int .i64 0], .bool false] := by unfold hearV takenB; rw [hw, hk]; simp
      have hP : hearP p fr tt se got back hops l = p := by unfold hearP takenB; rw [hw, hk]; simp
      rw [hV, hP]
      exact phear_other w g p h fr tt se got back ro bo hops l (.inr ⟨hw, hk⟩)
  | false =>
    have hV : hearV p fr tt se got back hops l = .tuple #[.agg #[.int .i64 0, .int .i64 0, .int .i64 0], .bool false] := by unfold hearV takenB; rw [hw]; simp
    have hP : hearP p fr tt se got back hops l = p := by unfold hearP takenB; rw [hw]; simp
    rw [hV, hP]
    exact phear_other w g p h fr tt se got back ro bo hops l (.inl hw)
end Go.Proofs.Ytoggpdfkklombaa
