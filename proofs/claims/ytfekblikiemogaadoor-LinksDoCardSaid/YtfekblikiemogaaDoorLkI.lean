/- Package links: Hops. -/
import Derived.Test.YtfekblikiemogaaDoorLkH
import Derived.Test.YtfekblikiemogaaDoorMarks
import Derived.Test.YtfekblikiemogaaDoorRound
import Derived.Shelf.RegionOpen
namespace Go.Proofs.YtfekblikiemogaaDoor
open Go.RowKit Go.Shelf
set_option linter.unusedVariables false
set_option linter.unusedSimpArgs false
attribute [local go_sem] Oper.semAt_some

theorem Lk.turned {w w' : World} {B g r : Nat} {M : List Nat} {row : Option Nat} (h : Lk w B g r M) (hg : w.grownBy w' row) (hr : NoCells w row) : Lk w' B g r M := ⟨h.ptr.turned hg hr, h.row.turned hg hr, h.oldg, h.oldr, h.pos, h.le, h.fit⟩
theorem Tab.turned {w w' : World} {row : Option Nat} (h : Tab w) (hg : w.grownBy w' row) (hr : NoCells w row) : Tab w' := by
  refine ⟨fun j hj => (World.cell?_of_block (hg.block _ h.2 (fun e => ?_))).trans (h.1 j hj), Nat.lt_of_lt_of_le h.2 hg.size⟩
  obtain ⟨o, ho, hc⟩ := hr _ e.symm
  have := h.1 j hj
  unfold World.cell? at this
  rw [ho] at this
  cases o <;> simp [Obj.isCells] at hc this
/-- Between two steps of Hops. -/
structure HRun (w : World) (B g r q bh cf : Nat) (M : List Nat) (d : Nat) (H : List Int) (W : World) : Prop where
  box : Holds W w.heap.size 24 #[.pointer (some ⟨g, 0, none⟩)]
  row : Holds W bh 35 #[.slice (some ⟨q, 0, none⟩) M.length M.length]
  cells : Holds W q 3 (ints H)
  far : Holds W cf 3 #[.int .i64 d]
  lk : Lk W B g r M
  tab : Tab W
  below : Below w.heap.size w W
section
variable {w : World} {B g r q bh cf : Nat} {M : List Nat} {d : Nat} {H : List Int} {W W' : World}
theorem HRun.turned {row : Option Nat} (h : HRun w B g r q bh cf M d H W) (hg : W.grownBy W' row) (hr : NoCells W row) (hb : ∀ k, row = some k → w.heap.size ≤ k) : HRun w B g r q bh cf M d H W' :=
  ⟨h.box.turned hg hr, h.row.turned hg hr, h.cells.turned hg hr, h.far.turned hg hr, h.lk.turned hg hr, h.tab.turned hg hr, h.below.grown hg h.below.size hb⟩
theorem HRun.alloc (h : HRun w B g r q bh cf M d H W) (o : Obj) : HRun w B g r q bh cf M d H (W.alloc o) :=
  h.turned (World.grownBy_alloc W o none) (fun _ e => by cases e) (fun _ e => by cases e)
theorem HRun.drew (h : HRun w B g r q bh cf M d H W) : HRun w B g r q bh cf M d H W.drew := ⟨h.box.drewN 1, h.row.drewN 1, h.cells.drewN 1, h.far.drewN 1, h.lk.drew, h.tab.below (below_drewN (Below.refl _ _) 1) h.tab.2, h.below.drew⟩
/-- Another block was written. -/
theorem HRun.other (h : HRun w B g r q bh cf M d H W) {S : Nat → Prop} (hc : Chg S W W') (hS : ∀ k, S k → k ≠ w.heap.size ∧ k ≠ bh ∧ k ≠ q ∧ k ≠ cf ∧ k ≠ g ∧ k ≠ r ∧ k ≠ 0 ∧ w.heap.size ≤ k) : HRun w B g r q bh cf M d H W' :=
  ⟨h.box.chg hc (fun e => (hS _ e).1 rfl), h.row.chg hc (fun e => (hS _ e).2.1 rfl), h.cells.chg hc (fun e => (hS _ e).2.2.1 rfl), h.far.chg hc (fun e => (hS _ e).2.2.2.1 rfl),
    h.lk.chg hc (fun e => (hS _ e).2.2.2.2.1 rfl) (fun e => (hS _ e).2.2.2.2.2.1 rfl), (keepTab_chg hc (fun e => (hS _ e).2.2.2.2.2.2.1 rfl)).2 h.tab, Below.chg h.below hc h.below.size (fun k e => (hS k e).2.2.2.2.2.2.2)⟩
theorem ints_set (H : List Int) (i : Nat) (z : Int) : (ints H).setIfInBounds i (.int .i64 z) = ints (H.set i z) := by
  unfold ints
  rw [List.map_set]
  simp
theorem HRun.setq (h : HRun w B g r q bh cf M d H W) (hq : w.heap.size ≤ q) (h0 : 0 < w.heap.size) (hqc : q ≠ cf) (i : Nat) (z : Int) : HRun w B g r q bh cf M d (H.set i z) (W.setCell ⟨q, i, none⟩ (.int .i64 z)) := by
  have hc := Chg.set (S := fun k => k = q) W q i (.int .i64 z) rfl
  refine ⟨h.box.far (h.box.apart h.cells (by decide)) _, h.row.far (h.row.apart h.cells (by decide)) _, ?_, h.far.far (fun e => hqc e.symm) _, h.lk.chg hc (h.lk.ptr.apart h.cells (by decide)) (h.lk.row.apart h.cells (by decide)),
    (keepTab_chg hc (fun e => by omega)).2 h.tab, h.below.setCell (p := ⟨q, i, none⟩) hq _⟩
  have := h.cells.put i (.int .i64 z)
  rwa [ints_set] at this
theorem HRun.newfar (h : HRun w B g r q bh cf M d H W) (d' : Nat) : HRun w B g r q bh W.heap.size M d' H (W.alloc (.cells #[.int .i64 d'] 3)) := by
  have h' := h.alloc (.cells #[.int .i64 d'] 3)
  exact ⟨h'.box, h'.row, h'.cells, Holds.new W _ _, h'.lk, h'.tab, h'.below⟩
end
set_option maxRecDepth 100000 in
set_option maxHeartbeats 4000000 in
theorem hops_in (w : World) (B g r : Nat) (M : List Nat) (h : Lk w B g r M) (hN : Net M) (hT : Tab w) (a : Nat) (ha : a < M.length) (on : Nat) (hon : on < 18446744073709551616) : Calls Tryd.prog 17 #[.pointer (some ⟨g, 0, none⟩), .int .i64 a, .int .u64 on] w (GaveInts M.length (IsHops M on a) w) := by
  refine (callsIn_wide (n := 4)).1 ?_
  refine callsIn_of_wp_marks Tryd.func17 rfl trivial ?_ rfl
  simp only [Tryd.ntmps17, List.size_toArray, List.length_cons, List.length_nil, Nat.reduceAdd, Nat.reduceSub, Array.replicate_succ, Array.replicate_zero, List.push_toArray, List.append_toArray, List.nil_append, List.cons_append]
  obtain ⟨w0, hw0⟩ : ∃ w0, (w.alloc (.cells #[.pointer (some ⟨g, 0, none⟩)] 24)).alloc (.cells #[.int .i64 (-1)] 3) = w0 := ⟨_, rfl⟩
  have hb1 : Below w.heap.size w w0 := by rw [← hw0]; exact (below_alloc w _).alloc (by simp) _
  have hh1 : Holds w0 (w.heap.size + 1) 3 #[.int .i64 (-1)] := by
    have := Holds.new (w.alloc (.cells #[.pointer (some ⟨g, 0, none⟩)] 24)) 3 #[.int .i64 (-1)]
    rw [size_alloc, hw0] at this
    exact this
  have k0 : Holds w0 w.heap.size 24 #[.pointer (some ⟨g, 0, none⟩)] := by rw [← hw0]; exact (Holds.new w 24 #[.pointer (some ⟨g, 0, none⟩)]).alloc _
  have hrep := repeat_any _ _ M.length h.le hh1
  obtain ⟨q, hq⟩ : ∃ q, w0.heap.size = q := ⟨_, rfl⟩
  rw [hq] at hrep
  have hlen := len_lk w0 B g r M (h.below hb1)
  have hnode := fun (W : World) (L : Lk W B g r M) => node_lk W B g r M L a
  rw [inB_yes (Int.natCast_nonneg a) (Int.ofNat_lt.2 ha)] at hnode
  have h64 := h.le
  have s1 := shl_fit (k := a) (by omega)
  have e1 := u64_and_nat on (2 ^ a) hon (pow_fit (by omega))
  rw [show (((2 ^ a : Nat) : Nat) : Int) = (2 : Int) ^ a by simp] at e1
  have hl0 := Layer.start (M := M) hon (show a < 64 by omega)
  obtain ⟨R0, hR0⟩ : ∃ R0, on &&& 2 ^ a = R0 := ⟨_, rfl⟩
  rw [hR0] at e1 hl0
  have c00 := k0.cell 0
  have hx0 : a ≤ 64 := by omega
  have HB := Lib.hid hb1
  have K0 := Lib.hid k0
  have HL := Lib.hid (h.below hb1)
  have HT := Lib.hid (hT.below hb1 hT.2)
  have HT0 := Lib.hid hT.2
  have HY := Lib.hid hl0
  have H64 := Lib.hid h64
  have HFit := Lib.hid h.get_lt
  have hR0' := Lib.hid hR0
  clear hb1 hh1 k0 h hR0 hl0 hT
  gi_wp2_with (first
    | (refine ⟨trivial, ?_⟩; gi_at_call 13; refine (callsIn_wide.2 hlen).mono ?_; rintro e w' ⟨rfl, hw⟩; subst w')
    | (refine ⟨trivial, ?_⟩; gi_at_call 27; refine (callsIn_wide.2 hrep).mono ?_; rintro e w1 ⟨rfl, hr1, hb1⟩; rw [← hq] at hb1; have K1 := K0.out.below hb1 K0.out.lt; have k1 := (K1.alloc (.cells #[.slice (some ⟨q, 0, none⟩) M.length M.length] 35)).cell 0; have hno := hnode _ ((HL.out.below hb1).below (below_alloc w1 (.cells #[.slice (some ⟨q, 0, none⟩) M.length M.length] 35))); have HR := Lib.hid hr1; have HB1 := Lib.hid hb1; clear K1 hr1 hb1)
    | (refine ⟨trivial, ?_⟩; gi_at_call 26; refine (callsIn_wide.2 hno).mono ?_; rintro e w' ⟨rfl, hw⟩; subst w'))
  gi_region
  gi_wp2
  have hrun0 : HRun w B g r q w1.heap.size (w1.heap.size + 1) M 0 (List.replicate M.length (-1)) ((w1.alloc (.cells #[.slice (some ⟨q, 0, none⟩) M.length M.length] 35)).alloc (.cells #[.int .i64 0] 3)).drew := by
    have L1 := HL.out.below HB1.out
    have K1 := K0.out.below HB1.out K0.out.lt
    have hT1 : Tab w1 := HT.out.below HB1.out HT.out.2
    have hT2 : Tab (w1.alloc (.cells #[.slice (some ⟨q, 0, none⟩) M.length M.length] 35)) := hT1.below (below_alloc _ _) hT1.2
    have hr1 : HRun w B g r q w1.heap.size (w1.heap.size + 1) M 0 (List.replicate M.length (-1)) ((w1.alloc (.cells #[.slice (some ⟨q, 0, none⟩) M.length M.length] 35)).alloc (.cells #[.int .i64 0] 3)) := by
      refine ⟨(K1.alloc _).alloc _, (Holds.new w1 _ _).alloc _, (HR.out.alloc _).alloc _, ?_, (L1.below (below_alloc _ _)).below (below_alloc _ _), ?_, ?_⟩
      · have := Holds.new (w1.alloc (.cells #[.slice (some ⟨q, 0, none⟩) M.length M.length] 35)) 3 #[.int .i64 0]
        rwa [size_alloc] at this
      · exact hT2.below (below_alloc _ _) hT2.2
      · exact ((HB.out.trans (HB1.out.mono HB.out.size)).alloc (by have := HB1.out.size; have := HB.out.size; omega) _).alloc (by have := HB1.out.size; have := HB.out.size; simp; omega) _
    exact hr1.drew
  have HR0 := Lib.hid hrun0
  have hqw : w.heap.size ≤ q := by rw [← hq]; exact HB.out.size
  have hqb : q ≤ w1.heap.size := by rw [← hq]; exact HB1.out.size
  have HQ := Lib.hid hqw
  have HQB := Lib.hid hqb
  have HNet := Lib.hid hN
  have HA := Lib.hid ha
  clear hqw hqb hrep hlen hnode hno hN ha e1 k1 c00
  clear hrun0
  refine wpIn_loop (fun act wr => ∃ (u2 u8 u9 u10 u11 u25 u26 u27 u28 u29 u30 u31 u32 u33 u34 u35 u36 u37 u38 u39 u40 u41 u42 u43 u44 u45 u46 u47 u48 u49 u50 u51 : Value) (d cf O R : Nat) (H : List Int) (Ds : List Nat), (u2 = .int .u64 O ∧ u8 = .pointer (some ⟨cf, 0, none⟩) ∧ u9 = .int .u64 R ∧ Layer M on a d H O R ∧ HRun w B g r q w1.heap.size cf M d H wr ∧ Marks wr w.heap.size wr.heap.size Ds ∧ w1.heap.size < cf) ∧ act = { tmps := #[.pointer (some ⟨g, 0, none⟩), .int .i64 a, u2, .pointer (some ⟨w.heap.size, 0, none⟩), undef, undef, .slice none 0 0, .pointer (some ⟨w1.heap.size, 0, none⟩), u8, u9, u10, u11, .slice (some ⟨w.heap.size + 1, 0, none⟩) 1 1, .pointer (some ⟨g, 0, none⟩), .int .i64 M.length, .slice (some ⟨q, 0, none⟩) M.length M.length, .pointer (some ⟨g, 0, none⟩), .int .i64 a, .bool true, .bool false, undef, .int .u64 on, .int .i64 a, .int .u64 (2 ^ a), .int .u64 R0, u25, u26, u27, u28, u29, u30, u31, u32, u33, u34, u35, u36, u37, u38, u39, u40, u41, u42, u43, u44, u45, u46, u47, u48, u49, u50, u51, undef], defers := Ds.map mark }) (fun act _ => (intOf (act.tmps.getD 2 undef)).toNat) ?start ?round
  case start =>
    (repeat apply Exists.intro)
    refine ⟨⟨rfl, rfl, rfl, HY.out, HR0.out, Marks.nil _ _ _, Nat.lt_succ_self _⟩, rfl⟩
  case round =>
    rintro act wr ⟨u2, u8, u9, u10, u11, u25, u26, u27, u28, u29, u30, u31, u32, u33, u34, u35, u36, u37, u38, u39, u40, u41, u42, u43, u44, u45, u46, u47, u48, u49, u50, u51, d, cf, O, R, H, Ds, ⟨rfl, rfl, rfl, hlay, hrun, hmarks, hcf⟩, rfl⟩
    dsimp only
    have c7 := hrun.row.cell 0
    by_cases h0 : R = 0
    · have HHops := Lib.hid (hlay.done h0)
      have HRun' := Lib.hid hrun
      have HMarks := Lib.hid hmarks
      have HLen := Lib.hid hlay.told.1
      clear hrun hmarks hlay
      gi_wp2
      refine leaves_marks (I := fun W => Holds W q 3 (ints H) ∧ Below w.heap.size w W) (hi := wr.heap.size) (fun W D hD hI hd => ?_) (fun W hI => ?_) Ds wr HMarks.out ⟨HRun'.out.cells, HRun'.out.below⟩
      · have hg := grownBy_putObj' W D (.deferred none)
        exact ⟨hI.1.turned hg (fun k e => by cases e; exact ⟨_, hd, rfl⟩), hI.2.grown hg hI.2.size (fun k e => by cases e; exact hD)⟩
      · refine ⟨.slice (some ⟨q, 0, none⟩) M.length M.length, ?_, q, H, rfl, HQ.out, hI.1, HLen.out, HHops.out, hI.2⟩
        simp [results, Tryd.f17, go_sem]
    · have hne : ((R : Int) != 0) = true := by simp; omega
      have hless := hlay.less h0
      have hsome := hlay.some h0 HNet.out HA.out
      have hnext := hlay.next HFit.out
      have hmemR := fun (i : Nat) (hi : i ∈ bitsOf R) => hlay.mem HNet.out HA.out hi
      have hR := hlay.fitR
      have hO := hlay.fitO
      have hnot := u64_andNot_nat O R hO hR
      obtain ⟨O', hO'⟩ : ∃ O', O &&& (18446744073709551615 - R) = O' := ⟨_, rfl⟩
      rw [hO'] at hless hnext hnot
      have HNext := Lib.hid hnext
      have HMemR := Lib.hid hmemR
      have HRun' := Lib.hid hrun
      have HMarks := Lib.hid hmarks
      have HLen := Lib.hid hlay.told.1
      have heach := each_any (wr.alloc (.cells #[.int .u64 0] 30)) R
      rw [size_alloc] at heach
      clear hnext hmemR hO' hrun hmarks hlay c7
      gi_wp2_with (refine ⟨trivial, ?_⟩; gi_at_call 25; refine (callsIn_wide.2 heach).mono ?_; rintro e w' ⟨rfl, rfl⟩)
      have r2 : HRun w B g r q w1.heap.size cf M d H ((wr.alloc (.cells #[.int .u64 0] 30)).alloc (.cells #[.int .u64 R] 30)) := (HRun'.out.alloc _).alloc _
      have n2 : Holds ((wr.alloc (.cells #[.int .u64 0] 30)).alloc (.cells #[.int .u64 R] 30)) wr.heap.size 30 #[.int .u64 0] := (Holds.new wr _ _).alloc _
      have k3 := (Holds.new (wr.alloc (.cells #[.int .u64 0] 30)) 30 #[.int .u64 R]).cell 0
      rw [size_alloc] at k3
      have m2 : Marks ((wr.alloc (.cells #[.int .u64 0] 30)).alloc (.cells #[.int .u64 R] 30)) w.heap.size wr.heap.size Ds := ((HMarks.out.turned (World.grownBy_alloc wr _ none) (fun _ e => by cases e)).turned (World.grownBy_alloc _ _ none) (fun _ e => by cases e))
      have hwr : w.heap.size ≤ wr.heap.size := HRun'.out.below.size
      have hrlt : r < wr.heap.size := HRun'.out.lk.rlt
      have hglt : g < wr.heap.size := HRun'.out.lk.lt
      have hblt : w.heap.size < wr.heap.size := HRun'.out.box.lt
      have hbhlt : w1.heap.size < wr.heap.size := HRun'.out.row.lt
      have hqlt : q < wr.heap.size := HRun'.out.cells.lt
      have hclt : cf < wr.heap.size := HRun'.out.far.lt
      have htlt : 0 < wr.heap.size := HRun'.out.tab.2
      refine wpIn_rangeFunc_ownF rfl (by omega) (gf := 28) (lb := #[.pointer (some ⟨wr.heap.size + 1, 0, none⟩)]) rfl trivial (enters_of Tryd.func28 (by kernel_rfl) rfl)
        (each1_stops _ (by omega) (wr.heap.size + 1) R hR _ r2.tab k3) keepTab_t (keepTab_b _) (Below.refl _ _) (fun _ => rfl)
        (fun (pre : List (Bit R)) W => HRun w B g r q w1.heap.size cf M d (setAll H d (nums pre)) W ∧ Holds W wr.heap.size 30 #[.int .u64 (orAll M (nums pre) : Nat)] ∧ Marks W w.heap.size wr.heap.size Ds)
        (fun _ _ _ => False)
        (fun s W W' row hs hg hr => ⟨hs.1.turned hg (fun k e => (hr k e).2) (fun k e => by have := (hr k e).1; simp at this; omega), hs.2.1.turned hg (fun k e => (hr k e).2), hs.2.2.turned hg (fun k e => by have := (hr k e).1; simp at this; omega)⟩)
        (fun _ _ _ _ _ hs _ _ => hs)
        ⟨r2, n2, m2⟩ ?a₁ ?assign ?body ?done ?stop
      case assign =>
        intro l x W K hK
        gi_wp2
        exact hK
      case body =>
        rintro l pre x W ⟨hrn, hnx, hmk⟩ hlen
        have hx := HMemR.out x.1 x.2
        have hxi : (x.1 : Int) < M.length := by omega
        have c7 := hrn.row.cell 0
        have c8 := hrn.far.cell 0
        have fq := hrn.cells.soft x.1
        have hxl : x.1 < (setAll H d (nums pre)).length := by rw [setAll_len, HLen.out]; exact hx
        obtain ⟨Z, hZ⟩ : ∃ Z, W.cell? ⟨q, x.1, none⟩ = some (.int .i64 Z) := ⟨(setAll H d (nums pre))[x.1], by rw [hrn.cells.cell]; simp [ints, List.getElem?_eq_getElem hxl]⟩
        have hqb := HQB.out
        have hr1 := hrn.setq HQ.out HT0.out (by omega) x.1 d
        have hn1 : Holds (W.setCell ⟨q, x.1, none⟩ (.int .i64 d)) wr.heap.size 30 #[.int .u64 (orAll M (nums pre) : Nat)] := hnx.far (by omega) _
        obtain ⟨W1, hW1⟩ : ∃ W1, W.setCell ⟨q, x.1, none⟩ (.int .i64 (d : Int)) = W1 := ⟨_, rfl⟩
        have hc1 : Chg (fun k => k = q) W W1 := by rw [← hW1]; exact Chg.set W q x.1 _ rfl
        rw [hW1] at hr1 hn1
        have p1' := hr1.box.cell 0
        have p2' := hr1.lk.ptr.cell 0
        have p3' := hr1.lk.cell hx
        have p4' := hn1.cell 0
        have p5' := hn1.soft 0
        have p1 := hr1.drew.box.cell 0
        have p2 := hr1.drew.lk.ptr.cell 0
        have p3 := hr1.drew.lk.cell hx
        have p4 := (hn1.drewN 1).cell 0
        have p5 := (hn1.drewN 1).soft 0
        have hor := u64_or_nat (orAll M (nums pre)) (M.getD x.1 0) (orAll_fit HFit.out _) (HFit.out x.1)
        rw [← orAll_snoc, ← nums_snoc] at hor
        obtain ⟨X, hX⟩ : ∃ X, M.getD x.1 0 = X := ⟨_, rfl⟩
        obtain ⟨N0, hN0⟩ : ∃ N0, orAll M (nums pre) = N0 := ⟨_, rfl⟩
        obtain ⟨N1, hN1⟩ : ∃ N1, orAll M (nums (pre ++ [x])) = N1 := ⟨_, rfl⟩
        rw [hX] at p3 p3' hor
        rw [hN0] at p4 p4' hor
        rw [hN1] at hor
        have hc2 : Chg (fun k => k = wr.heap.size) W1 (W1.setCell ⟨wr.heap.size, 0, none⟩ (.int .u64 (N1 : Int))).drew := (Chg.set (S := fun k => k = wr.heap.size) W1 wr.heap.size 0 _ rfl).drewN 1
        have hfin : KeepsOthers W (W1.setCell ⟨wr.heap.size, 0, none⟩ (.int .u64 (N1 : Int))).drew ∧ KeepTab W (W1.setCell ⟨wr.heap.size, 0, none⟩ (.int .u64 (N1 : Int))).drew ∧
            (HRun w B g r q w1.heap.size cf M d (setAll H d (nums (pre ++ [x]))) (W1.setCell ⟨wr.heap.size, 0, none⟩ (.int .u64 (N1 : Int))).drew ∧
              Holds (W1.setCell ⟨wr.heap.size, 0, none⟩ (.int .u64 (N1 : Int))).drew wr.heap.size 30 #[.int .u64 (N1 : Int)] ∧ Marks (W1.setCell ⟨wr.heap.size, 0, none⟩ (.int .u64 (N1 : Int))).drew w.heap.size wr.heap.size Ds) := by
          have hk1 : KeepsOthers W W1 := others_of_chg hc1 (fun k e => by subst e; exact ⟨_, _, _, hrn.cells⟩)
          have hk2 : KeepsOthers W1 (W1.setCell ⟨wr.heap.size, 0, none⟩ (.int .u64 (N1 : Int))).drew := others_of_chg hc2 (fun k e => by subst e; exact ⟨_, _, _, hn1⟩)
          refine ⟨hk1.trans hk2, keepTab_t (keepTab_chg hc1 (fun e => ?_)) (keepTab_chg hc2 (fun e => ?_)), ?_, (hn1.put 0 _).drewN 1, (hmk.others hk1).others hk2⟩
          · have := HT0.out
            have := HQ.out
            omega
          · omega
          · rw [nums_snoc, setAll_snoc]
            exact hr1.other hc2 (fun k e => by subst e; omega)
        have HFin := Lib.hid hfin
        have HXN := Lib.hid hN1
        clear hX hN0 hN1 hr1 hn1 hc1 hmk hrn hnx hc2 hfin
        have HS0 := Lib.hid (show W1.drew.cell? ⟨wr.heap.size, 0, none⟩ = some (.int .u64 (N0 : Int)) ∧ W1.drew.cell? ⟨w.heap.size, 0, none⟩ = some (.pointer (some ⟨g, 0, none⟩)) ∧ W1.drew.cell? ⟨g, 0, none⟩ = some (.slice (some ⟨r, 0, none⟩) M.length M.length) ∧ W1.drew.cell? ⟨r, x.1, none⟩ = some (.int .u64 (X : Int)) from ⟨p4, p1, p2, p3⟩)
        gi_wp2
        refine round_turns (fun (w' : World) => w'.cell? ⟨wr.heap.size, 0, none⟩ = some (.int .u64 (N0 : Int)) ∧ w'.cell? ⟨w.heap.size, 0, none⟩ = some (.pointer (some ⟨g, 0, none⟩)) ∧ w'.cell? ⟨g, 0, none⟩ = some (.slice (some ⟨r, 0, none⟩) M.length M.length) ∧ w'.cell? ⟨r, x.1, none⟩ = some (.int .u64 (X : Int))) (fun j => decide (9 ≤ j)) (by kernel_rfl) (by kernel_rfl) (by rintro ⟨_, _, h⟩; exact h) (HS0.out) (fun hS => ?_)
        refine Turns.take hS 0 _ rfl (by kernel_rfl) (by kernel_rfl) (by kernel_rfl) (by kernel_rfl) (fun _ _ _ h => h) (by rfl) (fun w' hS' => by (try dsimp only at hS'); go_split_ands; go_simp; (try with_reducible rfl)) ?_
        simp only [Act.put, List.getElem_toArray, List.getElem_cons_succ, List.getElem_cons_zero, List.setIfInBounds_toArray, List.set_cons_zero, List.set_cons_succ]
        refine Turns.take hS 1 _ rfl (by kernel_rfl) (by kernel_rfl) (by kernel_rfl) (by kernel_rfl) (fun _ _ _ h => h) (by rfl) (fun w' hS' => by (try dsimp only at hS'); go_split_ands; go_simp; (try with_reducible rfl)) ?_
        simp only [Act.put, List.getElem_toArray, List.getElem_cons_succ, List.getElem_cons_zero, List.setIfInBounds_toArray, List.set_cons_zero, List.set_cons_succ]
        refine Turns.take hS 2 _ rfl (by kernel_rfl) (by kernel_rfl) (by kernel_rfl) (by kernel_rfl) (fun _ _ _ h => h) (by rfl) (fun w' hS' => by (try dsimp only at hS'); go_split_ands; go_simp; (try with_reducible rfl)) ?_
        simp only [Act.put, List.getElem_toArray, List.getElem_cons_succ, List.getElem_cons_zero, List.setIfInBounds_toArray, List.set_cons_zero, List.set_cons_succ]
        refine Turns.take hS 3 _ rfl (by kernel_rfl) (by kernel_rfl) (by kernel_rfl) (by kernel_rfl) (fun _ _ _ h => h) (by rfl) (fun w' hS' => by (try dsimp only at hS'); go_split_ands; go_simp; (try with_reducible rfl)) ?_
        simp only [Act.put, List.getElem_toArray, List.getElem_cons_succ, List.getElem_cons_zero, List.setIfInBounds_toArray, List.set_cons_zero, List.set_cons_succ]
        refine Turns.take hS 4 _ rfl (by kernel_rfl) (by kernel_rfl) (by kernel_rfl) (by kernel_rfl) (fun _ _ _ h => h) (by rfl) (fun w' hS' => by (try dsimp only at hS'); go_split_ands; go_simp; (try with_reducible rfl)) ?_
        simp only [Act.put, List.getElem_toArray, List.getElem_cons_succ, List.getElem_cons_zero, List.setIfInBounds_toArray, List.set_cons_zero, List.set_cons_succ]
        refine Turns.take hS 5 _ rfl (by kernel_rfl) (by kernel_rfl) (by kernel_rfl) (by kernel_rfl) (fun _ _ _ h => h) (by rfl) (fun w' hS' => by (try dsimp only at hS'); go_split_ands; go_simp; (try with_reducible rfl)) ?_
        simp only [Act.put, List.getElem_toArray, List.getElem_cons_succ, List.getElem_cons_zero, List.setIfInBounds_toArray, List.set_cons_zero, List.set_cons_succ]
        refine Turns.take hS 6 _ rfl (by kernel_rfl) (by kernel_rfl) (by kernel_rfl) (by kernel_rfl) (fun _ _ _ h => h) (by rfl) (fun w' hS' => by (try dsimp only at hS'); go_split_ands; go_simp; (try with_reducible rfl)) ?_
        simp only [Act.put, List.getElem_toArray, List.getElem_cons_succ, List.getElem_cons_zero, List.setIfInBounds_toArray, List.set_cons_zero, List.set_cons_succ]
        refine Turns.take hS 7 _ rfl (by kernel_rfl) (by kernel_rfl) (by kernel_rfl) (by kernel_rfl) (fun _ _ _ h => h) (by rfl) (fun w' hS' => by (try dsimp only at hS'); go_split_ands; go_simp; (try with_reducible rfl)) ?_
        simp only [Act.put, List.getElem_toArray, List.getElem_cons_succ, List.getElem_cons_zero, List.setIfInBounds_toArray, List.set_cons_zero, List.set_cons_succ]
        refine Turns.take hS 8 _ rfl (by kernel_rfl) (by kernel_rfl) (by kernel_rfl) (by kernel_rfl) (fun _ _ _ h => h) (by rfl) (fun w' hS' => by (try dsimp only at hS'); go_split_ands; go_simp; (try with_reducible rfl)) ?_
        simp only [Act.put, List.getElem_toArray, List.getElem_cons_succ, List.getElem_cons_zero, List.setIfInBounds_toArray, List.set_cons_zero, List.set_cons_succ]
        refine Turns.rest (late_done (by kernel_rfl)) ?_
        refine any_tail 9 (by rfl) (by kernel_rfl) ?_
        simp only [List.drop_succ_cons, List.drop_zero]
        clear hS
        go_wp2
        change KeepsOthers W _ ∧ KeepTab W _ ∧ (HRun _ _ _ _ _ _ _ _ _ _ _ ∧ Holds _ _ _ #[.int .u64 ((orAll M (nums (pre ++ [x])) : Nat) : Int)] ∧ Marks _ _ _ _)
        rw [HXN.out]
        exact HFin.out
      case done =>
        rintro D ys W hD hys ⟨hrn, hnx, hmk⟩ hDk
        rw [hys] at hrn hnx
        have hDW : D < W.heap.size := (Array.getElem?_eq_some_iff.1 hDk).1
        have hD1 : wr.heap.size + 1 + 1 ≤ D := by simpa using hD
        have c10 := hnx.cell 0
        have c8 := hrn.far.cell 0
        have hfitN := orAll_fit HFit.out (bitsOf R)
        have hand := u64_and_nat (orAll M (bitsOf R)) O' hfitN HNext.out.fitO
        have hnx2 := HNext.out
        have hd1 := IntWalk.i64_in ((d : Int) + 1) (by omega)
        obtain ⟨N, hN⟩ : ∃ N, orAll M (bitsOf R) = N := ⟨_, rfl⟩
        rw [hN] at c10 hand hnx2
        obtain ⟨R2, hR2⟩ : ∃ R2, N &&& O' = R2 := ⟨_, rfl⟩
        rw [hR2] at hand hnx2
        have hmk2 := hmk.cons (hi' := W.heap.size + 1) HRun'.out.below.size (by omega) hDk (by omega)
        have HNx := Lib.hid hnx2
        have hr3 := hrn.newfar (d + 1)
        have hm3 := hmk2.turned (World.grownBy_alloc W (.cells #[.int .i64 ((d + 1 : Nat) : Int)] 3) none) (fun _ e => by cases e)
        rw [show (((d + 1 : Nat) : Nat) : Int) = (d : Int) + 1 by omega] at hr3 hm3
        rw [show W.heap.size + 1 = _ from (size_alloc W (.cells #[.int .i64 ((d : Int) + 1)] 3)).symm] at hm3
        have hbW : w1.heap.size < W.heap.size := hrn.row.lt
        have HR3 := Lib.hid hr3
        have HM3 := Lib.hid hm3
        clear hN hR2 hnx2 hrn hnx hmk hmk2 hDk hr3 hm3
        gi_wp2
        refine ⟨?_, ?_⟩
        · (repeat apply Exists.intro)
          exact ⟨⟨rfl, rfl, rfl, HNx.out, HR3.out, HM3.out, hbW⟩, rfl⟩
        · simp [intOf]
          omega
      case stop =>
        rintro D c pre W _ _ h _
        exact h.elim
end Go.Proofs.YtfekblikiemogaaDoor
