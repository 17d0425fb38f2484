/- Package globe: Of. -/
import Derived.Test.YtgmeakcfiaopcaaGreatGbN
import Derived.Test.YtgmeakcfiaopcaaGreatBunU
import Derived.Test.YtgmeakcfiaopcaaGreatSpD
namespace Go.Proofs.YtgmeakcfiaopcaaGreat
open Go.RowKit Go.Shelf
set_option linter.unusedVariables false
set_option linter.unusedSimpArgs false
attribute [local go_sem] Oper.semAt_some

def w64 (n : Int) : Int := IntKind.i64.wrap n
theorem w64_add (a b : Int) : IntKind.i64.wrap (w64 a + b) = w64 (a + b) := by
  unfold w64
  rw [IntKind.wrap_i64, IntKind.wrap_i64, IntKind.wrap_i64]
  omega
theorem w64_in {n : Int} (h : Fits n) : w64 n = n := IntWalk.i64_in _ h
/-- Between two entries that means looks at. -/
structure MRun (w : World) (pre : List Ent) (W : World) : Prop where
  loc : Holds W w.heap.size 3 #[.int .i64 (w64 (sumE entL pre))]
  off : Holds W (w.heap.size + 1) 3 #[.int .i64 (w64 (sumE entO pre))]
  below : Below w.heap.size w W
theorem MRun.turned {w : World} {pre : List Ent} {W W' : World} {row : Option Nat} (h : MRun w pre W) (hg : W.grownBy W' row) (hr : NoCells W row) (hb : ∀ k, row = some k → w.heap.size ≤ k) : MRun w pre W' :=
  ⟨h.loc.turned hg hr, h.off.turned hg hr, h.below.grown hg h.below.size hb⟩
theorem means_leaves {n : Nat} {w : World} {W : World} {tmps : Array Value} {u v : Int} {D : Nat} (hb : Below w.heap.size w W)
    (hD : w.heap.size ≤ D) (hDk : W.heap[D]? = some (.deferred (some []))) (t2 : tmps.getD 2 undef = .int .i64 u) (t3 : tmps.getD 3 undef = .int .i64 v) :
    LeavesInM Fence.wide n Tryz.prog Tryz.f82 tmps (fun e w' => e = .returned (.tuple #[.int .i64 u, .int .i64 v]) ∧ Below w.heap.size w w') [mark D] .returning W := by
  refine leaves_marks (I := fun W => Below w.heap.size w W) (lo := w.heap.size) (hi := D + 1) (fun W D' hD' hI hd => ?_) (fun W hI => ?_) [D] W ⟨by simp, fun E hE => by
    simp only [List.mem_cons, List.not_mem_nil, or_false] at hE
    subst hE
    exact ⟨hD, Nat.lt_succ_self _, hDk⟩⟩ hb
  · have hg := grownBy_putObj' W D' (.deferred none)
    exact hI.grown hg hI.size (fun k e => by cases e; exact hD')
  · refine ⟨.tuple #[.int .i64 u, .int .i64 v], ?_, rfl, hI⟩
    have t2' : tmps[2]?.getD undef = .int .i64 u := by simpa using t2
    have t3' : tmps[3]?.getD undef = .int .i64 v := by simpa using t3
    simp [results, Tryz.f82, go_sem, t2', t3']
/-- Sums of what can be don't go round. -/
theorem sums_fit {L : List Ent} (h8 : L.length ≤ 8) (hc : ∀ e ∈ L, CanE e) : Fits (sumE entL L) ∧ Fits (sumE entO L) := by
  obtain ⟨l1, l2⟩ := sumE_bd entL 0 1125899906842624 L (fun x hx => ⟨(hc x hx).l1, (hc x hx).l2⟩)
  obtain ⟨o1, o2⟩ := sumE_bd entO (-1125899906842624) 1125899906842624 L (fun x hx => ⟨(hc x hx).o1, (hc x hx).o2⟩)
  unfold Fits
  refine ⟨?_, ?_⟩ <;> omega
set_option maxRecDepth 100000 in
set_option maxHeartbeats 4000000 in
theorem means_any (w : World) (q : Option Addr) (L : List Ent) (h : Src w q L) (hL : L ≠ []) (hc : ∀ e ∈ L, CanE e) :
    Calls Tryz.prog 82 #[.pointer q] w fun e w' => e = .returned (.tuple #[.int .i64 (sumE entL L / (L.length : Int)), .int .i64 (sumE entO L / (L.length : Int))]) ∧ Below w.heap.size w w' := by
  refine (callsIn_wide (n := 4)).1 ?_
  refine callsIn_of_wp_marks Tryz.func82 rfl trivial ?_ rfl
  simp only [Tryz.ntmps82, List.size_toArray, List.length_cons, List.length_nil, Nat.reduceAdd, Nat.reduceSub, Array.replicate_succ, Array.replicate_zero, List.push_toArray, List.append_toArray, List.nil_append, List.cons_append]
  have HS := Lib.hid h
  have HF := Lib.hid (sums_fit h.le hc)
  have hn1 : 0 < L.length := List.length_pos_iff.2 hL
  have hn8 := h.le
  clear h hc hL
  gi_wp2_with (refine ⟨trivial, ?_⟩; gi_at_call 92; refine (callsIn_wide.2 (all_any _ q)).mono ?_; rintro e w' ⟨rfl, rfl⟩)
  obtain ⟨WR, hWR⟩ : ∃ WR, (((w.alloc (.cells #[.int .i64 0] 3)).alloc (.cells #[.int .i64 0] 3)).alloc (.cells #[.pointer q] 145)) = WR := ⟨_, rfl⟩
  have sR : WR.heap.size = w.heap.size + 3 := by rw [← hWR]; simp
  have b0 : MRun w [] WR := by
    rw [← hWR]
    refine ⟨((Holds.new w _ _).alloc _).alloc _, ?_, ((below_alloc w _).alloc (by simp) _).alloc (by simp; omega) _⟩
    have := (Holds.new (w.alloc (.cells #[.int .i64 0] 3)) 3 #[.int .i64 0]).alloc (.cells #[.pointer q] 145)
    rwa [size_alloc] at this
  have cR : WR.cell? ⟨w.heap.size + 1 + 1, 0, none⟩ = some (.pointer q) := by
    rw [← hWR]
    have := (Holds.new ((w.alloc (.cells #[.int .i64 0] 3)).alloc (.cells #[.int .i64 0] 3)) 145 #[.pointer q]).cell 0
    rwa [size_alloc, size_alloc] at this
  have hS := HS.out.below b0.below
  simp only [hWR]
  clear hWR
  refine range_boxed rfl (by omega) (gf := 100) (lb := #[.pointer (some ⟨w.heap.size + 1 + 1, 0, none⟩)]) rfl trivial (enters_of Tryz.func100 (by kernel_rfl) rfl)
    (all1_stops _ (by omega) (w.heap.size + 1 + 1) (w.heap.size + 3) q L WR hS cR (by omega)) kept_t (fun W l o o' hl => kept_b (by omega) W l o o' hl) (fun _ _ h => kept_below h) (Below.refl _ _) (fun _ => rfl)
    (fun (pre : List Ent) W => MRun w pre W)
    (fun c pre W => False)
    (fun s W W' row hs hg hr => hs.turned hg (fun k e => (hr k e).2) (fun k e => by have := (hr k e).1; omega))
    (fun c s W W' row hs hg hr => hs)
    b0 49 (fun x => #[.int .i64 x.1, .int .i64 x.2.1, .int .i64 x.2.2]) ?a₁ ?assign ?body ?done ?stop
  case assign =>
    intro l y b W K hb hK
    simp only [entA]
    have HB := Lib.hid hb
    clear hb
    gi_wp2
    simp only [HB.out]
    exact hK
  case body =>
    rintro l pre y g W hl ⟨rc, hrc⟩ hrn he hlen
    obtain ⟨a, b, c⟩ := y
    dsimp only at he ⊢
    have c0 := hrn.loc.cell 0
    have f0 := hrn.loc.soft 0
    have c1 := hrn.off.cell 0
    have f1 := hrn.off.soft 0
    have e0 := he.cell 0
    have e1 := he.cell 1
    have s1 := w64_add (sumE entL pre) a
    have s2 := w64_add (sumE entO pre) b
    have n1 : sumE entL pre + a = sumE entL (pre ++ [(a, b, c)]) := by rw [sumE_snoc]; rfl
    have n2 : sumE entO pre + b = sumE entO (pre ++ [(a, b, c)]) := by rw [sumE_snoc]; rfl
    rw [n1] at s1
    rw [n2] at s2
    obtain ⟨u, hu⟩ : ∃ u, w64 (sumE entL (pre ++ [(a, b, c)])) = u := ⟨_, rfl⟩
    obtain ⟨v, hv⟩ : ∃ u, w64 (sumE entO (pre ++ [(a, b, c)])) = u := ⟨_, rfl⟩
    have hch : Chg (fun k => k = w.heap.size ∨ k = w.heap.size + 1) W ((W.setCell ⟨w.heap.size, 0, none⟩ (.int .i64 u)).setCell ⟨w.heap.size + 1, 0, none⟩ (.int .i64 v)) :=
      (Chg.set W w.heap.size 0 _ (.inl rfl)).trans (Chg.set _ (w.heap.size + 1) 0 _ (.inr rfl)) (fun _ _ h => h)
    have HR := Lib.hid (show MRun w (pre ++ [(a, b, c)]) ((W.setCell ⟨w.heap.size, 0, none⟩ (.int .i64 u)).setCell ⟨w.heap.size + 1, 0, none⟩ (.int .i64 v)) from by
      refine ⟨?_, ?_, Below.chg hrn.below hch hrn.below.size (fun k hk => by omega)⟩
      · rw [hu]
        exact (hrn.loc.put 0 _).far (by omega) _
      · rw [hv]
        exact (hrn.off.far (by omega) _).put 0 _)
    have HK := Lib.hid (kept_chg (n := w.heap.size + 3) hch (fun k hk => by omega))
    have HO := Lib.hid (show KeepsFrom WR.heap.size W _ from (others_of_chg hch (fun k e => by
      rcases e with rfl | rfl
      · exact ⟨_, _, _, hrn.loc⟩
      · exact ⟨_, _, _, hrn.off⟩)).from _)
    rw [hu] at s1
    rw [hv] at s2
    clear hrn hch n1 n2 hu hv he
    gi_wp2
    exact ⟨HO.out, HK.out, HR.out⟩
  case done =>
    rintro D ys W hD rfl hrn hDk
    have c0 := hrn.loc.cell 0
    have c1 := hrn.off.cell 0
    rw [w64_in HF.out.1] at c0
    rw [w64_in HF.out.2] at c1
    have hB := hrn.below
    have hS := HS.out.below hB
    clear hrn
    have hlen := fun nq => src_len (W.drewN nq) q ys (hS.below (below_drewN (Below.refl _ _) nq))
    have hlen2 := fun (V : World) (hV : Below W.heap.size W V) => src_len V q ys (hS.below hV)
    have HC := Lib.hid c1
    have hfl := fun V => floor_yes (sumE entL ys) (ys.length : Int) V HF.out.1 (by omega) (by omega)
    have hfo := fun V => floor_yes (sumE entO ys) (ys.length : Int) V HF.out.2 (by omega) (by omega)
    obtain ⟨sl, hsl⟩ : ∃ s, sumE entL ys = s := ⟨_, rfl⟩
    obtain ⟨so, hso⟩ : ∃ s, sumE entO ys = s := ⟨_, rfl⟩
    obtain ⟨nn, hnn⟩ : ∃ s, (ys.length : Int) = s := ⟨_, rfl⟩
    have HE1 := Lib.hid (show sumE entL ys / (ys.length : Int) = sl / nn by rw [hsl, hnn])
    have HE2 := Lib.hid (show sumE entO ys / (ys.length : Int) = so / nn by rw [hso, hnn])
    rw [hsl] at c0
    rw [hso] at c1
    rw [hsl, hso] at HF
    simp only [hsl, hso, hnn] at hlen hlen2 hfl hfo
    clear hsl hso hnn hS
    have HDk := Lib.hid hDk
    have HB := Lib.hid hB
    clear hDk hB
    gi_wp2
    refine wpIn_wide.2 ?_
    go_quiet ((first | (go_at_call 69; refine Calls.quiet_of_same (hlen _)) | (go_at_call 93; refine Calls.quiet_of (hfl _))))
    gi_wp2
    have hbn : Below W.heap.size W (W.drewN nq) := below_drewN (Below.refl _ _) nq
    have c2 : (W.drewN nq).cell? ⟨w.heap.size + 1, 0, none⟩ = some (.int .i64 so) := by simpa using c1
    have HB2 := Lib.hid (HB.out.trans (hbn.mono HB.out.size))
    have HDk2 : Hid ((W.drewN nq).heap[D]? = some (.deferred (some []))) := Lib.hid (by simpa using HDk.out)
    have hlen3 := fun nr => hlen2 ((W.drewN nq).drewN nr) (below_drewN hbn nr)
    clear hbn hlen hlen2 hfl
    generalize W.drewN nq = W2 at *
    clear c0 c1 HB HDk HC
    refine wpIn_wide.2 ?_
    go_quiet ((first | (go_at_call 69; refine Calls.quiet_of_same (hlen3 _)) | (go_at_call 93; refine Calls.quiet_of (hfo _))))
    gi_wp2
    rw [HE1.out, HE2.out]
    exact means_leaves (below_drewN HB2.out _) (by omega) (by simpa using HDk2.out) rfl rfl
  case stop =>
    rintro D c pre W hD hpre hf hDk
    exact hf.elim

/-- A map from one clock's time to another's, as a value. -/
def mapV (l o a b h : Int) : Value := .agg #[.int .i64 l, .int .i64 o, .int .i64 a, .int .i64 b, .int .i64 h]
/-- What Of answers of entries. -/
def locV (L : List Ent) : Int := sumE entL L / (L.length : Int)
def offV (L : List Ent) : Int := sumE entO L / (L.length : Int)
noncomputable def mapOf (d : Int) (L : List Ent) : Value := mapV (locV L) (offV L) (ofV d L).1 (ofV d L).2 (mostL L)
theorem gave_trow {w w' : World} {L : List Ent} {e : Ending} (h : GaveEnts w L e w') : ∃ c, e = .returned (.slice (some ⟨w.heap.size, 0, none⟩) L.length c) ∧ TRow w' w.heap.size (some ⟨w.heap.size, 0, none⟩) L.length c L ∧ Below w.heap.size w w' := by
  obtain ⟨c, he, ho, hb⟩ := h
  exact ⟨c, he, TRow.of_own ho, hb⟩
theorem globe_none (d : Int) (w : World) (q : Option Addr) (h : Src w q []) :
    Calls Tryz.prog 70 #[.int .i64 d, .pointer q] w fun e w' => e = .returned (.tuple #[mapV 0 0 0 0 0, .bool false]) ∧ Below w.heap.size w w' := by
  have hlen := fun (V : World) (hV : Below w.heap.size w V) => src_len V q [] (h.below hV)
  have hl1 := hlen _ (below_alloc w (.cells #[.int .i64 0, .int .i64 0, .int .i64 0, .int .i64 0, .int .i64 0] 142))
  unfold mapV
  go_enter Tryz.func70, Tryz.ntmps70
  go_wp2_with (go_at_call 69; refine hl1.mono ?_; rintro e wx ⟨rfl, hwx⟩; subst wx)
  refine bodyPost_ret (results_row_tmp rfl _ _ w.heap.size 142 [.int .i64 0, .int .i64 0, .int .i64 0, .int .i64 0, .int .i64 0] _ _ rfl (Holds.new w _ _) Tryz.underlying142 rfl (by kernel_rfl) rfl) rfl ?_
  exact ⟨rfl, below_alloc _ _⟩
set_option maxHeartbeats 2000000 in
theorem globe_some (d : Int) (w : World) (q : Option Addr) (L : List Ent) (h : Src w q L) (hL : L ≠ []) (hc : ∀ e ∈ L, CanE e) :
    Calls Tryz.prog 70 #[.int .i64 d, .pointer q] w fun e w' => e = .returned (.tuple #[mapOf d L, .bool true]) ∧ Below w.heap.size w w' := by
  have HB := Lib.hid (Box.start w 142 #[.int .i64 0, .int .i64 0, .int .i64 0, .int .i64 0, .int .i64 0])
  have hS := fun (V : World) (hV : Below w.heap.size w V) => h.below hV
  have hl1 := src_len _ q L (hS _ HB.out.below)
  have hm1 := means_any _ q L (hS _ HB.out.below) hL hc
  have HS := Lib.hid hS
  have hn : 0 < L.length := List.length_pos_iff.2 hL
  have hne : ((L.length : Int) == 0) = false := by simpa using hL
  unfold mapOf mapV locV offV
  obtain ⟨sl, hsl⟩ : ∃ x, sumE entL L / (L.length : Int) = x := ⟨_, rfl⟩
  obtain ⟨so, hso⟩ : ∃ x, sumE entO L / (L.length : Int) = x := ⟨_, rfl⟩
  obtain ⟨ab, hab⟩ : ∃ x, ofV d L = x := ⟨_, rfl⟩
  obtain ⟨mo, hmo⟩ : ∃ x, mostL L = x := ⟨_, rfl⟩
  have HA := Lib.hid hab
  have HM := Lib.hid hmo
  simp only [hsl, hso, hab, hmo] at hm1 ⊢
  clear hsl hso hab hmo h hS hc hL
  go_enter Tryz.func70, Tryz.ntmps70
  go_wp2_with (first
    | (go_at_call 69; refine hl1.mono ?_; rintro e wx ⟨rfl, hwx⟩; subst wx)
    | (go_at_call 82; refine hm1.mono ?_; rintro e w2 ⟨rfl, hb2⟩; have HB2 := Lib.hid (HB.out.next hb2); have hli := list_any w2 q L (HS.out _ HB2.out.below); clear hb2)
    | (go_at_call 84; refine hli.mono ?_; intro e w3 hg3; obtain ⟨cc, he3, ht3, hb3⟩ := gave_trow hg3; subst e; have HB3 := Lib.hid (HB2.out.next hb3); have hso := slope_of d w3 _ _ _ _ L ht3; rw [HA.out] at hso; clear hb3 hg3 hli)
    | (go_at_call 83; refine hso.mono ?_; rintro e w4 ⟨rfl, hb4⟩; have HB4 := Lib.hid (HB3.out.next hb4); have hho := hops_any w4 q L (HS.out _ HB4.out.below); rw [HM.out] at hho; unfold slV; clear hb4 hso)
    | (go_at_call 85; refine hho.mono ?_; rintro e w5 ⟨rfl, hb5⟩; have HB5 := Lib.hid (HB4.out.next hb5); have c0 := HB5.out.holds.cell 0; have c1 := HB5.out.holds.cell 1; have c2 := HB5.out.holds.cell 2; have c3 := HB5.out.holds.cell 3; have c4 := HB5.out.holds.cell 4; have s0 := HB5.out.holds.soft 0; have s1 := HB5.out.holds.soft 1; have s2 := HB5.out.holds.soft 2; have s3 := HB5.out.holds.soft 3; have s4 := HB5.out.holds.soft 4; clear hb5 hho))
  refine bodyPost_ret (results_row_tmp rfl _ _ w.heap.size 142 [.int .i64 sl, .int .i64 so, .int .i64 ab.1, .int .i64 ab.2, .int .i64 mo] _ _ rfl (((((HB5.out.holds.put 0 _).put 1 _).put 2 _).put 3 _).put 4 _) Tryz.underlying142 rfl (by kernel_rfl) rfl) rfl ?_
  exact ⟨rfl, ((((HB5.out.below.setCell (by dsimp only; omega) _).setCell (by dsimp only; omega) _).setCell (by dsimp only; omega) _).setCell (by dsimp only; omega) _).setCell (by dsimp only; omega) _⟩
end Go.Proofs.YtgmeakcfiaopcaaGreat
