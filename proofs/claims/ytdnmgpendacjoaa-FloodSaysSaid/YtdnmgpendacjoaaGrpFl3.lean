/- Texts of this seat, one behind the other. -/
import Derived.Test.YtdnmgpendacjoaaGrpFl2
import Derived.Test.YtdnmgpendacjoaaGrpFl1
import Derived.Test.YtdnmgpendacjoaaProg
import Derived.Shelf.Abstract
import Derived.Deep.RegionHeld3
import Derived.Deep.DrawnRows
import Derived.Outline
import Derived.Deep.RegionLaw
import Derived.Deep.QuietTactic
import Derived.BigQuiet
import Derived.Deep.RegionWith
import Derived.Deep.CutBlock
/- Package globe: Of. -/
namespace Go.Proofs.Ytdnmgpendacjoaa
open Go.RowKit Go.Shelf
set_option linter.unusedVariables false
set_option linter.unusedSimpArgs false
attribute [local go_sem] Oper.semAt_some

def w64 (n : Int) : Int := IntKind.i64.wrap n
theorem w64_add (a b : Int) : IntKind.i64.wrap (w64 a + b) = w64 (a + b) := by
  unfold w64
  rw [IntKind.wrap_i64, IntKind.wrap_i64, IntKind.wrap_i64]
  omega
theorem w64_in {n : Int} (h : Fits n) : w64 n = n := IntWalk.i64_in _ h
/-- Between two entries that means looks at. -/
structure MRun (w : World) (pre : List Ent) (W : World) : Prop where
  loc : Holds W w.heap.size 3 #[.int .i64 (w64 (sumE entL pre))]
  off : Holds W (w.heap.size + 1) 3 #[.int .i64 (w64 (sumE entO pre))]
  below : Below w.heap.size w W
theorem MRun.turned {w : World} {pre : List Ent} {W W' : World} {row : Option Nat} (h : MRun w pre W) (hg : W.grownBy W' row) (hr : NoCells W row) (hb : ∀ k, row = some k → w.heap.size ≤ k) : MRun w pre W' :=
  ⟨h.loc.turned hg hr, h.off.turned hg hr, h.below.grown hg h.below.size hb⟩
theorem means_leaves {n : Nat} {w : World} {W : World} {tmps : Array Value} {u v : Int} {D : Nat} (hb : Below w.heap.size w W)
    (hD : w.heap.size ≤ D) (hDk : W.heap[D]? = some (.deferred (some []))) (t2 : tmps.getD 2 undef = .int .i64 u) (t3 : tmps.getD 3 undef = .int .i64 v) :
    LeavesInM Fence.wide n Try.prog Try.f41 tmps (fun e w' => e = .returned (.tuple #[.int .i64 u, .int .i64 v]) ∧ Below w.heap.size w w') [mark D] .returning W := by
  refine leaves_marks (I := fun W => Below w.heap.size w W) (lo := w.heap.size) (hi := D + 1) (fun W D' hD' hI hd => ?_) (fun W hI => ?_) [D] W ⟨by simp, fun E hE => by
    simp only [List.mem_cons, List.not_mem_nil, or_false] at hE
    subst hE
    exact ⟨hD, Nat.lt_succ_self _, hDk⟩⟩ hb
  · have hg := grownBy_putObj' W D' (.deferred none)
    exact hI.grown hg hI.size (fun k e => by cases e; exact hD')
  · refine ⟨.tuple #[.int .i64 u, .int .i64 v], ?_, rfl, hI⟩
    have t2' : tmps[2]?.getD undef = .int .i64 u := by simpa using t2
    have t3' : tmps[3]?.getD undef = .int .i64 v := by simpa using t3
    simp [results, Try.f41, go_sem, t2', t3']
/-- Sums of what can be don't go round. -/
theorem sums_fit {L : List Ent} (h8 : L.length ≤ 8) (hc : ∀ e ∈ L, CanE e) : Fits (sumE entL L) ∧ Fits (sumE entO L) := by
  obtain ⟨l1, l2⟩ := sumE_bd entL 0 1125899906842624 L (fun x hx => ⟨(hc x hx).l1, (hc x hx).l2⟩)
  obtain ⟨o1, o2⟩ := sumE_bd entO (-1125899906842624) 1125899906842624 L (fun x hx => ⟨(hc x hx).o1, (hc x hx).o2⟩)
  unfold Fits
  refine ⟨?_, ?_⟩ <;> omega
set_option maxRecDepth 100000 in
set_option maxHeartbeats 4000000 in
theorem means_any (w : World) (q : Option Addr) (L : List Ent) (h : Src w q L) (hL : L ≠ []) (hc : ∀ e ∈ L, CanE e) :
    Calls Try.prog 41 #[.pointer q] w fun e w' => e = .returned (.tuple #[.int .i64 (sumE entL L / (L.length : Int)), .int .i64 (sumE entO L / (L.length : Int))]) ∧ Below w.heap.size w w' := by
  refine (callsIn_wide (n := 4)).1 ?_
  refine callsIn_of_wp_marks Try.func41 rfl trivial ?_ rfl
  simp only [Try.ntmps41, List.size_toArray, List.length_cons, List.length_nil, Nat.reduceAdd, Nat.reduceSub, Array.replicate_succ, Array.replicate_zero, List.push_toArray, List.append_toArray, List.nil_append, List.cons_append]
  have HS := Lib.hid h
  have HF := Lib.hid (sums_fit h.le hc)
  have hn1 : 0 < L.length := List.length_pos_iff.2 hL
  have hn8 := h.le
  clear h hc hL
  gi_wp2_with (refine ⟨trivial, ?_⟩; gi_at_call 53; refine (callsIn_wide.2 (all_any _ q)).mono ?_; rintro e w' ⟨rfl, rfl⟩)
  obtain ⟨WR, hWR⟩ : ∃ WR, (((w.alloc (.cells #[.int .i64 0] 3)).alloc (.cells #[.int .i64 0] 3)).alloc (.cells #[.pointer q] 84)) = WR := ⟨_, rfl⟩
  have sR : WR.heap.size = w.heap.size + 3 := by rw [← hWR]; simp
  have b0 : MRun w [] WR := by
    rw [← hWR]
    refine ⟨((Holds.new w _ _).alloc _).alloc _, ?_, ((below_alloc w _).alloc (by simp) _).alloc (by simp; omega) _⟩
    have := (Holds.new (w.alloc (.cells #[.int .i64 0] 3)) 3 #[.int .i64 0]).alloc (.cells #[.pointer q] 84)
    rwa [size_alloc] at this
  have cR : WR.cell? ⟨w.heap.size + 1 + 1, 0, none⟩ = some (.pointer q) := by
    rw [← hWR]
    have := (Holds.new ((w.alloc (.cells #[.int .i64 0] 3)).alloc (.cells #[.int .i64 0] 3)) 84 #[.pointer q]).cell 0
    rwa [size_alloc, size_alloc] at this
  have hS := HS.out.below b0.below
  simp only [hWR]
  clear hWR
  refine range_boxed rfl (by omega) (gf := 61) (lb := #[.pointer (some ⟨w.heap.size + 1 + 1, 0, none⟩)]) rfl trivial (enters_of Try.func61 (by kernel_rfl) rfl)
    (all1_stops _ (by omega) (w.heap.size + 1 + 1) (w.heap.size + 3) q L WR hS cR (by omega)) kept_t (fun W l o o' hl => kept_b (by omega) W l o o' hl) (fun _ _ h => kept_below h) (Below.refl _ _) (fun _ => rfl)
    (fun (pre : List Ent) W => MRun w pre W)
    (fun c pre W => False)
    (fun s W W' row hs hg hr => hs.turned hg (fun k e => (hr k e).2) (fun k e => by have := (hr k e).1; omega))
    (fun c s W W' row hs hg hr => hs)
    b0 48 (fun x => #[.int .i64 x.1, .int .i64 x.2.1, .int .i64 x.2.2]) ?a₁ ?assign ?body ?done ?stop
  case assign =>
    intro l y b W K hb hK
    simp only [entA]
    have HB := Lib.hid hb
    clear hb
    gi_wp2
    simp only [HB.out]
    exact hK
  case body =>
    rintro l pre y g W hl ⟨rc, hrc⟩ hrn he hlen
    obtain ⟨a, b, c⟩ := y
    dsimp only at he ⊢
    have c0 := hrn.loc.cell 0
    have f0 := hrn.loc.soft 0
    have c1 := hrn.off.cell 0
    have f1 := hrn.off.soft 0
    have e0 := he.cell 0
    have e1 := he.cell 1
    have s1 := w64_add (sumE entL pre) a
    have s2 := w64_add (sumE entO pre) b
    have n1 : sumE entL pre + a = sumE entL (pre ++ [(a, b, c)]) := by rw [sumE_snoc]; rfl
    have n2 : sumE entO pre + b = sumE entO (pre ++ [(a, b, c)]) := by rw [sumE_snoc]; rfl
    rw [n1] at s1
    rw [n2] at s2
    obtain ⟨u, hu⟩ : ∃ u, w64 (sumE entL (pre ++ [(a, b, c)])) = u := ⟨_, rfl⟩
    obtain ⟨v, hv⟩ : ∃ u, w64 (sumE entO (pre ++ [(a, b, c)])) = u := ⟨_, rfl⟩
    have hch : Chg (fun k => k = w.heap.size ∨ k = w.heap.size + 1) W ((W.setCell ⟨w.heap.size, 0, none⟩ (.int .i64 u)).setCell ⟨w.heap.size + 1, 0, none⟩ (.int .i64 v)) :=
      (Chg.set W w.heap.size 0 _ (.inl rfl)).trans (Chg.set _ (w.heap.size + 1) 0 _ (.inr rfl)) (fun _ _ h => h)
    have HR := Lib.hid (show MRun w (pre ++ [(a, b, c)]) ((W.setCell ⟨w.heap.size, 0, none⟩ (.int .i64 u)).setCell ⟨w.heap.size + 1, 0, none⟩ (.int .i64 v)) from by
      refine ⟨?_, ?_, Below.chg hrn.below hch hrn.below.size (fun k hk => by omega)⟩
      · rw [hu]
        exact (hrn.loc.put 0 _).far (by omega) _
      · rw [hv]
        exact (hrn.off.far (by omega) _).put 0 _)
    have HK := Lib.hid (kept_chg (n := w.heap.size + 3) hch (fun k hk => by omega))
    have HO := Lib.hid (show KeepsFrom WR.heap.size W _ from (others_of_chg hch (fun k e => by
      rcases e with rfl | rfl
      · exact ⟨_, _, _, hrn.loc⟩
      · exact ⟨_, _, _, hrn.off⟩)).from _)
    rw [hu] at s1
    rw [hv] at s2
    clear hrn hch n1 n2 hu hv he
    gi_wp2
    exact ⟨HO.out, HK.out, HR.out⟩
  case done =>
    rintro D ys W hD rfl hrn hDk
    have c0 := hrn.loc.cell 0
    have c1 := hrn.off.cell 0
    rw [w64_in HF.out.1] at c0
    rw [w64_in HF.out.2] at c1
    have hB := hrn.below
    have hS := HS.out.below hB
    clear hrn
    have hlen := fun nq => src_len (W.drewN nq) q ys (hS.below (below_drewN (Below.refl _ _) nq))
    have hlen2 := fun (V : World) (hV : Below W.heap.size W V) => src_len V q ys (hS.below hV)
    have HC := Lib.hid c1
    have hfl := fun V => floor_yes (sumE entL ys) (ys.length : Int) V HF.out.1 (by omega) (by omega)
    have hfo := fun V => floor_yes (sumE entO ys) (ys.length : Int) V HF.out.2 (by omega) (by omega)
    obtain ⟨sl, hsl⟩ : ∃ s, sumE entL ys = s := ⟨_, rfl⟩
    obtain ⟨so, hso⟩ : ∃ s, sumE entO ys = s := ⟨_, rfl⟩
    obtain ⟨nn, hnn⟩ : ∃ s, (ys.length : Int) = s := ⟨_, rfl⟩
    have HE1 := Lib.hid (show sumE entL ys / (ys.length : Int) = sl / nn by rw [hsl, hnn])
    have HE2 := Lib.hid (show sumE entO ys / (ys.length : Int) = so / nn by rw [hso, hnn])
    rw [hsl] at c0
    rw [hso] at c1
    rw [hsl, hso] at HF
    simp only [hsl, hso, hnn] at hlen hlen2 hfl hfo
    clear hsl hso hnn hS
    have HDk := Lib.hid hDk
    have HB := Lib.hid hB
    clear hDk hB
    gi_wp2
    refine wpIn_wide.2 ?_
    go_quiet ((first | (go_at_call 29; refine Calls.quiet_of_same (hlen _)) | (go_at_call 54; refine Calls.quiet_of (hfl _))))
    gi_wp2
    have hbn : Below W.heap.size W (W.drewN nq) := below_drewN (Below.refl _ _) nq
    have c2 : (W.drewN nq).cell? ⟨w.heap.size + 1, 0, none⟩ = some (.int .i64 so) := by simpa using c1
    have HB2 := Lib.hid (HB.out.trans (hbn.mono HB.out.size))
    have HDk2 : Hid ((W.drewN nq).heap[D]? = some (.deferred (some []))) := Lib.hid (by simpa using HDk.out)
    have hlen3 := fun nr => hlen2 ((W.drewN nq).drewN nr) (below_drewN hbn nr)
    clear hbn hlen hlen2 hfl
    generalize W.drewN nq = W2 at *
    clear c0 c1 HB HDk HC
    refine wpIn_wide.2 ?_
    go_quiet ((first | (go_at_call 29; refine Calls.quiet_of_same (hlen3 _)) | (go_at_call 54; refine Calls.quiet_of (hfo _))))
    gi_wp2
    rw [HE1.out, HE2.out]
    exact means_leaves (below_drewN HB2.out _) (by omega) (by simpa using HDk2.out) rfl rfl
  case stop =>
    rintro D c pre W hD hpre hf hDk
    exact hf.elim

/-- A map from one clock's time to another's, as a value. -/
def mapV (l o a b h : Int) : Value := .agg #[.int .i64 l, .int .i64 o, .int .i64 a, .int .i64 b, .int .i64 h]
/-- What Of answers of entries. -/
def locV (L : List Ent) : Int := sumE entL L / (L.length : Int)
def offV (L : List Ent) : Int := sumE entO L / (L.length : Int)
noncomputable def mapOf (d : Int) (L : List Ent) : Value := mapV (locV L) (offV L) (ofV d L).1 (ofV d L).2 (mostL L)
theorem gave_trow {w w' : World} {L : List Ent} {e : Ending} (h : GaveEnts w L e w') : ∃ c, e = .returned (.slice (some ⟨w.heap.size, 0, none⟩) L.length c) ∧ TRow w' w.heap.size (some ⟨w.heap.size, 0, none⟩) L.length c L ∧ Below w.heap.size w w' := by
  obtain ⟨c, he, ho, hb⟩ := h
  exact ⟨c, he, TRow.of_own ho, hb⟩
theorem globe_none (d : Int) (w : World) (q : Option Addr) (h : Src w q []) :
    Calls Try.prog 31 #[.int .i64 d, .pointer q] w fun e w' => e = .returned (.tuple #[mapV 0 0 0 0 0, .bool false]) ∧ Below w.heap.size w w' := by
  have hlen := fun (V : World) (hV : Below w.heap.size w V) => src_len V q [] (h.below hV)
  have hl1 := hlen _ (below_alloc w (.cells #[.int .i64 0, .int .i64 0, .int .i64 0, .int .i64 0, .int .i64 0] 81))
  unfold mapV
  go_enter Try.func31, Try.ntmps31
  go_wp2_with (go_at_call 29; refine hl1.mono ?_; rintro e wx ⟨rfl, hwx⟩; subst wx)
  refine bodyPost_ret (results_row_tmp rfl _ _ w.heap.size 81 [.int .i64 0, .int .i64 0, .int .i64 0, .int .i64 0, .int .i64 0] _ _ rfl (Holds.new w _ _) Try.underlying81 rfl (by kernel_rfl) rfl) rfl ?_
  exact ⟨rfl, below_alloc _ _⟩
set_option maxHeartbeats 2000000 in
theorem globe_some (d : Int) (w : World) (q : Option Addr) (L : List Ent) (h : Src w q L) (hL : L ≠ []) (hc : ∀ e ∈ L, CanE e) :
    Calls Try.prog 31 #[.int .i64 d, .pointer q] w fun e w' => e = .returned (.tuple #[mapOf d L, .bool true]) ∧ Below w.heap.size w w' := by
  have HB := Lib.hid (Box.start w 81 #[.int .i64 0, .int .i64 0, .int .i64 0, .int .i64 0, .int .i64 0])
  have hS := fun (V : World) (hV : Below w.heap.size w V) => h.below hV
  have hl1 := src_len _ q L (hS _ HB.out.below)
  have hm1 := means_any _ q L (hS _ HB.out.below) hL hc
  have HS := Lib.hid hS
  have hn : 0 < L.length := List.length_pos_iff.2 hL
  have hne : ((L.length : Int) == 0) = false := by simpa using hL
  unfold mapOf mapV locV offV
  obtain ⟨sl, hsl⟩ : ∃ x, sumE entL L / (L.length : Int) = x := ⟨_, rfl⟩
  obtain ⟨so, hso⟩ : ∃ x, sumE entO L / (L.length : Int) = x := ⟨_, rfl⟩
  obtain ⟨ab, hab⟩ : ∃ x, ofV d L = x := ⟨_, rfl⟩
  obtain ⟨mo, hmo⟩ : ∃ x, mostL L = x := ⟨_, rfl⟩
  have HA := Lib.hid hab
  have HM := Lib.hid hmo
  simp only [hsl, hso, hab, hmo] at hm1 ⊢
  clear hsl hso hab hmo h hS hc hL
  go_enter Try.func31, Try.ntmps31
  go_wp2_with (first
    | (go_at_call 29; refine hl1.mono ?_; rintro e wx ⟨rfl, hwx⟩; subst wx)
    | (go_at_call 41; refine hm1.mono ?_; rintro e w2 ⟨rfl, hb2⟩; have HB2 := Lib.hid (HB.out.next hb2); have hli := list_any w2 q L (HS.out _ HB2.out.below); clear hb2)
    | (go_at_call 43; refine hli.mono ?_; intro e w3 hg3; obtain ⟨cc, he3, ht3, hb3⟩ := gave_trow hg3; subst e; have HB3 := Lib.hid (HB2.out.next hb3); have hso := slope_of d w3 _ _ _ _ L ht3; rw [HA.out] at hso; clear hb3 hg3 hli)
    | (go_at_call 42; refine hso.mono ?_; rintro e w4 ⟨rfl, hb4⟩; have HB4 := Lib.hid (HB3.out.next hb4); have hho := hops_any w4 q L (HS.out _ HB4.out.below); rw [HM.out] at hho; unfold slV; clear hb4 hso)
    | (go_at_call 44; refine hho.mono ?_; rintro e w5 ⟨rfl, hb5⟩; have HB5 := Lib.hid (HB4.out.next hb5); have c0 := HB5.out.holds.cell 0; have c1 := HB5.out.holds.cell 1; have c2 := HB5.out.holds.cell 2; have c3 := HB5.out.holds.cell 3; have c4 := HB5.out.holds.cell 4; have s0 := HB5.out.holds.soft 0; have s1 := HB5.out.holds.soft 1; have s2 := HB5.out.holds.soft 2; have s3 := HB5.out.holds.soft 3; have s4 := HB5.out.holds.soft 4; clear hb5 hho))
  refine bodyPost_ret (results_row_tmp rfl _ _ w.heap.size 81 [.int .i64 sl, .int .i64 so, .int .i64 ab.1, .int .i64 ab.2, .int .i64 mo] _ _ rfl (((((HB5.out.holds.put 0 _).put 1 _).put 2 _).put 3 _).put 4 _) Try.underlying81 rfl (by kernel_rfl) rfl) rfl ?_
  exact ⟨rfl, ((((HB5.out.below.setCell (by dsimp only; omega) _).setCell (by dsimp only; omega) _).setCell (by dsimp only; omega) _).setCell (by dsimp only; omega) _).setCell (by dsimp only; omega) _⟩
end Go.Proofs.Ytdnmgpendacjoaa

/- Package globe: Global; the document's Raw, Global. -/
namespace Go.Proofs.Ytdnmgpendacjoaa
open Go.RowKit
set_option linter.unusedVariables false
set_option linter.unusedSimpArgs false

theorem Box.cells5 {w0 w : World} {t : TypeId} {a b c d e : Value} (h : Box w0 t #[a, b, c, d, e] w) : w.cell? ⟨w0.heap.size, 0, none⟩ = some a ∧ w.cell? ⟨w0.heap.size, 1, none⟩ = some b ∧ w.cell? ⟨w0.heap.size, 2, none⟩ = some c ∧ w.cell? ⟨w0.heap.size, 3, none⟩ = some d ∧ w.cell? ⟨w0.heap.size, 4, none⟩ = some e ∧ Box w0 t #[a, b, c, d, e] w :=
  ⟨h.holds.cell 0, h.holds.cell 1, h.holds.cell 2, h.holds.cell 3, h.holds.cell 4, h⟩
/-- A map as Of answers it. -/
structure MapOk (c e l o a b : Int) : Prop where
  l1 : 0 ≤ l
  l2 : l ≤ 1125899906842624
  o1 : -1125899906842624 ≤ o
  o2 : o ≤ 1125899906842624
  sl : SlOk c e a b
theorem map_ok (d : Int) {L : List Ent} (h : Ents8 L) (hL : L ≠ []) : MapOk (2 * dV d) (1000 - dV d) (locV L) (offV L) (ofV d L).1 (ofV d L).2 := by
  have hn : 0 < (L.length : Int) := by
    have := List.length_pos_iff.2 hL
    omega
  obtain ⟨l1, l2⟩ := mean_bd hn (sumE_bd entL 0 1125899906842624 L (fun x hx => ⟨(h.can x hx).l1, (h.can x hx).l2⟩))
  obtain ⟨o1, o2⟩ := mean_bd hn (sumE_bd entO (-1125899906842624) 1125899906842624 L (fun x hx => ⟨(h.can x hx).o1, (h.can x hx).o2⟩))
  exact ⟨l1, l2, o1, o2, of_ok d L⟩
/-- The other clock's time, be it one that can be or not. -/
def rawV (l o a b t : Int) : Int := t + o + gainV a b (t - l)
section
variable {c e l o a b : Int}
theorem MapOk.gain (h : MapOk c e l o a b) {t : Int} (h0 : -1 ≤ t) (h1 : t ≤ 1125899906842625) : gainV a b (t - l) = a * (t - l) / b ∧ -1125899906842625 ≤ gainV a b (t - l) ∧ gainV a b (t - l) ≤ 1125899906842625 := by
  have l1 := h.l1
  have l2 := h.l2
  have e := h.sl.gain (t := t - l) (by omega) (by omega)
  obtain ⟨w1, w2⟩ := h.sl.within (t - l)
  rw [e]
  refine ⟨rfl, ?_, ?_⟩
  · split at w1 <;> omega
  · split at w2 <;> omega
theorem MapOk.fits (h : MapOk c e l o a b) : Fits a ∧ Fits b := by
  obtain ⟨w1, w2⟩ := h.sl.whole
  have := h.sl.b2
  have := h.sl.b1
  unfold Fits
  omega
/-- It never goes back, and no faster than the greatest slope lets. -/
theorem MapOk.on (h : MapOk c e l o a b) {t n : Int} (h0 : -1 ≤ t) (hn : 0 ≤ n) (h1 : t + n ≤ 1125899906842625) : rawV l o a b t ≤ rawV l o a b (t + n) ∧ rawV l o a b (t + n) ≤ rawV l o a b t + n + c * n / e + 1 := by
  obtain ⟨k1, k2⟩ := h.sl.on (t - l) hn
  unfold rawV
  rw [(h.gain (t := t) h0 (by omega)).1, (h.gain (t := t + n) (by omega) h1).1, show t + n - l = t - l + n by omega]
  omega
theorem MapOk.mono (h : MapOk c e l o a b) {s t : Int} (h0 : -1 ≤ s) (hst : s ≤ t) (h1 : t ≤ 1125899906842625) : rawV l o a b s ≤ rawV l o a b t := by
  have := (h.on h0 (show 0 ≤ t - s by omega) (by omega)).1
  rwa [show s + (t - s) = t by omega] at this
end
set_option maxHeartbeats 1000000 in
theorem reckon_any (c e l o a b h t : Int) (w : World) (hm : MapOk c e l o a b) (h0 : -1 ≤ t) (h1 : t ≤ 1125899906842625) :
    Calls Try.prog 46 #[mapV l o a b h, .int .i64 t] w fun e w' => e = .returned (.int .i64 (rawV l o a b t)) ∧ Below w.heap.size w w' := by
  have HB := Lib.hid (Box.start w 81 #[.int .i64 l, .int .i64 o, .int .i64 a, .int .i64 b, .int .i64 h])
  obtain ⟨_, g1, g2⟩ := hm.gain h0 h1
  obtain ⟨fa, fb⟩ := hm.fits
  obtain ⟨l1, l2, o1, o2, _⟩ := hm
  have hg := fun W => gain_any a b (t - l) W fa fb (by unfold Fits; omega)
  have e1 := IntWalk.i64_in (t + o) (by omega)
  have e2 := IntWalk.i64_in (t - l) (by omega)
  have e3 := IntWalk.i64_in (t + o + gainV a b (t - l)) (by omega)
  unfold rawV mapV
  obtain ⟨G, hG⟩ : ∃ G, gainV a b (t - l) = G := ⟨_, rfl⟩
  simp only [hG] at hg e3 ⊢
  clear hG g1 g2 fa fb l1 l2 o1 o2
  go_enter Try.func46, Try.ntmps46
  go_wp2
  refine region_turns (fun (w' : World) => w'.cell? ⟨w.heap.size, 0, none⟩ = some (.int .i64 l) ∧ w'.cell? ⟨w.heap.size, 1, none⟩ = some (.int .i64 o) ∧ w'.cell? ⟨w.heap.size, 2, none⟩ = some (.int .i64 a) ∧ w'.cell? ⟨w.heap.size, 3, none⟩ = some (.int .i64 b) ∧ w'.cell? ⟨w.heap.size, 4, none⟩ = some (.int .i64 h) ∧ Box w 81 #[.int .i64 l, .int .i64 o, .int .i64 a, .int .i64 b, .int .i64 h] w') (fun j => decide (13 ≤ j)) (by kernel_rfl) (HB.out.drew.cells5) (fun hS => ?_)
  refine Turns.take hS 0 _ rfl (by kernel_rfl) (by kernel_rfl) (by kernel_rfl) (by kernel_rfl) (fun _ _ _ h => h) (by rfl) (fun w' hS' => by (try dsimp only at hS'); go_split_ands; go_simp; (try with_reducible rfl)) ?_
  simp only [Act.put, List.getElem_toArray, List.getElem_cons_succ, List.getElem_cons_zero, List.setIfInBounds_toArray, List.set_cons_zero, List.set_cons_succ]
  refine Turns.take hS 1 _ rfl (by kernel_rfl) (by kernel_rfl) (by kernel_rfl) (by kernel_rfl) (fun _ _ _ h => h) (by rfl) (fun w' hS' => by (try dsimp only at hS'); go_split_ands; go_simp; (try with_reducible rfl)) ?_
  simp only [Act.put, List.getElem_toArray, List.getElem_cons_succ, List.getElem_cons_zero, List.setIfInBounds_toArray, List.set_cons_zero, List.set_cons_succ]
  refine Turns.take hS 2 _ rfl (by kernel_rfl) (by kernel_rfl) (by kernel_rfl) (by kernel_rfl) (fun _ _ _ h => h) (by rfl) (fun w' hS' => by (try dsimp only at hS'); go_split_ands; go_simp; (try with_reducible rfl)) ?_
  simp only [Act.put, List.getElem_toArray, List.getElem_cons_succ, List.getElem_cons_zero, List.setIfInBounds_toArray, List.set_cons_zero, List.set_cons_succ]
  refine Turns.take hS 3 _ rfl (by kernel_rfl) (by kernel_rfl) (by kernel_rfl) (by kernel_rfl) (fun _ _ _ h => h) (by rfl) (fun w' hS' => by (try dsimp only at hS'); go_split_ands; go_simp; (try with_reducible rfl)) ?_
  simp only [Act.put, List.getElem_toArray, List.getElem_cons_succ, List.getElem_cons_zero, List.setIfInBounds_toArray, List.set_cons_zero, List.set_cons_succ]
  refine Turns.take hS 4 _ rfl (by kernel_rfl) (by kernel_rfl) (by kernel_rfl) (by kernel_rfl) (fun _ _ _ h => h) (by rfl) (fun w' hS' => by (try dsimp only at hS'); go_split_ands; go_simp; (try with_reducible rfl)) ?_
  simp only [Act.put, List.getElem_toArray, List.getElem_cons_succ, List.getElem_cons_zero, List.setIfInBounds_toArray, List.set_cons_zero, List.set_cons_succ]
  refine Turns.take hS 5 _ rfl (by kernel_rfl) (by kernel_rfl) (by kernel_rfl) (by kernel_rfl) (fun _ _ _ h => h) (by rfl) (fun w' hS' => by (try dsimp only at hS'); go_split_ands; go_simp; (try with_reducible rfl)) ?_
  simp only [Act.put, List.getElem_toArray, List.getElem_cons_succ, List.getElem_cons_zero, List.setIfInBounds_toArray, List.set_cons_zero, List.set_cons_succ]
  refine Turns.take hS 6 _ rfl (by kernel_rfl) (by kernel_rfl) (by kernel_rfl) (by kernel_rfl) (fun _ _ _ h => h) (by rfl) (fun w' hS' => by (try dsimp only at hS'); go_split_ands; go_simp; (try with_reducible rfl)) ?_
  simp only [Act.put, List.getElem_toArray, List.getElem_cons_succ, List.getElem_cons_zero, List.setIfInBounds_toArray, List.set_cons_zero, List.set_cons_succ]
  refine Turns.take hS 7 _ rfl (by kernel_rfl) (by kernel_rfl) (by kernel_rfl) (by kernel_rfl) (fun _ _ _ h => h) (by rfl) (fun w' hS' => by (try dsimp only at hS'); go_split_ands; go_simp; (try with_reducible rfl)) ?_
  simp only [Act.put, List.getElem_toArray, List.getElem_cons_succ, List.getElem_cons_zero, List.setIfInBounds_toArray, List.set_cons_zero, List.set_cons_succ]
  refine Turns.take hS 8 _ rfl (by kernel_rfl) (by kernel_rfl) (by kernel_rfl) (by kernel_rfl) (fun _ _ _ h => h) (by rfl) (fun w' hS' => by (try dsimp only at hS'); go_split_ands; go_simp; (try with_reducible rfl)) ?_
  simp only [Act.put, List.getElem_toArray, List.getElem_cons_succ, List.getElem_cons_zero, List.setIfInBounds_toArray, List.set_cons_zero, List.set_cons_succ]
  refine Turns.take hS 9 _ rfl (by kernel_rfl) (by kernel_rfl) (by kernel_rfl) (by kernel_rfl) (fun _ _ _ h => h) (by rfl) (fun w' hS' => by (try dsimp only at hS'); go_split_ands; go_simp; (try with_reducible rfl)) ?_
  simp only [Act.put, List.getElem_toArray, List.getElem_cons_succ, List.getElem_cons_zero, List.setIfInBounds_toArray, List.set_cons_zero, List.set_cons_succ]
  refine Turns.next 10 rfl (by kernel_rfl) (by rfl) (fun K hK => ?_)
  go_simp
  go_at_call 59
  refine (hg _).mono ?_
  rintro e w2 ⟨rfl, hb⟩
  have HE := Lib.hid (hS.2.2.2.2.2.next hb)
  refine hK.out _ _ (show (fun (w' : World) => w'.cell? ⟨w.heap.size, 0, none⟩ = some (.int .i64 l) ∧ w'.cell? ⟨w.heap.size, 1, none⟩ = some (.int .i64 o) ∧ w'.cell? ⟨w.heap.size, 2, none⟩ = some (.int .i64 a) ∧ w'.cell? ⟨w.heap.size, 3, none⟩ = some (.int .i64 b) ∧ w'.cell? ⟨w.heap.size, 4, none⟩ = some (.int .i64 h) ∧ Box w 81 #[.int .i64 l, .int .i64 o, .int .i64 a, .int .i64 b, .int .i64 h] w') _ from HE.out.cells5) ?_
  clear hK K hS
  have hS := (show (fun (w' : World) => w'.cell? ⟨w.heap.size, 0, none⟩ = some (.int .i64 l) ∧ w'.cell? ⟨w.heap.size, 1, none⟩ = some (.int .i64 o) ∧ w'.cell? ⟨w.heap.size, 2, none⟩ = some (.int .i64 a) ∧ w'.cell? ⟨w.heap.size, 3, none⟩ = some (.int .i64 b) ∧ w'.cell? ⟨w.heap.size, 4, none⟩ = some (.int .i64 h) ∧ Box w 81 #[.int .i64 l, .int .i64 o, .int .i64 a, .int .i64 b, .int .i64 h] w') _ from HE.out.cells5)
  refine Turns.take hS 11 _ rfl (by kernel_rfl) (by kernel_rfl) (by kernel_rfl) (by kernel_rfl) (fun _ _ _ h => h) (by rfl) (fun w' hS' => by (try dsimp only at hS'); go_split_ands; go_simp; (try with_reducible rfl)) ?_
  simp only [Act.put, List.getElem_toArray, List.getElem_cons_succ, List.getElem_cons_zero, List.setIfInBounds_toArray, List.set_cons_zero, List.set_cons_succ]
  refine Turns.take hS 12 _ rfl (by kernel_rfl) (by kernel_rfl) (by kernel_rfl) (by kernel_rfl) (fun _ _ _ h => h) (by rfl) (fun w' hS' => by (try dsimp only at hS'); go_split_ands; go_simp; (try with_reducible rfl)) ?_
  simp only [Act.put, List.getElem_toArray, List.getElem_cons_succ, List.getElem_cons_zero, List.setIfInBounds_toArray, List.set_cons_zero, List.set_cons_succ]
  refine Turns.rest (late_done (by kernel_rfl)) ?_
  refine any_tail 13 (by rfl) (by kernel_rfl) ?_
  simp only [List.drop_succ_cons, List.drop_zero]
  clear hS
  go_wp2
  go_ret
  exact ⟨rfl, HE.out.below⟩
/-- Can a time be? -/
def CanT (t : Int) : Prop := 0 ≤ t ∧ t ≤ 1125899906842624
theorem time_yes (t : Int) (w : World) (h : CanT t) : Calls Try.prog 45 #[.int .i64 t] w fun e w' => e = .returned (.bool true) ∧ w' = w := by
  obtain ⟨h1, h2⟩ := h
  go_enter Try.func45, Try.ntmps45
  go_wp2
  go_ret
  exact ⟨rfl, rfl⟩
theorem time_no (t : Int) (w : World) (h : ¬ CanT t) : Calls Try.prog 45 #[.int .i64 t] w fun e w' => e = .returned (.bool false) ∧ w' = w := by
  by_cases h1 : 0 ≤ t
  · have h2 : decide (t ≤ 1125899906842624) = false := decide_eq_false (fun h2 => h ⟨h1, h2⟩)
    clear h
    go_enter Try.func45, Try.ntmps45
    go_wp2
    go_ret
    exact ⟨rfl, rfl⟩
  · have h2 : decide (0 ≤ t) = false := decide_eq_false h1
    clear h
    go_enter Try.func45, Try.ntmps45
    go_wp2
    go_ret
    exact ⟨rfl, rfl⟩
/-- What Global answers. -/
structure Glob (l o a b t g : Int) (ok : Bool) : Prop where
  is : (CanT t ∧ CanT (rawV l o a b t) ∧ g = rawV l o a b t ∧ ok = true) ∨ (¬ (CanT t ∧ CanT (rawV l o a b t)) ∧ g = 0 ∧ ok = false)
theorem glob_ex (l o a b t : Int) : ∃ g ok, Glob l o a b t g ok := by
  by_cases h : CanT t ∧ CanT (rawV l o a b t)
  · exact ⟨_, _, ⟨.inl ⟨h.1, h.2, rfl, rfl⟩⟩⟩
  · exact ⟨_, _, ⟨.inr ⟨h, rfl, rfl⟩⟩⟩
set_option maxHeartbeats 1000000 in
theorem global_any (c e l o a b h t g : Int) (ok : Bool) (w : World) (hm : MapOk c e l o a b) (hg : Glob l o a b t g ok) :
    Calls Try.prog 32 #[mapV l o a b h, .int .i64 t] w fun e w' => e = .returned (.tuple #[.int .i64 g, .bool ok]) ∧ Below w.heap.size w w' := by
  have HB := Lib.hid (Box.start w 81 #[.int .i64 l, .int .i64 o, .int .i64 a, .int .i64 b, .int .i64 h])
  have HM := Lib.hid hm
  obtain ⟨c0, c1, c2, c3, c4, _⟩ := HB.out.cells5
  obtain ⟨hg⟩ := hg
  by_cases h1 : CanT t
  · have ht := time_yes t (w.alloc (.cells #[.int .i64 l, .int .i64 o, .int .i64 a, .int .i64 b, .int .i64 h] 81)) h1
    have hre := fun W => reckon_any c e l o a b h t W HM.out (by have := h1.1; omega) (by have := h1.2; omega)
    unfold mapV at hre ⊢
    have HR := Lib.hid hre
    obtain ⟨R, hR⟩ : ∃ R, rawV l o a b t = R := ⟨_, rfl⟩
    rw [hR] at HR hg
    clear hre hm hR
    rcases hg with ⟨_, h2, rfl, rfl⟩ | ⟨h2, rfl, rfl⟩
    · have h2' := Lib.hid h2
      clear h2
      go_enter Try.func32, Try.ntmps32
      go_wp2_with (first
        | (go_at_call 45; refine ht.mono ?_; rintro e wx ⟨rfl, hwx⟩; subst wx)
        | (go_at_call 46; refine (HR.out _).mono ?_; rintro e w2 ⟨rfl, hb2⟩; have HB2 := Lib.hid (HB.out.next hb2); clear hb2)
        | (go_at_call 45; refine (time_yes g w2 h2'.out).mono ?_; rintro e wx ⟨rfl, hwx⟩; subst wx))
      go_ret2
      exact ⟨rfl, HB2.out.below⟩
    · have h2' := Lib.hid (show ¬ CanT R from fun k => h2 ⟨h1, k⟩)
      clear h2
      go_enter Try.func32, Try.ntmps32
      go_wp2_with (first
        | (go_at_call 45; refine ht.mono ?_; rintro e wx ⟨rfl, hwx⟩; subst wx)
        | (go_at_call 46; refine (HR.out _).mono ?_; rintro e w2 ⟨rfl, hb2⟩; have HB2 := Lib.hid (HB.out.next hb2); clear hb2)
        | (go_at_call 45; refine (time_no R w2 h2'.out).mono ?_; rintro e wx ⟨rfl, hwx⟩; subst wx))
      go_ret2
      exact ⟨rfl, HB2.out.below⟩
  · have ht := time_no t (w.alloc (.cells #[.int .i64 l, .int .i64 o, .int .i64 a, .int .i64 b, .int .i64 h] 81)) h1
    obtain ⟨rfl, rfl⟩ : g = 0 ∧ ok = false := by
      rcases hg with ⟨k, _⟩ | ⟨_, k⟩
      · exact absurd k h1
      · exact k
    clear hg hm
    unfold mapV
    go_enter Try.func32, Try.ntmps32
    go_wp2_with (go_at_call 45; refine ht.mono ?_; rintro e wx ⟨rfl, hwx⟩; subst wx)
    go_ret2
    exact ⟨rfl, HB.out.below⟩
end Go.Proofs.Ytdnmgpendacjoaa

/- A node that floods a root's time: what its calls make of its state, in plain terms. -/
namespace Go.Proofs.Ytdnmgpendacjoaa
open Go.RowKit
set_option linter.unusedVariables false
set_option linter.unusedSimpArgs false

/-- A node: whose time it goes by, its rules, what it knows of that one's clock, and the point. -/
structure FS where
  s : St
  need : Int
  drift : Int
  L : List Ent
  pl : Int
  pg : Int
  ph : Int
def timeB (t : Int) : Bool := decide (0 ≤ t ∧ t ≤ 1125899906842624)
theorem timeB_iff (t : Int) : timeB t = true ↔ CanT t := by unfold timeB CanT; exact decide_eq_true_iff
theorem timeB_no {t : Int} (h : timeB t = false) : ¬ CanT t := fun k => by rw [(timeB_iff t).2 k] at h; cases h
def minB (f : FS) : Bool := decide (f.s.root = f.s.me)
def synB (f : FS) : Bool := decide (f.s.root = f.s.me ∨ f.need ≤ (f.L.length : Int))
/-- Can a word be heard? -/
def canB (t h lo : Int) : Bool := decide (0 ≤ h ∧ h < 63) && timeB lo && timeB t
def laterB (L : List Ent) (a : Int) : Bool := match L.getLast? with
  | none => true
  | some x => decide (x.1 < a)
theorem later_iff (L : List Ent) (e : Ent) : laterB L e.1 = true ↔ Later L e := by
  unfold laterB Later
  cases L.getLast? with
  | none => simp
  | some x => simp
/-- What is known behind an entry. -/
def keepL (L : List Ent) (e : Ent) : List Ent := if laterB L e.1 = true then pushL L e else [e]
def FS.clear (f : FS) : FS := { f with L := [], pl := 0, pg := 0, ph := 0 }
def FS.at (f : FS) (s : St) : FS := { f with s := s }
/-- What is kept of a word. -/
def FS.keep (f : FS) (t h lo : Int) : FS := { f with L := keepL f.L (lo, t - lo, h + 1), pl := lo, pg := t, ph := h + 1 }
def moveF (f : FS) (v : Int) : FS := if v = 2 then f.clear else f
def hearFV (f : FS) (r x q t h lo : Int) : Int := if canB t h lo = true then hearV f.s r x q else 0
def hearFS (f : FS) (r x q t h lo : Int) : FS := if hearFV f r x q t h lo = 0 then f else (moveF (f.at (hearS f.s r x q)) (hearV f.s r x q)).keep t h lo
def beatF (f : FS) : FS := if beatB f.s = true then (f.at (beatS f.s)).clear else f.at (beatS f.s)
def bootF (f : FS) (x : Int) : FS := (f.at (bootS f.s x)).clear
def newF (me tmo ign need drift x : Int) : FS := ⟨newS me tmo ign x, need, drift, [], 0, 0, 0⟩
def fgoodB (me tmo ign need drift : Int) : Bool := goodB me tmo ign && decide (1 ≤ need ∧ need ≤ 8 ∧ 0 ≤ drift ∧ drift ≤ 10)
/-- What holds of every node. -/
structure FInv (f : FS) : Prop where
  s : Inv f.s
  need : 1 ≤ f.need ∧ f.need ≤ 8
  drift : 0 ≤ f.drift ∧ f.drift ≤ 10
  ents : Ents8 f.L
  pl : CanT f.pl
  pg : CanT f.pg
  ph : 0 ≤ f.ph ∧ f.ph ≤ 63
  own : f.s.root = f.s.me → f.L = []
  know : f.L ≠ [] → 0 ≤ f.s.root
theorem can_zero : CanT 0 := ⟨by decide, by decide⟩
section
variable {f : FS}
theorem canB_iff {t h lo : Int} : canB t h lo = true ↔ (0 ≤ h ∧ h < 63) ∧ CanT lo ∧ CanT t := by
  unfold canB
  simp only [Bool.and_eq_true, timeB_iff, decide_eq_true_eq, and_assoc]
theorem canE_of {t h lo : Int} (hc : canB t h lo = true) : CanE (lo, t - lo, h + 1) := by
  obtain ⟨⟨h0, h1⟩, ⟨l0, l1⟩, ⟨t0, t1⟩⟩ := canB_iff.1 hc
  refine ⟨l0, l1, ?_, ?_, ?_, ?_⟩ <;> dsimp only <;> omega
theorem keepL_ents {L : List Ent} {e : Ent} (h : Ents8 L) (hc : CanE e) : Ents8 (keepL L e) := by
  unfold keepL
  split
  · exact h.push hc
  · exact ⟨by simp, fun x hx => by
      simp only [List.mem_cons, List.not_mem_nil, or_false] at hx
      subst hx
      exact hc⟩
theorem pushL_min {L : List Ent} (h : L.length ≤ 8) (e : Ent) : (pushL L e).length = min (L.length + 1) 8 := by
  unfold pushL
  split <;> simp <;> omega
theorem keepL_ways {L : List Ent} (h : L.length ≤ 8) (e : Ent) : (keepL L e).length = min (L.length + 1) 8 ∨ (keepL L e).length = 1 := by
  unfold keepL
  split
  · exact .inl (pushL_min h e)
  · exact .inr rfl
theorem keepL_nil (e : Ent) : keepL [] e = [e] := rfl
/-- What an Add makes of the entries, and what is kept. -/
theorem keep_step {L : List Ent} {e : Ent} (hc : CanE e) : (laterB L e.1 = true ∧ Step L e (keepL L e) 0) ∨ (laterB L e.1 = false ∧ Step L e L 12 ∧ Step [] e (keepL L e) 0) := by
  unfold keepL
  cases h : laterB L e.1 with
  | true => exact .inl ⟨rfl, .inr (.inr ⟨hc, (later_iff L e).1 h, if_pos rfl, rfl⟩)⟩
  | false =>
    refine .inr ⟨rfl, .inr (.inl ⟨hc, fun k => ?_, rfl, rfl⟩), .inr (.inr ⟨hc, later_nil e, rfl, rfl⟩)⟩
    rw [(later_iff L e).2 k] at h
    cases h
theorem FInv.clear (h : FInv f) : FInv f.clear := ⟨h.s, h.need, h.drift, ents8_nil, can_zero, can_zero, ⟨by show (0 : Int) ≤ 0; omega, by show (0 : Int) ≤ 63; omega⟩, fun _ => rfl, fun k => absurd rfl k⟩
theorem FInv.new {me tmo ign need drift x : Int} (h : fgoodB me tmo ign need drift = true) (hx : F16 x) : FInv (newF me tmo ign need drift x) := by
  unfold fgoodB at h
  simp only [Bool.and_eq_true, decide_eq_true_eq] at h
  obtain ⟨h1, h2, h3, h4, h5⟩ := h
  exact ⟨Inv.new h1 hx, ⟨h2, h3⟩, ⟨h4, h5⟩, ents8_nil, can_zero, can_zero, ⟨by show (0 : Int) ≤ 0; omega, by show (0 : Int) ≤ 63; omega⟩, fun _ => rfl, fun k => absurd rfl k⟩
theorem FInv.boot (h : FInv f) {x : Int} (hx : F16 x) : FInv (bootF f x) :=
  ⟨h.s.reboot hx, h.need, h.drift, ents8_nil, can_zero, can_zero, ⟨by show (0 : Int) ≤ 0; omega, by show (0 : Int) ≤ 63; omega⟩, fun _ => rfl, fun k => absurd rfl k⟩
theorem beat_root {s : St} (h : beatB s = false) : (beatS s).root = s.root ∧ (beatS s).me = s.me := by
  unfold beatB at h
  have h' := of_decide_eq_false h
  unfold beatS
  split
  · exact ⟨rfl, rfl⟩
  · rw [if_pos (by omega)]
    exact ⟨rfl, rfl⟩
theorem beat_mine {s : St} (h : beatB s = true) : (beatS s).root = s.me ∧ (beatS s).me = s.me := by
  unfold beatB at h
  have h' := of_decide_eq_true h
  unfold beatS
  rw [if_neg h'.1, if_neg (by omega)]
  exact ⟨rfl, rfl⟩
theorem FInv.beat (h : FInv f) : FInv (beatF f) := by
  unfold beatF
  split
  · exact ⟨h.s.beat, h.need, h.drift, ents8_nil, can_zero, can_zero, ⟨by show (0 : Int) ≤ 0; omega, by show (0 : Int) ≤ 63; omega⟩, fun _ => rfl, fun k => absurd rfl k⟩
  · rename_i hb
    obtain ⟨e1, e2⟩ := beat_root (Bool.eq_false_iff.2 hb)
    refine ⟨h.s.beat, h.need, h.drift, h.ents, h.pl, h.pg, h.ph, fun k => h.own ?_, fun k => ?_⟩
    · have k' : (beatS f.s).root = (beatS f.s).me := k
      rw [e1, e2] at k'
      exact k'
    · show 0 ≤ (beatS f.s).root
      rw [e1]
      exact h.know k
theorem issue_root (s : St) : (issueS s).root = s.root ∧ (issueS s).me = s.me := by unfold issueS; split <;> exact ⟨rfl, rfl⟩
theorem FInv.issue (h : FInv f) : FInv (f.at (issueS f.s)) := by
  obtain ⟨e1, e2⟩ := issue_root f.s
  refine ⟨h.s.issue, h.need, h.drift, h.ents, h.pl, h.pg, h.ph, fun k => h.own ?_, fun k => ?_⟩
  · have k' : (issueS f.s).root = (issueS f.s).me := k
    rw [e1, e2] at k'
    exact k'
  · show 0 ≤ (issueS f.s).root
    rw [e1]
    exact h.know k
/-- A word is refused, and nothing changed, or it is taken, and the root is the word's. -/
theorem hearF_ways (h : FInv f) (r x q t hp lo : Int) (hx : F16 x) (hq : F16 q) : (hearFV f r x q t hp lo = 0 ∧ hearFS f r x q t hp lo = f) ∨
    (canB t hp lo = true ∧ (hearV f.s r x q = 1 ∨ hearV f.s r x q = 2) ∧ hearFV f r x q t hp lo = hearV f.s r x q ∧ hearFS f r x q t hp lo = (moveF (f.at (hearS f.s r x q)) (hearV f.s r x q)).keep t hp lo ∧ takeB f.s r x q = true ∧ 0 ≤ r ∧ r < f.s.me) := by
  unfold hearFS
  cases hc : canB t hp lo with
  | false =>
    have e : hearFV f r x q t hp lo = 0 := by unfold hearFV; rw [hc]; rfl
    exact .inl ⟨e, if_pos e⟩
  | true =>
    have e : hearFV f r x q t hp lo = hearV f.s r x q := by unfold hearFV; rw [hc]; rfl
    rw [e]
    rcases hear_ways r x q h.s with ⟨k1, k2⟩ | ⟨k1, k2, k3, k4, k5, k6, k7⟩
    · exact .inl ⟨k1, if_pos k1⟩
    · have hv : hearV f.s r x q = if movB f.s r x = true then 2 else 1 := by unfold hearV; rw [k7]; rfl
      have h12 : hearV f.s r x q = 1 ∨ hearV f.s r x q = 2 := by
        rw [hv]
        split
        · exact .inr rfl
        · exact .inl rfl
      exact .inr ⟨rfl, h12, rfl, if_neg (by omega), k7, k4, k5⟩
theorem hear_took {s : St} {r x q : Int} (h : takeB s r x q = true) : (hearS s r x q).root = r ∧ (hearS s r x q).me = s.me ∧ (hearS s r x q).f r = some (x, q) := by
  unfold hearS
  rw [h]
  exact ⟨rfl, rfl, if_pos rfl⟩
theorem FInv.hear (h : FInv f) (r x q t hp lo : Int) (hx : F16 x) (hq : F16 q) : FInv (hearFS f r x q t hp lo) := by
  rcases hearF_ways h r x q t hp lo hx hq with ⟨-, e⟩ | ⟨hc, -, -, e, ht, hr0, hr1⟩
  · rw [e]
    exact h
  · rw [e]
    obtain ⟨e1, e2, -⟩ := hear_took ht
    obtain ⟨⟨h0, h1⟩, hl, hg⟩ := canB_iff.1 hc
    have hm : ∀ L, Ents8 L → FInv ((({ f.at (hearS f.s r x q) with L := L } : FS)).keep t hp lo) := fun L hL =>
      ⟨h.s.hear hx hq, h.need, h.drift, keepL_ents hL (canE_of hc), hl, hg, ⟨by show 0 ≤ hp + 1; omega, by show hp + 1 ≤ 63; omega⟩, fun k => by
        have k' : (hearS f.s r x q).root = (hearS f.s r x q).me := k
        omega, fun _ => by show 0 ≤ (hearS f.s r x q).root; omega⟩
    unfold moveF
    split
    · exact hm [] ents8_nil
    · exact hm f.L h.ents
end
/-- A word: From, Root, Boot, Seq, Hops, Time. -/
abbrev W6 := Int × Int × Int × Int × Int × Int
def wordV (W : W6) : Value := .agg #[.int .i64 W.1, .int .i64 W.2.1, .int .u16 W.2.2.1, .int .u16 W.2.2.2.1, .int .i64 W.2.2.2.2.1, .int .i64 W.2.2.2.2.2]
def noW : W6 := (0, 0, 0, 0, 0, 0)
/-- What it says, and what becomes of it. -/
def Says (f : FS) (lo : Int) (W : W6) (ok : Bool) (f' : FS) : Prop :=
  (timeB lo = false ∧ W = noW ∧ ok = false ∧ f' = f) ∨
  (timeB lo = true ∧ minB f = true ∧ W = (f.s.me, f.s.root, f.s.boot, nextV f.s.seq, 0, lo) ∧ ok = true ∧ f' = f.at (issueS f.s)) ∨
  (timeB lo = true ∧ minB f = false ∧ synB f = false ∧ W = noW ∧ ok = false ∧ f' = f) ∨
  (timeB lo = true ∧ minB f = false ∧ synB f = true ∧ timeB (f.pg + (lo - f.pl)) = true ∧ W = (f.s.me, f.s.root, (saidV f.s).1, (saidV f.s).2, f.ph, f.pg + (lo - f.pl)) ∧ ok = true ∧ f' = f) ∨
  (timeB lo = true ∧ minB f = false ∧ synB f = true ∧ timeB (f.pg + (lo - f.pl)) = false ∧ W = noW ∧ ok = false ∧ f' = f)
theorem says_is (f : FS) (lo : Int) : ∃ W ok f', Says f lo W ok f' := by
  cases h1 : timeB lo with
  | false => exact ⟨_, _, _, .inl ⟨h1, rfl, rfl, rfl⟩⟩
  | true =>
    cases h2 : minB f with
    | true => exact ⟨_, _, _, .inr (.inl ⟨h1, h2, rfl, rfl, rfl⟩)⟩
    | false =>
      cases h3 : synB f with
      | false => exact ⟨_, _, _, .inr (.inr (.inl ⟨h1, h2, h3, rfl, rfl, rfl⟩))⟩
      | true =>
        cases h4 : timeB (f.pg + (lo - f.pl)) with
        | true => exact ⟨_, _, _, .inr (.inr (.inr (.inl ⟨h1, h2, h3, h4, rfl, rfl, rfl⟩)))⟩
        | false => exact ⟨_, _, _, .inr (.inr (.inr (.inr ⟨h1, h2, h3, h4, rfl, rfl, rfl⟩)))⟩
theorem FInv.says {f f' : FS} {lo : Int} {W : W6} {ok : Bool} (h : FInv f) (hs : Says f lo W ok f') : FInv f' := by
  rcases hs with ⟨_, _, _, rfl⟩ | ⟨_, _, _, _, rfl⟩ | ⟨_, _, _, _, _, rfl⟩ | ⟨_, _, _, _, _, _, rfl⟩ | ⟨_, _, _, _, _, _, rfl⟩
  · exact h
  · exact h.issue
  · exact h
  · exact h
  · exact h
/-- The root's time, over how many hops, and the error. -/
def Tells (f : FS) (lo g hp v : Int) : Prop :=
  (synB f = false ∧ g = 0 ∧ hp = 0 ∧ v = 9) ∨ (synB f = true ∧ timeB lo = false ∧ g = 0 ∧ hp = 0 ∧ v = 8) ∨ (synB f = true ∧ timeB lo = true ∧ minB f = true ∧ g = lo ∧ hp = 0 ∧ v = 0) ∨
  (synB f = true ∧ timeB lo = true ∧ minB f = false ∧ ∃ G ok, Glob (locV f.L) (offV f.L) (ofV f.drift f.L).1 (ofV f.drift f.L).2 lo G ok ∧ (ok = true ∧ g = G ∧ hp = mostL f.L ∧ v = 0 ∨ ok = false ∧ g = 0 ∧ hp = 0 ∧ v = 8))
theorem tells_is (f : FS) (lo : Int) : ∃ g hp v, Tells f lo g hp v := by
  cases h3 : synB f with
  | false => exact ⟨_, _, _, .inl ⟨h3, rfl, rfl, rfl⟩⟩
  | true =>
    cases h1 : timeB lo with
    | false => exact ⟨_, _, _, .inr (.inl ⟨h3, h1, rfl, rfl, rfl⟩)⟩
    | true =>
      cases h2 : minB f with
      | true => exact ⟨_, _, _, .inr (.inr (.inl ⟨h3, h1, h2, rfl, rfl, rfl⟩))⟩
      | false =>
        obtain ⟨G, ok, hg⟩ := glob_ex (locV f.L) (offV f.L) (ofV f.drift f.L).1 (ofV f.drift f.L).2 lo
        cases ok with
        | true => exact ⟨_, _, _, .inr (.inr (.inr ⟨h3, h1, h2, G, true, hg, .inl ⟨rfl, rfl, rfl, rfl⟩⟩))⟩
        | false => exact ⟨_, _, _, .inr (.inr (.inr ⟨h3, h1, h2, G, false, hg, .inr ⟨rfl, rfl, rfl, rfl⟩⟩))⟩
/-- What is synced, and isn't the root, knows something. -/
theorem syn_some {f : FS} (h : FInv f) (h1 : minB f = false) (h2 : synB f = true) : f.L ≠ [] := by
  have k1 := of_decide_eq_false h1
  have k2 := of_decide_eq_true h2
  have := h.need
  intro e
  rw [e] at k2
  simp only [List.length_nil] at k2
  omega
end Go.Proofs.Ytdnmgpendacjoaa

/- Whatever picks numbers in package frame: what is asked of it. -/
namespace Go.Proofs.Ytdnmgpendacjoaa
open Go.RowKit

/-- What picks: a function value over what it captured; its state, what it tells and what it makes of the state. -/
structure Picks (S : Type) where
  fn : FuncId
  caps : Array Value
  base : Nat
  inv : S → World → Prop
  next : S → Int → Int → S
  tells : S → Int → Int → Int
  good : S → Int → Int → Prop

/-- The types of frames' own variables. -/
def frameType (t : TypeId) : Prop := t = 43 ∨ t = 116 ∨ t = 118 ∨ t = 120 ∨ t = 122 ∨ t = 124

/-- No byte lies among these values. -/
def notByte : Value → Bool
  | .int .u8 _ => false
  | _ => true
def noByte (cs : Array Value) : Prop := ∀ (i : Nat) v, cs[i]? = some v → notByte v = true
theorem noByte_of {cs : Array Value} (h : cs.toList.all notByte = true) : noByte cs := fun i v hv => by
  refine List.all_eq_true.1 h v ?_
  rw [Array.mem_toList_iff]
  exact Array.mem_of_getElem? hv
theorem noByte.put {cs : Array Value} (h : noByte cs) (i : Nat) {u : Value} (hu : notByte u = true) : noByte (cs.setIfInBounds i u) := fun j v hv => by
  rw [Array.getElem?_setIfInBounds] at hv
  split at hv
  · split at hv
    · simp only [Option.some.injEq] at hv
      rw [← hv]
      exact hu
    · cases hv
  · exact h j v hv
theorem noByte.int {cs : Array Value} (h : noByte cs) (i : Nat) (z : Int) : cs[i]? ≠ some (.int .u8 z) := fun e => by
  have := h i _ e
  cases this

/-- A call keeps a frame's own variable. -/
def KeepsFrames (w w' : World) : Prop := w.heap.size ≤ w'.heap.size ∧ ∀ g t cs, frameType t → Holds w g t cs → Holds w' g t cs
theorem KeepsFrames.trans {a b c : World} (h : KeepsFrames a b) (k : KeepsFrames b c) : KeepsFrames a c := ⟨Nat.le_trans h.1 k.1, fun g t cs ht hh => k.2 g t cs ht (h.2 g t cs ht hh)⟩

structure Picks.Right {S : Type} (p : Picks S) : Prop where
  enters : Enters Try.prog p.fn
  call : ∀ s k n w, p.inv s w → p.good s k n → Calls Try.prog p.fn (#[.int .i64 k, .int .i64 n] ++ p.caps) w fun e w' => e = .returned (.int .i64 (p.tells s k n)) ∧ p.inv (p.next s k n) w' ∧ KeepsFrames w w'
  drew : ∀ s w, p.inv s w → p.inv s w.drew
  alloc : ∀ s w o, p.inv s w → p.inv s (w.alloc o)
  size : ∀ s w, p.inv s w → p.base ≤ w.heap.size
  store : ∀ s w g i u t cs, p.inv s w → p.base ≤ g → frameType t → noByte cs → Holds w g t cs → p.inv s (w.setCell ⟨g, i, none⟩ u)

/-- One pick: from a state to the next, a number asked and one told. -/
def Pick {S : Type} (p : Picks S) (s : S) (k n b : Int) (s' : S) : Prop := p.good s k n ∧ p.tells s k n = b ∧ p.next s k n = s'
theorem Pick.mk {S : Type} {p : Picks S} {s : S} {k n : Int} (h : p.good s k n) : Pick p s k n (p.tells s k n) (p.next s k n) := ⟨h, rfl, rfl⟩

/-- While a frame's numbers are picked: its own variable is the block behind all that was. -/
structure Mid {S : Type} (p : Picks S) (w0 : World) (T : TypeId) (cs : Array Value) (s : S) (w : World) : Prop where
  inv : p.inv s w
  type : frameType T
  holds : Holds w w0.heap.size T cs
  keeps : KeepsFrames w0 w
  old : p.base ≤ w0.heap.size
  plain : noByte cs

section
variable {S : Type} {p : Picks S} {w0 w : World} {T : TypeId} {cs : Array Value} {s s' : S} {k n b : Int}
theorem Mid.start (hp : p.Right) (ht : frameType T) (hb : noByte cs) (h : p.inv s w0) : Mid p w0 T cs s (w0.alloc (.cells cs T)) :=
  ⟨hp.alloc _ _ _ h, ht, Holds.new _ _ _, ⟨by simp, fun _ _ _ _ h => h.alloc _⟩, hp.size _ _ h, hb⟩
theorem Mid.drew (hp : p.Right) (h : Mid p w0 T cs s w) : Mid p w0 T cs s w.drew := ⟨hp.drew _ _ h.inv, h.type, h.holds, h.keeps, h.old, h.plain⟩
theorem Mid.put (hp : p.Right) (h : Mid p w0 T cs s w) (i : Nat) (u : Value) (hu : notByte u = true := by rfl) : Mid p w0 T (cs.setIfInBounds i u) s (w.setCell ⟨w0.heap.size, i, none⟩ u) :=
  ⟨hp.store _ _ _ _ _ _ _ h.inv h.old h.type h.plain h.holds, h.type, h.holds.put i u, ⟨by simpa [World.setCell] using h.keeps.1, fun g t c ht hh =>
    (h.keeps.2 g t c ht hh).far (by have := hh.lt; omega) u⟩, h.old, h.plain.put i hu⟩
theorem Mid.pick (hp : p.Right) (h : Mid p w0 T cs s w) (hk : Pick p s k n b s') :
    Calls Try.prog p.fn (#[.int .i64 k, .int .i64 n] ++ p.caps) w fun e w' => e = .returned (.int .i64 b) ∧ Mid p w0 T cs s' w' := by
  obtain ⟨h1, rfl, rfl⟩ := hk
  exact (hp.call s k n w h.inv h1).mono fun e w' ⟨he, hi, hf⟩ => ⟨he, hi, h.type, hf.2 _ _ _ h.type h.holds, h.keeps.trans hf, h.old, h.plain⟩
theorem Mid.mark (hp : p.Right) (h : Mid p w0 T cs s w) (hk : Pick p s 3 n b s') (hn : F16 n) (hb : F16 b) :
    Calls Try.prog 60 #[.func (.func p.fn) #[] p.caps, .int .u16 n] w fun e w' => e = .returned (.int .u16 b) ∧ Mid p w0 T cs s' w' := by
  have hc := h.pick hp hk
  obtain ⟨n1, n2⟩ := hn
  obtain ⟨b1, b2⟩ := hb
  have en : ∀ (args : Array Value) (w : World), (callFunc p.fn args).run Try.prog w = .ok (.enter p.fn args) w := hp.enters
  clear h hk hp
  go_enter Try.func60, Try.ntmps60
  go_wp2_with (go_at_fn p.fn; refine hc.mono ?_; rintro e w1 ⟨rfl, hm1⟩)
  go_ret
  exact ⟨rfl, hm1⟩
/-- A frame was answered, and what picked its numbers stands at a state. -/
def Picked (v : Value) (p : Picks S) (s : S) (w : World) (e : Ending) (w' : World) : Prop := e = .returned v ∧ p.inv s w' ∧ KeepsFrames w w'
theorem Mid.done (h : Mid p w0 T cs s w) (v : Value) : Picked v p s w0 (.returned v) w := ⟨rfl, h.inv, h.keeps⟩
end
end Go.Proofs.Ytdnmgpendacjoaa

/- What picked answers of a frame. (Written by wip/tools/mkframe.py.) -/
namespace Go.Proofs.Ytdnmgpendacjoaa
open Go.RowKit
set_option linter.unusedSimpArgs false
attribute [local go_sem ↓] Go.wp_at_zero Go.wp_at_succ
theorem is_sync (W : World) (v : Value) : (Instr.typeAssert (.iface 43 v) 101 43 true).run Try.prog W = .ok (.tuple #[v, .bool true]) W := by kernel_rfl
set_option maxHeartbeats 4000000 in
set_option maxRecDepth 100000 in
theorem picked_sync {S : Type} (p : Picks S) (hp : p.Right) (s0 s1 s2 s3 s4 s5 s6 s7 : S) (a0 a1 a2 a3 a4 a5 b0 b1 b2 b3 b4 b5 bk : Int) (w : World) (h : p.inv s0 w) (q : Pick p s0 0 1 bk s1) (q0 : Pick p s1 1 a0 b0 s2) (q1 : Pick p s2 1 a1 b1 s3) (q2 : Pick p s3 3 a2 b2 s4) (u2 : F16 a2) (v2 : F16 b2) (q3 : Pick p s4 3 a3 b3 s5) (u3 : F16 a3) (v3 : F16 b3) (q4 : Pick p s5 2 a4 b4 s6) (q5 : Pick p s6 4 a5 b5 s7) :
    Calls Try.prog 50 #[.iface 43 (.agg #[.int .i64 a0, .int .i64 a1, .int .u16 a2, .int .u16 a3, .int .i64 a4, .int .i64 a5]), .func (.func p.fn) #[] p.caps] w (Picked (.iface 43 (.agg #[.int .i64 b0, .int .i64 b1, .int .u16 b2, .int .u16 b3, .int .i64 b4, .int .i64 b5])) p s7 w) := by
  have en : ∀ (args : Array Value) (w : World), (callFunc p.fn args).run Try.prog w = .ok (.enter p.fn args) w := hp.enters
  have t0 := is_sync
  have hm := Mid.start (T := 43) (cs := #[.int .i64 a0, .int .i64 a1, .int .u16 a2, .int .u16 a3, .int .i64 a4, .int .i64 a5]) hp (by unfold frameType; decide) (noByte_of rfl) h
  have HP := Lib.hid hp
  clear hp h
  go_enter Try.func50, Try.ntmps50
  go_wp2_with (go_at_fn p.fn; (with_reducible refine (hm.pick HP.out q).mono ?_); rintro e w1 ⟨rfl, m1⟩)
  have d0 := m1.drew HP.out
  refine region_turns (fun w' => w'.cell? ⟨w.heap.size, 0, none⟩ = some (.int .i64 a0) ∧ w'.cell? ⟨w.heap.size, 1, none⟩ = some (.int .i64 a1)) (fun j => decide (9 ≤ j)) (by kernel_rfl) ⟨d0.holds.cell 0, d0.holds.cell 1⟩ (fun hS => ?_)
  refine Turns.take hS 0 (.func (.func p.fn) #[] p.caps) rfl (by kernel_rfl) (by kernel_rfl) (by kernel_rfl) (by kernel_rfl) (fun _ _ _ h => h) (by rfl) (fun w' hS' => by go_simp) ?_
  simp only [Act.put, List.getElem_toArray, List.getElem_cons_succ, List.getElem_cons_zero, List.setIfInBounds_toArray, List.set_cons_zero, List.set_cons_succ]
  refine Turns.take hS 1 (.pointer (some ⟨w.heap.size, 0, none⟩)) rfl (by kernel_rfl) (by kernel_rfl) (by kernel_rfl) (by kernel_rfl) (fun _ _ _ h => h) (by rfl) (fun w' hS' => by go_simp) ?_
  simp only [Act.put, List.getElem_toArray, List.getElem_cons_succ, List.getElem_cons_zero, List.setIfInBounds_toArray, List.set_cons_zero, List.set_cons_succ]
  refine Turns.take hS 2 (.int .i64 a0) rfl (by kernel_rfl) (by kernel_rfl) (by kernel_rfl) (by kernel_rfl) (fun _ _ _ h => h) (by rfl) (fun w' hS' => by (try dsimp only at hS'); go_split_ands; go_simp) ?_
  simp only [Act.put, List.getElem_toArray, List.getElem_cons_succ, List.getElem_cons_zero, List.setIfInBounds_toArray, List.set_cons_zero, List.set_cons_succ]
  refine Turns.take hS 4 (.func (.func p.fn) #[] p.caps) rfl (by kernel_rfl) (by kernel_rfl) (by kernel_rfl) (by kernel_rfl) (fun _ _ _ h => h) (by rfl) (fun w' hS' => by go_simp) ?_
  simp only [Act.put, List.getElem_toArray, List.getElem_cons_succ, List.getElem_cons_zero, List.setIfInBounds_toArray, List.set_cons_zero, List.set_cons_succ]
  refine Turns.take hS 5 (.pointer (some ⟨w.heap.size, 1, none⟩)) rfl (by kernel_rfl) (by kernel_rfl) (by kernel_rfl) (by kernel_rfl) (fun _ _ _ h => h) (by rfl) (fun w' hS' => by go_simp) ?_
  simp only [Act.put, List.getElem_toArray, List.getElem_cons_succ, List.getElem_cons_zero, List.setIfInBounds_toArray, List.set_cons_zero, List.set_cons_succ]
  refine Turns.take hS 6 (.int .i64 a1) rfl (by kernel_rfl) (by kernel_rfl) (by kernel_rfl) (by kernel_rfl) (fun _ _ _ h => h) (by rfl) (fun w' hS' => by (try dsimp only at hS'); go_split_ands; go_simp) ?_
  simp only [Act.put, List.getElem_toArray, List.getElem_cons_succ, List.getElem_cons_zero, List.setIfInBounds_toArray, List.set_cons_zero, List.set_cons_succ]
  refine Turns.next 3 rfl (by kernel_rfl) (by rfl) (fun K hK => ?_)
  go_simp
  refine (d0.pick HP.out q0).mono ?_
  rintro e w2 ⟨rfl, m2⟩
  have hS2 : w2.cell? ⟨w.heap.size, 0, none⟩ = some (.int .i64 a0) ∧ w2.cell? ⟨w.heap.size, 1, none⟩ = some (.int .i64 a1) := ⟨m2.holds.cell 0, m2.holds.cell 1⟩
  refine hK.out _ _ hS2 ?_
  clear hK K
  refine Turns.take hS2 8 (.pointer (some ⟨w.heap.size, 0, none⟩)) rfl (by kernel_rfl) (by kernel_rfl) (by kernel_rfl) (by kernel_rfl) (fun _ _ _ h => h) (by rfl) (fun w' hS' => by go_simp) ?_
  simp only [Act.put, List.getElem_toArray, List.getElem_cons_succ, List.getElem_cons_zero, List.setIfInBounds_toArray, List.set_cons_zero, List.set_cons_succ]
  refine Turns.next 7 rfl (by kernel_rfl) (by rfl) (fun K hK => ?_)
  go_simp
  refine (m2.pick HP.out q1).mono ?_
  rintro e w3 ⟨rfl, m3⟩
  have hS3 : w3.cell? ⟨w.heap.size, 0, none⟩ = some (.int .i64 a0) ∧ w3.cell? ⟨w.heap.size, 1, none⟩ = some (.int .i64 a1) := ⟨m3.holds.cell 0, m3.holds.cell 1⟩
  refine hK.out _ _ hS3 ?_
  clear hK K
  refine Turns.rest (late_done (by kernel_rfl)) ?_
  refine any_tail 9 (by rfl) (by kernel_rfl) ?_
  simp only [List.drop_succ_cons, List.drop_zero]
  have e0 := m3.holds.cell 0
  have e1 := m3.holds.cell 1
  have f0 := m3.holds.soft 0
  have f1 := m3.holds.soft 1
  go_wp2
  have m4 := ((m3.put HP.out 0 (.int .i64 b0)).put HP.out 1 (.int .i64 b1))
  revert m4
  generalize ((w3.setCell ⟨w.heap.size, 0, none⟩ (.int .i64 b0)).setCell ⟨w.heap.size, 1, none⟩ (.int .i64 b1)) = w4
  intro m4
  clear e0 e1 f0 f1 d0
  have d1 := m4.drew HP.out
  refine region_turns (fun w' => w'.cell? ⟨w.heap.size, 2, none⟩ = some (.int .u16 a2) ∧ w'.cell? ⟨w.heap.size, 3, none⟩ = some (.int .u16 a3)) (fun j => decide (9 ≤ j)) (by kernel_rfl) ⟨d1.holds.cell 2, d1.holds.cell 3⟩ (fun hS => ?_)
  refine Turns.take hS 0 (.func (.func p.fn) #[] p.caps) rfl (by kernel_rfl) (by kernel_rfl) (by kernel_rfl) (by kernel_rfl) (fun _ _ _ h => h) (by rfl) (fun w' hS' => by go_simp) ?_
  simp only [Act.put, List.getElem_toArray, List.getElem_cons_succ, List.getElem_cons_zero, List.setIfInBounds_toArray, List.set_cons_zero, List.set_cons_succ]
  refine Turns.take hS 1 (.pointer (some ⟨w.heap.size, 2, none⟩)) rfl (by kernel_rfl) (by kernel_rfl) (by kernel_rfl) (by kernel_rfl) (fun _ _ _ h => h) (by rfl) (fun w' hS' => by go_simp) ?_
  simp only [Act.put, List.getElem_toArray, List.getElem_cons_succ, List.getElem_cons_zero, List.setIfInBounds_toArray, List.set_cons_zero, List.set_cons_succ]
  refine Turns.take hS 2 (.int .u16 a2) rfl (by kernel_rfl) (by kernel_rfl) (by kernel_rfl) (by kernel_rfl) (fun _ _ _ h => h) (by rfl) (fun w' hS' => by (try dsimp only at hS'); go_split_ands; go_simp) ?_
  simp only [Act.put, List.getElem_toArray, List.getElem_cons_succ, List.getElem_cons_zero, List.setIfInBounds_toArray, List.set_cons_zero, List.set_cons_succ]
  refine Turns.take hS 4 (.func (.func p.fn) #[] p.caps) rfl (by kernel_rfl) (by kernel_rfl) (by kernel_rfl) (by kernel_rfl) (fun _ _ _ h => h) (by rfl) (fun w' hS' => by go_simp) ?_
  simp only [Act.put, List.getElem_toArray, List.getElem_cons_succ, List.getElem_cons_zero, List.setIfInBounds_toArray, List.set_cons_zero, List.set_cons_succ]
  refine Turns.take hS 5 (.pointer (some ⟨w.heap.size, 3, none⟩)) rfl (by kernel_rfl) (by kernel_rfl) (by kernel_rfl) (by kernel_rfl) (fun _ _ _ h => h) (by rfl) (fun w' hS' => by go_simp) ?_
  simp only [Act.put, List.getElem_toArray, List.getElem_cons_succ, List.getElem_cons_zero, List.setIfInBounds_toArray, List.set_cons_zero, List.set_cons_succ]
  refine Turns.take hS 6 (.int .u16 a3) rfl (by kernel_rfl) (by kernel_rfl) (by kernel_rfl) (by kernel_rfl) (fun _ _ _ h => h) (by rfl) (fun w' hS' => by (try dsimp only at hS'); go_split_ands; go_simp) ?_
  simp only [Act.put, List.getElem_toArray, List.getElem_cons_succ, List.getElem_cons_zero, List.setIfInBounds_toArray, List.set_cons_zero, List.set_cons_succ]
  refine Turns.next 3 rfl (by kernel_rfl) (by rfl) (fun K hK => ?_)
  go_simp
  refine (Mid.mark HP.out d1 q2 u2 v2).mono ?_
  rintro e w5 ⟨rfl, m5⟩
  have hS5 : w5.cell? ⟨w.heap.size, 2, none⟩ = some (.int .u16 a2) ∧ w5.cell? ⟨w.heap.size, 3, none⟩ = some (.int .u16 a3) := ⟨m5.holds.cell 2, m5.holds.cell 3⟩
  refine hK.out _ _ hS5 ?_
  clear hK K
  refine Turns.take hS5 8 (.pointer (some ⟨w.heap.size, 2, none⟩)) rfl (by kernel_rfl) (by kernel_rfl) (by kernel_rfl) (by kernel_rfl) (fun _ _ _ h => h) (by rfl) (fun w' hS' => by go_simp) ?_
  simp only [Act.put, List.getElem_toArray, List.getElem_cons_succ, List.getElem_cons_zero, List.setIfInBounds_toArray, List.set_cons_zero, List.set_cons_succ]
  refine Turns.next 7 rfl (by kernel_rfl) (by rfl) (fun K hK => ?_)
  go_simp
  refine (Mid.mark HP.out m5 q3 u3 v3).mono ?_
  rintro e w6 ⟨rfl, m6⟩
  have hS6 : w6.cell? ⟨w.heap.size, 2, none⟩ = some (.int .u16 a2) ∧ w6.cell? ⟨w.heap.size, 3, none⟩ = some (.int .u16 a3) := ⟨m6.holds.cell 2, m6.holds.cell 3⟩
  refine hK.out _ _ hS6 ?_
  clear hK K
  refine Turns.rest (late_done (by kernel_rfl)) ?_
  refine any_tail 9 (by rfl) (by kernel_rfl) ?_
  simp only [List.drop_succ_cons, List.drop_zero]
  have e2 := m6.holds.cell 2
  have e3 := m6.holds.cell 3
  have f2 := m6.holds.soft 2
  have f3 := m6.holds.soft 3
  go_wp2
  have m7 := ((m6.put HP.out 2 (.int .u16 b2)).put HP.out 3 (.int .u16 b3))
  revert m7
  generalize ((w6.setCell ⟨w.heap.size, 2, none⟩ (.int .u16 b2)).setCell ⟨w.heap.size, 3, none⟩ (.int .u16 b3)) = w7
  intro m7
  clear e2 e3 f2 f3 d1
  have d2 := m7.drew HP.out
  refine region_turns (fun w' => w'.cell? ⟨w.heap.size, 4, none⟩ = some (.int .i64 a4) ∧ w'.cell? ⟨w.heap.size, 5, none⟩ = some (.int .i64 a5)) (fun j => decide (9 ≤ j)) (by kernel_rfl) ⟨d2.holds.cell 4, d2.holds.cell 5⟩ (fun hS => ?_)
  refine Turns.take hS 0 (.func (.func p.fn) #[] p.caps) rfl (by kernel_rfl) (by kernel_rfl) (by kernel_rfl) (by kernel_rfl) (fun _ _ _ h => h) (by rfl) (fun w' hS' => by go_simp) ?_
  simp only [Act.put, List.getElem_toArray, List.getElem_cons_succ, List.getElem_cons_zero, List.setIfInBounds_toArray, List.set_cons_zero, List.set_cons_succ]
  refine Turns.take hS 1 (.pointer (some ⟨w.heap.size, 4, none⟩)) rfl (by kernel_rfl) (by kernel_rfl) (by kernel_rfl) (by kernel_rfl) (fun _ _ _ h => h) (by rfl) (fun w' hS' => by go_simp) ?_
  simp only [Act.put, List.getElem_toArray, List.getElem_cons_succ, List.getElem_cons_zero, List.setIfInBounds_toArray, List.set_cons_zero, List.set_cons_succ]
  refine Turns.take hS 2 (.int .i64 a4) rfl (by kernel_rfl) (by kernel_rfl) (by kernel_rfl) (by kernel_rfl) (fun _ _ _ h => h) (by rfl) (fun w' hS' => by (try dsimp only at hS'); go_split_ands; go_simp) ?_
  simp only [Act.put, List.getElem_toArray, List.getElem_cons_succ, List.getElem_cons_zero, List.setIfInBounds_toArray, List.set_cons_zero, List.set_cons_succ]
  refine Turns.take hS 4 (.func (.func p.fn) #[] p.caps) rfl (by kernel_rfl) (by kernel_rfl) (by kernel_rfl) (by kernel_rfl) (fun _ _ _ h => h) (by rfl) (fun w' hS' => by go_simp) ?_
  simp only [Act.put, List.getElem_toArray, List.getElem_cons_succ, List.getElem_cons_zero, List.setIfInBounds_toArray, List.set_cons_zero, List.set_cons_succ]
  refine Turns.take hS 5 (.pointer (some ⟨w.heap.size, 5, none⟩)) rfl (by kernel_rfl) (by kernel_rfl) (by kernel_rfl) (by kernel_rfl) (fun _ _ _ h => h) (by rfl) (fun w' hS' => by go_simp) ?_
  simp only [Act.put, List.getElem_toArray, List.getElem_cons_succ, List.getElem_cons_zero, List.setIfInBounds_toArray, List.set_cons_zero, List.set_cons_succ]
  refine Turns.take hS 6 (.int .i64 a5) rfl (by kernel_rfl) (by kernel_rfl) (by kernel_rfl) (by kernel_rfl) (fun _ _ _ h => h) (by rfl) (fun w' hS' => by (try dsimp only at hS'); go_split_ands; go_simp) ?_
  simp only [Act.put, List.getElem_toArray, List.getElem_cons_succ, List.getElem_cons_zero, List.setIfInBounds_toArray, List.set_cons_zero, List.set_cons_succ]
  refine Turns.next 3 rfl (by kernel_rfl) (by rfl) (fun K hK => ?_)
  go_simp
  refine (d2.pick HP.out q4).mono ?_
  rintro e w8 ⟨rfl, m8⟩
  have hS8 : w8.cell? ⟨w.heap.size, 4, none⟩ = some (.int .i64 a4) ∧ w8.cell? ⟨w.heap.size, 5, none⟩ = some (.int .i64 a5) := ⟨m8.holds.cell 4, m8.holds.cell 5⟩
  refine hK.out _ _ hS8 ?_
  clear hK K
  refine Turns.take hS8 8 (.pointer (some ⟨w.heap.size, 4, none⟩)) rfl (by kernel_rfl) (by kernel_rfl) (by kernel_rfl) (by kernel_rfl) (fun _ _ _ h => h) (by rfl) (fun w' hS' => by go_simp) ?_
  simp only [Act.put, List.getElem_toArray, List.getElem_cons_succ, List.getElem_cons_zero, List.setIfInBounds_toArray, List.set_cons_zero, List.set_cons_succ]
  refine Turns.next 7 rfl (by kernel_rfl) (by rfl) (fun K hK => ?_)
  go_simp
  refine (m8.pick HP.out q5).mono ?_
  rintro e w9 ⟨rfl, m9⟩
  have hS9 : w9.cell? ⟨w.heap.size, 4, none⟩ = some (.int .i64 a4) ∧ w9.cell? ⟨w.heap.size, 5, none⟩ = some (.int .i64 a5) := ⟨m9.holds.cell 4, m9.holds.cell 5⟩
  refine hK.out _ _ hS9 ?_
  clear hK K
  refine Turns.rest (late_done (by kernel_rfl)) ?_
  refine any_tail 9 (by rfl) (by kernel_rfl) ?_
  simp only [List.drop_succ_cons, List.drop_zero]
  have e0 := m9.holds.cell 0
  have e1 := m9.holds.cell 1
  have e2 := m9.holds.cell 2
  have e3 := m9.holds.cell 3
  have e4 := m9.holds.cell 4
  have e5 := m9.holds.cell 5
  have f4 := m9.holds.soft 4
  have f5 := m9.holds.soft 5
  go_wp2
  go_ret
  exact ((m9.put HP.out 4 (.int .i64 b4)).put HP.out 5 (.int .i64 b5)).done _
end Go.Proofs.Ytdnmgpendacjoaa

/- Package frame: can a word be? -/
namespace Go.Proofs.Ytdnmgpendacjoaa
open Go.RowKit
set_option linter.unusedVariables false
set_option linter.unusedSimpArgs false

/-- The greatest number that a field may be. -/
def wmost (k : Int) : Int := if k = 1 then 63 else if k = 2 then 63 else if k = 3 then 65535 else if k = 4 then 1125899906842624 else 6
def wokF (k n : Int) : Bool := decide (0 ≤ n) && decide (n ≤ wmost k)
def WKind (k : Int) : Prop := k = 0 ∨ k = 1 ∨ k = 2 ∨ k = 3 ∨ k = 4
theorem wmost_any (k : Int) (w : World) (hk : WKind k) : Calls Try.prog 52 #[.int .i64 k] w fun e w' => e = .returned (.int .i64 (wmost k)) ∧ w = w' := by
  rcases hk with rfl | rfl | rfl | rfl | rfl
  all_goals
    go_enter Try.func52, Try.ntmps52
    go_wp2
    go_ret
    exact ⟨rfl, rfl⟩
/-- What Good's function value leaves of its variable. -/
theorem wpick_any (g : Nat) (k n : Int) (s : Bool) (w : World) (hk : WKind k) (hn : Fits n) (h : Holds w g 4 #[.bool s]) :
    Calls Try.prog 51 #[.int .i64 k, .int .i64 n, .pointer (some ⟨g, 0, none⟩)] w fun e w' => e = .returned (.int .i64 n) ∧ w' = w.setCell ⟨g, 0, none⟩ (.bool (s && wokF k n)) := by
  have c0 := h.cell 0
  have f0 := h.soft 0
  obtain ⟨n1, n2⟩ := hn
  have hm := wmost_any k w hk
  obtain ⟨M, hM⟩ : ∃ M, wmost k = M := ⟨_, rfl⟩
  rw [hM] at hm
  unfold wokF
  simp only [hM]
  clear h hM hk
  cases s
  · go_enter Try.func51, Try.ntmps51
    go_wp2
    go_ret
    exact ⟨rfl, rfl⟩
  by_cases h0 : 0 ≤ n
  · by_cases h1 : n ≤ M
    · have e0 : decide (0 ≤ n) = true := by simpa using h0
      have e1 : decide (n ≤ M) = true := by simpa using h1
      go_enter Try.func51, Try.ntmps51
      go_wp2_with (go_at_call 52; refine hm.mono ?_; rintro e w' ⟨rfl, rfl⟩)
      go_ret
      simp [h0, h1]
    · have e0 : decide (0 ≤ n) = true := by simpa using h0
      have e1 : decide (n ≤ M) = false := by simpa using h1
      go_enter Try.func51, Try.ntmps51
      go_wp2_with (go_at_call 52; refine hm.mono ?_; rintro e w' ⟨rfl, rfl⟩)
      go_ret
      simp [h0, e1]
  · have e0 : decide (0 ≤ n) = false := by simpa using h0
    go_enter Try.func51, Try.ntmps51
    go_wp2
    go_ret
    simp [h0]
/-- A variable of the call's own that holds one value. -/
structure WOne (w0 : World) (g : Nat) (t : TypeId) (v : Value) (w : World) : Prop where
  below : Below w0.heap.size w0 w
  new : w0.heap.size ≤ g
  holds : Holds w g t #[v]
section
variable {w0 w : World} {g : Nat} {t : TypeId} {v : Value}
theorem WOne.drew (h : WOne w0 g t v w) : WOne w0 g t v w.drew := ⟨h.below.drew, h.new, h.holds⟩
theorem WOne.alloc (h : WOne w0 g t v w) (o : Obj) : WOne w0 g t v (w.alloc o) := ⟨h.below.alloc h.below.size o, h.new, h.holds.alloc o⟩
theorem WOne.put (h : WOne w0 g t v w) (u : Value) : WOne w0 g t u (w.setCell ⟨g, 0, none⟩ u) := ⟨h.below.setCell (p := ⟨g, 0, none⟩) h.new u, h.new, by simpa using h.holds.put 0 u⟩
theorem WOne.far (h : WOne w0 g t v w) {b i : Nat} {t' : TypeId} {cs : Array Value} (hb : w0.heap.size ≤ b) (ho : Holds w b t' cs) (hne : t ≠ t') (u : Value) : WOne w0 g t v (w.setCell ⟨b, i, none⟩ u) :=
  ⟨h.below.setCell (p := ⟨b, i, none⟩) hb u, h.new, h.holds.far (h.holds.apart ho hne) u⟩
theorem WOne.start (w0 : World) (t : TypeId) (v : Value) : WOne w0 w0.heap.size t v (w0.alloc (.cells #[v] t)) := ⟨(Below.refl _ _).alloc (Nat.le_refl _) _, Nat.le_refl _, Holds.new _ _ _⟩
theorem wkeeps_put (h : Holds w g t #[v]) (ht : ¬ frameType t) (u : Value) : KeepsFrames w (w.setCell ⟨g, 0, none⟩ u) :=
  ⟨by simp [World.setCell], fun g' t' cs hf hh => hh.far (hh.apart h (fun e => ht (by rw [← e]; exact hf))) u⟩
end
theorem wbool_plain : ¬ frameType 4 := by unfold frameType; decide
theorem wne_frame {t t' : TypeId} (h : ¬ frameType t) (h' : frameType t') : t ≠ t' := fun e => h (by rw [e]; exact h')
/-- Good's function value. -/
def wgoodP (w0 : World) (g : Nat) : Picks Bool where
  fn := 51
  caps := #[.pointer (some ⟨g, 0, none⟩)]
  base := w0.heap.size
  inv s w := WOne w0 g 4 (.bool s) w
  next s k n := s && wokF k n
  tells _ _ n := n
  good _ k n := WKind k ∧ Fits n
theorem wgoodP_right (w0 : World) (g : Nat) : (wgoodP w0 g).Right where
  enters := enters_of Try.func51 (by kernel_rfl) rfl
  call s k n w h hg := (wpick_any g k n s w hg.1 hg.2 h.holds).mono fun e w' ⟨he, hw⟩ => ⟨he, by rw [hw]; exact h.put _, by rw [hw]; exact wkeeps_put h.holds wbool_plain _⟩
  drew s w h := h.drew
  alloc s w o h := h.alloc o
  size s w h := h.below.size
  store s w b i u t cs h hb ht _ hh := h.far hb hh (wne_frame wbool_plain ht) u
/-- Can a word be? -/
def wgoodB (a b h t : Int) : Bool := decide (0 ≤ a ∧ a ≤ 63) && decide (0 ≤ b ∧ b ≤ 63) && decide (0 ≤ h ∧ h ≤ 63) && timeB t
theorem wfold (a b c d h t : Int) (hc : F16 c) (hd : F16 d) : (((((((true && wokF 0 1) && wokF 1 a) && wokF 1 b) && wokF 3 c) && wokF 3 d) && wokF 2 h) && wokF 4 t) = wgoodB a b h t := by
  obtain ⟨c0, c1⟩ := hc
  obtain ⟨d0, d1⟩ := hd
  have e0 : wokF 0 1 = true := by decide
  have e3 : wokF 3 c = true := by
    unfold wokF
    rw [decide_eq_true c0, decide_eq_true (show c ≤ wmost 3 from (by show c ≤ 65535; omega))]
    rfl
  have e4 : wokF 3 d = true := by
    unfold wokF
    rw [decide_eq_true d0, decide_eq_true (show d ≤ wmost 3 from (by show d ≤ 65535; omega))]
    rfl
  rw [e0, e3, e4]
  have k1 : ∀ n, wokF 1 n = decide (0 ≤ n ∧ n ≤ 63) := fun n => by rw [Bool.decide_and]; rfl
  have k2 : ∀ n, wokF 2 n = decide (0 ≤ n ∧ n ≤ 63) := fun n => by rw [Bool.decide_and]; rfl
  have k4 : ∀ n, wokF 4 n = timeB n := fun n => by unfold timeB; rw [Bool.decide_and]; rfl
  rw [k1, k1, k2, k4]
  unfold wgoodB
  simp
theorem wpick {w0 : World} {g : Nat} (s : Bool) (k n : Int) (hk : WKind k) (hn : Fits n) : Pick (wgoodP w0 g) s k n n (s && wokF k n) := ⟨⟨hk, hn⟩, rfl, rfl⟩
theorem fit16 {n : Int} (h : F16 n) : Fits n := by
  obtain ⟨h0, h1⟩ := h
  exact ⟨by omega, by omega⟩
set_option maxHeartbeats 2000000 in
theorem wgood_any (a b c d h t : Int) (w : World) (fa : Fits a) (fb : Fits b) (fc : F16 c) (fd : F16 d) (fh : Fits h) (ft : Fits t) :
    Calls Try.prog 40 #[.iface 43 (.agg #[.int .i64 a, .int .i64 b, .int .u16 c, .int .u16 d, .int .i64 h, .int .i64 t])] w fun e w' => e = .returned (.bool (wgoodB a b h t)) ∧ Below w.heap.size w w' := by
  have hp := picked_sync (wgoodP w w.heap.size) (wgoodP_right w w.heap.size) true _ _ _ _ _ _ _ a b c d h t a b c d h t 1 (w.alloc (.cells #[.bool true] 4)) (WOne.start w _ _)
    (wpick _ 0 1 (.inl rfl) ⟨by decide, by decide⟩) (wpick _ 1 a (.inr (.inl rfl)) fa) (wpick _ 1 b (.inr (.inl rfl)) fb) (wpick _ 3 c (.inr (.inr (.inr (.inl rfl)))) (fit16 fc)) fc fc (wpick _ 3 d (.inr (.inr (.inr (.inl rfl)))) (fit16 fd)) fd fd
    (wpick _ 2 h (.inr (.inr (.inl rfl))) fh) (wpick _ 4 t (.inr (.inr (.inr (.inr rfl)))) ft)
  rw [wfold a b c d h t fc fd] at hp
  obtain ⟨G, hG⟩ : ∃ G, wgoodB a b h t = G := ⟨_, rfl⟩
  rw [hG] at hp ⊢
  have hne : ∀ (u : TypeId) (v : Value) (W : World), (binOp .neq 101 (.iface u v) .nilIface).run Try.prog W = .ok (.bool true) W := fun u v W => by kernel_rfl
  clear hG fa fb fc fd fh ft
  cases G
  all_goals
    go_enter Try.func40, Try.ntmps40
    go_wp2_with (go_at_call 50; refine hp.mono ?_; rintro e w1 ⟨rfl, hi, hk⟩; have c0 := hi.holds.cell 0)
    go_ret
    exact ⟨rfl, hi.below⟩
end Go.Proofs.Ytdnmgpendacjoaa

/- Package flood: a node, how it lies in memory; Good of rules, what is known. -/
namespace Go.Proofs.Ytdnmgpendacjoaa
open Go.RowKit
set_option linter.unusedVariables false
set_option linter.unusedSimpArgs false

def preV (g : Nat) (f : FS) : List Value := [.pointer (some ⟨g, 0, none⟩), .int .i64 f.s.me, .int .i64 f.s.tmo, .int .i64 f.s.ign, .int .i64 f.need, .int .i64 f.drift]
def ptV (l g h : Int) : List Value := [.int .i64 l, .int .i64 g, .int .i64 h]
/-- A node that floods, at block gf; whose time it goes by, at block g, what it knows of roots, at block b. -/
structure Fo (w : World) (B gf g b n : Nat) (f : FS) : Prop where
  node : En w B g b n f.s
  newer : B ≤ gf
  tab : Tb w gf 6 55 (preV g f) (ptV f.pl f.pg f.ph) f.L
/-- The blocks of a node. -/
def fpart (gf g b : Nat) : Nat → Prop := fun k => k = gf ∨ k = g ∨ k = b
/-- What becomes of a node: nothing else changes, and its blocks are those that it had, or new. -/
def FGoes (B gf g b n : Nat) (f : FS) (w w' : World) : Prop := ∃ b', Fo w' B gf g b' n f ∧ Chg (fpart gf g b) w w' ∧ (b' = b ∨ w.heap.size ≤ b')
section
variable {pre post : List Value} {K : List Ent} {n : Int} {o : Nat}
theorem tcs_post (hK : K.length = 8) (ho : pre.length = o) (j : Nat) : (tcs pre post K n)[o + 25 + j]? = post[j]? := by
  unfold tcs
  have h1 : (trs K ++ [Value.int .i64 n]).length = 25 := tcs_mid hK
  rw [List.getElem?_append_right (by omega), List.getElem?_append_right (by omega), h1, ho]
  congr 1
  omega
theorem tcs_pre (ho : pre.length = o) {j : Nat} (hj : j < o) : (tcs pre post K n)[j]? = pre[j]? := by
  unfold tcs
  rw [List.getElem?_append_left (by omega)]
theorem tcs_behind (hK : K.length = 8) (ho : pre.length = o) {new : List Value} (hn : new.length = post.length) : splice (tcs pre post K n) (o + 25) new = tcs pre new K n := by
  unfold tcs
  have h1 : (trs K ++ [Value.int .i64 n]).length = 25 := tcs_mid hK
  have h2 := splice_mid (pre ++ (trs K ++ [Value.int .i64 n])) post [] new 0 (by omega)
  simp only [List.append_nil, Nat.add_zero, List.append_assoc, List.length_append, ho] at h2
  rw [splice_all post new hn] at h2
  simp only [List.append_nil, List.append_assoc, List.length_append] at h1 h2 ⊢
  rw [show o + 25 = o + ((trs K).length + [Value.int IntKind.i64 n].length) by omega]
  exact h2
end
section
variable {w w' : World} {B gf g b n : Nat} {f : FS}
theorem Fo.lt (h : Fo w B gf g b n f) : gf < w.heap.size := h.tab.lt
theorem Fo.ne (h : Fo w B gf g b n f) : gf ≠ g ∧ gf ≠ b := by
  obtain ⟨K, hT⟩ := h.tab
  exact ⟨hT.holds.apart h.node.holds (by decide), h.node.km.apart hT.holds⟩
theorem Fo.chg {S : Nat → Prop} (h : Fo w B gf g b n f) (hc : Chg S w w') (hn : ∀ k, fpart gf g b k → ¬ S k) : Fo w' B gf g b n f :=
  ⟨h.node.chg hc (fun k hk => hn k (.inr hk)), h.newer, h.tab.chg hc (hn gf (.inl rfl))⟩
theorem Fo.below (h : Fo w B gf g b n f) (hb : Below w.heap.size w w') : Fo w' B gf g b n f := h.chg (Chg.of_below (fun _ => False) hb) (fun _ _ h => h)
theorem Fo.drewN (h : Fo w B gf g b n f) (m : Nat) : Fo (w.drewN m) B gf g b n f := h.below (below_drewN (Below.refl _ _) m)
theorem Fo.mono (h : Fo w B gf g b n f) {n' : Nat} (hn : n ≤ n') : Fo w B gf g b n' f := ⟨h.node.mono hn, h.newer, h.tab⟩
theorem Fo.at (h : Fo w B gf g b n f) {B' : Nat} (h0 : B' ≤ B) : Fo w B' gf g b n f := ⟨h.node.at (Nat.le_trans h0 h.node.newer.1) (Nat.le_trans h0 h.node.newer.2), Nat.le_trans h0 h.newer, h.tab⟩
/-- The cells of a node. -/
theorem Fo.cells (h : Fo w B gf g b n f) : w.cell? ⟨gf, 0, none⟩ = some (.pointer (some ⟨g, 0, none⟩)) ∧ w.cell? ⟨gf, 1, none⟩ = some (.int .i64 f.s.me) ∧ w.cell? ⟨gf, 4, none⟩ = some (.int .i64 f.need) ∧ w.cell? ⟨gf, 5, none⟩ = some (.int .i64 f.drift) ∧
    w.cell? ⟨gf, 31, none⟩ = some (.int .i64 f.pl) ∧ w.cell? ⟨gf, 32, none⟩ = some (.int .i64 f.pg) ∧ w.cell? ⟨gf, 33, none⟩ = some (.int .i64 f.ph) := by
  obtain ⟨K, hT⟩ := h.tab
  have e := hT.eight
  have key : ∀ j, w.cell? ⟨gf, j, none⟩ = (tcs (preV g f) (ptV f.pl f.pg f.ph) K f.L.length)[j]? := fun j => by rw [hT.holds.cell, List.getElem?_toArray]
  rw [key, key, key, key, key, key, key]
  exact ⟨tcs_pre (o := 6) rfl (by omega), tcs_pre (o := 6) rfl (by omega), tcs_pre (o := 6) rfl (by omega), tcs_pre (o := 6) rfl (by omega), tcs_post (o := 6) e rfl 0, tcs_post (o := 6) e rfl 1, tcs_post (o := 6) e rfl 2⟩
theorem Fo.point (h : Fo w B gf g b n f) : ∀ j v, (ptV f.pl f.pg f.ph)[j]? = some v → w.cell? ⟨gf, 31 + j, none⟩ = some v := fun j v hv => by
  obtain ⟨K, hT⟩ := h.tab
  rw [hT.holds.cell, List.getElem?_toArray]
  exact (tcs_post (o := 6) hT.eight rfl j).trans hv
theorem FGoes.of_below (h : FGoes B gf g b n f w w') {u : World} (hb : Below w'.heap.size w' u) : FGoes B gf g b n f w u := by
  obtain ⟨b', ht, hc, hp⟩ := h
  exact ⟨b', ht.below hb, hc.trans (Chg.of_below (fun _ => False) hb) (fun _ _ h => h.elim), hp⟩
theorem FGoes.after {u : World} (hb : Below w.heap.size w u) (h : FGoes B gf g b n f u w') : FGoes B gf g b n f w w' := by
  obtain ⟨b', ht, hc, hp⟩ := h
  exact ⟨b', ht, (Chg.of_below (fpart gf g b) hb).trans hc (fun _ _ h => h), hp.imp id (fun h => Nat.le_trans hb.size h)⟩
theorem FGoes.refl (h : Fo w B gf g b n f) : FGoes B gf g b n f w w := ⟨b, h, Chg.refl _ _, .inl rfl⟩
theorem FGoes.mono (h : FGoes B gf g b n f w w') {n' : Nat} (hn : n ≤ n') : FGoes B gf g b n' f w w' := by
  obtain ⟨b', ht, hc, hp⟩ := h
  exact ⟨b', ht.mono hn, hc, hp⟩
/-- One call behind another. -/
theorem FGoes.trans {n1 n2 b1 : Nat} {f1 f2 : FS} {u : World} (h1 : Fo u B gf g b1 n1 f1) (hc : Chg (fpart gf g b) w u) (hp : b1 = b ∨ w.heap.size ≤ b1) (h2 : FGoes B gf g b1 n2 f2 u w') (hw : w.heap.size ≤ u.heap.size) : FGoes B gf g b n2 f2 w w' := by
  obtain ⟨b', ht, hc2, hp2⟩ := h2
  refine ⟨b', ht, hc.trans hc2 (fun k hk hk2 => ?_), ?_⟩
  · rcases hk2 with e | e | e
    · exact .inl e
    · exact .inr (.inl e)
    · rcases hp with k1 | k1
      · exact .inr (.inr (e.trans k1))
      · omega
  · rcases hp2 with k2 | k2
    · rw [k2]
      exact hp
    · exact .inr (Nat.le_trans hw k2)
/-- Whose time it goes by made a step. -/
theorem Fo.node_goes {n' : Nat} {s' : St} (h : Fo w B gf g b n f) (hg : Goes B g b n' s' w w') (hs : s'.me = f.s.me ∧ s'.tmo = f.s.tmo ∧ s'.ign = f.s.ign) : FGoes B gf g b n' (f.at s') w w' := by
  obtain ⟨b', h1, h2, h3⟩ := hg
  obtain ⟨n1, n2⟩ := h.ne
  refine ⟨b', ⟨h1, h.newer, ?_⟩, h2.mono (fun k _ hk => .inr hk), h3⟩
  have ht := h.tab.chg h2 (fun hk => hk.elim n1 n2)
  have e : preV g (f.at s') = preV g f := by
    unfold preV FS.at
    simp only [hs.1, hs.2.1, hs.2.2]
  rw [e]
  exact ht
/-- Its table made a step. -/
theorem Fo.tab_goes {L' : List Ent} (h : Fo w B gf g b n f) (ht : Tb w' gf 6 55 (preV g f) (ptV f.pl f.pg f.ph) L') (hc : Chg (fun k => k = gf) w w') : FGoes B gf g b n { f with L := L' } w w' := by
  obtain ⟨n1, n2⟩ := h.ne
  exact ⟨b, ⟨h.node.chg hc (fun k hk e => by cases e; exact hk.elim n1 n2), h.newer, ht⟩, hc.mono (fun k _ hk => .inl hk), .inl rfl⟩
/-- Its point is written. -/
theorem Fo.put (h : Fo w B gf g b n f) (l x y : Int) : ∃ cur : List Value, Holds w gf 55 cur.toArray ∧ 31 + (ptV l x y).length ≤ cur.length ∧ FGoes B gf g b n { f with pl := l, pg := x, ph := y } w (w.setRow gf (splice cur 31 (ptV l x y)).toArray) := by
  obtain ⟨K, hT⟩ := h.tab
  obtain ⟨n1, n2⟩ := h.ne
  have hr := hT.holds.row (splice (tcs (preV g f) (ptV f.pl f.pg f.ph) K f.L.length) 31 (ptV l x y)).toArray
  have hc : Chg (fun k => k = gf) w (w.setRow gf (splice (tcs (preV g f) (ptV f.pl f.pg f.ph) K f.L.length) 31 (ptV l x y)).toArray) := Chg.of_grown (grown_row w gf _) (fun k e => by cases e; rfl)
  refine ⟨_, hT.holds, ?_, b, ⟨h.node.chg hc (fun k hk e => by cases e; exact hk.elim n1 n2), h.newer, K, rfl, hT.eight, hT.le, hT.is, ?_⟩, hc.mono (fun k _ hk => .inl hk), .inl rfl⟩
  · rw [tcs_len (o := 6) hT.eight rfl]
    exact Nat.le_refl _
  · have e := tcs_behind (o := 6) (n := f.L.length) (pre := preV g f) (post := ptV f.pl f.pg f.ph) (new := ptV l x y) hT.eight rfl rfl
    rw [e] at hr ⊢
    exact hr
end
theorem hear_rules (s : St) (r x q : Int) : (hearS s r x q).me = s.me ∧ (hearS s r x q).tmo = s.tmo ∧ (hearS s r x q).ign = s.ign := by unfold hearS; split <;> exact ⟨rfl, rfl, rfl⟩
theorem beat_rules (s : St) : (beatS s).me = s.me ∧ (beatS s).tmo = s.tmo ∧ (beatS s).ign = s.ign := by
  unfold beatS
  split
  · exact ⟨rfl, rfl, rfl⟩
  · split <;> exact ⟨rfl, rfl, rfl⟩
theorem issue_rules (s : St) : (issueS s).me = s.me ∧ (issueS s).tmo = s.tmo ∧ (issueS s).ign = s.ign := by unfold issueS; split <;> exact ⟨rfl, rfl, rfl⟩
theorem ftime_any (t : Int) (w : World) : Calls Try.prog 21 #[.int .i64 t] w fun e w' => e = .returned (.bool (timeB t)) ∧ w = w' := by
  by_cases h1 : 0 ≤ t
  · have d1 : decide (0 ≤ t) = true := decide_eq_true h1
    by_cases h2 : t ≤ 1125899906842624
    · have d2 : decide (t ≤ 1125899906842624) = true := decide_eq_true h2
      have e : timeB t = true := decide_eq_true ⟨h1, h2⟩
      rw [e]
      clear e
      go_enter Try.func21, Try.ntmps21
      go_wp2
      go_ret
      exact ⟨rfl, rfl⟩
    · have d2 : decide (t ≤ 1125899906842624) = false := decide_eq_false h2
      have e : timeB t = false := decide_eq_false (fun k => h2 k.2)
      rw [e]
      clear e
      go_enter Try.func21, Try.ntmps21
      go_wp2
      go_ret
      exact ⟨rfl, rfl⟩
  · have d1 : decide (0 ≤ t) = false := decide_eq_false h1
    have e : timeB t = false := decide_eq_false (fun k => h1 k.1)
    rw [e]
    clear e
    go_enter Try.func21, Try.ntmps21
    go_wp2
    go_ret
    exact ⟨rfl, rfl⟩
/-- Can there be such rules? -/
def frulesB (tmo ign need drift : Int) : Bool := rulesB tmo ign && decide (1 ≤ need ∧ need ≤ 8 ∧ 0 ≤ drift ∧ drift ≤ 10)
theorem frules_any (w : World) (tmo ign need drift : Int) : Calls Try.prog 19 #[.agg #[.int .i64 tmo, .int .i64 ign, .int .i64 need, .int .i64 drift]] w fun e w' => e = .returned (.bool (frulesB tmo ign need drift)) ∧ Below w.heap.size w w' := by
  have HB := Lib.hid (Box.start w 33 #[.int .i64 tmo, .int .i64 ign, .int .i64 need, .int .i64 drift])
  have hru := fun W => rules_any W tmo ign
  unfold frulesB
  obtain ⟨R, hR⟩ : ∃ R, rulesB tmo ign = R := ⟨_, rfl⟩
  simp only [hR] at hru ⊢
  clear hR
  obtain ⟨d, e, hd⟩ : ∃ d, decide (1 ≤ need ∧ need ≤ 8 ∧ 0 ≤ drift ∧ drift ≤ 10) = d ∧ (decide (1 ≤ need) = false ∧ d = false ∨ decide (1 ≤ need) = true ∧ decide (need ≤ 8) = false ∧ d = false ∨
      decide (1 ≤ need) = true ∧ decide (need ≤ 8) = true ∧ decide (0 ≤ drift) = false ∧ d = false ∨ decide (1 ≤ need) = true ∧ decide (need ≤ 8) = true ∧ decide (0 ≤ drift) = true ∧ decide (drift ≤ 10) = d) := by
    refine ⟨_, rfl, ?_⟩
    by_cases h1 : 1 ≤ need <;> by_cases h2 : need ≤ 8 <;> by_cases h3 : 0 ≤ drift <;> by_cases h4 : drift ≤ 10 <;> simp [h1, h2, h3, h4]
  rw [e]
  clear e
  cases R with
  | false =>
    clear hd
    go_enter Try.func19, Try.ntmps19
    go_wp2_with (go_at_call 33; refine (hru _).mono ?_; rintro e w2 ⟨rfl, hb2⟩; replace HB := Lib.hid (HB.out.next hb2); have c2 := HB.out.holds.cell 2; have c3 := HB.out.holds.cell 3)
    go_ret
    exact ⟨rfl, HB.out.below⟩
  | true =>
    rcases hd with ⟨h1, rfl⟩ | ⟨h1, h2, rfl⟩ | ⟨h1, h2, h3, rfl⟩ | ⟨h1, h2, h3, h4⟩
    all_goals
      go_enter Try.func19, Try.ntmps19
      go_wp2_with (go_at_call 33; refine (hru _).mono ?_; rintro e w2 ⟨rfl, hb2⟩; replace HB := Lib.hid (HB.out.next hb2); have c2 := HB.out.holds.cell 2; have c3 := HB.out.holds.cell 3)
      go_ret
      exact ⟨rfl, HB.out.below⟩
theorem entries_any (w : World) (B gf g b n : Nat) (f : FS) (h : Fo w B gf g b n f) : Calls Try.prog 15 #[.pointer (some ⟨gf, 0, none⟩)] w fun e w' => e = .returned (.int .i64 f.L.length) ∧ w = w' := by
  have hl := len_any w gf 6 _ _ _ _ h.tab
  clear h
  go_enter Try.func15, Try.ntmps15
  go_wp2_with (go_at_call 29; refine hl.mono ?_; rintro e wx ⟨rfl, hwx⟩; subst wx)
  go_ret
  exact ⟨rfl, rfl⟩
theorem entries_nil (w : World) : Calls Try.prog 15 #[.pointer none] w fun e w' => e = .returned (.int .i64 0) ∧ w = w' := by
  go_enter Try.func15, Try.ntmps15
  go_wp2
  go_ret
  exact ⟨rfl, rfl⟩
theorem fdrew_two (w : World) (a b : Nat) : (w.drewN a).drewN b = w.drewN (a + b) := by simp [World.drewN, Nat.add_assoc]
theorem fdrew_drew (w : World) (a b c : Nat) : (w.drewN (a + b)).drewN c = w.drewN (a + (b + c)) := by simp [World.drewN, Nat.add_assoc]
theorem synced_nil (w : World) : Calls Try.prog 17 #[.pointer none] w fun e w' => e = .returned (.bool false) ∧ ∃ nq, w' = w.drewN nq := by
  go_enter Try.func17, Try.ntmps17
  go_wp2
  go_quiet (fail)
  go_wp2
  go_ret
  exact ⟨rfl, _, rfl⟩
theorem synced_any (w : World) (B gf g b n : Nat) (f : FS) (h : Fo w B gf g b n f) : Calls Try.prog 17 #[.pointer (some ⟨gf, 0, none⟩)] w fun e w' => e = .returned (.bool (synB f)) ∧ ∃ nq, w' = w.drewN nq := by
  obtain ⟨c0, c1, c4, c5, _⟩ := h.cells
  have hm := fun m => emine_any (w.drewN m) B g b n f.s (h.drewN m).node
  have he := fun m => entries_any (w.drewN m) B gf g b n f (h.drewN m)
  have hsyn : synB f = true ∧ decide (f.s.root = f.s.me) = true ∨ decide (f.s.root = f.s.me) = false ∧ decide (f.need ≤ (f.L.length : Int)) = synB f := by
    unfold synB
    by_cases e : f.s.root = f.s.me <;> simp [e]
  obtain ⟨m, hmm⟩ : ∃ m, decide (f.s.root = f.s.me) = m := ⟨_, rfl⟩
  obtain ⟨V, hV⟩ : ∃ V, synB f = V := ⟨_, rfl⟩
  obtain ⟨N, hN⟩ : ∃ N : Int, (f.L.length : Int) = N := ⟨_, rfl⟩
  simp only [hmm, hV, hN] at hm he hsyn ⊢
  clear hmm hV hN h
  rcases hsyn with ⟨rfl, rfl⟩ | ⟨rfl, d⟩
  · go_enter Try.func17, Try.ntmps17
    go_wp2
    go_quiet ((go_at_call 14; refine (hm _).mono ?_; rintro e wx ⟨rfl, nq, rfl⟩; first | exact ⟨rfl, _, rfl⟩ | exact ⟨rfl, _, fdrew_two _ _ _⟩ | exact ⟨rfl, _, fdrew_drew _ _ _ _⟩))
    go_wp2
    go_ret
    exact ⟨rfl, _, rfl⟩
  · go_enter Try.func17, Try.ntmps17
    go_wp2
    go_quiet (first
      | (go_at_call 14; refine (hm _).mono ?_; rintro e wx ⟨rfl, nq, rfl⟩; first | exact ⟨rfl, _, rfl⟩ | exact ⟨rfl, _, fdrew_two _ _ _⟩ | exact ⟨rfl, _, fdrew_drew _ _ _ _⟩)
      | (go_at_call 15; refine (he _).mono ?_; rintro e wx ⟨rfl, rfl⟩; exact ⟨rfl, _, rfl⟩))
    go_wp2
    go_ret
    exact ⟨rfl, _, rfl⟩
end Go.Proofs.Ytdnmgpendacjoaa

/- Package flood: what is forgotten, what is kept; a word. -/
namespace Go.Proofs.Ytdnmgpendacjoaa
open Go.RowKit
set_option linter.unusedVariables false
set_option linter.unusedSimpArgs false

theorem ptV_one (l x y : Int) : ∀ v ∈ ptV l x y, v.oneCell' = true := by
  intro v hv
  simp only [ptV, List.mem_cons, List.not_mem_nil, or_false] at hv
  rcases hv with rfl | rfl | rfl <;> rfl
theorem forget_any (w : World) (B gf g b n : Nat) (f : FS) (h : Fo w B gf g b n f) : Calls Try.prog 23 #[.pointer (some ⟨gf, 0, none⟩)] w fun e w' => e = .returned (.tuple #[]) ∧ FGoes B gf g b n f.clear w w' := by
  have hc := clear_any w gf 6 _ _ _ _ h.tab
  have HF := Lib.hid h
  clear h
  go_enter Try.func23, Try.ntmps23
  go_wp2_with (first
    | (go_at_call 36; refine hc.mono ?_; rintro e w1 ⟨rfl, ht, hch⟩; obtain ⟨b1, hF1, hC1, hp1⟩ := HF.out.tab_goes ht hch; obtain ⟨cur, hcur, hfit, hgo⟩ := hF1.put 0 0 0; have HG := Lib.hid (FGoes.trans hF1 hC1 hp1 hgo hch.size); have HH := Lib.hid hcur; have HI := Lib.hid hfit; clear hgo hF1 hC1 hp1 ht hch hc hcur hfit)
    | (refine wpList_store_at rfl 53 (.tmp 9) (.tmp 7) rfl gf 31 (ptV 0 0 0) rfl rfl 55 _ HH.out (by kernel_rfl) HI.out (ptV_one 0 0 0) ?_))
  go_end0
  exact ⟨rfl, HG.out⟩
set_option maxHeartbeats 1000000 in
set_option maxRecDepth 100000 in
theorem word_any (w : World) (B gf g b n : Nat) (f : FS) (h : Fo w B gf g b n f) (x y l t hp : Int) :
    Calls Try.prog 27 #[.pointer (some ⟨gf, 0, none⟩), .agg #[.int .u16 x, .int .u16 y], .agg #[.int .i64 l, .int .i64 t, .int .i64 hp]] w fun e w' => e = .returned (wordV (f.s.me, f.s.root, x, y, hp, t)) ∧ Below w.heap.size w w' := by
  obtain ⟨V, hV⟩ : ∃ V, V = ((w.alloc (.cells #[.int .u16 x, .int .u16 y] 70)).alloc (.cells #[.int .i64 l, .int .i64 t, .int .i64 hp] 53)).alloc (.cells #[.int .i64 0, .int .i64 0, .int .u16 0, .int .u16 0, .int .i64 0, .int .i64 0] 43) := ⟨_, rfl⟩
  have hb1 : Below w.heap.size w (w.alloc (.cells #[.int .u16 x, .int .u16 y] 70)) := below_alloc w _
  have hb2 := hb1.alloc (o := .cells #[.int .i64 l, .int .i64 t, .int .i64 hp] 53) hb1.size
  have hb : Below w.heap.size w V := by rw [hV]; exact hb2.alloc hb2.size _
  have hM : Holds V w.heap.size 70 #[.int .u16 x, .int .u16 y] := by rw [hV]; exact ((Holds.new w _ _).alloc _).alloc _
  have hP : Holds V (w.heap.size + 1) 53 #[.int .i64 l, .int .i64 t, .int .i64 hp] := by
    have := (Holds.new (w.alloc (.cells #[.int .u16 x, .int .u16 y] 70)) 53 #[.int .i64 l, .int .i64 t, .int .i64 hp]).alloc (.cells #[.int .i64 0, .int .i64 0, .int .u16 0, .int .u16 0, .int .i64 0, .int .i64 0] 43)
    rw [size_alloc] at this
    rw [hV]
    exact this
  have hZ : Holds V (w.heap.size + 1 + 1) 43 #[.int .i64 0, .int .i64 0, .int .u16 0, .int .u16 0, .int .i64 0, .int .i64 0] := by
    have := Holds.new ((w.alloc (.cells #[.int .u16 x, .int .u16 y] 70)).alloc (.cells #[.int .i64 l, .int .i64 t, .int .i64 hp] 53)) 43 #[.int .i64 0, .int .i64 0, .int .u16 0, .int .u16 0, .int .i64 0, .int .i64 0]
    rw [size_alloc, size_alloc] at this
    rw [hV]
    exact this
  have hf := (h.below hb).drewN 1
  obtain ⟨c0, c1, _⟩ : V.drew.cell? ⟨gf, 0, none⟩ = some (.pointer (some ⟨g, 0, none⟩)) ∧ V.drew.cell? ⟨gf, 1, none⟩ = some (.int .i64 f.s.me) ∧ True := ⟨hf.cells.1, hf.cells.2.1, trivial⟩
  have m0 : V.drew.cell? ⟨w.heap.size, 0, none⟩ = some (.int .u16 x) := hM.cell 0
  have m1 : V.drew.cell? ⟨w.heap.size, 1, none⟩ = some (.int .u16 y) := hM.cell 1
  have p1 : V.drew.cell? ⟨w.heap.size + 1, 1, none⟩ = some (.int .i64 t) := hP.cell 1
  have p2 : V.drew.cell? ⟨w.heap.size + 1, 2, none⟩ = some (.int .i64 hp) := hP.cell 2
  have hro : Calls Try.prog 12 #[.pointer (some ⟨g, 0, none⟩)] V.drew fun e w' => e = .returned (.int .i64 f.s.root) ∧ V.drew = w' := eroot_any _ B g b n _ hf.node
  have HZ : Hid (Holds V.drew (w.heap.size + 1 + 1) 43 #[.int .i64 0, .int .i64 0, .int .u16 0, .int .u16 0, .int .i64 0, .int .i64 0]) := Lib.hid (hZ.drewN 1)
  have HB := Lib.hid hb.drew
  have HF := Lib.hid (show Fo V.drew B gf g b n f from hf)
  have HM := Lib.hid (show Holds V.drew w.heap.size 70 #[.int .u16 x, .int .u16 y] from hM)
  have HP := Lib.hid (show Holds V.drew (w.heap.size + 1) 53 #[.int .i64 l, .int .i64 t, .int .i64 hp] from hP)
  have hgl := h.lt
  have hbl := h.node.lt
  have hkl := h.node.ltb
  clear hf h hM hP hZ hb1 hb2 hb
  go_enter Try.func27, Try.ntmps27
  go_upto_region 1 with fail
  rw [← hV]
  clear hV
  refine region_turns (fun (w' : World) => w'.cell? ⟨gf, 0, none⟩ = some (.pointer (some ⟨g, 0, none⟩)) ∧ w'.cell? ⟨gf, 1, none⟩ = some (.int .i64 f.s.me) ∧ w'.cell? ⟨w.heap.size, 0, none⟩ = some (.int .u16 x) ∧ w'.cell? ⟨w.heap.size, 1, none⟩ = some (.int .u16 y) ∧ w'.cell? ⟨w.heap.size + 1, 1, none⟩ = some (.int .i64 t) ∧ w'.cell? ⟨w.heap.size + 1, 2, none⟩ = some (.int .i64 hp)) (fun j => decide (19 ≤ j)) (by kernel_rfl) (⟨c0, c1, m0, m1, p1, p2⟩) (fun hS => ?_)
  refine Turns.take hS 0 _ rfl (by kernel_rfl) (by kernel_rfl) (by kernel_rfl) (by kernel_rfl) (fun _ _ _ h => h) (by rfl) (fun w' hS' => by (try dsimp only at hS'); go_split_ands; go_simp; (try with_reducible rfl)) ?_
  simp only [Act.put, List.getElem_toArray, List.getElem_cons_succ, List.getElem_cons_zero, List.setIfInBounds_toArray, List.set_cons_zero, List.set_cons_succ]
  refine Turns.take hS 1 _ rfl (by kernel_rfl) (by kernel_rfl) (by kernel_rfl) (by kernel_rfl) (fun _ _ _ h => h) (by rfl) (fun w' hS' => by (try dsimp only at hS'); go_split_ands; go_simp; (try with_reducible rfl)) ?_
  simp only [Act.put, List.getElem_toArray, List.getElem_cons_succ, List.getElem_cons_zero, List.setIfInBounds_toArray, List.set_cons_zero, List.set_cons_succ]
  refine Turns.take hS 2 _ rfl (by kernel_rfl) (by kernel_rfl) (by kernel_rfl) (by kernel_rfl) (fun _ _ _ h => h) (by rfl) (fun w' hS' => by (try dsimp only at hS'); go_split_ands; go_simp; (try with_reducible rfl)) ?_
  simp only [Act.put, List.getElem_toArray, List.getElem_cons_succ, List.getElem_cons_zero, List.setIfInBounds_toArray, List.set_cons_zero, List.set_cons_succ]
  refine Turns.take hS 3 _ rfl (by kernel_rfl) (by kernel_rfl) (by kernel_rfl) (by kernel_rfl) (fun _ _ _ h => h) (by rfl) (fun w' hS' => by (try dsimp only at hS'); go_split_ands; go_simp; (try with_reducible rfl)) ?_
  simp only [Act.put, List.getElem_toArray, List.getElem_cons_succ, List.getElem_cons_zero, List.setIfInBounds_toArray, List.set_cons_zero, List.set_cons_succ]
  refine Turns.take hS 4 _ rfl (by kernel_rfl) (by kernel_rfl) (by kernel_rfl) (by kernel_rfl) (fun _ _ _ h => h) (by rfl) (fun w' hS' => by (try dsimp only at hS'); go_split_ands; go_simp; (try with_reducible rfl)) ?_
  simp only [Act.put, List.getElem_toArray, List.getElem_cons_succ, List.getElem_cons_zero, List.setIfInBounds_toArray, List.set_cons_zero, List.set_cons_succ]
  refine Turns.take hS 5 _ rfl (by kernel_rfl) (by kernel_rfl) (by kernel_rfl) (by kernel_rfl) (fun _ _ _ h => h) (by rfl) (fun w' hS' => by (try dsimp only at hS'); go_split_ands; go_simp; (try with_reducible rfl)) ?_
  simp only [Act.put, List.getElem_toArray, List.getElem_cons_succ, List.getElem_cons_zero, List.setIfInBounds_toArray, List.set_cons_zero, List.set_cons_succ]
  refine Turns.take hS 6 _ rfl (by kernel_rfl) (by kernel_rfl) (by kernel_rfl) (by kernel_rfl) (fun _ _ _ h => h) (by rfl) (fun w' hS' => by (try dsimp only at hS'); go_split_ands; go_simp; (try with_reducible rfl)) ?_
  simp only [Act.put, List.getElem_toArray, List.getElem_cons_succ, List.getElem_cons_zero, List.setIfInBounds_toArray, List.set_cons_zero, List.set_cons_succ]
  refine Turns.take hS 7 _ rfl (by kernel_rfl) (by kernel_rfl) (by kernel_rfl) (by kernel_rfl) (fun _ _ _ h => h) (by rfl) (fun w' hS' => by (try dsimp only at hS'); go_split_ands; go_simp; (try with_reducible rfl)) ?_
  simp only [Act.put, List.getElem_toArray, List.getElem_cons_succ, List.getElem_cons_zero, List.setIfInBounds_toArray, List.set_cons_zero, List.set_cons_succ]
  refine Turns.take hS 9 _ rfl (by kernel_rfl) (by kernel_rfl) (by kernel_rfl) (by kernel_rfl) (fun _ _ _ h => h) (by rfl) (fun w' hS' => by (try dsimp only at hS'); go_split_ands; go_simp; (try with_reducible rfl)) ?_
  simp only [Act.put, List.getElem_toArray, List.getElem_cons_succ, List.getElem_cons_zero, List.setIfInBounds_toArray, List.set_cons_zero, List.set_cons_succ]
  refine Turns.take hS 10 _ rfl (by kernel_rfl) (by kernel_rfl) (by kernel_rfl) (by kernel_rfl) (fun _ _ _ h => h) (by rfl) (fun w' hS' => by (try dsimp only at hS'); go_split_ands; go_simp; (try with_reducible rfl)) ?_
  simp only [Act.put, List.getElem_toArray, List.getElem_cons_succ, List.getElem_cons_zero, List.setIfInBounds_toArray, List.set_cons_zero, List.set_cons_succ]
  refine Turns.take hS 11 _ rfl (by kernel_rfl) (by kernel_rfl) (by kernel_rfl) (by kernel_rfl) (fun _ _ _ h => h) (by rfl) (fun w' hS' => by (try dsimp only at hS'); go_split_ands; go_simp; (try with_reducible rfl)) ?_
  simp only [Act.put, List.getElem_toArray, List.getElem_cons_succ, List.getElem_cons_zero, List.setIfInBounds_toArray, List.set_cons_zero, List.set_cons_succ]
  refine Turns.take hS 12 _ rfl (by kernel_rfl) (by kernel_rfl) (by kernel_rfl) (by kernel_rfl) (fun _ _ _ h => h) (by rfl) (fun w' hS' => by (try dsimp only at hS'); go_split_ands; go_simp; (try with_reducible rfl)) ?_
  simp only [Act.put, List.getElem_toArray, List.getElem_cons_succ, List.getElem_cons_zero, List.setIfInBounds_toArray, List.set_cons_zero, List.set_cons_succ]
  refine Turns.take hS 13 _ rfl (by kernel_rfl) (by kernel_rfl) (by kernel_rfl) (by kernel_rfl) (fun _ _ _ h => h) (by rfl) (fun w' hS' => by (try dsimp only at hS'); go_split_ands; go_simp; (try with_reducible rfl)) ?_
  simp only [Act.put, List.getElem_toArray, List.getElem_cons_succ, List.getElem_cons_zero, List.setIfInBounds_toArray, List.set_cons_zero, List.set_cons_succ]
  refine Turns.take hS 14 _ rfl (by kernel_rfl) (by kernel_rfl) (by kernel_rfl) (by kernel_rfl) (fun _ _ _ h => h) (by rfl) (fun w' hS' => by (try dsimp only at hS'); go_split_ands; go_simp; (try with_reducible rfl)) ?_
  simp only [Act.put, List.getElem_toArray, List.getElem_cons_succ, List.getElem_cons_zero, List.setIfInBounds_toArray, List.set_cons_zero, List.set_cons_succ]
  refine Turns.take hS 15 _ rfl (by kernel_rfl) (by kernel_rfl) (by kernel_rfl) (by kernel_rfl) (fun _ _ _ h => h) (by rfl) (fun w' hS' => by (try dsimp only at hS'); go_split_ands; go_simp; (try with_reducible rfl)) ?_
  simp only [Act.put, List.getElem_toArray, List.getElem_cons_succ, List.getElem_cons_zero, List.setIfInBounds_toArray, List.set_cons_zero, List.set_cons_succ]
  refine Turns.take hS 16 _ rfl (by kernel_rfl) (by kernel_rfl) (by kernel_rfl) (by kernel_rfl) (fun _ _ _ h => h) (by rfl) (fun w' hS' => by (try dsimp only at hS'); go_split_ands; go_simp; (try with_reducible rfl)) ?_
  simp only [Act.put, List.getElem_toArray, List.getElem_cons_succ, List.getElem_cons_zero, List.setIfInBounds_toArray, List.set_cons_zero, List.set_cons_succ]
  refine Turns.next 8 rfl (by kernel_rfl) (by rfl) (fun K hK => ?_)
  go_simp
  go_at_call 12
  refine hro.mono ?_
  rintro e wx ⟨rfl, hwx⟩
  subst wx
  refine hK.out _ _ (show (fun (w' : World) => w'.cell? ⟨gf, 0, none⟩ = some (.pointer (some ⟨g, 0, none⟩)) ∧ w'.cell? ⟨gf, 1, none⟩ = some (.int .i64 f.s.me) ∧ w'.cell? ⟨w.heap.size, 0, none⟩ = some (.int .u16 x) ∧ w'.cell? ⟨w.heap.size, 1, none⟩ = some (.int .u16 y) ∧ w'.cell? ⟨w.heap.size + 1, 1, none⟩ = some (.int .i64 t) ∧ w'.cell? ⟨w.heap.size + 1, 2, none⟩ = some (.int .i64 hp)) _ from ⟨c0, c1, m0, m1, p1, p2⟩) ?_
  clear hK K hS
  have hS := (show (fun (w' : World) => w'.cell? ⟨gf, 0, none⟩ = some (.pointer (some ⟨g, 0, none⟩)) ∧ w'.cell? ⟨gf, 1, none⟩ = some (.int .i64 f.s.me) ∧ w'.cell? ⟨w.heap.size, 0, none⟩ = some (.int .u16 x) ∧ w'.cell? ⟨w.heap.size, 1, none⟩ = some (.int .u16 y) ∧ w'.cell? ⟨w.heap.size + 1, 1, none⟩ = some (.int .i64 t) ∧ w'.cell? ⟨w.heap.size + 1, 2, none⟩ = some (.int .i64 hp)) _ from ⟨c0, c1, m0, m1, p1, p2⟩)
  refine Turns.take hS 17 _ rfl (by kernel_rfl) (by kernel_rfl) (by kernel_rfl) (by kernel_rfl) (fun _ _ _ h => h) (by rfl) (fun w' hS' => by (try dsimp only at hS'); go_split_ands; go_simp; (try with_reducible rfl)) ?_
  simp only [Act.put, List.getElem_toArray, List.getElem_cons_succ, List.getElem_cons_zero, List.setIfInBounds_toArray, List.set_cons_zero, List.set_cons_succ]
  refine Turns.next 18 rfl (by kernel_rfl) (by rfl) (fun K hK => ?_)
  simp only [List.getElem_toArray, List.getElem_cons_succ, List.getElem_cons_zero]
  refine wp_store_at 43 (.tmp 6) (.tmp 24) rfl (w.heap.size + 1 + 1) 0 [.int .i64 f.s.me, .int .i64 f.s.root, .int .u16 x, .int .u16 y, .int .i64 hp, .int .i64 t] ?hs ?hx 43 [.int .i64 0, .int .i64 0, .int .u16 0, .int .u16 0, .int .i64 0, .int .i64 0] HZ.out (by kernel_rfl) (Nat.le_refl 6) (by intro v hv; simp only [List.mem_cons, List.not_mem_nil, or_false] at hv; rcases hv with rfl | rfl | rfl | rfl | rfl | rfl <;> rfl) ?_
  case hs => first | rfl | simp [Act.eval, Act.put]
  case hx => first | rfl | simp [Act.eval, Act.put]
  have hsp : splice ([.int .i64 0, .int .i64 0, .int .u16 0, .int .u16 0, .int .i64 0, .int .i64 0] : List Value) 0 ([.int .i64 f.s.me, .int .i64 f.s.root, .int .u16 x, .int .u16 y, .int .i64 hp, .int .i64 t] : List Value) = ([.int .i64 f.s.me, .int .i64 f.s.root, .int .u16 x, .int .u16 y, .int .i64 hp, .int .i64 t] : List Value) := splice_all _ _ rfl
  rw [hsp]
  have hrow := HZ.out.row [.int .i64 f.s.me, .int .i64 f.s.root, .int .u16 x, .int .u16 y, .int .i64 hp, .int .i64 t].toArray
  have hgr := grown_row V.drew (w.heap.size + 1 + 1) [.int .i64 f.s.me, .int .i64 f.s.root, .int .u16 x, .int .u16 y, .int .i64 hp, .int .i64 t].toArray
  have HE : Hid (Below w.heap.size w (V.drew.setRow (w.heap.size + 1 + 1) [.int .i64 f.s.me, .int .i64 f.s.root, .int .u16 x, .int .u16 y, .int .i64 hp, .int .i64 t].toArray)) := Lib.hid (Below.chg HB.out (Chg.of_grown hgr (S := fun k => w.heap.size ≤ k) (fun k e => by cases e; omega)) HB.out.size (fun k hk => hk))
  have hf2 := HF.out.chg (Chg.of_grown hgr (S := fun k => w.heap.size ≤ k) (fun k e => by cases e; omega)) (fun k hk => by rcases hk with e | e | e <;> omega)
  have hm2 := HM.out.grown hgr (fun e => absurd (Option.some.inj e) (by omega))
  have hp2 := HP.out.grown hgr (fun e => absurd (Option.some.inj e) (by omega))
  have HR := Lib.hid hrow
  have HC := Lib.hid (show _ ∧ _ ∧ _ ∧ _ ∧ _ ∧ _ from ⟨hf2.cells.1, hf2.cells.2.1, hm2.cell 0, hm2.cell 1, hp2.cell 1, hp2.cell 2⟩)
  clear hrow hgr hf2 hm2 hp2
  refine hK.out _ _ (show (fun (w' : World) => w'.cell? ⟨gf, 0, none⟩ = some (.pointer (some ⟨g, 0, none⟩)) ∧ w'.cell? ⟨gf, 1, none⟩ = some (.int .i64 f.s.me) ∧ w'.cell? ⟨w.heap.size, 0, none⟩ = some (.int .u16 x) ∧ w'.cell? ⟨w.heap.size, 1, none⟩ = some (.int .u16 y) ∧ w'.cell? ⟨w.heap.size + 1, 1, none⟩ = some (.int .i64 t) ∧ w'.cell? ⟨w.heap.size + 1, 2, none⟩ = some (.int .i64 hp)) _ from HC.out) ?_
  clear hK K hS
  have hS := (show (fun (w' : World) => w'.cell? ⟨gf, 0, none⟩ = some (.pointer (some ⟨g, 0, none⟩)) ∧ w'.cell? ⟨gf, 1, none⟩ = some (.int .i64 f.s.me) ∧ w'.cell? ⟨w.heap.size, 0, none⟩ = some (.int .u16 x) ∧ w'.cell? ⟨w.heap.size, 1, none⟩ = some (.int .u16 y) ∧ w'.cell? ⟨w.heap.size + 1, 1, none⟩ = some (.int .i64 t) ∧ w'.cell? ⟨w.heap.size + 1, 2, none⟩ = some (.int .i64 hp)) _ from HC.out)
  refine Turns.rest (late_done (by kernel_rfl)) ?_
  refine any_tail 19 (by rfl) (by kernel_rfl) ?_
  simp only [List.drop_succ_cons, List.drop_zero]
  clear hS
  go_wp2
  refine bodyPost_ret (results_cell_row rfl _ _ (w.heap.size + 1 + 1) 43 _ (0, 0) _ rfl HR.out Try.underlying43 rfl (by kernel_rfl)) rfl ?_
  exact ⟨rfl, HE.out⟩
/-- While a word is kept. -/
structure Keeping (w0 : World) (B gf g b n : Nat) (f : FS) (lo t hp : Int) (W : World) : Prop where
  fo : Fo W B gf g b n f
  chg : Chg (fun k => k = gf) w0 W
  old : gf < w0.heap.size
  point : Holds W w0.heap.size 53 #[.int .i64 lo, .int .i64 t, .int .i64 (hp + 1)]
  ent : Holds W (w0.heap.size + 1) 48 #[.int .i64 lo, .int .i64 (t - lo), .int .i64 (hp + 1)]
section
variable {w0 W W' : World} {B gf g b n : Nat} {f : FS} {lo t hp : Int}
theorem Keeping.start (h : Fo w0 B gf g b n f) (lo t hp : Int) : Keeping w0 B gf g b n f lo t hp ((w0.alloc (.cells #[.int .i64 lo, .int .i64 t, .int .i64 (hp + 1)] 53)).alloc (.cells #[.int .i64 lo, .int .i64 (t - lo), .int .i64 (hp + 1)] 48)) := by
  have hb1 := below_alloc w0 (.cells #[.int .i64 lo, .int .i64 t, .int .i64 (hp + 1)] 53)
  have hb := hb1.alloc (o := .cells #[.int .i64 lo, .int .i64 (t - lo), .int .i64 (hp + 1)] 48) hb1.size
  refine ⟨h.below hb, Chg.of_below _ hb, h.lt, (Holds.new w0 _ _).alloc _, ?_⟩
  have := Holds.new (w0.alloc (.cells #[.int .i64 lo, .int .i64 t, .int .i64 (hp + 1)] 53)) 48 #[.int .i64 lo, .int .i64 (t - lo), .int .i64 (hp + 1)]
  rw [size_alloc] at this
  exact this
theorem Keeping.drew (h : Keeping w0 B gf g b n f lo t hp W) : Keeping w0 B gf g b n f lo t hp W.drew := ⟨h.fo.drewN 1, h.chg.trans (Chg.of_below (fun _ => False) (Below.refl _ _).drew) (fun _ _ h => h.elim), h.old, h.point.drewN 1, h.ent.drewN 1⟩
theorem Keeping.tab {L' : List Ent} (h : Keeping w0 B gf g b n f lo t hp W) (ht : Tb W' gf 6 55 (preV g f) (ptV f.pl f.pg f.ph) L') (hc : Chg (fun k => k = gf) W W') : Keeping w0 B gf g b n { f with L := L' } lo t hp W' := by
  obtain ⟨n1, n2⟩ := h.fo.ne
  have := h.old
  exact ⟨⟨h.fo.node.chg hc (fun k hk e => by cases e; exact hk.elim n1 n2), h.fo.newer, ht⟩, h.chg.trans hc (fun _ _ h => h), h.old, h.point.chg hc (fun e => by omega), h.ent.chg hc (fun e => by omega)⟩
theorem Keeping.cells (h : Keeping w0 B gf g b n f lo t hp W) : W.cell? ⟨w0.heap.size, 0, none⟩ = some (.int .i64 lo) ∧ W.cell? ⟨w0.heap.size, 1, none⟩ = some (.int .i64 t) ∧ W.cell? ⟨w0.heap.size, 2, none⟩ = some (.int .i64 (hp + 1)) := ⟨h.point.cell 0, h.point.cell 1, h.point.cell 2⟩
theorem Keeping.ents (h : Keeping w0 B gf g b n f lo t hp W) : W.cell? ⟨w0.heap.size + 1, 0, none⟩ = some (.int .i64 lo) ∧ W.cell? ⟨w0.heap.size + 1, 1, none⟩ = some (.int .i64 (t - lo)) ∧ W.cell? ⟨w0.heap.size + 1, 2, none⟩ = some (.int .i64 (hp + 1)) := ⟨h.ent.cell 0, h.ent.cell 1, h.ent.cell 2⟩
theorem Keeping.done (h : Keeping w0 B gf g b n f lo t hp W) : ∃ cur : List Value, Holds W gf 55 cur.toArray ∧ 31 + (ptV lo t (hp + 1)).length ≤ cur.length ∧ FGoes B gf g b n { f with pl := lo, pg := t, ph := hp + 1 } w0 (W.setRow gf (splice cur 31 (ptV lo t (hp + 1))).toArray) := by
  obtain ⟨cur, h1, h2, h3⟩ := h.fo.put lo t (hp + 1)
  exact ⟨cur, h1, h2, FGoes.trans h.fo (h.chg.mono (fun k _ hk => .inl hk)) (.inl rfl) h3 h.chg.size⟩
end
set_option maxHeartbeats 2000000 in
set_option maxRecDepth 100000 in
theorem keep_any (w : World) (B gf g b n : Nat) (f : FS) (h : Fo w B gf g b n f) (t hp lo : Int) (hcan : canB t hp lo = true) :
    Calls Try.prog 24 #[.pointer (some ⟨gf, 0, none⟩), .agg #[.int .i64 lo, .int .i64 t, .int .i64 (hp + 1)]] w fun e w' => e = .returned (.tuple #[]) ∧ FGoes B gf g b n (f.keep t hp lo) w w' := by
  have hce := canE_of hcan
  obtain ⟨⟨h0, h1⟩, ⟨l0, l1⟩, ⟨t0, t1⟩⟩ := canB_iff.1 hcan
  have ew := IntWalk.i64_in (t - lo) (by omega)
  have hst := Keeping.start h lo t hp
  obtain ⟨V, hV⟩ : ∃ V, V = ((w.alloc (.cells #[.int .i64 lo, .int .i64 t, .int .i64 (hp + 1)] 53)).alloc (.cells #[.int .i64 lo, .int .i64 (t - lo), .int .i64 (hp + 1)] 48)) := ⟨_, rfl⟩
  rw [← hV] at hst
  have HK := Lib.hid hst.drew
  have hks := keep_step (L := f.L) hce
  obtain ⟨M, hM⟩ : ∃ M, keepL f.L (lo, t - lo, hp + 1) = M := ⟨_, rfl⟩
  unfold FS.keep
  rw [hM] at hks ⊢
  clear hcan hce h0 h1 l0 l1 t0 t1 h hst hM
  rcases hks with ⟨-, hs⟩ | ⟨-, hs1, hs2⟩
  · have hadd := add_step _ _ _ V.drew gf 6 _ _ _ f.L M 0 HK.out.fo.tab hs
    clear hs
    go_enter Try.func24, Try.ntmps24
    go_upto_region 2 with fail
    rw [← hV]
    clear hV
    refine region_turns (fun (w' : World) => w'.cell? ⟨w.heap.size + 1, 0, none⟩ = some (.int .i64 lo) ∧ w'.cell? ⟨w.heap.size + 1, 1, none⟩ = some (.int .i64 (t - lo)) ∧ w'.cell? ⟨w.heap.size + 1, 2, none⟩ = some (.int .i64 (hp + 1))) (fun j => decide (6 ≤ j)) (by kernel_rfl) (HK.out.ents) (fun hS => ?_)
    refine Turns.take hS 0 _ rfl (by kernel_rfl) (by kernel_rfl) (by kernel_rfl) (by kernel_rfl) (fun _ _ _ h => h) (by rfl) (fun w' hS' => by (try dsimp only at hS'); go_split_ands; go_simp; (try with_reducible rfl)) ?_
    simp only [Act.put, List.getElem_toArray, List.getElem_cons_succ, List.getElem_cons_zero, List.setIfInBounds_toArray, List.set_cons_zero, List.set_cons_succ]
    refine Turns.take hS 1 _ rfl (by kernel_rfl) (by kernel_rfl) (by kernel_rfl) (by kernel_rfl) (fun _ _ _ h => h) (by rfl) (fun w' hS' => by (try dsimp only at hS'); go_split_ands; go_simp; (try with_reducible rfl)) ?_
    simp only [Act.put, List.getElem_toArray, List.getElem_cons_succ, List.getElem_cons_zero, List.setIfInBounds_toArray, List.set_cons_zero, List.set_cons_succ]
    refine Turns.take hS 2 _ rfl (by kernel_rfl) (by kernel_rfl) (by kernel_rfl) (by kernel_rfl) (fun _ _ _ h => h) (by rfl) (fun w' hS' => by (try dsimp only at hS'); go_split_ands; go_simp; (try with_reducible rfl)) ?_
    simp only [Act.put, List.getElem_toArray, List.getElem_cons_succ, List.getElem_cons_zero, List.setIfInBounds_toArray, List.set_cons_zero, List.set_cons_succ]
    refine Turns.take hS 3 _ rfl (by kernel_rfl) (by kernel_rfl) (by kernel_rfl) (by kernel_rfl) (fun _ _ _ h => h) (by rfl) (fun w' hS' => by (try dsimp only at hS'); go_split_ands; go_simp; (try with_reducible rfl)) ?_
    simp only [Act.put, List.getElem_toArray, List.getElem_cons_succ, List.getElem_cons_zero, List.setIfInBounds_toArray, List.set_cons_zero, List.set_cons_succ]
    refine Turns.next 4 rfl (by kernel_rfl) (by rfl) (fun K hK => ?_)
    go_simp
    go_at_call 37
    refine hadd.mono ?_
    rintro e w1 ⟨rfl, ht, hch⟩
    have HK1 := Lib.hid (HK.out.tab ht hch)
    clear ht hch hadd
    refine hK.out _ _ (show (fun (w' : World) => w'.cell? ⟨w.heap.size + 1, 0, none⟩ = some (.int .i64 lo) ∧ w'.cell? ⟨w.heap.size + 1, 1, none⟩ = some (.int .i64 (t - lo)) ∧ w'.cell? ⟨w.heap.size + 1, 2, none⟩ = some (.int .i64 (hp + 1))) _ from HK1.out.ents) ?_
    clear hK K hS
    have hS := (show (fun (w' : World) => w'.cell? ⟨w.heap.size + 1, 0, none⟩ = some (.int .i64 lo) ∧ w'.cell? ⟨w.heap.size + 1, 1, none⟩ = some (.int .i64 (t - lo)) ∧ w'.cell? ⟨w.heap.size + 1, 2, none⟩ = some (.int .i64 (hp + 1))) _ from HK1.out.ents)
    refine Turns.take hS 5 _ rfl (by kernel_rfl) (by kernel_rfl) (by kernel_rfl) (by kernel_rfl) (fun _ _ _ h => h) (by rfl) (fun w' hS' => by (try dsimp only at hS'); go_split_ands; go_simp; (try with_reducible rfl)) ?_
    simp only [Act.put, List.getElem_toArray, List.getElem_cons_succ, List.getElem_cons_zero, List.setIfInBounds_toArray, List.set_cons_zero, List.set_cons_succ]
    refine Turns.rest (late_done (by kernel_rfl)) ?_
    refine any_tail 6 (by rfl) (by kernel_rfl) ?_
    simp only [List.drop_succ_cons, List.drop_zero]
    clear hS
    obtain ⟨p0, p1, p2⟩ := HK1.out.cells
    obtain ⟨cur, hcur, hfit, hgo⟩ := HK1.out.done
    have HH := Lib.hid hcur
    have HI := Lib.hid hfit
    have HG := Lib.hid hgo
    clear hcur hfit hgo
    go_wp2_with (refine wpList_store_at rfl 53 (.tmp 33) (.tmp 31) rfl gf 31 (ptV lo t (hp + 1)) rfl rfl 55 _ HH.out (by kernel_rfl) HI.out (ptV_one _ _ _) ?_)
    go_end0
    exact ⟨rfl, HG.out⟩
  · have hadd := add_step _ _ _ V.drew gf 6 _ _ _ f.L f.L 12 HK.out.fo.tab hs1
    clear hs1
    go_enter Try.func24, Try.ntmps24
    go_upto_region 2 with fail
    rw [← hV]
    clear hV
    refine region_turns (fun (w' : World) => w'.cell? ⟨w.heap.size + 1, 0, none⟩ = some (.int .i64 lo) ∧ w'.cell? ⟨w.heap.size + 1, 1, none⟩ = some (.int .i64 (t - lo)) ∧ w'.cell? ⟨w.heap.size + 1, 2, none⟩ = some (.int .i64 (hp + 1))) (fun j => decide (6 ≤ j)) (by kernel_rfl) (HK.out.ents) (fun hS => ?_)
    refine Turns.take hS 0 _ rfl (by kernel_rfl) (by kernel_rfl) (by kernel_rfl) (by kernel_rfl) (fun _ _ _ h => h) (by rfl) (fun w' hS' => by (try dsimp only at hS'); go_split_ands; go_simp; (try with_reducible rfl)) ?_
    simp only [Act.put, List.getElem_toArray, List.getElem_cons_succ, List.getElem_cons_zero, List.setIfInBounds_toArray, List.set_cons_zero, List.set_cons_succ]
    refine Turns.take hS 1 _ rfl (by kernel_rfl) (by kernel_rfl) (by kernel_rfl) (by kernel_rfl) (fun _ _ _ h => h) (by rfl) (fun w' hS' => by (try dsimp only at hS'); go_split_ands; go_simp; (try with_reducible rfl)) ?_
    simp only [Act.put, List.getElem_toArray, List.getElem_cons_succ, List.getElem_cons_zero, List.setIfInBounds_toArray, List.set_cons_zero, List.set_cons_succ]
    refine Turns.take hS 2 _ rfl (by kernel_rfl) (by kernel_rfl) (by kernel_rfl) (by kernel_rfl) (fun _ _ _ h => h) (by rfl) (fun w' hS' => by (try dsimp only at hS'); go_split_ands; go_simp; (try with_reducible rfl)) ?_
    simp only [Act.put, List.getElem_toArray, List.getElem_cons_succ, List.getElem_cons_zero, List.setIfInBounds_toArray, List.set_cons_zero, List.set_cons_succ]
    refine Turns.take hS 3 _ rfl (by kernel_rfl) (by kernel_rfl) (by kernel_rfl) (by kernel_rfl) (fun _ _ _ h => h) (by rfl) (fun w' hS' => by (try dsimp only at hS'); go_split_ands; go_simp; (try with_reducible rfl)) ?_
    simp only [Act.put, List.getElem_toArray, List.getElem_cons_succ, List.getElem_cons_zero, List.setIfInBounds_toArray, List.set_cons_zero, List.set_cons_succ]
    refine Turns.next 4 rfl (by kernel_rfl) (by rfl) (fun K hK => ?_)
    go_simp
    go_at_call 37
    refine hadd.mono ?_
    rintro e w1 ⟨rfl, ht, hch⟩
    have HK1 := Lib.hid (HK.out.tab ht hch)
    clear ht hch hadd
    refine hK.out _ _ (show (fun (w' : World) => w'.cell? ⟨w.heap.size + 1, 0, none⟩ = some (.int .i64 lo) ∧ w'.cell? ⟨w.heap.size + 1, 1, none⟩ = some (.int .i64 (t - lo)) ∧ w'.cell? ⟨w.heap.size + 1, 2, none⟩ = some (.int .i64 (hp + 1))) _ from HK1.out.ents) ?_
    clear hK K hS
    have hS := (show (fun (w' : World) => w'.cell? ⟨w.heap.size + 1, 0, none⟩ = some (.int .i64 lo) ∧ w'.cell? ⟨w.heap.size + 1, 1, none⟩ = some (.int .i64 (t - lo)) ∧ w'.cell? ⟨w.heap.size + 1, 2, none⟩ = some (.int .i64 (hp + 1))) _ from HK1.out.ents)
    refine Turns.take hS 5 _ rfl (by kernel_rfl) (by kernel_rfl) (by kernel_rfl) (by kernel_rfl) (fun _ _ _ h => h) (by rfl) (fun w' hS' => by (try dsimp only at hS'); go_split_ands; go_simp; (try with_reducible rfl)) ?_
    simp only [Act.put, List.getElem_toArray, List.getElem_cons_succ, List.getElem_cons_zero, List.setIfInBounds_toArray, List.set_cons_zero, List.set_cons_succ]
    refine Turns.rest (late_done (by kernel_rfl)) ?_
    refine any_tail 6 (by rfl) (by kernel_rfl) ?_
    simp only [List.drop_succ_cons, List.drop_zero]
    clear hS
    have hclr := clear_any w1 gf 6 _ _ _ _ HK1.out.fo.tab
    go_upto_region 4 with (go_at_call 36; refine hclr.mono ?_; rintro e w2 ⟨rfl, ht, hch⟩; have HK2 := Lib.hid (HK1.out.tab ht hch).drew; clear ht hch hclr)
    have hadd := add_step _ _ _ w2.drew gf 6 _ _ _ [] M 0 HK2.out.fo.tab hs2
    clear hs2
    refine region_turns (fun (w' : World) => w'.cell? ⟨w.heap.size + 1, 0, none⟩ = some (.int .i64 lo) ∧ w'.cell? ⟨w.heap.size + 1, 1, none⟩ = some (.int .i64 (t - lo)) ∧ w'.cell? ⟨w.heap.size + 1, 2, none⟩ = some (.int .i64 (hp + 1))) (fun j => decide (5 ≤ j)) (by kernel_rfl) (HK2.out.ents) (fun hS => ?_)
    refine Turns.take hS 0 _ rfl (by kernel_rfl) (by kernel_rfl) (by kernel_rfl) (by kernel_rfl) (fun _ _ _ h => h) (by rfl) (fun w' hS' => by (try dsimp only at hS'); go_split_ands; go_simp; (try with_reducible rfl)) ?_
    simp only [Act.put, List.getElem_toArray, List.getElem_cons_succ, List.getElem_cons_zero, List.setIfInBounds_toArray, List.set_cons_zero, List.set_cons_succ]
    refine Turns.take hS 1 _ rfl (by kernel_rfl) (by kernel_rfl) (by kernel_rfl) (by kernel_rfl) (fun _ _ _ h => h) (by rfl) (fun w' hS' => by (try dsimp only at hS'); go_split_ands; go_simp; (try with_reducible rfl)) ?_
    simp only [Act.put, List.getElem_toArray, List.getElem_cons_succ, List.getElem_cons_zero, List.setIfInBounds_toArray, List.set_cons_zero, List.set_cons_succ]
    refine Turns.take hS 2 _ rfl (by kernel_rfl) (by kernel_rfl) (by kernel_rfl) (by kernel_rfl) (fun _ _ _ h => h) (by rfl) (fun w' hS' => by (try dsimp only at hS'); go_split_ands; go_simp; (try with_reducible rfl)) ?_
    simp only [Act.put, List.getElem_toArray, List.getElem_cons_succ, List.getElem_cons_zero, List.setIfInBounds_toArray, List.set_cons_zero, List.set_cons_succ]
    refine Turns.take hS 3 _ rfl (by kernel_rfl) (by kernel_rfl) (by kernel_rfl) (by kernel_rfl) (fun _ _ _ h => h) (by rfl) (fun w' hS' => by (try dsimp only at hS'); go_split_ands; go_simp; (try with_reducible rfl)) ?_
    simp only [Act.put, List.getElem_toArray, List.getElem_cons_succ, List.getElem_cons_zero, List.setIfInBounds_toArray, List.set_cons_zero, List.set_cons_succ]
    refine Turns.next 4 rfl (by kernel_rfl) (by rfl) (fun K hK => ?_)
    go_simp
    go_at_call 37
    refine hadd.mono ?_
    rintro e w3 ⟨rfl, ht, hch⟩
    have HK3 := Lib.hid (HK2.out.tab ht hch)
    clear ht hch hadd
    refine hK.out _ _ (show (fun (w' : World) => w'.cell? ⟨w.heap.size + 1, 0, none⟩ = some (.int .i64 lo) ∧ w'.cell? ⟨w.heap.size + 1, 1, none⟩ = some (.int .i64 (t - lo)) ∧ w'.cell? ⟨w.heap.size + 1, 2, none⟩ = some (.int .i64 (hp + 1))) _ from HK3.out.ents) ?_
    clear hK K hS
    have hS := (show (fun (w' : World) => w'.cell? ⟨w.heap.size + 1, 0, none⟩ = some (.int .i64 lo) ∧ w'.cell? ⟨w.heap.size + 1, 1, none⟩ = some (.int .i64 (t - lo)) ∧ w'.cell? ⟨w.heap.size + 1, 2, none⟩ = some (.int .i64 (hp + 1))) _ from HK3.out.ents)
    refine Turns.rest (late_done (by kernel_rfl)) ?_
    refine any_tail 5 (by rfl) (by kernel_rfl) ?_
    simp only [List.drop_succ_cons, List.drop_zero]
    clear hS
    obtain ⟨p0, p1, p2⟩ := HK3.out.cells
    obtain ⟨cur, hcur, hfit, hgo⟩ := HK3.out.done
    have HH := Lib.hid hcur
    have HI := Lib.hid hfit
    have HG := Lib.hid hgo
    clear hcur hfit hgo
    go_wp2_with (refine wpList_store_at rfl 53 (.tmp 33) (.tmp 31) rfl gf 31 (ptV lo t (hp + 1)) rfl rfl 55 _ HH.out (by kernel_rfl) HI.out (ptV_one _ _ _) ?_)
    go_end0
    exact ⟨rfl, HG.out⟩
end Go.Proofs.Ytdnmgpendacjoaa

/- Package flood: Hear, Boot. -/
namespace Go.Proofs.Ytdnmgpendacjoaa
open Go.RowKit
set_option linter.unusedVariables false
set_option linter.unusedSimpArgs false

/-- While a call of a node goes on: a variable of the call's own is the block behind all that was. -/
structure Fw (w0 : World) (B gf g b : Nat) (T : TypeId) (C : Array Value) (f : FS) (b' n' : Nat) (W : World) : Prop where
  fo : Fo W B gf g b' n' f
  chg : Chg (fpart gf g b) w0 W
  mv : b' = b ∨ w0.heap.size ≤ b'
  old : gf < w0.heap.size ∧ g < w0.heap.size ∧ b < w0.heap.size
  box : Holds W w0.heap.size T C
section
variable {w0 W W' : World} {B gf g b n n' n2 b' : Nat} {f f' : FS} {T : TypeId} {C : Array Value}
theorem Fw.start (h : Fo w0 B gf g b n f) (T : TypeId) (C : Array Value) : Fw w0 B gf g b T C f b n (w0.alloc (.cells C T)) :=
  ⟨h.below (below_alloc _ _), Chg.of_below _ (below_alloc _ _), .inl rfl, ⟨h.lt, h.node.lt, h.node.ltb⟩, Holds.new _ _ _⟩
theorem Fw.below (h : Fw w0 B gf g b T C f b' n' W) (hb : Below W.heap.size W W') : Fw w0 B gf g b T C f b' n' W' :=
  ⟨h.fo.below hb, h.chg.trans (Chg.of_below (fun _ => False) hb) (fun _ _ h => h.elim), h.mv, h.old, h.box.below hb h.box.lt⟩
theorem Fw.drewN (h : Fw w0 B gf g b T C f b' n' W) (m : Nat) : Fw w0 B gf g b T C f b' n' (W.drewN m) := h.below (below_drewN (Below.refl _ _) m)
theorem Fw.drew (h : Fw w0 B gf g b T C f b' n' W) : Fw w0 B gf g b T C f b' n' W.drew := h.drewN 1
theorem Fw.goes (h : Fw w0 B gf g b T C f b' n' W) (hg : FGoes B gf g b' n2 f' W W') : ∃ b2, Fw w0 B gf g b T C f' b2 n2 W' := by
  obtain ⟨b2, h1, h2, h3⟩ := hg
  obtain ⟨o1, o2, o3⟩ := h.old
  have hs := h.chg.size
  have hap := h.fo.node.km.apart h.box
  refine ⟨b2, h1, h.chg.trans h2 (fun k hk hk2 => ?_), ?_, h.old, h.box.chg h2 (fun hk => ?_)⟩
  · rcases hk2 with e | e | e
    · exact .inl e
    · exact .inr (.inl e)
    · rcases h.mv with k1 | k1
      · exact .inr (.inr (e.trans k1))
      · omega
  · rcases h3 with k2 | k2
    · rw [k2]
      exact h.mv
    · exact .inr (Nat.le_trans hs k2)
  · rcases hk with e | e | e
    · omega
    · omega
    · exact hap e
theorem Fw.end (h : Fw w0 B gf g b T C f b' n' W) : FGoes B gf g b n' f w0 W := ⟨b', h.fo, h.chg, h.mv⟩
end
/-- What Hear answers, and what becomes of the node. -/
def FHeard (B gf g b n : Nat) (f : FS) (r x q t hp lo : Int) (w : World) (e : Ending) (w' : World) : Prop := e = .returned (.int .i64 (hearFV f r x q t hp lo)) ∧ FGoes B gf g b (n + 1) (hearFS f r x q t hp lo) w w'
theorem fhear_nil (w : World) (fr r x q hp t lo : Int) : Calls Try.prog 10 #[.pointer none, .agg #[.int .i64 fr, .int .i64 r, .int .u16 x, .int .u16 q, .int .i64 hp, .int .i64 t], .int .i64 lo] w fun e w' => e = .returned (.int .i64 0) ∧ Below w.heap.size w w' := by
  have hb := below_alloc w (.cells #[.int .i64 fr, .int .i64 r, .int .u16 x, .int .u16 q, .int .i64 hp, .int .i64 t] 43)
  go_enter Try.func10, Try.ntmps10
  go_wp2
  go_ret
  exact ⟨rfl, hb⟩
set_option maxHeartbeats 2000000 in
set_option maxRecDepth 100000 in
theorem fhear_any (w : World) (B gf g b n : Nat) (f : FS) (h : Fo w B gf g b n f) (hI : FInv f) (hn : n ≤ 100000) (fr r x q hp t lo : Int) (hr : Fits r) (hx : F16 x) (hq : F16 q) :
    Calls Try.prog 10 #[.pointer (some ⟨gf, 0, none⟩), .agg #[.int .i64 fr, .int .i64 r, .int .u16 x, .int .u16 q, .int .i64 hp, .int .i64 t], .int .i64 lo] w (FHeard B gf g b n f r x q t hp lo w) := by
  obtain ⟨C, hC⟩ : ∃ C, C = (#[.int .i64 fr, .int .i64 r, .int .u16 x, .int .u16 q, .int .i64 hp, .int .i64 t] : Array Value) := ⟨_, rfl⟩
  have hst := Fw.start h 43 C
  have hbx : ∀ W b' n' f', Fw w B gf g b 43 C f' b' n' W → W.cell? ⟨w.heap.size, 1, none⟩ = some (.int .i64 r) ∧ W.cell? ⟨w.heap.size, 2, none⟩ = some (.int .u16 x) ∧ W.cell? ⟨w.heap.size, 3, none⟩ = some (.int .u16 q) ∧ W.cell? ⟨w.heap.size, 4, none⟩ = some (.int .i64 hp) ∧ W.cell? ⟨w.heap.size, 5, none⟩ = some (.int .i64 t) := fun W b' n' f' hw => by
    have hh := hw.box
    rw [hC] at hh
    exact ⟨hh.cell 1, hh.cell 2, hh.cell 3, hh.cell 4, hh.cell 5⟩
  have hl := fun W => ftime_any lo W
  have ht := fun W => ftime_any t W
  unfold FHeard hearFS hearFV
  have HX := Lib.hid hbx
  obtain ⟨V, hV⟩ : ∃ V, V = w.alloc (.cells #[.int .i64 fr, .int .i64 r, .int .u16 x, .int .u16 q, .int .i64 hp, .int .i64 t] 43) := ⟨_, rfl⟩
  have hst : Fw w B gf g b 43 C f b n V := by rw [hV, ← hC]; exact hst
  obtain ⟨x1, x2, x3, x4, x5⟩ := hbx _ _ _ _ hst
  have HV := Lib.hid hst
  cases hc : canB t hp lo with
  | false =>
    have hcase : decide (hp < 0) = true ∨ decide (hp < 0) = false ∧ decide (63 ≤ hp) = true ∨ decide (hp < 0) = false ∧ decide (63 ≤ hp) = false ∧ timeB lo = false ∨ decide (hp < 0) = false ∧ decide (63 ≤ hp) = false ∧ timeB lo = true ∧ timeB t = false := by
      unfold canB at hc
      by_cases h1 : hp < 0 <;> by_cases h2 : 63 ≤ hp <;> cases h3 : timeB lo <;> cases h4 : timeB t <;> simp [h1, h2, h3, h4] at hc ⊢
    obtain ⟨T1, hT1⟩ : ∃ T1, timeB lo = T1 := ⟨_, rfl⟩
    obtain ⟨T2, hT2⟩ : ∃ T2, timeB t = T2 := ⟨_, rfl⟩
    simp only [hT1, hT2] at hl ht hcase
    have HG : Hid (FGoes B gf g b (n + 1) f w V) := Lib.hid ((FGoes.refl h).of_below (by rw [hV]; exact below_alloc _ _) |>.mono (Nat.le_succ n))
    clear hst hbx h hc hI hT1 hT2
    rw [hV] at x1 x2 x3 x4 x5
    rcases hcase with d1 | ⟨d1, d2⟩ | ⟨d1, d2, rfl⟩ | ⟨d1, d2, rfl, rfl⟩
    all_goals
      go_enter Try.func10, Try.ntmps10
      go_wp2_with (first
        | (go_at_call 21; (with_reducible refine (hl _).mono ?_); rintro e wx ⟨rfl, hwx⟩; subst wx)
        | (go_at_call 21; (with_reducible refine (ht _).mono ?_); rintro e wx ⟨rfl, hwx⟩; subst wx))
      go_ret
      refine ⟨rfl, ?_⟩
      have := HG.out
      rw [hV] at this
      simpa using this
  | true =>
    obtain ⟨⟨h0, h1⟩, hlo, hti⟩ := canB_iff.1 hc
    have d1 : decide (hp < 0) = false := decide_eq_false (by omega)
    have d2 : decide (63 ≤ hp) = false := decide_eq_false (by omega)
    have e5 := IntWalk.i64_in (hp + 1) (by omega)
    simp only [(timeB_iff lo).2 hlo] at hl
    simp only [(timeB_iff t).2 hti] at ht
    have hkeep := fun W b' n' f' (hw : Fw w B gf g b 43 C f' b' n' W) => keep_any W B gf g b' n' f' hw.fo t hp lo hc
    have HKp := Lib.hid hkeep
    have HFg := Lib.hid (fun W b' n' f' (hw : Fw w B gf g b 43 C f' b' n' W) => forget_any W B gf g b' n' f' hw.fo)
    obtain ⟨S, hS⟩ : ∃ S, hearS f.s r x q = S := ⟨_, rfl⟩
    obtain ⟨D, hD⟩ : ∃ D, hearV f.s r x q = D := ⟨_, rfl⟩
    have hrul := hear_rules f.s r x q
    have hways := hear_ways r x q hI.s
    have hvals : hearV f.s r x q = 0 ∨ hearV f.s r x q = 1 ∨ hearV f.s r x q = 2 := by
      unfold hearV
      split
      · split
        · exact .inr (.inr rfl)
        · exact .inr (.inl rfl)
      · exact .inl rfl
    have hsame : D = 0 → f.at S = f := fun e => by
      rcases hways with ⟨-, k⟩ | ⟨k, -⟩
      · rw [← hS, k]
        rfl
      · rw [hD, e] at k
        exact absurd k (by decide)
    rw [hS] at hrul
    rw [hD] at hvals
    have HHr := Lib.hid (hear_at (HV.out.drew).fo.node hn r x q (wf_of (by have := hr.1; omega) (by have := hr.2; omega)) hx hq hD hS)
    rw [hD, hS]
    have HSm := Lib.hid hsame
    have HRu := Lib.hid hrul
    clear hkeep hst hbx h hc hI hD hS hways hsame hrul h0 h1 hlo hti hr hx hq
    have hvd := HX.out _ _ _ _ HV.out.drew
    have g0 := HV.out.drew.fo.cells.1
    rw [hV] at x1 x2 x3 x4 x5
    go_enter Try.func10, Try.ntmps10
    go_upto_region 3 with (first
        | (go_at_call 21; (with_reducible refine (hl _).mono ?_); rintro e wx ⟨rfl, hwx⟩; subst wx)
        | (go_at_call 21; (with_reducible refine (ht _).mono ?_); rintro e wx ⟨rfl, hwx⟩; subst wx))
    rw [← hV]
    clear hV x1 x2 x3 x4 x5
    refine region_turns (fun (w' : World) => w'.cell? ⟨gf, 0, none⟩ = some (.pointer (some ⟨g, 0, none⟩)) ∧ w'.cell? ⟨w.heap.size, 1, none⟩ = some (.int .i64 r) ∧ w'.cell? ⟨w.heap.size, 2, none⟩ = some (.int .u16 x) ∧ w'.cell? ⟨w.heap.size, 3, none⟩ = some (.int .u16 q)) (fun j => decide (13 ≤ j)) (by kernel_rfl) (⟨g0, hvd.1, hvd.2.1, hvd.2.2.1⟩) (fun hS => ?_)
    refine Turns.take hS 0 _ rfl (by kernel_rfl) (by kernel_rfl) (by kernel_rfl) (by kernel_rfl) (fun _ _ _ h => h) (by rfl) (fun w' hS' => by (try dsimp only at hS'); go_split_ands; go_simp; (try with_reducible rfl)) ?_
    simp only [Act.put, List.getElem_toArray, List.getElem_cons_succ, List.getElem_cons_zero, List.setIfInBounds_toArray, List.set_cons_zero, List.set_cons_succ]
    refine Turns.take hS 1 _ rfl (by kernel_rfl) (by kernel_rfl) (by kernel_rfl) (by kernel_rfl) (fun _ _ _ h => h) (by rfl) (fun w' hS' => by (try dsimp only at hS'); go_split_ands; go_simp; (try with_reducible rfl)) ?_
    simp only [Act.put, List.getElem_toArray, List.getElem_cons_succ, List.getElem_cons_zero, List.setIfInBounds_toArray, List.set_cons_zero, List.set_cons_succ]
    refine Turns.take hS 2 _ rfl (by kernel_rfl) (by kernel_rfl) (by kernel_rfl) (by kernel_rfl) (fun _ _ _ h => h) (by rfl) (fun w' hS' => by (try dsimp only at hS'); go_split_ands; go_simp; (try with_reducible rfl)) ?_
    simp only [Act.put, List.getElem_toArray, List.getElem_cons_succ, List.getElem_cons_zero, List.setIfInBounds_toArray, List.set_cons_zero, List.set_cons_succ]
    refine Turns.take hS 3 _ rfl (by kernel_rfl) (by kernel_rfl) (by kernel_rfl) (by kernel_rfl) (fun _ _ _ h => h) (by rfl) (fun w' hS' => by (try dsimp only at hS'); go_split_ands; go_simp; (try with_reducible rfl)) ?_
    simp only [Act.put, List.getElem_toArray, List.getElem_cons_succ, List.getElem_cons_zero, List.setIfInBounds_toArray, List.set_cons_zero, List.set_cons_succ]
    refine Turns.take hS 4 _ rfl (by kernel_rfl) (by kernel_rfl) (by kernel_rfl) (by kernel_rfl) (fun _ _ _ h => h) (by rfl) (fun w' hS' => by (try dsimp only at hS'); go_split_ands; go_simp; (try with_reducible rfl)) ?_
    simp only [Act.put, List.getElem_toArray, List.getElem_cons_succ, List.getElem_cons_zero, List.setIfInBounds_toArray, List.set_cons_zero, List.set_cons_succ]
    refine Turns.take hS 5 _ rfl (by kernel_rfl) (by kernel_rfl) (by kernel_rfl) (by kernel_rfl) (fun _ _ _ h => h) (by rfl) (fun w' hS' => by (try dsimp only at hS'); go_split_ands; go_simp; (try with_reducible rfl)) ?_
    simp only [Act.put, List.getElem_toArray, List.getElem_cons_succ, List.getElem_cons_zero, List.setIfInBounds_toArray, List.set_cons_zero, List.set_cons_succ]
    refine Turns.take hS 6 _ rfl (by kernel_rfl) (by kernel_rfl) (by kernel_rfl) (by kernel_rfl) (fun _ _ _ h => h) (by rfl) (fun w' hS' => by (try dsimp only at hS'); go_split_ands; go_simp; (try with_reducible rfl)) ?_
    simp only [Act.put, List.getElem_toArray, List.getElem_cons_succ, List.getElem_cons_zero, List.setIfInBounds_toArray, List.set_cons_zero, List.set_cons_succ]
    refine Turns.take hS 7 _ rfl (by kernel_rfl) (by kernel_rfl) (by kernel_rfl) (by kernel_rfl) (fun _ _ _ h => h) (by rfl) (fun w' hS' => by (try dsimp only at hS'); go_split_ands; go_simp; (try with_reducible rfl)) ?_
    simp only [Act.put, List.getElem_toArray, List.getElem_cons_succ, List.getElem_cons_zero, List.setIfInBounds_toArray, List.set_cons_zero, List.set_cons_succ]
    refine Turns.take hS 8 _ rfl (by kernel_rfl) (by kernel_rfl) (by kernel_rfl) (by kernel_rfl) (fun _ _ _ h => h) (by rfl) (fun w' hS' => by (try dsimp only at hS'); go_split_ands; go_simp; (try with_reducible rfl)) ?_
    simp only [Act.put, List.getElem_toArray, List.getElem_cons_succ, List.getElem_cons_zero, List.setIfInBounds_toArray, List.set_cons_zero, List.set_cons_succ]
    refine Turns.take hS 9 _ rfl (by kernel_rfl) (by kernel_rfl) (by kernel_rfl) (by kernel_rfl) (fun _ _ _ h => h) (by rfl) (fun w' hS' => by (try dsimp only at hS'); go_split_ands; go_simp; (try with_reducible rfl)) ?_
    simp only [Act.put, List.getElem_toArray, List.getElem_cons_succ, List.getElem_cons_zero, List.setIfInBounds_toArray, List.set_cons_zero, List.set_cons_succ]
    refine Turns.take hS 10 _ rfl (by kernel_rfl) (by kernel_rfl) (by kernel_rfl) (by kernel_rfl) (fun _ _ _ h => h) (by rfl) (fun w' hS' => by (try dsimp only at hS'); go_split_ands; go_simp; (try with_reducible rfl)) ?_
    simp only [Act.put, List.getElem_toArray, List.getElem_cons_succ, List.getElem_cons_zero, List.setIfInBounds_toArray, List.set_cons_zero, List.set_cons_succ]
    refine Turns.next 11 rfl (by kernel_rfl) (by rfl) (fun K hK => ?_)
    go_simp
    go_at_call 22
    refine HHr.out.mono ?_
    rintro e w4 ⟨rfl, hg4⟩
    obtain ⟨b4, hW4⟩ := HV.out.drew.goes (HV.out.drew.fo.node_goes hg4 HRu.out)
    have HW4 := Lib.hid hW4
    have hv4 := HX.out _ _ _ _ hW4
    have g4 := hW4.fo.cells.1
    clear hg4 hW4
    refine hK.out _ _ (show (fun (w' : World) => w'.cell? ⟨gf, 0, none⟩ = some (.pointer (some ⟨g, 0, none⟩)) ∧ w'.cell? ⟨w.heap.size, 1, none⟩ = some (.int .i64 r) ∧ w'.cell? ⟨w.heap.size, 2, none⟩ = some (.int .u16 x) ∧ w'.cell? ⟨w.heap.size, 3, none⟩ = some (.int .u16 q)) _ from ⟨g4, hv4.1, hv4.2.1, hv4.2.2.1⟩) ?_
    clear hK K hS
    have hS := (show (fun (w' : World) => w'.cell? ⟨gf, 0, none⟩ = some (.pointer (some ⟨g, 0, none⟩)) ∧ w'.cell? ⟨w.heap.size, 1, none⟩ = some (.int .i64 r) ∧ w'.cell? ⟨w.heap.size, 2, none⟩ = some (.int .u16 x) ∧ w'.cell? ⟨w.heap.size, 3, none⟩ = some (.int .u16 q)) _ from ⟨g4, hv4.1, hv4.2.1, hv4.2.2.1⟩)
    refine Turns.take hS 12 _ rfl (by kernel_rfl) (by kernel_rfl) (by kernel_rfl) (by kernel_rfl) (fun _ _ _ h => h) (by rfl) (fun w' hS' => by (try dsimp only at hS'); go_split_ands; go_simp; (try with_reducible rfl)) ?_
    simp only [Act.put, List.getElem_toArray, List.getElem_cons_succ, List.getElem_cons_zero, List.setIfInBounds_toArray, List.set_cons_zero, List.set_cons_succ]
    refine Turns.rest (late_done (by kernel_rfl)) ?_
    refine any_tail 13 (by rfl) (by kernel_rfl) ?_
    simp only [List.drop_succ_cons, List.drop_zero]
    clear hS
    have z4 := hv4.2.2.2.1
    have z5 := hv4.2.2.2.2
    clear hvd g0 hv4
    rcases hvals with rfl | rfl | rfl
    · go_wp2
      go_ret
      refine ⟨rfl, ?_⟩
      have := HW4.out.end
      rw [HSm.out (by trivial)] at this
      exact this
    · have hk := HKp.out _ _ _ _ HW4.out
      go_wp2_with (go_at_call 24; refine hk.mono ?_; rintro e w5 ⟨rfl, hg5⟩; obtain ⟨b5, hW5⟩ := HW4.out.goes hg5; have HW5 := Lib.hid hW5; clear hg5 hW5 hk)
      go_ret
      exact ⟨rfl, HW5.out.end⟩
    · have hfg := HFg.out _ _ _ _ HW4.out
      go_wp2_with (first
        | (go_at_call 23; refine hfg.mono ?_; rintro e w5 ⟨rfl, hg5⟩; obtain ⟨b5, hW5⟩ := HW4.out.goes hg5; have HW5 := Lib.hid hW5; have hk := HKp.out _ _ _ _ hW5; have hv5 := HX.out _ _ _ _ hW5; have y4 := hv5.2.2.2.1; have y5 := hv5.2.2.2.2; clear hg5 hW5 hfg hv5)
        | (go_at_call 24; refine hk.mono ?_; rintro e w6 ⟨rfl, hg6⟩; obtain ⟨b6, hW6⟩ := HW5.out.goes hg6; have HW6 := Lib.hid hW6; clear hg6 hW6 hk))
      go_ret
      exact ⟨rfl, HW6.out.end⟩
/-- What becomes of a node in a new life. -/
theorem fboot_any (w : World) (B gf g b n : Nat) (f : FS) (h : Fo w B gf g b n f) (x : Int) (hx : F16 x) : Calls Try.prog 16 #[.pointer (some ⟨gf, 0, none⟩), .int .u16 x] w fun e w' => e = .returned (.tuple #[]) ∧ FGoes B gf g b 0 (bootF f x) w w' := by
  have g0 := h.cells.1
  have hbt := boot_at h.node x hx
  have HF := Lib.hid h
  have HG := Lib.hid (fun W b' n' f' (hw : Fo W B gf g b' n' f') => forget_any W B gf g b' n' f' hw)
  have HR : Hid ((bootS f.s x).me = f.s.me ∧ (bootS f.s x).tmo = f.s.tmo ∧ (bootS f.s x).ign = f.s.ign) := Lib.hid ⟨rfl, rfl, rfl⟩
  unfold bootF
  obtain ⟨S, hS⟩ : ∃ S, bootS f.s x = S := ⟨_, rfl⟩
  rw [hS] at hbt HR ⊢
  clear h hS hx
  go_enter Try.func16, Try.ntmps16
  go_wp2_with (first
    | (go_at_call 30; refine hbt.mono ?_; rintro e w4 ⟨rfl, hg4⟩; obtain ⟨b4, hF4, hC4, hp4⟩ := HF.out.node_goes hg4 HR.out; have hfg := HG.out _ _ _ _ hF4; have HF4 := Lib.hid hF4; have HC4 := Lib.hid hC4; have HP4 := Lib.hid hp4; clear hg4 hF4 hC4 hp4 hbt)
    | (go_at_call 23; refine hfg.mono ?_; rintro e w5 ⟨rfl, hg5⟩; have HE := Lib.hid (FGoes.trans HF4.out HC4.out HP4.out hg5 HC4.out.size); clear hg5 hfg))
  go_end0
  exact ⟨rfl, HE.out⟩
theorem fboot_nil (w : World) (x : Int) : Calls Try.prog 16 #[.pointer none, .int .u16 x] w fun e w' => e = .returned (.tuple #[]) ∧ w = w' := by
  go_enter Try.func16, Try.ntmps16
  go_wp2
  refine bodyPost_ret (results_none rfl _ _ _) rfl ?_
  exact ⟨rfl, rfl⟩
end Go.Proofs.Ytdnmgpendacjoaa

/- Package flood: a word is passed on. -/
namespace Go.Proofs.Ytdnmgpendacjoaa
open Go.RowKit
set_option linter.unusedVariables false
set_option linter.unusedSimpArgs false

def zeroW : List Value := [.int .i64 0, .int .i64 0, .int .u16 0, .int .u16 0, .int .i64 0, .int .i64 0]
def wordC (W : W6) : List Value := [.int .i64 W.1, .int .i64 W.2.1, .int .u16 W.2.2.1, .int .u16 W.2.2.2.1, .int .i64 W.2.2.2.2.1, .int .i64 W.2.2.2.2.2]
theorem wordC_one (W : W6) : ∀ v ∈ wordC W, v.oneCell' = true := by
  intro v hv
  simp only [wordC, List.mem_cons, List.not_mem_nil, or_false] at hv
  rcases hv with rfl | rfl | rfl | rfl | rfl | rfl <;> rfl
theorem sync_size : (Try.prog.info? 43).map (·.size) = some 6 := by kernel_rfl
theorem said16 {s : St} (h : Inv s) : F16 (saidV s).1 ∧ F16 (saidV s).2 := by
  unfold saidV
  split
  · exact ⟨h.boot, h.seq⟩
  · split
    · exact ⟨⟨by decide, by decide⟩, ⟨by decide, by decide⟩⟩
    · cases hf : s.f s.root with
      | none => exact ⟨⟨by decide, by decide⟩, ⟨by decide, by decide⟩⟩
      | some p => exact h.marks _ _ hf
/-- A word's variable is written whole. -/
theorem word_put {w0 V : World} {C : List Value} (h : Box w0 43 C.toArray V) (hC : C.length = 6) (W : W6) : Box w0 43 (wordC W).toArray (V.setRow w0.heap.size (splice C 0 (wordC W)).toArray) := by
  rw [splice_all C (wordC W) (by rw [hC]; rfl)]
  exact ⟨h.holds.row _, Below.chg h.below (Chg.of_grown (grown_row V w0.heap.size _) (S := fun k => w0.heap.size ≤ k) (fun k e => by cases e; exact Nat.le_refl _)) h.below.size (fun k hk => hk)⟩
set_option maxHeartbeats 400000 in
set_option maxRecDepth 100000 in
theorem pass_any (w : World) (B gf g b n : Nat) (f : FS) (h : Fo w B gf g b n f) (hI : FInv f) (h1 : minB f = false) (h2 : synB f = true) (lo : Int) (hlo : timeB lo = true) (W : W6) (ok : Bool)
    (hs : timeB (f.pg + (lo - f.pl)) = true ∧ W = (f.s.me, f.s.root, (saidV f.s).1, (saidV f.s).2, f.ph, f.pg + (lo - f.pl)) ∧ ok = true ∨ timeB (f.pg + (lo - f.pl)) = false ∧ W = noW ∧ ok = false) :
    Calls Try.prog 28 #[.pointer (some ⟨gf, 0, none⟩), .int .i64 lo] w fun e w' => e = .returned (.tuple #[wordV W, .bool ok]) ∧ Below w.heap.size w w' := by
  have HR := Lib.hid (Box.start w 43 #[.int .i64 0, .int .i64 0, .int .u16 0, .int .u16 0, .int .i64 0, .int .i64 0])
  have HF := Lib.hid (fun V (hb : Below w.heap.size w V) => h.below hb)
  have hmk := mark_at (HF.out _ HR.out.below).node
  obtain ⟨l0, l1⟩ := (timeB_iff lo).1 hlo
  obtain ⟨pl0, pl1⟩ := hI.pl
  obtain ⟨pg0, pg1⟩ := hI.pg
  have hroot := hI.s.root
  have hme := hI.s.me
  have hk0 := hI.know (syn_some hI h1 h2)
  have hph := hI.ph
  have e1 := IntWalk.i64_in (lo - f.pl) (by omega)
  have e2 := IntWalk.i64_in (f.pg + (lo - f.pl)) (by omega)
  have hT : Fits (f.pg + (lo - f.pl)) := ⟨by omega, by omega⟩
  have hgood : wgoodB f.s.me f.s.root f.ph (f.pg + (lo - f.pl)) = timeB (f.pg + (lo - f.pl)) := by
    unfold wgoodB
    rw [decide_eq_true (show 0 ≤ f.s.me ∧ f.s.me ≤ 63 by omega), decide_eq_true (show 0 ≤ f.s.root ∧ f.s.root ≤ 63 by omega), decide_eq_true (show 0 ≤ f.ph ∧ f.ph ≤ 63 by omega)]
    rfl
  have hmarks : F16 (saidV f.s).1 ∧ F16 (saidV f.s).2 := said16 hI.s
  have hgd := fun V => wgood_any f.s.me f.s.root (saidV f.s).1 (saidV f.s).2 f.ph (f.pg + (lo - f.pl)) V ⟨by omega, by omega⟩ ⟨by omega, by omega⟩ hmarks.1 hmarks.2 ⟨by omega, by omega⟩ hT
  rw [hgood] at hgd
  obtain ⟨T, hTT⟩ : ∃ T, f.pg + (lo - f.pl) = T := ⟨_, rfl⟩
  obtain ⟨m0, m1, hm⟩ : ∃ m0 m1, saidV f.s = (m0, m1) := ⟨_, _, rfl⟩
  have hwd := fun V (hb : Below w.heap.size w V) => word_any V B gf g b n f (HF.out V hb) m0 m1 f.pl T f.ph
  have hcl := fun V (hb : Below w.heap.size w V) => (HF.out V hb).cells
  rw [hm] at hmk hgd hs
  rw [hTT] at e2 hgd hs
  obtain ⟨q, hq⟩ : ∃ q, timeB T = q := ⟨_, rfl⟩
  rw [hq] at hgd hs
  simp only [hm, hTT] at hs
  have HW := Lib.hid hwd
  have HCl := Lib.hid hcl
  have HG := Lib.hid hgd
  have hg0 := (HCl.out _ HR.out.below).1
  clear h hI h1 h2 hlo l0 l1 pl0 pl1 pg0 pg1 hroot hme hk0 hph hT hgood hmarks hwd hcl hgd hq hm
  unfold wordV at HW
  rcases hs with ⟨rfl, rfl, rfl⟩ | ⟨rfl, rfl, rfl⟩
  · skip
    go_enter Try.func28, Try.ntmps28
    go_wp2_with (first
      | (go_at_call 39; refine hmk.mono ?_; rintro e w1 ⟨rfl, hb1⟩; have HR1 := Lib.hid ((HR.out.next hb1).alloc (.cells #[.int .u16 m0, .int .u16 m1] 70)); obtain ⟨-, -, -, -, k1, k2, k3⟩ := HCl.out _ HR1.out.below; have HM := Lib.hid (Holds.new w1 70 #[.int .u16 m0, .int .u16 m1]); have hw2 := HW.out _ (HR1.out.alloc (.cells #[.int .i64 f.pl, .int .i64 T, .int .i64 f.ph] 53)).below; clear hmk hb1)
      | (go_at_call 27; (with_reducible refine hw2.mono ?_); rintro e w2 ⟨rfl, hb2⟩; have HR2 := Lib.hid (((HR1.out.alloc (.cells #[.int .i64 f.pl, .int .i64 T, .int .i64 f.ph] 53)).next hb2).alloc (.cells #[.int .i64 f.s.me, .int .i64 f.s.root, .int .u16 m0, .int .u16 m1, .int .i64 f.ph, .int .i64 T] 43)); have HY := Lib.hid (Holds.new w2 43 #[.int .i64 f.s.me, .int .i64 f.s.root, .int .u16 m0, .int .u16 m1, .int .i64 f.ph, .int .i64 T]); have y0 := HY.out.cell 0; have y1 := HY.out.cell 1; have y2 := HY.out.cell 2; have y3 := HY.out.cell 3; have y4 := HY.out.cell 4; have y5 := HY.out.cell 5; clear hb2)
      | (go_at_call 40; (with_reducible refine (HG.out _).mono ?_); rintro e w3 ⟨rfl, hb3⟩; have HR3 := Lib.hid (HR2.out.next hb3); have HY3 := Lib.hid (HY.out.below hb3 HY.out.lt); have x0 := HY3.out.cell 0; have x1 := HY3.out.cell 1; have x2 := HY3.out.cell 2; have x3 := HY3.out.cell 3; have x4 := HY3.out.cell 4; have x5 := HY3.out.cell 5; clear hb3 y0 y1 y2 y3 y4 y5)
      | (refine wpList_store_at rfl 43 (.tmp 4) (.tmp 39) rfl w.heap.size 0 (wordC (f.s.me, f.s.root, m0, m1, f.ph, T)) rfl rfl 43 zeroW HR3.out.holds sync_size (Nat.le_refl 6) (wordC_one _) ?_))
    have HE := word_put (C := zeroW) HR3.out rfl (f.s.me, f.s.root, m0, m1, f.ph, T)
    refine bodyPost_ret (results_row_tmp rfl _ _ w.heap.size 43 (wordC (f.s.me, f.s.root, m0, m1, f.ph, T)) _ _ rfl HE.holds Try.underlying43 rfl sync_size rfl) rfl ?_
    exact ⟨rfl, HE.below⟩
  · skip
    go_enter Try.func28, Try.ntmps28
    go_wp2_with (first
      | (go_at_call 39; refine hmk.mono ?_; rintro e w1 ⟨rfl, hb1⟩; have HR1 := Lib.hid ((HR.out.next hb1).alloc (.cells #[.int .u16 m0, .int .u16 m1] 70)); obtain ⟨-, -, -, -, k1, k2, k3⟩ := HCl.out _ HR1.out.below; have HM := Lib.hid (Holds.new w1 70 #[.int .u16 m0, .int .u16 m1]); have hw2 := HW.out _ (HR1.out.alloc (.cells #[.int .i64 f.pl, .int .i64 T, .int .i64 f.ph] 53)).below; clear hmk hb1)
      | (go_at_call 27; (with_reducible refine hw2.mono ?_); rintro e w2 ⟨rfl, hb2⟩; have HR2 := Lib.hid (((HR1.out.alloc (.cells #[.int .i64 f.pl, .int .i64 T, .int .i64 f.ph] 53)).next hb2).alloc (.cells #[.int .i64 f.s.me, .int .i64 f.s.root, .int .u16 m0, .int .u16 m1, .int .i64 f.ph, .int .i64 T] 43)); have HY := Lib.hid (Holds.new w2 43 #[.int .i64 f.s.me, .int .i64 f.s.root, .int .u16 m0, .int .u16 m1, .int .i64 f.ph, .int .i64 T]); have y0 := HY.out.cell 0; have y1 := HY.out.cell 1; have y2 := HY.out.cell 2; have y3 := HY.out.cell 3; have y4 := HY.out.cell 4; have y5 := HY.out.cell 5; clear hb2)
      | (go_at_call 40; (with_reducible refine (HG.out _).mono ?_); rintro e w3 ⟨rfl, hb3⟩; have HR3 := Lib.hid (HR2.out.next hb3); have HY3 := Lib.hid (HY.out.below hb3 HY.out.lt); have x0 := HY3.out.cell 0; have x1 := HY3.out.cell 1; have x2 := HY3.out.cell 2; have x3 := HY3.out.cell 3; have x4 := HY3.out.cell 4; have x5 := HY3.out.cell 5; clear hb3 y0 y1 y2 y3 y4 y5)
      | (refine wpList_store_at rfl 43 (.tmp 4) (.tmp 38) rfl w.heap.size 0 (wordC noW) rfl rfl 43 zeroW HR3.out.holds sync_size (Nat.le_refl 6) (wordC_one _) ?_))
    have HE := word_put (C := zeroW) HR3.out rfl noW
    refine bodyPost_ret (results_row_tmp rfl _ _ w.heap.size 43 (wordC noW) _ _ rfl HE.holds Try.underlying43 rfl sync_size rfl) rfl ?_
    exact ⟨rfl, HE.below⟩
end Go.Proofs.Ytdnmgpendacjoaa

/- Package flood: Beat. -/
namespace Go.Proofs.Ytdnmgpendacjoaa
open Go.RowKit
set_option linter.unusedVariables false
set_option linter.unusedSimpArgs false

section
variable {w0 W : World} {B gf g b b' n' : Nat} {f : FS} {T : TypeId} {C : List Value}
/-- The call's own variable is written whole. -/
theorem Fw.put (h : Fw w0 B gf g b T C.toArray f b' n' W) (D : List Value) (hl : D.length = C.length) : Holds (W.setRow w0.heap.size (splice C 0 D).toArray) w0.heap.size T D.toArray ∧ FGoes B gf g b n' f w0 (W.setRow w0.heap.size (splice C 0 D).toArray) := by
  rw [splice_all C D hl]
  obtain ⟨o1, o2, o3⟩ := h.old
  have hap := h.fo.node.km.apart h.box
  have hc : Chg (fun k => k = w0.heap.size) W (W.setRow w0.heap.size D.toArray) := Chg.of_grown (grown_row W w0.heap.size _) (fun k e => by cases e; rfl)
  refine ⟨h.box.row _, b', h.fo.chg hc (fun k hk e => ?_), h.chg.trans hc (fun k hk e => by omega), h.mv⟩
  rcases hk with e1 | e1 | e1
  · omega
  · omega
  · exact hap (e.symm.trans e1)
end
theorem fbeat_nil (w : World) (lo : Int) : Calls Try.prog 13 #[.pointer none, .int .i64 lo] w fun e w' => e = .returned (.tuple #[wordV noW, .bool false]) ∧ Below w.heap.size w w' := by
  have HR := Lib.hid (Box.start w 43 #[.int .i64 0, .int .i64 0, .int .u16 0, .int .u16 0, .int .i64 0, .int .i64 0])
  go_enter Try.func13, Try.ntmps13
  go_wp2_with (refine wpList_store_at rfl 43 (.tmp 4) (.tmp 10) rfl w.heap.size 0 (wordC noW) rfl rfl 43 zeroW HR.out.holds sync_size (Nat.le_refl 6) (wordC_one _) ?_)
  have HE := word_put (C := zeroW) HR.out rfl noW
  refine bodyPost_ret (results_row_tmp rfl _ _ w.heap.size 43 (wordC noW) _ _ rfl HE.holds Try.underlying43 rfl sync_size rfl) rfl ?_
  exact ⟨rfl, HE.below⟩
theorem says_ways {f f' : FS} {lo : Int} {W : W6} {ok : Bool} (h : Says f lo W ok f') : (timeB lo = false ∧ W = noW ∧ ok = false ∧ f' = f) ∨
    (timeB lo = true ∧ minB f = true ∧ W = (f.s.me, f.s.root, f.s.boot, nextV f.s.seq, 0, lo) ∧ ok = true ∧ f' = f.at (issueS f.s)) ∨ (timeB lo = true ∧ minB f = false ∧ synB f = false ∧ W = noW ∧ ok = false ∧ f' = f) ∨
    (timeB lo = true ∧ minB f = false ∧ synB f = true ∧ f' = f ∧ (timeB (f.pg + (lo - f.pl)) = true ∧ W = (f.s.me, f.s.root, (saidV f.s).1, (saidV f.s).2, f.ph, f.pg + (lo - f.pl)) ∧ ok = true ∨ timeB (f.pg + (lo - f.pl)) = false ∧ W = noW ∧ ok = false)) := by
  rcases h with h | h | h | ⟨h1, h2, h3, h4, h5, h6, h7⟩ | ⟨h1, h2, h3, h4, h5, h6, h7⟩
  · exact .inl h
  · exact .inr (.inl h)
  · exact .inr (.inr (.inl h))
  · exact .inr (.inr (.inr ⟨h1, h2, h3, h7, .inl ⟨h4, h5, h6⟩⟩))
  · exact .inr (.inr (.inr ⟨h1, h2, h3, h7, .inr ⟨h4, h5, h6⟩⟩))
theorem min_syn {f : FS} (h : minB f = true) : synB f = true := decide_eq_true (.inl (of_decide_eq_true h))
set_option maxHeartbeats 1000000 in
set_option maxRecDepth 100000 in
theorem fbeat_any (w : World) (B gf g b n : Nat) (f : FS) (h : Fo w B gf g b n f) (hI : FInv f) (lo : Int) (hlf : Fits lo) (W : W6) (ok : Bool) (f' : FS) (hs : Says (beatF f) lo W ok f') :
    Calls Try.prog 13 #[.pointer (some ⟨gf, 0, none⟩), .int .i64 lo] w fun e w' => e = .returned (.tuple #[wordV W, .bool ok]) ∧ FGoes B gf g b n f' w w' := by
  have HV := Lib.hid (Fw.start h 43 #[.int .i64 0, .int .i64 0, .int .u16 0, .int .u16 0, .int .i64 0, .int .i64 0])
  have g0 := HV.out.fo.cells.1
  obtain ⟨D, hD⟩ : ∃ D, beatB f.s = D := ⟨_, rfl⟩
  obtain ⟨S, hS⟩ : ∃ S, beatS f.s = S := ⟨_, rfl⟩
  have hbt := beat_at HV.out.fo.node hD hS
  have hrul := beat_rules f.s
  rw [hS] at hrul
  have HRu := Lib.hid hrul
  have HFg := Lib.hid (fun W b' n' f' (hw : Fw w B gf g b 43 #[.int .i64 0, .int .i64 0, .int .u16 0, .int .u16 0, .int .i64 0, .int .i64 0] f' b' n' W) => forget_any W B gf g b' n' f' hw.fo)
  obtain ⟨F, hF⟩ : ∃ F, beatF f = F := ⟨_, rfl⟩
  have hFI : FInv F := by rw [← hF]; exact hI.beat
  have hFF : F = if D = true then (f.at S).clear else f.at S := by rw [← hF, ← hD, ← hS]; rfl
  rw [hF] at hs
  have HFF := Lib.hid hFF
  have HFI := Lib.hid hFI
  have ht := fun W => ftime_any lo W
  have HSy := Lib.hid (fun V b' n' (hw : Fw w B gf g b 43 #[.int .i64 0, .int .i64 0, .int .u16 0, .int .u16 0, .int .i64 0, .int .i64 0] F b' n' V) => synced_any V B gf g b' n' F hw.fo)
  have HMi := Lib.hid (fun V b' n' (hw : Fw w B gf g b 43 #[.int .i64 0, .int .i64 0, .int .u16 0, .int .u16 0, .int .i64 0, .int .i64 0] F b' n' V) => mine_at hw.fo.node (v := minB F) rfl)
  have HS := Lib.hid (says_ways hs)
  clear h hI hD hS hrul hF hFI hFF hs
  cases D
  case' false =>
    go_enter Try.func13, Try.ntmps13
    go_upto_region 5 with (first
      | (go_at_call 25; refine hbt.mono ?_; rintro e w4 ⟨rfl, hg4⟩; obtain ⟨b5, hW5⟩ := HV.out.goes (HV.out.fo.node_goes hg4 HRu.out); rw [show f.at S = F from HFF.out.symm] at hW5; have HW := Lib.hid hW5; clear hg4 hW5 hbt))
  case' true =>
    go_enter Try.func13, Try.ntmps13
    go_upto_region 5 with (first
      | (go_at_call 25; refine hbt.mono ?_; rintro e w3 ⟨rfl, hg3⟩; obtain ⟨b4, hW3⟩ := HV.out.goes (HV.out.fo.node_goes hg3 HRu.out); have hfg := HFg.out _ _ _ _ hW3; have HW3 := Lib.hid hW3; clear hg3 hW3 hbt)
      | (go_at_call 23; refine hfg.mono ?_; rintro e w4 ⟨rfl, hg4⟩; obtain ⟨b5, hW5⟩ := HW3.out.goes hg4; rw [show (f.at S).clear = F from HFF.out.symm] at hW5; have HW := Lib.hid hW5; clear hg4 hW5 hfg))
  all_goals
    have hsy := HSy.out _ _ _ HW.out
    clear HV g0 HRu HFg HFF HSy
    rcases HS.out with ⟨e1, rfl, rfl, hf'⟩ | ⟨e1, e2, rfl, rfl, hf'⟩ | ⟨e1, e2, e3, rfl, rfl, hf'⟩ | ⟨e1, e2, e3, hf', h45⟩
    · have hf2 := hf'.symm
      subst hf2
      simp only [e1] at ht
      clear hsy HMi HFI HS
      go_wp2_with (first
        | (go_at_call 21; (with_reducible refine (ht _).mono ?_); rintro e wx ⟨rfl, hwx⟩; subst wx)
        | (refine wpList_store_at rfl 43 (.tmp 4) (.tmp 26) rfl w.heap.size 0 (wordC noW) rfl rfl 43 zeroW HW.out.box sync_size (Nat.le_refl 6) (wordC_one _) ?_))
      have HE := Fw.put (C := zeroW) HW.out (wordC noW) rfl
      refine bodyPost_ret (results_row_tmp rfl _ _ w.heap.size 43 (wordC noW) _ _ rfl HE.1 Try.underlying43 rfl sync_size rfl) rfl ?_
      exact ⟨rfl, HE.2⟩
    · have e3 := min_syn e2
      subst hf'
      simp only [e1] at ht
      simp only [e3] at hsy
      simp only [e2] at HMi
      have hroot : F.s.root = F.s.me := of_decide_eq_true e2
      obtain ⟨r1, r2⟩ := issue_root F.s
      have hrul := issue_rules F.s
      have HIs := Lib.hid (fun V b' n' (hw : Fw w B gf g b 43 #[.int .i64 0, .int .i64 0, .int .u16 0, .int .u16 0, .int .i64 0, .int .i64 0] F b' n' V) => issue_at hw.fo.node)
      rw [show issueV F.s = (F.s.boot, nextV F.s.seq) from if_pos hroot, decide_eq_true hroot] at HIs
      have HRl := Lib.hid hrul
      have HWd := Lib.hid (fun V b' n' (hw : Fw w B gf g b 43 #[.int .i64 0, .int .i64 0, .int .u16 0, .int .u16 0, .int .i64 0, .int .i64 0] (F.at (issueS F.s)) b' n' V) => word_any V B gf g b' n' (F.at (issueS F.s)) hw.fo F.s.boot (nextV F.s.seq) 0 lo 0)
      have hr1 : (F.at (issueS F.s)).s.root = F.s.root := r1
      have hr2 : (F.at (issueS F.s)).s.me = F.s.me := r2
      rw [hr1, hr2] at HWd
      unfold wordV at HWd
      clear r1 r2 hr1 hr2 hrul hroot HFI HS e2 e3
      go_wp2_with (first
        | (go_at_call 21; (with_reducible refine (ht _).mono ?_); rintro e wx ⟨rfl, hwx⟩; subst wx)
        | (go_at_call 17; (with_reducible refine hsy.mono ?_); rintro e wx ⟨rfl, nq, rfl⟩; have HWa := Lib.hid (HW.out.drewN nq); have hmi := HMi.out _ _ _ HWa.out; have k0 := HWa.out.fo.cells.1)
        | (go_at_call 14; (with_reducible refine hmi.mono ?_); rintro e wx ⟨rfl, nr, rfl⟩; have hWb := HWa.out.drewN nr; rw [fdrew_two] at hWb; have k1 := hWb.fo.cells.1; have HWb := Lib.hid hWb; clear k0 hmi hWb)
        | (go_at_call 26; refine (HIs.out _ _ _ HWb.out).mono ?_; rintro e w6 ⟨rfl, hg6⟩; obtain ⟨b6, hW6⟩ := HWb.out.goes (HWb.out.fo.node_goes hg6 HRl.out); have HWc := Lib.hid (hW6.below (below_alloc _ (.cells #[.int .u16 F.s.boot, .int .u16 (nextV F.s.seq)] 70))); have hwd := HWd.out _ _ _ HWc.out; have HMk := Lib.hid (Holds.new w6 70 #[.int .u16 F.s.boot, .int .u16 (nextV F.s.seq)]); have m0 := HMk.out.cell 0; have m1 := HMk.out.cell 1; clear hg6 hW6)
        | (go_at_call 27; (with_reducible refine hwd.mono ?_); rintro e w7 ⟨rfl, hb7⟩; have HWe := Lib.hid (HWc.out.below hb7); clear hwd hb7)
        | (refine wpList_store_at rfl 43 (.tmp 4) (.tmp 44) rfl w.heap.size 0 (wordC (F.s.me, F.s.root, F.s.boot, nextV F.s.seq, 0, lo)) rfl rfl 43 zeroW HWe.out.box sync_size (Nat.le_refl 6) (wordC_one _) ?_))
      have HE := Fw.put (C := zeroW) HWe.out (wordC (F.s.me, F.s.root, F.s.boot, nextV F.s.seq, 0, lo)) rfl
      refine bodyPost_ret (results_row_tmp rfl _ _ w.heap.size 43 (wordC (F.s.me, F.s.root, F.s.boot, nextV F.s.seq, 0, lo)) _ _ rfl HE.1 Try.underlying43 rfl sync_size rfl) rfl ?_
      exact ⟨rfl, HE.2⟩
    · have hf2 := hf'.symm
      subst hf2
      simp only [e1] at ht
      simp only [e3] at hsy
      clear HMi HFI HS e2 e3
      go_wp2_with (first
        | (go_at_call 21; (with_reducible refine (ht _).mono ?_); rintro e wx ⟨rfl, hwx⟩; subst wx)
        | (go_at_call 17; (with_reducible refine hsy.mono ?_); rintro e wx ⟨rfl, nq, rfl⟩; have HWa := Lib.hid (HW.out.drewN nq))
        | (refine wpList_store_at rfl 43 (.tmp 4) (.tmp 26) rfl w.heap.size 0 (wordC noW) rfl rfl 43 zeroW HWa.out.box sync_size (Nat.le_refl 6) (wordC_one _) ?_))
      have HE := Fw.put (C := zeroW) HWa.out (wordC noW) rfl
      refine bodyPost_ret (results_row_tmp rfl _ _ w.heap.size 43 (wordC noW) _ _ rfl HE.1 Try.underlying43 rfl sync_size rfl) rfl ?_
      exact ⟨rfl, HE.2⟩
    · have hf2 := hf'.symm
      subst hf2
      have HP := Lib.hid (fun V b' n' (hw : Fw w B gf g b 43 #[.int .i64 0, .int .i64 0, .int .u16 0, .int .u16 0, .int .i64 0, .int .i64 0] F b' n' V) => pass_any V B gf g b' n' F hw.fo HFI.out e2 e3 lo e1 W ok h45)
      simp only [e1] at ht
      simp only [e3] at hsy
      simp only [e2] at HMi
      clear HFI HS e2 e3 h45
      go_wp2_with (first
        | (go_at_call 21; (with_reducible refine (ht _).mono ?_); rintro e wx ⟨rfl, hwx⟩; subst wx)
        | (go_at_call 17; (with_reducible refine hsy.mono ?_); rintro e wx ⟨rfl, nq, rfl⟩; have HWa := Lib.hid (HW.out.drewN nq); have hmi := HMi.out _ _ _ HWa.out; have k0 := HWa.out.fo.cells.1)
        | (go_at_call 14; (with_reducible refine hmi.mono ?_); rintro e wx ⟨rfl, nr, rfl⟩; have hWb := HWa.out.drewN nr; rw [fdrew_two] at hWb; have k1 := hWb.fo.cells.1; have HWb := Lib.hid hWb; clear k0 hmi hWb)
        | (go_at_call 28; refine (HP.out _ _ _ HWb.out).mono ?_; rintro e w7 ⟨rfl, hb7⟩; have HWe := Lib.hid (HWb.out.below hb7); clear hb7)
        | (refine wpList_store_at rfl 43 (.tmp 4) (.tmp 49) rfl w.heap.size 0 (wordC W) rfl rfl 43 zeroW HWe.out.box sync_size (Nat.le_refl 6) (wordC_one _) ?_))
      have HE := Fw.put (C := zeroW) HWe.out (wordC W) rfl
      refine bodyPost_ret (results_row_tmp rfl _ _ w.heap.size 43 (wordC W) _ _ rfl HE.1 Try.underlying43 rfl sync_size rfl) rfl ?_
      exact ⟨rfl, HE.2⟩
end Go.Proofs.Ytdnmgpendacjoaa

/- Package flood: New, Time. -/
namespace Go.Proofs.Ytdnmgpendacjoaa
open Go.RowKit
set_option linter.unusedVariables false
set_option linter.unusedSimpArgs false

theorem fo_new {w : World} {B g b n : Nat} {me tmo ign need drift x : Int} (h : En w B g b n (newS me tmo ign x)) (hB : B ≤ w.heap.size) :
    Fo (w.alloc (.cells (tcs (preV g (newF me tmo ign need drift x)) (ptV 0 0 0) (List.replicate 8 (0, 0, 0)) 0).toArray 55)) B w.heap.size g b n (newF me tmo ign need drift x) :=
  ⟨h.below (below_alloc _ _), hB, List.replicate 8 (0, 0, 0), rfl, rfl, Nat.zero_le _, rfl, Holds.new _ _ _⟩
set_option maxHeartbeats 1000000 in
set_option maxRecDepth 100000 in
theorem fnew_no (w : World) (me tmo ign need drift : Int) (h : fgoodB me tmo ign need drift = false) : Calls Try.prog 8 #[.int .i64 me, .agg #[.int .i64 tmo, .int .i64 ign, .int .i64 need, .int .i64 drift]] w fun e w' => e = .returned (.tuple #[.pointer none, .int .i64 1]) ∧ Below w.heap.size w w' := by
  have HX := Lib.hid (Box.start w 33 #[.int .i64 tmo, .int .i64 ign, .int .i64 need, .int .i64 drift])
  have hgood := fun W => frules_any W tmo ign need drift
  have hcase : frulesB tmo ign need drift = false ∨ frulesB tmo ign need drift = true ∧ goodB me tmo ign = false := by
    unfold fgoodB at h
    unfold frulesB
    cases hr : rulesB tmo ign with
    | false => exact .inl rfl
    | true =>
      cases hd : decide (1 ≤ need ∧ need ≤ 8 ∧ 0 ≤ drift ∧ drift ≤ 10) with
      | false => exact .inl rfl
      | true =>
        rw [hd] at h
        exact .inr ⟨rfl, by simpa using h⟩
  rcases hcase with h1 | ⟨h1, h2⟩
  · simp only [h1] at hgood
    clear h h1
    go_enter Try.func8, Try.ntmps8
    go_wp2_with (go_at_call 19; refine (hgood _).mono ?_; rintro e w2 ⟨rfl, hb2⟩; have hx2 := HX.out.next hb2)
    go_ret2
    exact ⟨rfl, hx2.below⟩
  · simp only [h1] at hgood
    have hnew := fun W => enew_no W me tmo ign h2
    clear h h1 h2
    go_enter Try.func8, Try.ntmps8
    go_wp2_with (first
      | (go_at_call 19; refine (hgood _).mono ?_; rintro e w2 ⟨rfl, hb2⟩; have hx2 := HX.out.next hb2; have HX2 := Lib.hid hx2; have x0 := hx2.holds.cell 0; have x1 := hx2.holds.cell 1; clear hx2 hb2)
      | (go_at_call 20; refine (hnew _).mono ?_; rintro e w3 ⟨rfl, hb3⟩; have HX3 := Lib.hid (HX2.out.next hb3)))
    go_ret2
    exact ⟨rfl, HX3.out.below⟩
set_option maxHeartbeats 1000000 in
set_option maxRecDepth 100000 in
theorem fnew_yes (w : World) (me tmo ign need drift : Int) (h : fgoodB me tmo ign need drift = true) : Calls Try.prog 8 #[.int .i64 me, .agg #[.int .i64 tmo, .int .i64 ign, .int .i64 need, .int .i64 drift]] w fun e w' => ∃ gf g b, e = .returned (.tuple #[.pointer (some ⟨gf, 0, none⟩), .int .i64 0]) ∧ Fo w' w.heap.size gf g b 0 (newF me tmo ign need drift 0) ∧ Below w.heap.size w w' := by
  have HX := Lib.hid (Box.start w 33 #[.int .i64 tmo, .int .i64 ign, .int .i64 need, .int .i64 drift])
  have hgood := fun W => frules_any W tmo ign need drift
  unfold fgoodB at h
  simp only [Bool.and_eq_true] at h
  obtain ⟨h1, h2⟩ := h
  have hr : frulesB tmo ign need drift = true := by
    unfold frulesB
    rw [h2, show rulesB tmo ign = true from decide_eq_true (by have := (good_iff _ _ _).1 h1; omega)]
    rfl
  simp only [hr] at hgood
  have hnew := fun W => enew_yes W me tmo ign h1
  clear h1 h2 hr
  go_enter Try.func8, Try.ntmps8
  go_wp2_with (first
    | (go_at_call 19; refine (hgood _).mono ?_; rintro e w2 ⟨rfl, hb2⟩; have hx2 := HX.out.next hb2; have HX2 := Lib.hid hx2; have x0 := hx2.holds.cell 0; have x1 := hx2.holds.cell 1; clear hx2 hb2)
    | (go_at_call 20; refine (hnew _).mono ?_; rintro e w3 ⟨g, b, rfl, hE, hb3⟩; have HE := Lib.hid hE; have hx3 := HX2.out.next hb3; have HX3 := Lib.hid hx3; have y0 := hx3.holds.cell 0; have y1 := hx3.holds.cell 1; have y2 := hx3.holds.cell 2; have y3 := hx3.holds.cell 3; clear hE hb3 hx3))
  trace_state
  go_ret2
  have hlt := HX2.out.lt
  have hlt3 := HX3.out.lt
  have hE := HE.out.at (B' := w.heap.size) (by have := HE.out.newer.1; omega) (by have := HE.out.newer.2; omega)
  exact ⟨_, g, b, rfl, fo_new hE (Nat.le_of_lt hlt3), (HX3.out.alloc _).below⟩
end Go.Proofs.Ytdnmgpendacjoaa

/- Package flood: Time. -/
namespace Go.Proofs.Ytdnmgpendacjoaa
open Go.RowKit
set_option linter.unusedVariables false
set_option linter.unusedSimpArgs false

theorem ftime_nil (w : World) (lo : Int) : Calls Try.prog 18 #[.pointer none, .int .i64 lo] w fun e w' => e = .returned (.tuple #[.int .i64 0, .int .i64 0, .int .i64 2]) ∧ w = w' := by
  go_enter Try.func18, Try.ntmps18
  go_wp2
  go_ret3
  exact ⟨rfl, rfl⟩
set_option maxHeartbeats 1000000 in
set_option maxRecDepth 100000 in
theorem ftell_any (w : World) (B gf g b n : Nat) (f : FS) (h : Fo w B gf g b n f) (hI : FInv f) (lo g' hp v : Int) (hs : Tells f lo g' hp v) :
    Calls Try.prog 18 #[.pointer (some ⟨gf, 0, none⟩), .int .i64 lo] w fun e w' => e = .returned (.tuple #[.int .i64 g', .int .i64 hp, .int .i64 v]) ∧ Below w.heap.size w w' := by
  have hsy := synced_any w B gf g b n f h
  have ht := fun W => ftime_any lo W
  have HF := Lib.hid (fun V (hb : Below w.heap.size w V) => h.below hb)
  have HMi := Lib.hid (fun V (hw : Fo V B gf g b n f) => mine_at hw.node (v := minB f) rfl)
  have HB0 := Lib.hid (Below.refl w.heap.size w)
  rcases hs with ⟨e1, rfl, rfl, rfl⟩ | ⟨e1, e2, rfl, rfl, rfl⟩ | ⟨e1, e2, e3, rfl, rfl, rfl⟩ | ⟨e1, e2, e3, G, ok, hg, hout⟩
  · simp only [e1] at hsy
    clear h hI e1
    go_enter Try.func18, Try.ntmps18
    go_wp2_with (go_at_call 17; (with_reducible refine hsy.mono ?_); rintro e wx ⟨rfl, nq, rfl⟩)
    go_ret3
    exact ⟨rfl, below_drewN HB0.out nq⟩
  · simp only [e1] at hsy
    simp only [e2] at ht
    clear h hI e1 e2
    go_enter Try.func18, Try.ntmps18
    go_wp2_with (first
      | (go_at_call 17; (with_reducible refine hsy.mono ?_); rintro e wx ⟨rfl, nq, rfl⟩)
      | (go_at_call 21; (with_reducible refine (ht _).mono ?_); rintro e wx ⟨rfl, hwx⟩; subst wx))
    go_ret3
    exact ⟨rfl, below_drewN HB0.out nq⟩
  · simp only [e1] at hsy
    simp only [e2] at ht
    simp only [e3] at HMi
    clear h hI e1 e2 e3
    go_enter Try.func18, Try.ntmps18
    go_wp2_with (first
      | (go_at_call 17; (with_reducible refine hsy.mono ?_); rintro e wx ⟨rfl, nq, rfl⟩; have hF := HF.out _ (below_drewN HB0.out nq); have k0 := hF.cells.1; have hmi := HMi.out _ hF; clear hF)
      | (go_at_call 21; (with_reducible refine (ht _).mono ?_); rintro e wx ⟨rfl, hwx⟩; subst wx)
      | (go_at_call 14; (with_reducible refine hmi.mono ?_); rintro e wx ⟨rfl, nr, rfl⟩))
    go_ret3
    exact ⟨rfl, by first | exact below_drewN HB0.out _ | exact below_drewN (below_drewN HB0.out _) _⟩
  · have hL := syn_some hI e3 e1
    have hmo := map_ok f.drift hI.ents hL
    have HOf := Lib.hid (fun V (hw : Fo V B gf g b n f) => globe_some f.drift V _ f.L hw.tab.src hL hI.ents.can)
    have HGl := Lib.hid (fun V => global_any _ _ _ _ _ _ (mostL f.L) lo G ok V hmo hg)
    simp only [e1] at hsy
    simp only [e2] at ht
    simp only [e3] at HMi
    have hdr : ∀ V, Fo V B gf g b n f → V.cell? ⟨gf, 5, none⟩ = some (.int .i64 f.drift) := fun V hV => hV.cells.2.2.2.1
    have HD := Lib.hid hdr
    unfold mapOf at HOf
    obtain ⟨l, hl⟩ : ∃ l, locV f.L = l := ⟨_, rfl⟩
    obtain ⟨o, ho⟩ : ∃ o, offV f.L = o := ⟨_, rfl⟩
    obtain ⟨x, hx⟩ : ∃ x, (ofV f.drift f.L).1 = x := ⟨_, rfl⟩
    obtain ⟨y, hy⟩ : ∃ y, (ofV f.drift f.L).2 = y := ⟨_, rfl⟩
    obtain ⟨m, hm⟩ : ∃ m, mostL f.L = m := ⟨_, rfl⟩
    simp only [hl, ho, hx, hy, hm] at HOf HGl hout
    unfold mapV at HOf HGl
    clear h hI e1 e2 e3 hL hmo hg hdr hl ho hx hy hm
    go_enter Try.func18, Try.ntmps18
    go_upto_region 9 with (first
      | (go_at_call 17; (with_reducible refine hsy.mono ?_); rintro e wx ⟨rfl, nq, rfl⟩; have hF := HF.out _ (below_drewN HB0.out nq); have k0 := hF.cells.1; have hmi := HMi.out _ hF; clear hF)
      | (go_at_call 21; (with_reducible refine (ht _).mono ?_); rintro e wx ⟨rfl, hwx⟩; subst wx)
      | (go_at_call 14; (with_reducible refine hmi.mono ?_); rintro e wx ⟨rfl, nr, rfl⟩))
    have hbV : Below w.heap.size w (w.drewN (nq + nr)) := below_drewN HB0.out _
    clear k0 hmi hsy
    generalize w.drewN (nq + nr) = V at *
    have hb1 := hbV.drew
    have hF1 := HF.out _ hb1
    have d1 := HD.out _ hF1
    have of1 := HOf.out _ hF1
    have hb2 := (hbV.alloc (o := .cells #[.int .i64 0, .int .i64 0, .int .i64 0, .int .i64 0, .int .i64 0] 81) hbV.size).drew
    have hF2 := HF.out _ hb2
    have d2 := HD.out _ hF2
    have of2 := HOf.out _ hF2
    have HB1 := Lib.hid hb1
    have HB2 := Lib.hid hb2
    have hwV := hbV.size
    clear hb1 hb2 hF1 hF2 hbV
    go_region_with (first
      | (go_at_call 31; (with_reducible refine of1.mono ?_); rintro e w8 ⟨rfl, hb8⟩; have HB8 := Lib.hid (HB1.out.trans (hb8.mono HB1.out.size)))
      | (go_at_call 31; (with_reducible refine of2.mono ?_); rintro e w8 ⟨rfl, hb8⟩; have HB8 := Lib.hid (HB2.out.trans (hb8.mono HB2.out.size)); have HN := Lib.hid (Holds.below (show Holds (V.alloc (.cells #[.int .i64 0, .int .i64 0, .int .i64 0, .int .i64 0, .int .i64 0] 81)).drew V.heap.size 81 #[.int .i64 0, .int .i64 0, .int .i64 0, .int .i64 0, .int .i64 0] from (Holds.new V _ _).drewN 1) hb8 (Holds.lt (show Holds (V.alloc (.cells #[.int .i64 0, .int .i64 0, .int .i64 0, .int .i64 0, .int .i64 0] 81)).drew V.heap.size 81 #[.int .i64 0, .int .i64 0, .int .i64 0, .int .i64 0, .int .i64 0] from (Holds.new V _ _).drewN 1))); have x0 := HN.out.cell 0; have x1 := HN.out.cell 1; have x2 := HN.out.cell 2; have x3 := HN.out.cell 3; have x4 := HN.out.cell 4; have s0 := HN.out.soft 0; have s1 := HN.out.soft 1; have s2 := HN.out.soft 2; have s3 := HN.out.soft 3; have s4 := HN.out.soft 4))
    · obtain ⟨W9, hW9⟩ : ∃ W9, W9 = w8.alloc (.cells #[.int .i64 l, .int .i64 o, .int .i64 x, .int .i64 y, .int .i64 m] 81) := ⟨_, rfl⟩
      have HM : Hid (Holds W9 w8.heap.size 81 #[.int .i64 l, .int .i64 o, .int .i64 x, .int .i64 y, .int .i64 m]) := Lib.hid (by rw [hW9]; exact Holds.new _ _ _)
      have HBz : Hid (Below w.heap.size w W9) := Lib.hid (by rw [hW9]; exact HB8.out.alloc HB8.out.size _)
      rw [← hW9]
      have m0 := HM.out.cell 0
      have m1 := HM.out.cell 1
      have m2 := HM.out.cell 2
      have m3 := HM.out.cell 3
      have m4 := HM.out.cell 4
      clear hW9
      rcases hout with ⟨rfl, rfl, rfl, rfl⟩ | ⟨rfl, rfl, rfl, rfl⟩
      · go_upto_region 13 with (go_at_call 32; (with_reducible refine (HGl.out _).mono ?_); rintro e w10 ⟨rfl, hb10⟩; have HMz := Lib.hid (HM.out.below hb10 HM.out.lt); have HBy := Lib.hid (HBz.out.trans (hb10.mono HBz.out.size)); have n4 := HMz.out.cell 4; clear hb10 m0 m1 m2 m3 m4)
        go_quiet (fail)
        go_wp2
        go_ret3
        exact ⟨rfl, below_drewN HBy.out _⟩
      · go_wp2_with (go_at_call 32; (with_reducible refine (HGl.out _).mono ?_); rintro e w10 ⟨rfl, hb10⟩; have HBy := Lib.hid (HBz.out.trans (hb10.mono HBz.out.size)); clear hb10 m0 m1 m2 m3 m4)
        go_ret3
        exact ⟨rfl, HBy.out⟩
    · obtain ⟨W9, hW9⟩ : ∃ W9, W9 = (((((w8.setCell ⟨V.heap.size, 0, none⟩ (.int .i64 l)).setCell ⟨V.heap.size, 1, none⟩ (.int .i64 o)).setCell ⟨V.heap.size, 2, none⟩ (.int .i64 x)).setCell ⟨V.heap.size, 3, none⟩ (.int .i64 y)).setCell ⟨V.heap.size, 4, none⟩ (.int .i64 m)) := ⟨_, rfl⟩
      have HM : Hid (Holds W9 V.heap.size 81 #[.int .i64 l, .int .i64 o, .int .i64 x, .int .i64 y, .int .i64 m]) := Lib.hid (by rw [hW9]; exact (((((HN.out.put 0 _).put 1 _).put 2 _).put 3 _).put 4 _))
      have HBz : Hid (Below w.heap.size w W9) := Lib.hid (by rw [hW9]; exact ((((HB8.out.setCell (p := ⟨V.heap.size, 0, none⟩) hwV _).setCell (p := ⟨V.heap.size, 1, none⟩) hwV _).setCell (p := ⟨V.heap.size, 2, none⟩) hwV _).setCell (p := ⟨V.heap.size, 3, none⟩) hwV _).setCell (p := ⟨V.heap.size, 4, none⟩) hwV _)
      rw [← hW9]
      have m0 := HM.out.cell 0
      have m1 := HM.out.cell 1
      have m2 := HM.out.cell 2
      have m3 := HM.out.cell 3
      have m4 := HM.out.cell 4
      clear hW9
      rcases hout with ⟨rfl, rfl, rfl, rfl⟩ | ⟨rfl, rfl, rfl, rfl⟩
      · go_upto_region 13 with (go_at_call 32; (with_reducible refine (HGl.out _).mono ?_); rintro e w10 ⟨rfl, hb10⟩; have HMz := Lib.hid (HM.out.below hb10 HM.out.lt); have HBy := Lib.hid (HBz.out.trans (hb10.mono HBz.out.size)); have n4 := HMz.out.cell 4; clear hb10 m0 m1 m2 m3 m4)
        go_quiet (fail)
        go_wp2
        go_ret3
        exact ⟨rfl, below_drewN HBy.out _⟩
      · go_wp2_with (go_at_call 32; (with_reducible refine (HGl.out _).mono ?_); rintro e w10 ⟨rfl, hb10⟩; have HBy := Lib.hid (HBz.out.trans (hb10.mono HBz.out.size)); clear hb10 m0 m1 m2 m3 m4)
        go_ret3
        exact ⟨rfl, HBy.out⟩
    · obtain ⟨W9, hW9⟩ : ∃ W9, W9 = (((((w8.setCell ⟨V.heap.size, 0, none⟩ (.int .i64 l)).setCell ⟨V.heap.size, 1, none⟩ (.int .i64 o)).setCell ⟨V.heap.size, 2, none⟩ (.int .i64 x)).setCell ⟨V.heap.size, 3, none⟩ (.int .i64 y)).setCell ⟨V.heap.size, 4, none⟩ (.int .i64 m)) := ⟨_, rfl⟩
      have HM : Hid (Holds W9 V.heap.size 81 #[.int .i64 l, .int .i64 o, .int .i64 x, .int .i64 y, .int .i64 m]) := Lib.hid (by rw [hW9]; exact (((((HN.out.put 0 _).put 1 _).put 2 _).put 3 _).put 4 _))
      have HBz : Hid (Below w.heap.size w W9) := Lib.hid (by rw [hW9]; exact ((((HB8.out.setCell (p := ⟨V.heap.size, 0, none⟩) hwV _).setCell (p := ⟨V.heap.size, 1, none⟩) hwV _).setCell (p := ⟨V.heap.size, 2, none⟩) hwV _).setCell (p := ⟨V.heap.size, 3, none⟩) hwV _).setCell (p := ⟨V.heap.size, 4, none⟩) hwV _)
      rw [← hW9]
      have m0 := HM.out.cell 0
      have m1 := HM.out.cell 1
      have m2 := HM.out.cell 2
      have m3 := HM.out.cell 3
      have m4 := HM.out.cell 4
      clear hW9
      rcases hout with ⟨rfl, rfl, rfl, rfl⟩ | ⟨rfl, rfl, rfl, rfl⟩
      · go_upto_region 13 with (go_at_call 32; (with_reducible refine (HGl.out _).mono ?_); rintro e w10 ⟨rfl, hb10⟩; have HMz := Lib.hid (HM.out.below hb10 HM.out.lt); have HBy := Lib.hid (HBz.out.trans (hb10.mono HBz.out.size)); have n4 := HMz.out.cell 4; clear hb10 m0 m1 m2 m3 m4)
        go_quiet (fail)
        go_wp2
        go_ret3
        exact ⟨rfl, below_drewN HBy.out _⟩
      · go_wp2_with (go_at_call 32; (with_reducible refine (HGl.out _).mono ?_); rintro e w10 ⟨rfl, hb10⟩; have HBy := Lib.hid (HBz.out.trans (hb10.mono HBz.out.size)); clear hb10 m0 m1 m2 m3 m4)
        go_ret3
        exact ⟨rfl, HBy.out⟩
end Go.Proofs.Ytdnmgpendacjoaa

/- Laws' nodes that flood: one entry alone; the laws' own rules and words; what the document tells. -/
namespace Go.Proofs.Ytdnmgpendacjoaa
open Go.RowKit
set_option linter.unusedVariables false
set_option linter.unusedSimpArgs false

theorem fof_single (d : Int) (e : Ent) : ofV d [e] = (0, 1) := of_flat (by
  show denV (ptsL [e]) = 0
  unfold ptsL denV
  simp [ptO, headE, sumP, pXX, pX])
theorem floc_single (e : Ent) : locV [e] = e.1 := by simp [locV, sumE, entL]
theorem foff_single (e : Ent) : offV [e] = e.2.1 := by simp [offV, sumE, entO]
theorem fgain_zero (t : Int) : gainV 0 1 t = 0 := by simp [gainV]
theorem fraw_single (l o t : Int) : rawV l o 0 1 t = t + o := by unfold rawV; rw [fgain_zero]; omega
theorem fmost_single {e : Ent} (h : CanE e) : mostL [e] = e.2.2 := by
  have := h.h1
  unfold mostL
  simp
  omega
/-- One entry tells the time as it was, and what went by since. -/
theorem single_tells {f : FS} {e : Ent} (hL : f.L = [e]) (hc : CanE e) (hm : minB f = false) (hn : f.need = 1) {lo : Int} (h1 : CanT lo) (h2 : CanT (lo + e.2.1)) : Tells f lo (lo + e.2.1) e.2.2 0 := by
  refine .inr (.inr (.inr ⟨?_, (timeB_iff lo).2 h1, hm, lo + e.2.1, true, ?_, .inl ⟨rfl, rfl, ?_, rfl⟩⟩))
  · unfold synB
    rw [hL, hn]
    exact decide_eq_true (.inr (by simp))
  · rw [hL, fof_single, floc_single, foff_single]
    exact ⟨.inl ⟨h1, by rw [fraw_single]; exact h2, by rw [fraw_single], rfl⟩⟩
  · rw [hL, fmost_single hc]
theorem lrules_any (w : World) (a b c d : Int) : Calls Try.prog 9 #[.agg #[.int .i64 a, .int .i64 b, .int .i64 c, .int .i64 d]] w fun e w' => e = .returned (.agg #[.int .i64 a, .int .i64 b, .int .i64 c, .int .i64 d]) ∧ Below w.heap.size w w' := by
  go_enter Try.func9, Try.ntmps9
  go_wp2
  have hb1 := below_alloc w (.cells #[.int .i64 a, .int .i64 b, .int .i64 c, .int .i64 d] 23)
  refine bodyPost_ret (results_cell_row rfl _ _ (w.heap.size + 1) 33 _ (0, 0) _ rfl (by have := heap_alloc_new (w.alloc (.cells #[.int .i64 a, .int .i64 b, .int .i64 c, .int .i64 d] 23)) (.cells #[.int .i64 a, .int .i64 b, .int .i64 c, .int .i64 d] 33); simpa using this) Try.underlying33 rfl (by kernel_rfl)) rfl ?_
  exact ⟨rfl, hb1.alloc hb1.size _⟩
theorem lsync_any (w : World) (p0 p1 p2 p3 p4 p5 p6 p7 p8 p9 p10 p11 p12 p13 : Int) : Calls Try.prog 11 #[.agg #[.int .i64 p0, .int .i64 p1, .int .i64 p2, .int .i64 p3, .int .u16 p4, .int .u16 p5, .int .i64 p6, .int .i64 p7, .int .i64 p8, .int .i64 p9, .int .i64 p10, .int .i64 p11, .int .i64 p12, .int .i64 p13]] w fun e w' =>
    e = .returned (.agg #[.int .i64 p1, .int .i64 p3, .int .u16 p4, .int .u16 p5, .int .i64 p6, .int .i64 p7]) ∧ Below w.heap.size w w' := by
  go_enter Try.func11, Try.ntmps11
  go_wp2
  have hb1 := below_alloc w (.cells #[.int .i64 p0, .int .i64 p1, .int .i64 p2, .int .i64 p3, .int .u16 p4, .int .u16 p5, .int .i64 p6, .int .i64 p7, .int .i64 p8, .int .i64 p9, .int .i64 p10, .int .i64 p11, .int .i64 p12, .int .i64 p13] 37)
  refine bodyPost_ret (results_cell_row rfl _ _ (w.heap.size + 1) 43 _ (0, 0) _ rfl (by have := heap_alloc_new (w.alloc (.cells #[.int .i64 p0, .int .i64 p1, .int .i64 p2, .int .i64 p3, .int .u16 p4, .int .u16 p5, .int .i64 p6, .int .i64 p7, .int .i64 p8, .int .i64 p9, .int .i64 p10, .int .i64 p11, .int .i64 p12, .int .i64 p13] 37)) (.cells #[.int .i64 p1, .int .i64 p3, .int .u16 p4, .int .u16 p5, .int .i64 p6, .int .i64 p7] 43); simpa using this) Try.underlying43 rfl (by kernel_rfl)) rfl ?_
  exact ⟨rfl, hb1.alloc hb1.size _⟩
section
variable {w wr w' : World} {T : TypeId} {C : Array Value} {gf g b n n' : Nat} {f f' : FS}
/-- A law's own block, and a node that is younger. -/
structure Lf (w wr : World) (T : TypeId) (C : Array Value) (gf g b n : Nat) (f : FS) : Prop where
  box : Box w T C wr
  fo : Fo wr (w.heap.size + 1) gf g b n f
  inv : FInv f
theorem Lf.start {w1 : World} (hB : Box w T C w1) (hE : Fo wr w1.heap.size gf g b n f) (hI : FInv f) (hb : Below w1.heap.size w1 wr) : Lf w wr T C gf g b n f :=
  ⟨hB.next hb, hE.at (by have := hB.lt; omega), hI⟩
theorem Lf.low (h : Lf w wr T C gf g b n f) : ∀ k, fpart gf g b k → w.heap.size + 1 ≤ k := fun k hk => by
  have h1 := h.fo.newer
  have h2 := h.fo.node.newer
  rcases hk with rfl | rfl | rfl
  · exact h1
  · exact h2.1
  · exact h2.2
theorem Lf.below (h : Lf w wr T C gf g b n f) (hb : Below wr.heap.size wr w') : Lf w w' T C gf g b n f := ⟨h.box.next hb, h.fo.below hb, h.inv⟩
theorem Lf.alloc (h : Lf w wr T C gf g b n f) (o : Obj) : Lf w (wr.alloc o) T C gf g b n f := h.below (below_alloc _ _)
theorem Lf.drewN (h : Lf w wr T C gf g b n f) (m : Nat) : Lf w (wr.drewN m) T C gf g b n f := h.below (below_drewN (Below.refl _ _) m)
theorem Lf.drew (h : Lf w wr T C gf g b n f) : Lf w wr.drew T C gf g b n f := h.drewN 1
theorem Lf.mono (h : Lf w wr T C gf g b n f) (hn : n ≤ n') : Lf w wr T C gf g b n' f := ⟨h.box, h.fo.mono hn, h.inv⟩
theorem Lf.law (h : Lf w wr T C gf g b n f) : Below w.heap.size w wr := h.box.below
theorem Lf.box_low (h : Lf w wr T C gf g b n f) : ¬ fpart gf g b w.heap.size := fun k => by have := h.low _ k; omega
/-- A step of the node. -/
theorem Lf.step (h : Lf w wr T C gf g b n f) (hg : FGoes (w.heap.size + 1) gf g b n' f' wr w') (hI : FInv f') : ∃ b', Lf w w' T C gf g b' n' f' ∧ Chg (fpart gf g b) wr w' := by
  obtain ⟨b', h1, h2, h3⟩ := hg
  exact ⟨b', ⟨⟨h.box.holds.chg h2 h.box_low, Below.chg h.box.below h2 (Nat.le_of_lt h.box.lt) (fun k hk => by have := h.low k hk; omega)⟩, h1, hI⟩, h2⟩
/-- Another block of the law's own stays. -/
theorem Lf.other (h : Lf w wr T C gf g b n f) {o : Nat} {ty : TypeId} {cs : Array Value} (HO : Holds wr o ty cs) (hT : ty ≠ 55 ∧ ty ≠ 74) (hc : Chg (fpart gf g b) wr w') : Holds w' o ty cs := by
  obtain ⟨K, hK⟩ := h.fo.tab
  have h1 : o ≠ gf := HO.apart hK.holds hT.1
  have h2 : o ≠ g := HO.apart h.fo.node.holds hT.2
  have h3 : o ≠ b := h.fo.node.km.apart HO
  exact HO.chg hc (fun k => by rcases k with e | e | e <;> contradiction)
/-- A block of the law's own is written: the node stays. -/
theorem Lf.row (h : Lf w wr T C gf g b n f) {o : Nat} {ty : TypeId} {cs : Array Value} (HO : Holds wr o ty cs) (hT : ty ≠ 55 ∧ ty ≠ 74) (ho : w.heap.size < o) (cs' : Array Value) : Lf w (wr.setRow o cs') T C gf g b n f := by
  obtain ⟨K, hK⟩ := h.fo.tab
  have h1 : o ≠ gf := HO.apart hK.holds hT.1
  have h2 : o ≠ g := HO.apart h.fo.node.holds hT.2
  have h3 : o ≠ b := h.fo.node.km.apart HO
  have hc : Chg (fun k => k = o) wr (wr.setRow o cs') := Chg.of_grown (grown_row wr o _) (fun k e => by cases e; rfl)
  refine ⟨⟨h.box.holds.chg hc (fun e => by omega), Below.chg h.box.below hc (Nat.le_of_lt h.box.lt) (fun k e => by omega)⟩, h.fo.chg hc (fun k hk e => ?_), h.inv⟩
  cases e
  rcases hk with e | e | e <;> contradiction
end
end Go.Proofs.Ytdnmgpendacjoaa

/- What the stage's laws ask first: what the document tells. -/
namespace Go.Proofs.Ytdnmgpendacjoaa
open Go.RowKit
set_option linter.unusedVariables false
set_option linter.unusedSimpArgs false

set_option maxHeartbeats 2000000 in
set_option maxRecDepth 100000 in
theorem alive_yes (w : World) : Calls Try.prog 7 #[] w fun e w' => e = .returned (.bool true) ∧ Below w.heap.size w w' := by
  have hnew := fun W => fnew_yes W 5 3 0 1 10 (by decide)
  have hI0 : FInv (newF 5 3 0 1 10 0) := FInv.new (by decide) ⟨by decide, by decide⟩
  have hI1 : FInv (hearFS (newF 5 3 0 1 10 0) 3 0 1 500 0 100) := hI0.hear _ _ _ _ _ _ ⟨by decide, by decide⟩ ⟨by decide, by decide⟩
  have hv : hearFV (newF 5 3 0 1 10 0) 3 0 1 500 0 100 = 2 := by decide
  have hL : (hearFS (newF 5 3 0 1 10 0) 3 0 1 500 0 100).L = [(100, 400, 1)] := by decide
  have ht : Tells (hearFS (newF 5 3 0 1 10 0) 3 0 1 500 0 100) 150 550 1 0 := single_tells (e := (100, 400, 1)) (lo := 150) hL ⟨by decide, by decide, by decide, by decide, by decide, by decide⟩ (by decide) (by decide) ⟨by decide, by decide⟩ ⟨by decide, by decide⟩
  have hs : Says (beatF (hearFS (newF 5 3 0 1 10 0) 3 0 1 500 0 100)) 160 (5, 3, 0, 1, 1, 560) true (beatF (hearFS (newF 5 3 0 1 10 0) 3 0 1 500 0 100)) :=
    .inr (.inr (.inr (.inl ⟨by decide, by decide, by decide, by decide, by decide, rfl, rfl⟩)))
  obtain ⟨f0, hf0⟩ : ∃ f0, newF 5 3 0 1 10 0 = f0 := ⟨_, rfl⟩
  rw [hf0] at hI0 hI1 hv ht hs
  simp only [hf0] at hnew
  have hhear := fun V gf g b (h : Fo V w.heap.size gf g b 0 f0) => fhear_any V w.heap.size gf g b 0 f0 h hI0 (by omega) 3 3 0 1 0 500 100 ⟨by decide, by decide⟩ ⟨by decide, by decide⟩ ⟨by decide, by decide⟩
  unfold FHeard at hhear
  rw [hv] at hhear
  obtain ⟨f1, hf1⟩ : ∃ f1, hearFS f0 3 0 1 500 0 100 = f1 := ⟨_, rfl⟩
  rw [hf1] at hI1 ht hs
  simp only [hf1] at hhear
  have htime := fun V gf g b (h : Fo V w.heap.size gf g b 1 f1) => ftell_any V w.heap.size gf g b 1 f1 h hI1 150 550 1 0 ht
  have hbeat := fun V gf g b (h : Fo V w.heap.size gf g b 1 f1) => fbeat_any V w.heap.size gf g b 1 f1 h hI1 160 ⟨by decide, by decide⟩ (5, 3, 0, 1, 1, 560) true _ hs
  unfold wordV at hbeat
  have HH := Lib.hid hhear
  have HT := Lib.hid htime
  have HB := Lib.hid hbeat
  have HN := Lib.hid hnew
  have H0 := Lib.hid (Below.refl w.heap.size w)
  clear hI0 hI1 hv hL ht hs hf0 hf1 hhear htime hbeat hnew
  go_enter Try.func7, Try.ntmps7
  go_wp2_with (first
    | (go_at_call 9; refine (lrules_any _ _ _ _ _).mono ?_; rintro e w1 ⟨rfl, hb1⟩; have H1 := Lib.hid hb1; clear hb1)
    | (go_at_call 8; refine (HN.out _).mono ?_; rintro e w2 ⟨gf, g, b, rfl, hF2, hb2⟩; have HF2 := Lib.hid (hF2.at H1.out.size); have H2 := Lib.hid (H1.out.trans (hb2.mono H1.out.size)); have hh := HH.out _ _ _ _ HF2.out; clear hF2 hb2)
    | (go_at_call 10; refine hh.mono ?_; rintro e w3 ⟨rfl, b3, hF3, hc3, -⟩; have H3 := Lib.hid (Below.chg H2.out hc3 H2.out.size (fun k hk => by rcases hk with e | e | e <;> rw [e] <;> first | exact HF2.out.newer | exact HF2.out.node.newer.1 | exact HF2.out.node.newer.2)); have HF3 := Lib.hid hF3; have ht := HT.out _ _ _ _ hF3; clear hh hF3 hc3)
    | (go_at_call 18; refine ht.mono ?_; rintro e w4 ⟨rfl, hb4⟩; have HF4 := Lib.hid (HF3.out.below hb4); have H4 := Lib.hid (H3.out.trans (hb4.mono H3.out.size)); have hbt := HB.out _ _ _ _ HF4.out; clear ht hb4)
    | (go_at_call 13; refine hbt.mono ?_; rintro e w5 ⟨rfl, b5, hF5, hc5, -⟩; have H5 := Lib.hid (Below.chg H4.out hc5 H4.out.size (fun k hk => by rcases hk with e | e | e <;> rw [e] <;> first | exact HF4.out.newer | exact HF4.out.node.newer.1 | exact HF4.out.node.newer.2)); clear hbt hF5 hc5))
  go_ret
  exact ⟨rfl, H5.out.alloc H5.out.size _⟩
end Go.Proofs.Ytdnmgpendacjoaa
