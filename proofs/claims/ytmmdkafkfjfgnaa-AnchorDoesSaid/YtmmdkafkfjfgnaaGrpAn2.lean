/- Texts of this seat, one behind the other. -/
import Derived.Test.YtmmdkafkfjfgnaaGrpAn1
import Derived.Great.BuildSlice
import Derived.LoopTactic
import Derived.Deep.CutBlock
import Derived.Deep.RegionLaw
import Derived.BigQuiet
import Derived.Test.YtmmdkafkfjfgnaaProg
import Derived.Outline
import Derived.PlainAid
import Derived.OwnWalk
import Derived.Deep.QuietTactic
import Derived.Deep.CutRange
import Derived.Lib.AppendIntMem
import Derived.Lib.SmallJoins
import Derived.Laws.Concat
import Derived.Lib.OthersKept
import Derived.Laws.RangeAny
import Derived.Laws.DeepStrings4
/- Package anchor: Hear, Make. -/
namespace Go.Proofs.Ytmmdkafkfjfgnaa
open Go.RowKit
set_option linter.unusedVariables false
set_option linter.unusedSimpArgs false

theorem BGoes.answer {w W : World} {x y : Nat} {s : BS} (h : BGoes x s w W) (hy : w.heap.size ≤ y) (hxy : x < w.heap.size) (c : Array Value) : BGoes x s w (W.setRow y c) := by
  have hg := grown_row W y c
  exact ⟨Holds.grown h.1 hg (fun e => absurd (Option.some.inj e) (by omega)), h.2.trans (Chg.of_grown hg (S := fun k => w.heap.size ≤ k) (fun k e => by cases e; omega)) (fun k hk e => by omega)⟩
theorem BGoes.more {w W W' : World} {x : Nat} {s : BS} (h : BGoes x s w W) (hb : Below W.heap.size W W') : BGoes x s w W' := ⟨h.1.below hb, h.2.trans (Chg.of_below (fun _ => False) hb) (fun _ _ e => e.elim)⟩
set_option maxHeartbeats 4000000 in
set_option maxRecDepth 100000 in
theorem ahear_nil (f q r b g t : Int) (w : World) : Calls Try.prog 13 #[.pointer none, .agg #[.int .i64 f, .int .u16 q, .int .i64 r, .int .u16 b, .int .i64 g, .int .i64 t]] w fun e w' => e = .returned (.bool false) ∧ Below w.heap.size w w' := by
  go_enter Try.func13, Try.ntmps13
  go_wp2
  go_ret
  exact ⟨rfl, below_alloc _ _⟩
set_option maxHeartbeats 4000000 in
set_option maxRecDepth 100000 in
theorem ahear_bad (w : World) (x : Nat) (s : BS) (h : Bk w x s) (f q r b g t : Int) (ff : Fits f) (hq : F16 q) (fr : Fits r) (hb : F16 b) (fg : Fits g) (ft : Fits t) (ha : ancB f q r b g t = false) : Calls Try.prog 13 #[.pointer (some ⟨x, 0, none⟩), .agg #[.int .i64 f, .int .u16 q, .int .i64 r, .int .u16 b, .int .i64 g, .int .i64 t]] w fun e w' => e = .returned (.bool false) ∧ BGoes x s w w' := by
  have HH := Lib.hid h
  have HG := Lib.hid (fun W => agood_any f q r b g t W ff hq fr hb fg ft)
  have hX := Box.start w 31 #[.int .i64 f, .int .u16 q, .int .i64 r, .int .u16 b, .int .i64 g, .int .i64 t]
  clear h ff fr fg ft
  rw [ha] at HG
  clear ha hq hb
  go_enter Try.func13, Try.ntmps13
  go_upto_region 1 with (fail)
  obtain ⟨V, hV⟩ : ∃ V, V = w.alloc (.cells #[.int .i64 f, .int .u16 q, .int .i64 r, .int .u16 b, .int .i64 g, .int .i64 t] 31) := ⟨_, rfl⟩
  rw [← hV] at hX ⊢
  clear hV
  have x0 := hX.holds.cell 0
  have x1 := hX.holds.cell 1
  have x2 := hX.holds.cell 2
  have x3 := hX.holds.cell 3
  have x4 := hX.holds.cell 4
  have x5 := hX.holds.cell 5
  have HX := Lib.hid hX
  clear hX
  go_wp2_with (go_at_call 26; refine (HG.out _).mono ?_; rintro e w1 ⟨rfl, hb1⟩; replace HX := Lib.hid (HX.out.next hb1); clear hb1 x0 x1 x2 x3 x4 x5)
  go_ret
  exact ⟨rfl, BGoes.of_below HH.out HX.out.below⟩
set_option maxHeartbeats 4000000 in
set_option maxRecDepth 100000 in
theorem ahear_first (w : World) (x : Nat) (s : BS) (h : Bk w x s) (f q r b g t : Int) (ff : Fits f) (hq : F16 q) (fr : Fits r) (hb : F16 b) (fg : Fits g) (ft : Fits t) (ha : ancB f q r b g t = true) (hh : s.has = false) : Calls Try.prog 13 #[.pointer (some ⟨x, 0, none⟩), .agg #[.int .i64 f, .int .u16 q, .int .i64 r, .int .u16 b, .int .i64 g, .int .i64 t]] w fun e w' => e = .returned (.bool true) ∧ BGoes x ⟨true, f, q, r, b, g, t⟩ w w' := by
  have HH := Lib.hid h
  have HG := Lib.hid (fun W => agood_any f q r b g t W ff hq fr hb fg ft)
  have hX := Box.start w 31 #[.int .i64 f, .int .u16 q, .int .i64 r, .int .u16 b, .int .i64 g, .int .i64 t]
  clear h ff fr fg ft
  rw [ha] at HG
  clear ha hq hb
  go_enter Try.func13, Try.ntmps13
  go_upto_region 1 with (fail)
  obtain ⟨V, hV⟩ : ∃ V, V = w.alloc (.cells #[.int .i64 f, .int .u16 q, .int .i64 r, .int .u16 b, .int .i64 g, .int .i64 t] 31) := ⟨_, rfl⟩
  rw [← hV] at hX ⊢
  clear hV
  have x0 := hX.holds.cell 0
  have x1 := hX.holds.cell 1
  have x2 := hX.holds.cell 2
  have x3 := hX.holds.cell 3
  have x4 := hX.holds.cell 4
  have x5 := hX.holds.cell 5
  have HX := Lib.hid hX
  clear hX
  go_upto_region 3 with (go_at_call 26; refine (HG.out _).mono ?_; rintro e w1 ⟨rfl, hb1⟩; replace HX := Lib.hid (HX.out.next hb1); clear hb1 x0 x1 x2 x3 x4 x5; have x1 := HX.out.holds.cell 1; have hk := HH.out.below HX.out.below; have k1 := hk.c1; have k6 := hk.c6; rw [hh] at k6; clear hk)
  go_quiet (fail)
  replace HX := Lib.hid (HX.out.drewN nq)
  clear x1 k1 k6
  have x0 := HX.out.holds.cell 0
  have x1 := HX.out.holds.cell 1
  have x2 := HX.out.holds.cell 2
  have x3 := HX.out.holds.cell 3
  have x4 := HX.out.holds.cell 4
  have x5 := HX.out.holds.cell 5
  go_wp2_with (refine wpList_store_at rfl 33 (.tmp 31) (.tmp 30) rfl x 0 (bk7 ⟨true, f, q, r, b, g, t⟩) rfl rfl 33 (bk7 s) (HH.out.below HX.out.below) bk_size (Nat.le_refl 7) (bk7_one _) ?_; rw [splice_all (bk7 s) (bk7 ⟨true, f, q, r, b, g, t⟩) rfl]; have HGO := Lib.hid (BGoes.row (s' := ⟨true, f, q, r, b, g, t⟩) HH.out HX.out.below))
  go_ret
  exact ⟨rfl, HGO.out⟩
set_option maxHeartbeats 4000000 in
set_option maxRecDepth 100000 in
theorem ahear_old (w : World) (x : Nat) (s : BS) (h : Bk w x s) (f q r b g t : Int) (ff : Fits f) (hq : F16 q) (fr : Fits r) (hb : F16 b) (fg : Fits g) (ft : Fits t) (ha : ancB f q r b g t = true) (hh : s.has = true) (hn : newB q s.q = false) : Calls Try.prog 13 #[.pointer (some ⟨x, 0, none⟩), .agg #[.int .i64 f, .int .u16 q, .int .i64 r, .int .u16 b, .int .i64 g, .int .i64 t]] w fun e w' => e = .returned (.bool false) ∧ BGoes x s w w' := by
  have HH := Lib.hid h
  have HG := Lib.hid (fun W => agood_any f q r b g t W ff hq fr hb fg ft)
  have hX := Box.start w 31 #[.int .i64 f, .int .u16 q, .int .i64 r, .int .u16 b, .int .i64 g, .int .i64 t]
  clear h ff fr fg ft
  rw [ha] at HG
  have HNB := Lib.hid hn
  clear ha hq hb hn
  go_enter Try.func13, Try.ntmps13
  go_upto_region 1 with (fail)
  obtain ⟨V, hV⟩ : ∃ V, V = w.alloc (.cells #[.int .i64 f, .int .u16 q, .int .i64 r, .int .u16 b, .int .i64 g, .int .i64 t] 31) := ⟨_, rfl⟩
  rw [← hV] at hX ⊢
  clear hV
  have x0 := hX.holds.cell 0
  have x1 := hX.holds.cell 1
  have x2 := hX.holds.cell 2
  have x3 := hX.holds.cell 3
  have x4 := hX.holds.cell 4
  have x5 := hX.holds.cell 5
  have HX := Lib.hid hX
  clear hX
  go_upto_region 3 with (go_at_call 26; refine (HG.out _).mono ?_; rintro e w1 ⟨rfl, hb1⟩; replace HX := Lib.hid (HX.out.next hb1); clear hb1 x0 x1 x2 x3 x4 x5; have x1 := HX.out.holds.cell 1; have hk := HH.out.below HX.out.below; have k1 := hk.c1; have k6 := hk.c6; rw [hh] at k6; clear hk)
  go_quiet ((go_at_call 27; exact Calls.quiet_of_same ((newer_any q s.q _).mono (by rintro e w' ⟨rfl, hw⟩; rw [HNB.out]; exact ⟨rfl, hw.symm⟩))))
  replace HX := Lib.hid (HX.out.drewN nq)
  clear x1 k1 k6
  go_wp2
  go_ret
  exact ⟨rfl, BGoes.of_below HH.out HX.out.below⟩
set_option maxHeartbeats 4000000 in
set_option maxRecDepth 100000 in
theorem ahear_next (w : World) (x : Nat) (s : BS) (h : Bk w x s) (f q r b g t : Int) (ff : Fits f) (hq : F16 q) (fr : Fits r) (hb : F16 b) (fg : Fits g) (ft : Fits t) (ha : ancB f q r b g t = true) (hh : s.has = true) (hn : newB q s.q = true) : Calls Try.prog 13 #[.pointer (some ⟨x, 0, none⟩), .agg #[.int .i64 f, .int .u16 q, .int .i64 r, .int .u16 b, .int .i64 g, .int .i64 t]] w fun e w' => e = .returned (.bool true) ∧ BGoes x ⟨true, f, q, r, b, g, t⟩ w w' := by
  have HH := Lib.hid h
  have HG := Lib.hid (fun W => agood_any f q r b g t W ff hq fr hb fg ft)
  have hX := Box.start w 31 #[.int .i64 f, .int .u16 q, .int .i64 r, .int .u16 b, .int .i64 g, .int .i64 t]
  clear h ff fr fg ft
  rw [ha] at HG
  have HNB := Lib.hid hn
  clear ha hq hb hn
  go_enter Try.func13, Try.ntmps13
  go_upto_region 1 with (fail)
  obtain ⟨V, hV⟩ : ∃ V, V = w.alloc (.cells #[.int .i64 f, .int .u16 q, .int .i64 r, .int .u16 b, .int .i64 g, .int .i64 t] 31) := ⟨_, rfl⟩
  rw [← hV] at hX ⊢
  clear hV
  have x0 := hX.holds.cell 0
  have x1 := hX.holds.cell 1
  have x2 := hX.holds.cell 2
  have x3 := hX.holds.cell 3
  have x4 := hX.holds.cell 4
  have x5 := hX.holds.cell 5
  have HX := Lib.hid hX
  clear hX
  go_upto_region 3 with (go_at_call 26; refine (HG.out _).mono ?_; rintro e w1 ⟨rfl, hb1⟩; replace HX := Lib.hid (HX.out.next hb1); clear hb1 x0 x1 x2 x3 x4 x5; have x1 := HX.out.holds.cell 1; have hk := HH.out.below HX.out.below; have k1 := hk.c1; have k6 := hk.c6; rw [hh] at k6; clear hk)
  go_quiet ((go_at_call 27; exact Calls.quiet_of_same ((newer_any q s.q _).mono (by rintro e w' ⟨rfl, hw⟩; rw [HNB.out]; exact ⟨rfl, hw.symm⟩))))
  replace HX := Lib.hid (HX.out.drewN nq)
  clear x1 k1 k6
  have x0 := HX.out.holds.cell 0
  have x1 := HX.out.holds.cell 1
  have x2 := HX.out.holds.cell 2
  have x3 := HX.out.holds.cell 3
  have x4 := HX.out.holds.cell 4
  have x5 := HX.out.holds.cell 5
  go_wp2_with (refine wpList_store_at rfl 33 (.tmp 31) (.tmp 30) rfl x 0 (bk7 ⟨true, f, q, r, b, g, t⟩) rfl rfl 33 (bk7 s) (HH.out.below HX.out.below) bk_size (Nat.le_refl 7) (bk7_one _) ?_; rw [splice_all (bk7 s) (bk7 ⟨true, f, q, r, b, g, t⟩) rfl]; have HGO := Lib.hid (BGoes.row (s' := ⟨true, f, q, r, b, g, t⟩) HH.out HX.out.below))
  go_ret
  exact ⟨rfl, HGO.out⟩
theorem ahear_any (w : World) (x : Nat) (s : BS) (h : Bk w x s) (f q r b g t : Int) (ff : Fits f) (hq : F16 q) (fr : Fits r) (hb : F16 b) (fg : Fits g) (ft : Fits t) : Calls Try.prog 13 #[.pointer (some ⟨x, 0, none⟩), .agg #[.int .i64 f, .int .u16 q, .int .i64 r, .int .u16 b, .int .i64 g, .int .i64 t]] w fun e w' => e = .returned (.bool (anHeard s f q r b g t)) ∧ BGoes x (anHear s f q r b g t) w w' := by
  unfold anHear anHeard
  cases ha : ancB f q r b g t with
  | false => exact ahear_bad w x s h f q r b g t ff hq fr hb fg ft ha
  | true =>
    cases hh : s.has with
    | false => exact ahear_first w x s h f q r b g t ff hq fr hb fg ft ha hh
    | true =>
      cases hn : newB q s.q with
      | false => exact ahear_old w x s h f q r b g t ff hq fr hb fg ft ha hh hn
      | true => exact ahear_next w x s h f q r b g t ff hq fr hb fg ft ha hh hn
set_option maxHeartbeats 4000000 in
set_option maxRecDepth 100000 in
theorem amake_nil (me ti ho ro bo wy ta : Int) (w : World) : Calls Try.prog 11 #[.pointer none, .int .i64 me, .agg #[.int .i64 ti, .int .i64 ho, .int .i64 ro, .int .u16 bo, .int .i64 wy], .int .i64 ta] w fun e w' => e = .returned (.tuple #[.agg #[.int .i64 0, .int .u16 0, .int .i64 0, .int .u16 0, .int .i64 0, .int .i64 0], .int .i64 2]) ∧ Below w.heap.size w w' := by
  have HD := Lib.hid (Duo.start w 48 31 #[.int .i64 ti, .int .i64 ho, .int .i64 ro, .int .u16 bo, .int .i64 wy] #[.int .i64 0, .int .u16 0, .int .i64 0, .int .u16 0, .int .i64 0, .int .i64 0])
  go_enter Try.func11, Try.ntmps11
  go_wp2
  refine bodyPost_ret (results_row_tmp rfl _ _ (w.heap.size + 1) 31 (an6 0 0 0 0 0 0) _ _ rfl HD.out.two Try.underlying31 rfl an_size rfl) rfl ?_
  exact ⟨rfl, HD.out.below⟩
theorem an6_cells {w : World} {x : Nat} {T : TypeId} {f q r b g t : Int} (h : Holds w x T (an6 f q r b g t).toArray) : w.cell? ⟨x, 0, none⟩ = some (.int .i64 f) ∧ w.cell? ⟨x, 1, none⟩ = some (.int .u16 q) ∧ w.cell? ⟨x, 2, none⟩ = some (.int .i64 r) ∧ w.cell? ⟨x, 3, none⟩ = some (.int .u16 b) ∧ w.cell? ⟨x, 4, none⟩ = some (.int .i64 g) ∧ w.cell? ⟨x, 5, none⟩ = some (.int .i64 t) :=
  ⟨h.cell 0, h.cell 1, h.cell 2, h.cell 3, h.cell 4, h.cell 5⟩
theorem next_16 (a : Int) : F16 (nextV a) := by unfold nextV F16; omega
theorem Duo.aside {w0 w : World} {ta tb : TypeId} {ca cb : Array Value} (h : Duo w0 ta tb ca cb w) {x : Nat} (hx : w0.heap.size + 1 < x) (c : Array Value) : Duo w0 ta tb ca cb (w.setRow x c) := by
  have hg := grown_row w x c
  exact ⟨Below.chg h.below (Chg.of_grown hg (S := fun k => k = x) (fun k e => by cases e; rfl)) h.below.size (fun k e => by omega), h.one.grown hg (fun e => absurd (Option.some.inj e) (by omega)), h.two.grown hg (fun e => absurd (Option.some.inj e) (by omega))⟩
set_option maxHeartbeats 4000000 in
set_option maxRecDepth 100000 in
theorem amake_no (w : World) (x : Nat) (s : BS) (h : Bk w x s) (me ti ho ro bo wy ta : Int) (fm : Fits me) (fr : Fits ro) (hb : F16 bo) (ft : Fits ti) (fa : Fits ta) (hM : anMade s me ro bo ti ta = false) : Calls Try.prog 11 #[.pointer (some ⟨x, 0, none⟩), .int .i64 me, .agg #[.int .i64 ti, .int .i64 ho, .int .i64 ro, .int .u16 bo, .int .i64 wy], .int .i64 ta] w fun e w' => e = .returned (.tuple #[.agg #[.int .i64 0, .int .u16 0, .int .i64 0, .int .u16 0, .int .i64 0, .int .i64 0], .int .i64 1]) ∧ BGoes x s w w' := by
  have HLT := Lib.hid h.lt
  have HG := Lib.hid (fun W => agood_any me (nextV s.q) ro bo ti ta W fm (next_16 s.q) fr hb ft fa)
  have hm : anMade s me ro bo ti ta = ancB me (nextV s.q) ro bo ti ta := rfl
  rw [← hm, hM] at HG
  clear hm hM
  obtain ⟨N, hN⟩ : ∃ N, nextV s.q = N := ⟨_, rfl⟩
  have HN := Lib.hid hN
  rw [hN] at HG
  (try rw [hN])
  clear hN
  have hD := Duo.start w 48 31 #[.int .i64 ti, .int .i64 ho, .int .i64 ro, .int .u16 bo, .int .i64 wy] #[.int .i64 0, .int .u16 0, .int .i64 0, .int .u16 0, .int .i64 0, .int .i64 0]
  have hB := h.below hD.below
  have HH := Lib.hid h
  go_enter Try.func11, Try.ntmps11
  go_upto_region 1 with (fail)
  obtain ⟨V, hV⟩ : ∃ V, V = (w.alloc (.cells #[.int .i64 ti, .int .i64 ho, .int .i64 ro, .int .u16 bo, .int .i64 wy] 48)).alloc (.cells #[.int .i64 0, .int .u16 0, .int .i64 0, .int .u16 0, .int .i64 0, .int .i64 0] 31) := ⟨_, rfl⟩
  rw [← hV] at hD hB ⊢
  clear hV h
  go_upto_region 3 with (fail)
  have HDV := Lib.hid hD
  have HBV := Lib.hid hB
  have HD := Lib.hid (hD.next (Below.refl _ _).drew)
  have HB := Lib.hid (show Bk V.drew x s from hB)
  clear hD hB
  refine region_turns (fun (w' : World) => w'.cell? ⟨x, 1, none⟩ = some (.int .u16 s.q) ∧ w'.cell? ⟨w.heap.size, 0, none⟩ = some (.int .i64 ti) ∧ w'.cell? ⟨w.heap.size, 2, none⟩ = some (.int .i64 ro) ∧ w'.cell? ⟨w.heap.size, 3, none⟩ = some (.int .u16 bo)) (fun j => decide (19 ≤ j)) (by kernel_rfl) (⟨HB.out.c1, HD.out.one.cell 0, HD.out.one.cell 2, HD.out.one.cell 3⟩) (fun hS => ?_)
  refine Turns.take hS 0 _ rfl (by kernel_rfl) (by kernel_rfl) (by kernel_rfl) (by kernel_rfl) (fun _ _ _ h => h) (by rfl) (fun w' hS' => by (try dsimp only at hS'); go_split_ands; go_simp; (try with_reducible rfl)) ?_
  simp only [Act.put, List.getElem_toArray, List.getElem_cons_succ, List.getElem_cons_zero, List.setIfInBounds_toArray, List.set_cons_zero, List.set_cons_succ]
  refine Turns.take hS 1 _ rfl (by kernel_rfl) (by kernel_rfl) (by kernel_rfl) (by kernel_rfl) (fun _ _ _ h => h) (by rfl) (fun w' hS' => by (try dsimp only at hS'); go_split_ands; go_simp; (try with_reducible rfl)) ?_
  simp only [Act.put, List.getElem_toArray, List.getElem_cons_succ, List.getElem_cons_zero, List.setIfInBounds_toArray, List.set_cons_zero, List.set_cons_succ]
  refine Turns.take hS 2 _ rfl (by kernel_rfl) (by kernel_rfl) (by kernel_rfl) (by kernel_rfl) (fun _ _ _ h => h) (by rfl) (fun w' hS' => by (try dsimp only at hS'); go_split_ands; go_simp; (try with_reducible rfl)) ?_
  simp only [Act.put, List.getElem_toArray, List.getElem_cons_succ, List.getElem_cons_zero, List.setIfInBounds_toArray, List.set_cons_zero, List.set_cons_succ]
  refine Turns.take hS 3 _ rfl (by kernel_rfl) (by kernel_rfl) (by kernel_rfl) (by kernel_rfl) (fun _ _ _ h => h) (by rfl) (fun w' hS' => by (try dsimp only at hS'); go_split_ands; go_simp; (try with_reducible rfl)) ?_
  simp only [Act.put, List.getElem_toArray, List.getElem_cons_succ, List.getElem_cons_zero, List.setIfInBounds_toArray, List.set_cons_zero, List.set_cons_succ]
  refine Turns.take hS 4 _ rfl (by kernel_rfl) (by kernel_rfl) (by kernel_rfl) (by kernel_rfl) (fun _ _ _ h => h) (by rfl) (fun w' hS' => by (try dsimp only at hS'); go_split_ands; go_simp; (try with_reducible rfl)) ?_
  simp only [Act.put, List.getElem_toArray, List.getElem_cons_succ, List.getElem_cons_zero, List.setIfInBounds_toArray, List.set_cons_zero, List.set_cons_succ]
  refine Turns.take hS 5 _ rfl (by kernel_rfl) (by kernel_rfl) (by kernel_rfl) (by kernel_rfl) (fun _ _ _ h => h) (by rfl) (fun w' hS' => by (try dsimp only at hS'); go_split_ands; go_simp; (try with_reducible rfl)) ?_
  simp only [Act.put, List.getElem_toArray, List.getElem_cons_succ, List.getElem_cons_zero, List.setIfInBounds_toArray, List.set_cons_zero, List.set_cons_succ]
  refine Turns.take hS 7 _ rfl (by kernel_rfl) (by kernel_rfl) (by kernel_rfl) (by kernel_rfl) (fun _ _ _ h => h) (by rfl) (fun w' hS' => by (try dsimp only at hS'); go_split_ands; go_simp; (try with_reducible rfl)) ?_
  simp only [Act.put, List.getElem_toArray, List.getElem_cons_succ, List.getElem_cons_zero, List.setIfInBounds_toArray, List.set_cons_zero, List.set_cons_succ]
  refine Turns.take hS 8 _ rfl (by kernel_rfl) (by kernel_rfl) (by kernel_rfl) (by kernel_rfl) (fun _ _ _ h => h) (by rfl) (fun w' hS' => by (try dsimp only at hS'); go_split_ands; go_simp; (try with_reducible rfl)) ?_
  simp only [Act.put, List.getElem_toArray, List.getElem_cons_succ, List.getElem_cons_zero, List.setIfInBounds_toArray, List.set_cons_zero, List.set_cons_succ]
  refine Turns.take hS 9 _ rfl (by kernel_rfl) (by kernel_rfl) (by kernel_rfl) (by kernel_rfl) (fun _ _ _ h => h) (by rfl) (fun w' hS' => by (try dsimp only at hS'); go_split_ands; go_simp; (try with_reducible rfl)) ?_
  simp only [Act.put, List.getElem_toArray, List.getElem_cons_succ, List.getElem_cons_zero, List.setIfInBounds_toArray, List.set_cons_zero, List.set_cons_succ]
  refine Turns.take hS 10 _ rfl (by kernel_rfl) (by kernel_rfl) (by kernel_rfl) (by kernel_rfl) (fun _ _ _ h => h) (by rfl) (fun w' hS' => by (try dsimp only at hS'); go_split_ands; go_simp; (try with_reducible rfl)) ?_
  simp only [Act.put, List.getElem_toArray, List.getElem_cons_succ, List.getElem_cons_zero, List.setIfInBounds_toArray, List.set_cons_zero, List.set_cons_succ]
  refine Turns.take hS 11 _ rfl (by kernel_rfl) (by kernel_rfl) (by kernel_rfl) (by kernel_rfl) (fun _ _ _ h => h) (by rfl) (fun w' hS' => by (try dsimp only at hS'); go_split_ands; go_simp; (try with_reducible rfl)) ?_
  simp only [Act.put, List.getElem_toArray, List.getElem_cons_succ, List.getElem_cons_zero, List.setIfInBounds_toArray, List.set_cons_zero, List.set_cons_succ]
  refine Turns.take hS 12 _ rfl (by kernel_rfl) (by kernel_rfl) (by kernel_rfl) (by kernel_rfl) (fun _ _ _ h => h) (by rfl) (fun w' hS' => by (try dsimp only at hS'); go_split_ands; go_simp; (try with_reducible rfl)) ?_
  simp only [Act.put, List.getElem_toArray, List.getElem_cons_succ, List.getElem_cons_zero, List.setIfInBounds_toArray, List.set_cons_zero, List.set_cons_succ]
  refine Turns.take hS 13 _ rfl (by kernel_rfl) (by kernel_rfl) (by kernel_rfl) (by kernel_rfl) (fun _ _ _ h => h) (by rfl) (fun w' hS' => by (try dsimp only at hS'); go_split_ands; go_simp; (try with_reducible rfl)) ?_
  simp only [Act.put, List.getElem_toArray, List.getElem_cons_succ, List.getElem_cons_zero, List.setIfInBounds_toArray, List.set_cons_zero, List.set_cons_succ]
  refine Turns.take hS 14 _ rfl (by kernel_rfl) (by kernel_rfl) (by kernel_rfl) (by kernel_rfl) (fun _ _ _ h => h) (by rfl) (fun w' hS' => by (try dsimp only at hS'); go_split_ands; go_simp; (try with_reducible rfl)) ?_
  simp only [Act.put, List.getElem_toArray, List.getElem_cons_succ, List.getElem_cons_zero, List.setIfInBounds_toArray, List.set_cons_zero, List.set_cons_succ]
  refine Turns.take hS 15 _ rfl (by kernel_rfl) (by kernel_rfl) (by kernel_rfl) (by kernel_rfl) (fun _ _ _ h => h) (by rfl) (fun w' hS' => by (try dsimp only at hS'); go_split_ands; go_simp; (try with_reducible rfl)) ?_
  simp only [Act.put, List.getElem_toArray, List.getElem_cons_succ, List.getElem_cons_zero, List.setIfInBounds_toArray, List.set_cons_zero, List.set_cons_succ]
  refine Turns.either 6 17 rfl rfl (by kernel_rfl) (by rfl) (by rfl) (fun K hK => ?_) (fun K hK => ?_)
  · go_simp
    go_at_call 25
    refine (next_any s.q _).mono ?_
    rintro e wx ⟨rfl, hwx⟩
    rw [HN.out]
    subst wx
    refine hK.out _ _ (show (fun (w' : World) => w'.cell? ⟨x, 1, none⟩ = some (.int .u16 s.q) ∧ w'.cell? ⟨w.heap.size, 0, none⟩ = some (.int .i64 ti) ∧ w'.cell? ⟨w.heap.size, 2, none⟩ = some (.int .i64 ro) ∧ w'.cell? ⟨w.heap.size, 3, none⟩ = some (.int .u16 bo)) _ from ⟨HB.out.c1, HD.out.one.cell 0, HD.out.one.cell 2, HD.out.one.cell 3⟩) ?_
    clear hK K hS
    have hS := (show (fun (w' : World) => w'.cell? ⟨x, 1, none⟩ = some (.int .u16 s.q) ∧ w'.cell? ⟨w.heap.size, 0, none⟩ = some (.int .i64 ti) ∧ w'.cell? ⟨w.heap.size, 2, none⟩ = some (.int .i64 ro) ∧ w'.cell? ⟨w.heap.size, 3, none⟩ = some (.int .u16 bo)) _ from ⟨HB.out.c1, HD.out.one.cell 0, HD.out.one.cell 2, HD.out.one.cell 3⟩)
    refine Turns.take hS 16 _ rfl (by kernel_rfl) (by kernel_rfl) (by kernel_rfl) (by kernel_rfl) (fun _ _ _ h => h) (by rfl) (fun w' hS' => by (try dsimp only at hS'); go_split_ands; go_simp; (try with_reducible rfl)) ?_
    simp only [Act.put, List.getElem_toArray, List.getElem_cons_succ, List.getElem_cons_zero, List.setIfInBounds_toArray, List.set_cons_zero, List.set_cons_succ]
    refine Turns.next 17 rfl (by kernel_rfl) (by rfl) (fun K hK => ?_)
    go_simp
    have he := Holds.new V 31 #[.int .i64 0, .int .u16 0, .int .i64 0, .int .u16 0, .int .i64 0, .int .i64 0]
    have hbE := (below_alloc V (.cells #[.int .i64 0, .int .u16 0, .int .i64 0, .int .u16 0, .int .i64 0, .int .i64 0] 31)).drew
    have hlt := HDV.out.lt
    replace HD : Hid (Duo w 48 31 #[.int .i64 ti, .int .i64 ho, .int .i64 ro, .int .u16 bo, .int .i64 wy] #[.int .i64 0, .int .u16 0, .int .i64 0, .int .u16 0, .int .i64 0, .int .i64 0] (V.alloc (.cells #[.int .i64 0, .int .u16 0, .int .i64 0, .int .u16 0, .int .i64 0, .int .i64 0] 31)).drew) := Lib.hid (HDV.out.next hbE)
    replace HB : Hid (Bk (V.alloc (.cells #[.int .i64 0, .int .u16 0, .int .i64 0, .int .u16 0, .int .i64 0, .int .i64 0] 31)).drew x s) := Lib.hid (HBV.out.below hbE)
    have HE : Hid (Holds (V.alloc (.cells #[.int .i64 0, .int .u16 0, .int .i64 0, .int .u16 0, .int .i64 0, .int .i64 0] 31)).drew V.heap.size 31 #[.int .i64 0, .int .u16 0, .int .i64 0, .int .u16 0, .int .i64 0, .int .i64 0]) := Lib.hid he
    obtain ⟨xe, hxe⟩ : ∃ xe, V.heap.size = xe := ⟨_, rfl⟩
    rw [hxe] at HE
    have HXE := Lib.hid (show w.heap.size + 1 < xe by rw [← hxe]; exact hlt)
    (try simp only [hxe])
    obtain ⟨U, hU⟩ : ∃ U, U = (V.alloc (.cells #[.int .i64 0, .int .u16 0, .int .i64 0, .int .u16 0, .int .i64 0, .int .i64 0] 31)).drew := ⟨_, rfl⟩
    rw [← hU] at HD HB HE ⊢
    clear hxe hU he hbE hlt
    refine hK.out _ _ (show (fun (w' : World) => w'.cell? ⟨x, 1, none⟩ = some (.int .u16 s.q) ∧ w'.cell? ⟨w.heap.size, 0, none⟩ = some (.int .i64 ti) ∧ w'.cell? ⟨w.heap.size, 2, none⟩ = some (.int .i64 ro) ∧ w'.cell? ⟨w.heap.size, 3, none⟩ = some (.int .u16 bo)) _ from ⟨HB.out.c1, HD.out.one.cell 0, HD.out.one.cell 2, HD.out.one.cell 3⟩) ?_
    clear hK K hS
    have hS := (show (fun (w' : World) => w'.cell? ⟨x, 1, none⟩ = some (.int .u16 s.q) ∧ w'.cell? ⟨w.heap.size, 0, none⟩ = some (.int .i64 ti) ∧ w'.cell? ⟨w.heap.size, 2, none⟩ = some (.int .i64 ro) ∧ w'.cell? ⟨w.heap.size, 3, none⟩ = some (.int .u16 bo)) _ from ⟨HB.out.c1, HD.out.one.cell 0, HD.out.one.cell 2, HD.out.one.cell 3⟩)
    refine Turns.next 18 rfl (by kernel_rfl) (by rfl) (fun K hK => ?_)
    simp only [List.getElem_toArray, List.getElem_cons_succ, List.getElem_cons_zero]
    refine wp_store_at 31 (.tmp 10) (.tmp 30) rfl xe 0 (an6 me N ro bo ti ta) ?hs ?hx 31 (an6 0 0 0 0 0 0) HE.out an_size (Nat.le_refl 6) (an6_one _ _ _ _ _ _) ?_
    case hs => first | rfl | simp [Act.eval, Act.put]
    case hx => first | rfl | simp [Act.eval, Act.put, an6]
    rw [splice_all (an6 0 0 0 0 0 0) (an6 me N ro bo ti ta) rfl]
    have hg := grown_row U xe (an6 me N ro bo ti ta).toArray
    replace HD := Lib.hid (HD.out.aside HXE.out (an6 me N ro bo ti ta).toArray)
    replace HB : Hid (Bk (U.setRow xe (an6 me N ro bo ti ta).toArray) x s) := Lib.hid (Holds.grown HB.out hg (fun e => absurd (Option.some.inj e) (by have := HXE.out; have := HLT.out; omega)))
    replace HE := Lib.hid (HE.out.row (an6 me N ro bo ti ta).toArray)
    obtain ⟨W3, hW3⟩ : ∃ W3, W3 = U.setRow xe (an6 me N ro bo ti ta).toArray := ⟨_, rfl⟩
    rw [← hW3] at HD HB HE ⊢
    clear hW3 hg
    refine hK.out _ _ (show (fun (w' : World) => w'.cell? ⟨x, 1, none⟩ = some (.int .u16 s.q) ∧ w'.cell? ⟨w.heap.size, 0, none⟩ = some (.int .i64 ti) ∧ w'.cell? ⟨w.heap.size, 2, none⟩ = some (.int .i64 ro) ∧ w'.cell? ⟨w.heap.size, 3, none⟩ = some (.int .u16 bo)) _ from ⟨HB.out.c1, HD.out.one.cell 0, HD.out.one.cell 2, HD.out.one.cell 3⟩) ?_
    clear hK K hS
    have hS := (show (fun (w' : World) => w'.cell? ⟨x, 1, none⟩ = some (.int .u16 s.q) ∧ w'.cell? ⟨w.heap.size, 0, none⟩ = some (.int .i64 ti) ∧ w'.cell? ⟨w.heap.size, 2, none⟩ = some (.int .i64 ro) ∧ w'.cell? ⟨w.heap.size, 3, none⟩ = some (.int .u16 bo)) _ from ⟨HB.out.c1, HD.out.one.cell 0, HD.out.one.cell 2, HD.out.one.cell 3⟩)
    refine Turns.rest (late_done (by kernel_rfl)) ?_
    refine any_tail 19 (by rfl) (by kernel_rfl) ?_
    simp only [List.drop_succ_cons, List.drop_zero]
    clear hS
    obtain ⟨e0, e1, e2, e3, e4, e5⟩ := an6_cells HE.out
    go_wp2_with (first
      | (go_at_call 26; refine (HG.out _).mono ?_; rintro e w5 ⟨rfl, hb5⟩; replace HD := Lib.hid (HD.out.next hb5); replace HB := Lib.hid (HB.out.below hb5); replace HE := Lib.hid (HE.out.below hb5 HE.out.lt); clear hb5 e0 e1 e2 e3 e4 e5; obtain ⟨e0, e1, e2, e3, e4, e5⟩ := an6_cells HE.out)
      | (refine wpList_store_at rfl 31 (.tmp 8) (.tmp 35) rfl (w.heap.size + 1) 0 (an6 0 0 0 0 0 0) rfl rfl 31 (an6 0 0 0 0 0 0) HD.out.two an_size (Nat.le_refl 6) (an6_one _ _ _ _ _ _) ?_; rw [splice_all (an6 0 0 0 0 0 0) (an6 0 0 0 0 0 0) rfl]; replace HD := Lib.hid (HD.out.answer (an6 0 0 0 0 0 0))))
    refine bodyPost_ret (results_row_tmp rfl _ _ (w.heap.size + 1) 31 (an6 0 0 0 0 0 0) _ _ rfl HD.out.two Try.underlying31 rfl an_size rfl) rfl ?_
    exact ⟨rfl, BGoes.of_below HH.out HD.out.below⟩
  · go_simp
    have he := Holds.new V 31 #[.int .i64 0, .int .u16 0, .int .i64 0, .int .u16 0, .int .i64 0, .int .i64 0]
    have hbE := (below_alloc V (.cells #[.int .i64 0, .int .u16 0, .int .i64 0, .int .u16 0, .int .i64 0, .int .i64 0] 31)).drew
    have hlt := HDV.out.lt
    replace HD : Hid (Duo w 48 31 #[.int .i64 ti, .int .i64 ho, .int .i64 ro, .int .u16 bo, .int .i64 wy] #[.int .i64 0, .int .u16 0, .int .i64 0, .int .u16 0, .int .i64 0, .int .i64 0] (V.alloc (.cells #[.int .i64 0, .int .u16 0, .int .i64 0, .int .u16 0, .int .i64 0, .int .i64 0] 31)).drew) := Lib.hid (HDV.out.next hbE)
    replace HB : Hid (Bk (V.alloc (.cells #[.int .i64 0, .int .u16 0, .int .i64 0, .int .u16 0, .int .i64 0, .int .i64 0] 31)).drew x s) := Lib.hid (HBV.out.below hbE)
    have HE : Hid (Holds (V.alloc (.cells #[.int .i64 0, .int .u16 0, .int .i64 0, .int .u16 0, .int .i64 0, .int .i64 0] 31)).drew V.heap.size 31 #[.int .i64 0, .int .u16 0, .int .i64 0, .int .u16 0, .int .i64 0, .int .i64 0]) := Lib.hid he
    obtain ⟨xe, hxe⟩ : ∃ xe, V.heap.size = xe := ⟨_, rfl⟩
    rw [hxe] at HE
    have HXE := Lib.hid (show w.heap.size + 1 < xe by rw [← hxe]; exact hlt)
    (try simp only [hxe])
    obtain ⟨U, hU⟩ : ∃ U, U = (V.alloc (.cells #[.int .i64 0, .int .u16 0, .int .i64 0, .int .u16 0, .int .i64 0, .int .i64 0] 31)).drew := ⟨_, rfl⟩
    rw [← hU] at HD HB HE ⊢
    clear hxe hU he hbE hlt
    refine hK.out _ _ (show (fun (w' : World) => w'.cell? ⟨x, 1, none⟩ = some (.int .u16 s.q) ∧ w'.cell? ⟨w.heap.size, 0, none⟩ = some (.int .i64 ti) ∧ w'.cell? ⟨w.heap.size, 2, none⟩ = some (.int .i64 ro) ∧ w'.cell? ⟨w.heap.size, 3, none⟩ = some (.int .u16 bo)) _ from ⟨HB.out.c1, HD.out.one.cell 0, HD.out.one.cell 2, HD.out.one.cell 3⟩) ?_
    clear hK K hS
    have hS := (show (fun (w' : World) => w'.cell? ⟨x, 1, none⟩ = some (.int .u16 s.q) ∧ w'.cell? ⟨w.heap.size, 0, none⟩ = some (.int .i64 ti) ∧ w'.cell? ⟨w.heap.size, 2, none⟩ = some (.int .i64 ro) ∧ w'.cell? ⟨w.heap.size, 3, none⟩ = some (.int .u16 bo)) _ from ⟨HB.out.c1, HD.out.one.cell 0, HD.out.one.cell 2, HD.out.one.cell 3⟩)
    refine Turns.next 6 rfl (by kernel_rfl) (by rfl) (fun K hK => ?_)
    go_simp
    go_at_call 25
    refine (next_any s.q _).mono ?_
    rintro e wx ⟨rfl, hwx⟩
    rw [HN.out]
    subst wx
    refine hK.out _ _ (show (fun (w' : World) => w'.cell? ⟨x, 1, none⟩ = some (.int .u16 s.q) ∧ w'.cell? ⟨w.heap.size, 0, none⟩ = some (.int .i64 ti) ∧ w'.cell? ⟨w.heap.size, 2, none⟩ = some (.int .i64 ro) ∧ w'.cell? ⟨w.heap.size, 3, none⟩ = some (.int .u16 bo)) _ from ⟨HB.out.c1, HD.out.one.cell 0, HD.out.one.cell 2, HD.out.one.cell 3⟩) ?_
    clear hK K hS
    have hS := (show (fun (w' : World) => w'.cell? ⟨x, 1, none⟩ = some (.int .u16 s.q) ∧ w'.cell? ⟨w.heap.size, 0, none⟩ = some (.int .i64 ti) ∧ w'.cell? ⟨w.heap.size, 2, none⟩ = some (.int .i64 ro) ∧ w'.cell? ⟨w.heap.size, 3, none⟩ = some (.int .u16 bo)) _ from ⟨HB.out.c1, HD.out.one.cell 0, HD.out.one.cell 2, HD.out.one.cell 3⟩)
    refine Turns.take hS 16 _ rfl (by kernel_rfl) (by kernel_rfl) (by kernel_rfl) (by kernel_rfl) (fun _ _ _ h => h) (by rfl) (fun w' hS' => by (try dsimp only at hS'); go_split_ands; go_simp; (try with_reducible rfl)) ?_
    simp only [Act.put, List.getElem_toArray, List.getElem_cons_succ, List.getElem_cons_zero, List.setIfInBounds_toArray, List.set_cons_zero, List.set_cons_succ]
    refine Turns.next 18 rfl (by kernel_rfl) (by rfl) (fun K hK => ?_)
    simp only [List.getElem_toArray, List.getElem_cons_succ, List.getElem_cons_zero]
    refine wp_store_at 31 (.tmp 10) (.tmp 30) rfl xe 0 (an6 me N ro bo ti ta) ?hs ?hx 31 (an6 0 0 0 0 0 0) HE.out an_size (Nat.le_refl 6) (an6_one _ _ _ _ _ _) ?_
    case hs => first | rfl | simp [Act.eval, Act.put]
    case hx => first | rfl | simp [Act.eval, Act.put, an6]
    rw [splice_all (an6 0 0 0 0 0 0) (an6 me N ro bo ti ta) rfl]
    have hg := grown_row U xe (an6 me N ro bo ti ta).toArray
    replace HD := Lib.hid (HD.out.aside HXE.out (an6 me N ro bo ti ta).toArray)
    replace HB : Hid (Bk (U.setRow xe (an6 me N ro bo ti ta).toArray) x s) := Lib.hid (Holds.grown HB.out hg (fun e => absurd (Option.some.inj e) (by have := HXE.out; have := HLT.out; omega)))
    replace HE := Lib.hid (HE.out.row (an6 me N ro bo ti ta).toArray)
    obtain ⟨W3, hW3⟩ : ∃ W3, W3 = U.setRow xe (an6 me N ro bo ti ta).toArray := ⟨_, rfl⟩
    rw [← hW3] at HD HB HE ⊢
    clear hW3 hg
    refine hK.out _ _ (show (fun (w' : World) => w'.cell? ⟨x, 1, none⟩ = some (.int .u16 s.q) ∧ w'.cell? ⟨w.heap.size, 0, none⟩ = some (.int .i64 ti) ∧ w'.cell? ⟨w.heap.size, 2, none⟩ = some (.int .i64 ro) ∧ w'.cell? ⟨w.heap.size, 3, none⟩ = some (.int .u16 bo)) _ from ⟨HB.out.c1, HD.out.one.cell 0, HD.out.one.cell 2, HD.out.one.cell 3⟩) ?_
    clear hK K hS
    have hS := (show (fun (w' : World) => w'.cell? ⟨x, 1, none⟩ = some (.int .u16 s.q) ∧ w'.cell? ⟨w.heap.size, 0, none⟩ = some (.int .i64 ti) ∧ w'.cell? ⟨w.heap.size, 2, none⟩ = some (.int .i64 ro) ∧ w'.cell? ⟨w.heap.size, 3, none⟩ = some (.int .u16 bo)) _ from ⟨HB.out.c1, HD.out.one.cell 0, HD.out.one.cell 2, HD.out.one.cell 3⟩)
    refine Turns.rest (late_done (by kernel_rfl)) ?_
    refine any_tail 19 (by rfl) (by kernel_rfl) ?_
    simp only [List.drop_succ_cons, List.drop_zero]
    clear hS
    obtain ⟨e0, e1, e2, e3, e4, e5⟩ := an6_cells HE.out
    go_wp2_with (first
      | (go_at_call 26; refine (HG.out _).mono ?_; rintro e w5 ⟨rfl, hb5⟩; replace HD := Lib.hid (HD.out.next hb5); replace HB := Lib.hid (HB.out.below hb5); replace HE := Lib.hid (HE.out.below hb5 HE.out.lt); clear hb5 e0 e1 e2 e3 e4 e5; obtain ⟨e0, e1, e2, e3, e4, e5⟩ := an6_cells HE.out)
      | (refine wpList_store_at rfl 31 (.tmp 8) (.tmp 35) rfl (w.heap.size + 1) 0 (an6 0 0 0 0 0 0) rfl rfl 31 (an6 0 0 0 0 0 0) HD.out.two an_size (Nat.le_refl 6) (an6_one _ _ _ _ _ _) ?_; rw [splice_all (an6 0 0 0 0 0 0) (an6 0 0 0 0 0 0) rfl]; replace HD := Lib.hid (HD.out.answer (an6 0 0 0 0 0 0))))
    refine bodyPost_ret (results_row_tmp rfl _ _ (w.heap.size + 1) 31 (an6 0 0 0 0 0 0) _ _ rfl HD.out.two Try.underlying31 rfl an_size rfl) rfl ?_
    exact ⟨rfl, BGoes.of_below HH.out HD.out.below⟩
set_option maxHeartbeats 4000000 in
set_option maxRecDepth 100000 in
theorem amake_yes (w : World) (x : Nat) (s : BS) (h : Bk w x s) (me ti ho ro bo wy ta : Int) (fm : Fits me) (fr : Fits ro) (hb : F16 bo) (ft : Fits ti) (fa : Fits ta) (hM : anMade s me ro bo ti ta = true) : Calls Try.prog 11 #[.pointer (some ⟨x, 0, none⟩), .int .i64 me, .agg #[.int .i64 ti, .int .i64 ho, .int .i64 ro, .int .u16 bo, .int .i64 wy], .int .i64 ta] w fun e w' => e = .returned (.tuple #[.agg #[.int .i64 me, .int .u16 (nextV s.q), .int .i64 ro, .int .u16 bo, .int .i64 ti, .int .i64 ta], .int .i64 0]) ∧ BGoes x ⟨true, me, nextV s.q, ro, bo, ti, ta⟩ w w' := by
  have HLT := Lib.hid h.lt
  have HG := Lib.hid (fun W => agood_any me (nextV s.q) ro bo ti ta W fm (next_16 s.q) fr hb ft fa)
  have hm : anMade s me ro bo ti ta = ancB me (nextV s.q) ro bo ti ta := rfl
  rw [← hm, hM] at HG
  clear hm hM
  obtain ⟨N, hN⟩ : ∃ N, nextV s.q = N := ⟨_, rfl⟩
  have HN := Lib.hid hN
  rw [hN] at HG
  (try rw [hN])
  clear hN
  have hD := Duo.start w 48 31 #[.int .i64 ti, .int .i64 ho, .int .i64 ro, .int .u16 bo, .int .i64 wy] #[.int .i64 0, .int .u16 0, .int .i64 0, .int .u16 0, .int .i64 0, .int .i64 0]
  have hB := h.below hD.below
  have HH := Lib.hid h
  go_enter Try.func11, Try.ntmps11
  go_upto_region 1 with (fail)
  obtain ⟨V, hV⟩ : ∃ V, V = (w.alloc (.cells #[.int .i64 ti, .int .i64 ho, .int .i64 ro, .int .u16 bo, .int .i64 wy] 48)).alloc (.cells #[.int .i64 0, .int .u16 0, .int .i64 0, .int .u16 0, .int .i64 0, .int .i64 0] 31) := ⟨_, rfl⟩
  rw [← hV] at hD hB ⊢
  clear hV h
  go_upto_region 3 with (fail)
  have HDV := Lib.hid hD
  have HBV := Lib.hid hB
  have HD := Lib.hid (hD.next (Below.refl _ _).drew)
  have HB := Lib.hid (show Bk V.drew x s from hB)
  clear hD hB
  refine region_turns (fun (w' : World) => w'.cell? ⟨x, 1, none⟩ = some (.int .u16 s.q) ∧ w'.cell? ⟨w.heap.size, 0, none⟩ = some (.int .i64 ti) ∧ w'.cell? ⟨w.heap.size, 2, none⟩ = some (.int .i64 ro) ∧ w'.cell? ⟨w.heap.size, 3, none⟩ = some (.int .u16 bo)) (fun j => decide (19 ≤ j)) (by kernel_rfl) (⟨HB.out.c1, HD.out.one.cell 0, HD.out.one.cell 2, HD.out.one.cell 3⟩) (fun hS => ?_)
  refine Turns.take hS 0 _ rfl (by kernel_rfl) (by kernel_rfl) (by kernel_rfl) (by kernel_rfl) (fun _ _ _ h => h) (by rfl) (fun w' hS' => by (try dsimp only at hS'); go_split_ands; go_simp; (try with_reducible rfl)) ?_
  simp only [Act.put, List.getElem_toArray, List.getElem_cons_succ, List.getElem_cons_zero, List.setIfInBounds_toArray, List.set_cons_zero, List.set_cons_succ]
  refine Turns.take hS 1 _ rfl (by kernel_rfl) (by kernel_rfl) (by kernel_rfl) (by kernel_rfl) (fun _ _ _ h => h) (by rfl) (fun w' hS' => by (try dsimp only at hS'); go_split_ands; go_simp; (try with_reducible rfl)) ?_
  simp only [Act.put, List.getElem_toArray, List.getElem_cons_succ, List.getElem_cons_zero, List.setIfInBounds_toArray, List.set_cons_zero, List.set_cons_succ]
  refine Turns.take hS 2 _ rfl (by kernel_rfl) (by kernel_rfl) (by kernel_rfl) (by kernel_rfl) (fun _ _ _ h => h) (by rfl) (fun w' hS' => by (try dsimp only at hS'); go_split_ands; go_simp; (try with_reducible rfl)) ?_
  simp only [Act.put, List.getElem_toArray, List.getElem_cons_succ, List.getElem_cons_zero, List.setIfInBounds_toArray, List.set_cons_zero, List.set_cons_succ]
  refine Turns.take hS 3 _ rfl (by kernel_rfl) (by kernel_rfl) (by kernel_rfl) (by kernel_rfl) (fun _ _ _ h => h) (by rfl) (fun w' hS' => by (try dsimp only at hS'); go_split_ands; go_simp; (try with_reducible rfl)) ?_
  simp only [Act.put, List.getElem_toArray, List.getElem_cons_succ, List.getElem_cons_zero, List.setIfInBounds_toArray, List.set_cons_zero, List.set_cons_succ]
  refine Turns.take hS 4 _ rfl (by kernel_rfl) (by kernel_rfl) (by kernel_rfl) (by kernel_rfl) (fun _ _ _ h => h) (by rfl) (fun w' hS' => by (try dsimp only at hS'); go_split_ands; go_simp; (try with_reducible rfl)) ?_
  simp only [Act.put, List.getElem_toArray, List.getElem_cons_succ, List.getElem_cons_zero, List.setIfInBounds_toArray, List.set_cons_zero, List.set_cons_succ]
  refine Turns.take hS 5 _ rfl (by kernel_rfl) (by kernel_rfl) (by kernel_rfl) (by kernel_rfl) (fun _ _ _ h => h) (by rfl) (fun w' hS' => by (try dsimp only at hS'); go_split_ands; go_simp; (try with_reducible rfl)) ?_
  simp only [Act.put, List.getElem_toArray, List.getElem_cons_succ, List.getElem_cons_zero, List.setIfInBounds_toArray, List.set_cons_zero, List.set_cons_succ]
  refine Turns.take hS 7 _ rfl (by kernel_rfl) (by kernel_rfl) (by kernel_rfl) (by kernel_rfl) (fun _ _ _ h => h) (by rfl) (fun w' hS' => by (try dsimp only at hS'); go_split_ands; go_simp; (try with_reducible rfl)) ?_
  simp only [Act.put, List.getElem_toArray, List.getElem_cons_succ, List.getElem_cons_zero, List.setIfInBounds_toArray, List.set_cons_zero, List.set_cons_succ]
  refine Turns.take hS 8 _ rfl (by kernel_rfl) (by kernel_rfl) (by kernel_rfl) (by kernel_rfl) (fun _ _ _ h => h) (by rfl) (fun w' hS' => by (try dsimp only at hS'); go_split_ands; go_simp; (try with_reducible rfl)) ?_
  simp only [Act.put, List.getElem_toArray, List.getElem_cons_succ, List.getElem_cons_zero, List.setIfInBounds_toArray, List.set_cons_zero, List.set_cons_succ]
  refine Turns.take hS 9 _ rfl (by kernel_rfl) (by kernel_rfl) (by kernel_rfl) (by kernel_rfl) (fun _ _ _ h => h) (by rfl) (fun w' hS' => by (try dsimp only at hS'); go_split_ands; go_simp; (try with_reducible rfl)) ?_
  simp only [Act.put, List.getElem_toArray, List.getElem_cons_succ, List.getElem_cons_zero, List.setIfInBounds_toArray, List.set_cons_zero, List.set_cons_succ]
  refine Turns.take hS 10 _ rfl (by kernel_rfl) (by kernel_rfl) (by kernel_rfl) (by kernel_rfl) (fun _ _ _ h => h) (by rfl) (fun w' hS' => by (try dsimp only at hS'); go_split_ands; go_simp; (try with_reducible rfl)) ?_
  simp only [Act.put, List.getElem_toArray, List.getElem_cons_succ, List.getElem_cons_zero, List.setIfInBounds_toArray, List.set_cons_zero, List.set_cons_succ]
  refine Turns.take hS 11 _ rfl (by kernel_rfl) (by kernel_rfl) (by kernel_rfl) (by kernel_rfl) (fun _ _ _ h => h) (by rfl) (fun w' hS' => by (try dsimp only at hS'); go_split_ands; go_simp; (try with_reducible rfl)) ?_
  simp only [Act.put, List.getElem_toArray, List.getElem_cons_succ, List.getElem_cons_zero, List.setIfInBounds_toArray, List.set_cons_zero, List.set_cons_succ]
  refine Turns.take hS 12 _ rfl (by kernel_rfl) (by kernel_rfl) (by kernel_rfl) (by kernel_rfl) (fun _ _ _ h => h) (by rfl) (fun w' hS' => by (try dsimp only at hS'); go_split_ands; go_simp; (try with_reducible rfl)) ?_
  simp only [Act.put, List.getElem_toArray, List.getElem_cons_succ, List.getElem_cons_zero, List.setIfInBounds_toArray, List.set_cons_zero, List.set_cons_succ]
  refine Turns.take hS 13 _ rfl (by kernel_rfl) (by kernel_rfl) (by kernel_rfl) (by kernel_rfl) (fun _ _ _ h => h) (by rfl) (fun w' hS' => by (try dsimp only at hS'); go_split_ands; go_simp; (try with_reducible rfl)) ?_
  simp only [Act.put, List.getElem_toArray, List.getElem_cons_succ, List.getElem_cons_zero, List.setIfInBounds_toArray, List.set_cons_zero, List.set_cons_succ]
  refine Turns.take hS 14 _ rfl (by kernel_rfl) (by kernel_rfl) (by kernel_rfl) (by kernel_rfl) (fun _ _ _ h => h) (by rfl) (fun w' hS' => by (try dsimp only at hS'); go_split_ands; go_simp; (try with_reducible rfl)) ?_
  simp only [Act.put, List.getElem_toArray, List.getElem_cons_succ, List.getElem_cons_zero, List.setIfInBounds_toArray, List.set_cons_zero, List.set_cons_succ]
  refine Turns.take hS 15 _ rfl (by kernel_rfl) (by kernel_rfl) (by kernel_rfl) (by kernel_rfl) (fun _ _ _ h => h) (by rfl) (fun w' hS' => by (try dsimp only at hS'); go_split_ands; go_simp; (try with_reducible rfl)) ?_
  simp only [Act.put, List.getElem_toArray, List.getElem_cons_succ, List.getElem_cons_zero, List.setIfInBounds_toArray, List.set_cons_zero, List.set_cons_succ]
  refine Turns.either 6 17 rfl rfl (by kernel_rfl) (by rfl) (by rfl) (fun K hK => ?_) (fun K hK => ?_)
  · go_simp
    go_at_call 25
    refine (next_any s.q _).mono ?_
    rintro e wx ⟨rfl, hwx⟩
    rw [HN.out]
    subst wx
    refine hK.out _ _ (show (fun (w' : World) => w'.cell? ⟨x, 1, none⟩ = some (.int .u16 s.q) ∧ w'.cell? ⟨w.heap.size, 0, none⟩ = some (.int .i64 ti) ∧ w'.cell? ⟨w.heap.size, 2, none⟩ = some (.int .i64 ro) ∧ w'.cell? ⟨w.heap.size, 3, none⟩ = some (.int .u16 bo)) _ from ⟨HB.out.c1, HD.out.one.cell 0, HD.out.one.cell 2, HD.out.one.cell 3⟩) ?_
    clear hK K hS
    have hS := (show (fun (w' : World) => w'.cell? ⟨x, 1, none⟩ = some (.int .u16 s.q) ∧ w'.cell? ⟨w.heap.size, 0, none⟩ = some (.int .i64 ti) ∧ w'.cell? ⟨w.heap.size, 2, none⟩ = some (.int .i64 ro) ∧ w'.cell? ⟨w.heap.size, 3, none⟩ = some (.int .u16 bo)) _ from ⟨HB.out.c1, HD.out.one.cell 0, HD.out.one.cell 2, HD.out.one.cell 3⟩)
    refine Turns.take hS 16 _ rfl (by kernel_rfl) (by kernel_rfl) (by kernel_rfl) (by kernel_rfl) (fun _ _ _ h => h) (by rfl) (fun w' hS' => by (try dsimp only at hS'); go_split_ands; go_simp; (try with_reducible rfl)) ?_
    simp only [Act.put, List.getElem_toArray, List.getElem_cons_succ, List.getElem_cons_zero, List.setIfInBounds_toArray, List.set_cons_zero, List.set_cons_succ]
    refine Turns.next 17 rfl (by kernel_rfl) (by rfl) (fun K hK => ?_)
    go_simp
    have he := Holds.new V 31 #[.int .i64 0, .int .u16 0, .int .i64 0, .int .u16 0, .int .i64 0, .int .i64 0]
    have hbE := (below_alloc V (.cells #[.int .i64 0, .int .u16 0, .int .i64 0, .int .u16 0, .int .i64 0, .int .i64 0] 31)).drew
    have hlt := HDV.out.lt
    replace HD : Hid (Duo w 48 31 #[.int .i64 ti, .int .i64 ho, .int .i64 ro, .int .u16 bo, .int .i64 wy] #[.int .i64 0, .int .u16 0, .int .i64 0, .int .u16 0, .int .i64 0, .int .i64 0] (V.alloc (.cells #[.int .i64 0, .int .u16 0, .int .i64 0, .int .u16 0, .int .i64 0, .int .i64 0] 31)).drew) := Lib.hid (HDV.out.next hbE)
    replace HB : Hid (Bk (V.alloc (.cells #[.int .i64 0, .int .u16 0, .int .i64 0, .int .u16 0, .int .i64 0, .int .i64 0] 31)).drew x s) := Lib.hid (HBV.out.below hbE)
    have HE : Hid (Holds (V.alloc (.cells #[.int .i64 0, .int .u16 0, .int .i64 0, .int .u16 0, .int .i64 0, .int .i64 0] 31)).drew V.heap.size 31 #[.int .i64 0, .int .u16 0, .int .i64 0, .int .u16 0, .int .i64 0, .int .i64 0]) := Lib.hid he
    obtain ⟨xe, hxe⟩ : ∃ xe, V.heap.size = xe := ⟨_, rfl⟩
    rw [hxe] at HE
    have HXE := Lib.hid (show w.heap.size + 1 < xe by rw [← hxe]; exact hlt)
    (try simp only [hxe])
    obtain ⟨U, hU⟩ : ∃ U, U = (V.alloc (.cells #[.int .i64 0, .int .u16 0, .int .i64 0, .int .u16 0, .int .i64 0, .int .i64 0] 31)).drew := ⟨_, rfl⟩
    rw [← hU] at HD HB HE ⊢
    clear hxe hU he hbE hlt
    refine hK.out _ _ (show (fun (w' : World) => w'.cell? ⟨x, 1, none⟩ = some (.int .u16 s.q) ∧ w'.cell? ⟨w.heap.size, 0, none⟩ = some (.int .i64 ti) ∧ w'.cell? ⟨w.heap.size, 2, none⟩ = some (.int .i64 ro) ∧ w'.cell? ⟨w.heap.size, 3, none⟩ = some (.int .u16 bo)) _ from ⟨HB.out.c1, HD.out.one.cell 0, HD.out.one.cell 2, HD.out.one.cell 3⟩) ?_
    clear hK K hS
    have hS := (show (fun (w' : World) => w'.cell? ⟨x, 1, none⟩ = some (.int .u16 s.q) ∧ w'.cell? ⟨w.heap.size, 0, none⟩ = some (.int .i64 ti) ∧ w'.cell? ⟨w.heap.size, 2, none⟩ = some (.int .i64 ro) ∧ w'.cell? ⟨w.heap.size, 3, none⟩ = some (.int .u16 bo)) _ from ⟨HB.out.c1, HD.out.one.cell 0, HD.out.one.cell 2, HD.out.one.cell 3⟩)
    refine Turns.next 18 rfl (by kernel_rfl) (by rfl) (fun K hK => ?_)
    simp only [List.getElem_toArray, List.getElem_cons_succ, List.getElem_cons_zero]
    refine wp_store_at 31 (.tmp 10) (.tmp 30) rfl xe 0 (an6 me N ro bo ti ta) ?hs ?hx 31 (an6 0 0 0 0 0 0) HE.out an_size (Nat.le_refl 6) (an6_one _ _ _ _ _ _) ?_
    case hs => first | rfl | simp [Act.eval, Act.put]
    case hx => first | rfl | simp [Act.eval, Act.put, an6]
    rw [splice_all (an6 0 0 0 0 0 0) (an6 me N ro bo ti ta) rfl]
    have hg := grown_row U xe (an6 me N ro bo ti ta).toArray
    replace HD := Lib.hid (HD.out.aside HXE.out (an6 me N ro bo ti ta).toArray)
    replace HB : Hid (Bk (U.setRow xe (an6 me N ro bo ti ta).toArray) x s) := Lib.hid (Holds.grown HB.out hg (fun e => absurd (Option.some.inj e) (by have := HXE.out; have := HLT.out; omega)))
    replace HE := Lib.hid (HE.out.row (an6 me N ro bo ti ta).toArray)
    obtain ⟨W3, hW3⟩ : ∃ W3, W3 = U.setRow xe (an6 me N ro bo ti ta).toArray := ⟨_, rfl⟩
    rw [← hW3] at HD HB HE ⊢
    clear hW3 hg
    refine hK.out _ _ (show (fun (w' : World) => w'.cell? ⟨x, 1, none⟩ = some (.int .u16 s.q) ∧ w'.cell? ⟨w.heap.size, 0, none⟩ = some (.int .i64 ti) ∧ w'.cell? ⟨w.heap.size, 2, none⟩ = some (.int .i64 ro) ∧ w'.cell? ⟨w.heap.size, 3, none⟩ = some (.int .u16 bo)) _ from ⟨HB.out.c1, HD.out.one.cell 0, HD.out.one.cell 2, HD.out.one.cell 3⟩) ?_
    clear hK K hS
    have hS := (show (fun (w' : World) => w'.cell? ⟨x, 1, none⟩ = some (.int .u16 s.q) ∧ w'.cell? ⟨w.heap.size, 0, none⟩ = some (.int .i64 ti) ∧ w'.cell? ⟨w.heap.size, 2, none⟩ = some (.int .i64 ro) ∧ w'.cell? ⟨w.heap.size, 3, none⟩ = some (.int .u16 bo)) _ from ⟨HB.out.c1, HD.out.one.cell 0, HD.out.one.cell 2, HD.out.one.cell 3⟩)
    refine Turns.rest (late_done (by kernel_rfl)) ?_
    refine any_tail 19 (by rfl) (by kernel_rfl) ?_
    simp only [List.drop_succ_cons, List.drop_zero]
    clear hS
    obtain ⟨e0, e1, e2, e3, e4, e5⟩ := an6_cells HE.out
    go_wp2_with (first
      | (go_at_call 26; refine (HG.out _).mono ?_; rintro e w5 ⟨rfl, hb5⟩; replace HD := Lib.hid (HD.out.next hb5); replace HB := Lib.hid (HB.out.below hb5); replace HE := Lib.hid (HE.out.below hb5 HE.out.lt); clear hb5 e0 e1 e2 e3 e4 e5; obtain ⟨e0, e1, e2, e3, e4, e5⟩ := an6_cells HE.out)
      | (refine wpList_store_at rfl 33 (.tmp 39) (.tmp 38) rfl x 0 (bk7 ⟨true, me, N, ro, bo, ti, ta⟩) rfl rfl 33 (bk7 s) HB.out bk_size (Nat.le_refl 7) (bk7_one _) ?_; rw [splice_all (bk7 s) (bk7 ⟨true, me, N, ro, bo, ti, ta⟩) rfl]; have HGO := Lib.hid (BGoes.row (s' := ⟨true, me, N, ro, bo, ti, ta⟩) HH.out HD.out.below); have hg := grown_row w5 x (bk7 ⟨true, me, N, ro, bo, ti, ta⟩).toArray; have HT := Lib.hid (HD.out.two.grown hg (fun e => absurd (Option.some.inj e) (by have := HLT.out; omega))); have he6 := HE.out.grown hg (fun e => absurd (Option.some.inj e) (by have := HXE.out; have := HLT.out; omega)); clear e0 e1 e2 e3 e4 e5 hg; obtain ⟨e0, e1, e2, e3, e4, e5⟩ := an6_cells he6; clear he6)
      | (refine wpList_store_at rfl 31 (.tmp 8) (.tmp 40) rfl (w.heap.size + 1) 0 (an6 me N ro bo ti ta) rfl rfl 31 (an6 0 0 0 0 0 0) HT.out an_size (Nat.le_refl 6) (an6_one _ _ _ _ _ _) ?_; rw [splice_all (an6 0 0 0 0 0 0) (an6 me N ro bo ti ta) rfl]; replace HT := Lib.hid (HT.out.row (an6 me N ro bo ti ta).toArray); replace HGO := Lib.hid (HGO.out.answer (Nat.le_succ _) HLT.out (an6 me N ro bo ti ta).toArray)))
    refine bodyPost_ret (results_row_tmp rfl _ _ (w.heap.size + 1) 31 (an6 me N ro bo ti ta) _ _ rfl HT.out Try.underlying31 rfl an_size rfl) rfl ?_
    exact ⟨rfl, HGO.out⟩
  · go_simp
    have he := Holds.new V 31 #[.int .i64 0, .int .u16 0, .int .i64 0, .int .u16 0, .int .i64 0, .int .i64 0]
    have hbE := (below_alloc V (.cells #[.int .i64 0, .int .u16 0, .int .i64 0, .int .u16 0, .int .i64 0, .int .i64 0] 31)).drew
    have hlt := HDV.out.lt
    replace HD : Hid (Duo w 48 31 #[.int .i64 ti, .int .i64 ho, .int .i64 ro, .int .u16 bo, .int .i64 wy] #[.int .i64 0, .int .u16 0, .int .i64 0, .int .u16 0, .int .i64 0, .int .i64 0] (V.alloc (.cells #[.int .i64 0, .int .u16 0, .int .i64 0, .int .u16 0, .int .i64 0, .int .i64 0] 31)).drew) := Lib.hid (HDV.out.next hbE)
    replace HB : Hid (Bk (V.alloc (.cells #[.int .i64 0, .int .u16 0, .int .i64 0, .int .u16 0, .int .i64 0, .int .i64 0] 31)).drew x s) := Lib.hid (HBV.out.below hbE)
    have HE : Hid (Holds (V.alloc (.cells #[.int .i64 0, .int .u16 0, .int .i64 0, .int .u16 0, .int .i64 0, .int .i64 0] 31)).drew V.heap.size 31 #[.int .i64 0, .int .u16 0, .int .i64 0, .int .u16 0, .int .i64 0, .int .i64 0]) := Lib.hid he
    obtain ⟨xe, hxe⟩ : ∃ xe, V.heap.size = xe := ⟨_, rfl⟩
    rw [hxe] at HE
    have HXE := Lib.hid (show w.heap.size + 1 < xe by rw [← hxe]; exact hlt)
    (try simp only [hxe])
    obtain ⟨U, hU⟩ : ∃ U, U = (V.alloc (.cells #[.int .i64 0, .int .u16 0, .int .i64 0, .int .u16 0, .int .i64 0, .int .i64 0] 31)).drew := ⟨_, rfl⟩
    rw [← hU] at HD HB HE ⊢
    clear hxe hU he hbE hlt
    refine hK.out _ _ (show (fun (w' : World) => w'.cell? ⟨x, 1, none⟩ = some (.int .u16 s.q) ∧ w'.cell? ⟨w.heap.size, 0, none⟩ = some (.int .i64 ti) ∧ w'.cell? ⟨w.heap.size, 2, none⟩ = some (.int .i64 ro) ∧ w'.cell? ⟨w.heap.size, 3, none⟩ = some (.int .u16 bo)) _ from ⟨HB.out.c1, HD.out.one.cell 0, HD.out.one.cell 2, HD.out.one.cell 3⟩) ?_
    clear hK K hS
    have hS := (show (fun (w' : World) => w'.cell? ⟨x, 1, none⟩ = some (.int .u16 s.q) ∧ w'.cell? ⟨w.heap.size, 0, none⟩ = some (.int .i64 ti) ∧ w'.cell? ⟨w.heap.size, 2, none⟩ = some (.int .i64 ro) ∧ w'.cell? ⟨w.heap.size, 3, none⟩ = some (.int .u16 bo)) _ from ⟨HB.out.c1, HD.out.one.cell 0, HD.out.one.cell 2, HD.out.one.cell 3⟩)
    refine Turns.next 6 rfl (by kernel_rfl) (by rfl) (fun K hK => ?_)
    go_simp
    go_at_call 25
    refine (next_any s.q _).mono ?_
    rintro e wx ⟨rfl, hwx⟩
    rw [HN.out]
    subst wx
    refine hK.out _ _ (show (fun (w' : World) => w'.cell? ⟨x, 1, none⟩ = some (.int .u16 s.q) ∧ w'.cell? ⟨w.heap.size, 0, none⟩ = some (.int .i64 ti) ∧ w'.cell? ⟨w.heap.size, 2, none⟩ = some (.int .i64 ro) ∧ w'.cell? ⟨w.heap.size, 3, none⟩ = some (.int .u16 bo)) _ from ⟨HB.out.c1, HD.out.one.cell 0, HD.out.one.cell 2, HD.out.one.cell 3⟩) ?_
    clear hK K hS
    have hS := (show (fun (w' : World) => w'.cell? ⟨x, 1, none⟩ = some (.int .u16 s.q) ∧ w'.cell? ⟨w.heap.size, 0, none⟩ = some (.int .i64 ti) ∧ w'.cell? ⟨w.heap.size, 2, none⟩ = some (.int .i64 ro) ∧ w'.cell? ⟨w.heap.size, 3, none⟩ = some (.int .u16 bo)) _ from ⟨HB.out.c1, HD.out.one.cell 0, HD.out.one.cell 2, HD.out.one.cell 3⟩)
    refine Turns.take hS 16 _ rfl (by kernel_rfl) (by kernel_rfl) (by kernel_rfl) (by kernel_rfl) (fun _ _ _ h => h) (by rfl) (fun w' hS' => by (try dsimp only at hS'); go_split_ands; go_simp; (try with_reducible rfl)) ?_
    simp only [Act.put, List.getElem_toArray, List.getElem_cons_succ, List.getElem_cons_zero, List.setIfInBounds_toArray, List.set_cons_zero, List.set_cons_succ]
    refine Turns.next 18 rfl (by kernel_rfl) (by rfl) (fun K hK => ?_)
    simp only [List.getElem_toArray, List.getElem_cons_succ, List.getElem_cons_zero]
    refine wp_store_at 31 (.tmp 10) (.tmp 30) rfl xe 0 (an6 me N ro bo ti ta) ?hs ?hx 31 (an6 0 0 0 0 0 0) HE.out an_size (Nat.le_refl 6) (an6_one _ _ _ _ _ _) ?_
    case hs => first | rfl | simp [Act.eval, Act.put]
    case hx => first | rfl | simp [Act.eval, Act.put, an6]
    rw [splice_all (an6 0 0 0 0 0 0) (an6 me N ro bo ti ta) rfl]
    have hg := grown_row U xe (an6 me N ro bo ti ta).toArray
    replace HD := Lib.hid (HD.out.aside HXE.out (an6 me N ro bo ti ta).toArray)
    replace HB : Hid (Bk (U.setRow xe (an6 me N ro bo ti ta).toArray) x s) := Lib.hid (Holds.grown HB.out hg (fun e => absurd (Option.some.inj e) (by have := HXE.out; have := HLT.out; omega)))
    replace HE := Lib.hid (HE.out.row (an6 me N ro bo ti ta).toArray)
    obtain ⟨W3, hW3⟩ : ∃ W3, W3 = U.setRow xe (an6 me N ro bo ti ta).toArray := ⟨_, rfl⟩
    rw [← hW3] at HD HB HE ⊢
    clear hW3 hg
    refine hK.out _ _ (show (fun (w' : World) => w'.cell? ⟨x, 1, none⟩ = some (.int .u16 s.q) ∧ w'.cell? ⟨w.heap.size, 0, none⟩ = some (.int .i64 ti) ∧ w'.cell? ⟨w.heap.size, 2, none⟩ = some (.int .i64 ro) ∧ w'.cell? ⟨w.heap.size, 3, none⟩ = some (.int .u16 bo)) _ from ⟨HB.out.c1, HD.out.one.cell 0, HD.out.one.cell 2, HD.out.one.cell 3⟩) ?_
    clear hK K hS
    have hS := (show (fun (w' : World) => w'.cell? ⟨x, 1, none⟩ = some (.int .u16 s.q) ∧ w'.cell? ⟨w.heap.size, 0, none⟩ = some (.int .i64 ti) ∧ w'.cell? ⟨w.heap.size, 2, none⟩ = some (.int .i64 ro) ∧ w'.cell? ⟨w.heap.size, 3, none⟩ = some (.int .u16 bo)) _ from ⟨HB.out.c1, HD.out.one.cell 0, HD.out.one.cell 2, HD.out.one.cell 3⟩)
    refine Turns.rest (late_done (by kernel_rfl)) ?_
    refine any_tail 19 (by rfl) (by kernel_rfl) ?_
    simp only [List.drop_succ_cons, List.drop_zero]
    clear hS
    obtain ⟨e0, e1, e2, e3, e4, e5⟩ := an6_cells HE.out
    go_wp2_with (first
      | (go_at_call 26; refine (HG.out _).mono ?_; rintro e w5 ⟨rfl, hb5⟩; replace HD := Lib.hid (HD.out.next hb5); replace HB := Lib.hid (HB.out.below hb5); replace HE := Lib.hid (HE.out.below hb5 HE.out.lt); clear hb5 e0 e1 e2 e3 e4 e5; obtain ⟨e0, e1, e2, e3, e4, e5⟩ := an6_cells HE.out)
      | (refine wpList_store_at rfl 33 (.tmp 39) (.tmp 38) rfl x 0 (bk7 ⟨true, me, N, ro, bo, ti, ta⟩) rfl rfl 33 (bk7 s) HB.out bk_size (Nat.le_refl 7) (bk7_one _) ?_; rw [splice_all (bk7 s) (bk7 ⟨true, me, N, ro, bo, ti, ta⟩) rfl]; have HGO := Lib.hid (BGoes.row (s' := ⟨true, me, N, ro, bo, ti, ta⟩) HH.out HD.out.below); have hg := grown_row w5 x (bk7 ⟨true, me, N, ro, bo, ti, ta⟩).toArray; have HT := Lib.hid (HD.out.two.grown hg (fun e => absurd (Option.some.inj e) (by have := HLT.out; omega))); have he6 := HE.out.grown hg (fun e => absurd (Option.some.inj e) (by have := HXE.out; have := HLT.out; omega)); clear e0 e1 e2 e3 e4 e5 hg; obtain ⟨e0, e1, e2, e3, e4, e5⟩ := an6_cells he6; clear he6)
      | (refine wpList_store_at rfl 31 (.tmp 8) (.tmp 40) rfl (w.heap.size + 1) 0 (an6 me N ro bo ti ta) rfl rfl 31 (an6 0 0 0 0 0 0) HT.out an_size (Nat.le_refl 6) (an6_one _ _ _ _ _ _) ?_; rw [splice_all (an6 0 0 0 0 0 0) (an6 me N ro bo ti ta) rfl]; replace HT := Lib.hid (HT.out.row (an6 me N ro bo ti ta).toArray); replace HGO := Lib.hid (HGO.out.answer (Nat.le_succ _) HLT.out (an6 me N ro bo ti ta).toArray)))
    refine bodyPost_ret (results_row_tmp rfl _ _ (w.heap.size + 1) 31 (an6 me N ro bo ti ta) _ _ rfl HT.out Try.underlying31 rfl an_size rfl) rfl ?_
    exact ⟨rfl, HGO.out⟩
end Go.Proofs.Ytmmdkafkfjfgnaa

/- The document's Good and Only of an anchor. -/
namespace Go.Proofs.Ytmmdkafkfjfgnaa
open Go.RowKit
set_option linter.unusedVariables false
set_option linter.unusedSimpArgs false

theorem plain_size6 : (Try.prog.info? 54).map (·.size) = some 14 := by kernel_rfl
/-- An anchor as the document has it; of kind 0: none. -/
def pl6 (k f q r b g t : Int) : List Value := [.int .i64 k, .int .i64 f, .int .i64 0, .int .i64 r, .int .u16 b, .int .u16 q, .int .i64 0, .int .i64 0, .int .i64 0, .int .i64 0, .int .i64 0, .int .i64 0, .int .i64 g, .int .i64 t]
theorem pl6_one (k f q r b g t : Int) : ∀ v ∈ pl6 k f q r b g t, v.oneCell' = true := by
  intro v hv
  have h : (pl6 k f q r b g t).all (fun v => v.oneCell') = true := rfl
  exact List.all_eq_true.1 h v hv
/-- Its fields: how many bytes, what, how much at most. -/
def fields6 (f q r b g t : Int) : List Ent := [(1, f, 63), (2, q, 65535), (1, r, 63), (2, b, 65535), (8, g, 1125899906842624), (8, t, 1125899906842624)]
def okA (x : Ent) : Bool := decide (0 ≤ x.2.1) && decide (x.2.1 ≤ x.2.2)
theorem fields6_ok (f q r b g t : Int) : (fields6 f q r b g t).all okA = ancB f q r b g t := by
  unfold fields6 ancB in63 in16 in50
  simp only [List.all_cons, List.all_nil, okA, Bool.and_true]
set_option maxRecDepth 100000 in
set_option maxHeartbeats 2000000 in
theorem rfields6 (f tz r b q ho ti le se go ba g t : Int) (w : World) (hb : F16 b) (hq : F16 q) : Calls Try.prog 33 #[.agg #[.int .i64 6, .int .i64 f, .int .i64 tz, .int .i64 r, .int .u16 b, .int .u16 q, .int .i64 ho, .int .i64 ti, .int .i64 le, .int .i64 se, .int .i64 go, .int .i64 ba, .int .i64 g, .int .i64 t]] w fun e w' =>
    ∃ a, e = .returned (.slice (some ⟨a, 0, none⟩) 6 6) ∧ Holds w' a 95 (trs (fields6 f q r b g t)).toArray ∧ Below w.heap.size w w' := by
  obtain ⟨b0, b1⟩ := hb
  obtain ⟨q0, q1⟩ := hq
  go_enter Try.func33, Try.ntmps33
  go_wp2
  go_ret
  refine ⟨w.heap.size + 2, rfl, ?_, (((Below.refl _ _).alloc (Nat.le_refl _) _).alloc (by simp) _).alloc (by simp; omega) _⟩
  have := Holds.new ((w.alloc (.cells #[.int .i64 6, .int .i64 f, .int .i64 tz, .int .i64 r, .int .u16 b, .int .u16 q, .int .i64 ho, .int .i64 ti, .int .i64 le, .int .i64 se, .int .i64 go, .int .i64 ba, .int .i64 g, .int .i64 t] 54)).alloc (.cells #[.int .i64 1, .int .i64 f, .int .i64 63] 95)) 95 (trs (fields6 f q r b g t)).toArray
  rw [size_alloc, size_alloc] at this
  exact this
/-- While a row of fields is gone over. -/
structure GoingA (w : World) (a : Nat) (l : List Ent) (wr : World) : Prop where
  below : Below w.heap.size w wr
  row : Holds wr a 95 (trs l).toArray
section
variable {w wr : World} {a : Nat} {l : List Ent}
theorem GoingA.cells (h : GoingA w a l wr) {k : Nat} {e : Ent} (hk : l[k]? = some e) : wr.cell? ⟨a, k * 3, none⟩ = some (.int .i64 e.1) ∧ wr.cell? ⟨a, k * 3 + 1, none⟩ = some (.int .i64 e.2.1) ∧ wr.cell? ⟨a, k * 3 + 2, none⟩ = some (.int .i64 e.2.2) := by
  obtain ⟨h1, h2, h3⟩ := trs_get l k e hk
  rw [h.row.cell, h.row.cell, h.row.cell]
  simp only [List.getElem?_toArray]
  exact ⟨h1, h2, h3⟩
theorem GoingA.alloc (h : GoingA w a l wr) (o : Obj) : GoingA w a l (wr.alloc o) := ⟨h.below.alloc h.below.size o, h.row.alloc o⟩
end
theorem no_allA {l : List Ent} {k : Nat} {X : Ent} (hX : l[k]? = some X) (hn : okA X = false) : l.all okA = false := by
  rcases hall : l.all okA with _ | _
  · rfl
  · have := List.all_eq_true.1 hall X (List.mem_of_getElem? hX)
    rw [hn] at this
    cases this
set_option maxHeartbeats 2000000 in
set_option maxRecDepth 100000 in
theorem rgood6 (f tz r b q ho ti le se go ba g t : Int) (w : World) (ff : Fits f) (fr : Fits r) (fg : Fits g) (ft : Fits t) (hb : F16 b) (hq : F16 q) :
    Calls Try.prog 18 #[.agg #[.int .i64 6, .int .i64 f, .int .i64 tz, .int .i64 r, .int .u16 b, .int .u16 q, .int .i64 ho, .int .i64 ti, .int .i64 le, .int .i64 se, .int .i64 go, .int .i64 ba, .int .i64 g, .int .i64 t]] w fun e w' => e = .returned (.bool (ancB f q r b g t)) ∧ Below w.heap.size w w' := by
  have hfl := fun W => rfields6 f tz r b q ho ti le se go ba g t W hb hq
  rw [← fields6_ok f q r b g t]
  obtain ⟨l, hl⟩ : ∃ l, fields6 f q r b g t = l := ⟨_, rfl⟩
  have hlen : l.length = 6 := by rw [← hl]; rfl
  have hfits : ∀ x ∈ l, Fits x.2.1 := by
    obtain ⟨b0, b1⟩ := hb
    obtain ⟨q0, q1⟩ := hq
    rw [← hl]
    intro x hx
    unfold fields6 at hx
    simp only [List.mem_cons, List.not_mem_nil, or_false] at hx
    rcases hx with rfl | rfl | rfl | rfl | rfl | rfl
    · exact ff
    · exact ⟨by show -9223372036854775808 ≤ q; omega, by show q ≤ 9223372036854775807; omega⟩
    · exact fr
    · exact ⟨by show -9223372036854775808 ≤ b; omega, by show b ≤ 9223372036854775807; omega⟩
    · exact fg
    · exact ft
  rw [hl]
  simp only [hl] at hfl
  have hfl' : ∀ W : World, Below w.heap.size w W → Calls Try.prog 33 #[.agg #[.int .i64 6, .int .i64 f, .int .i64 tz, .int .i64 r, .int .u16 b, .int .u16 q, .int .i64 ho, .int .i64 ti, .int .i64 le, .int .i64 se, .int .i64 go, .int .i64 ba, .int .i64 g, .int .i64 t]] W fun e w' =>
      ∃ a, e = .returned (.slice (some ⟨a, 0, none⟩) 6 6) ∧ GoingA w a l w' := fun W hW => (hfl W).mono fun e w' ⟨a, he, hh, hb⟩ => ⟨a, he, hW.trans (hb.mono hW.size), hh⟩
  have HL := Lib.hid hlen
  have HF := Lib.hid hfits
  clear hfl hl hlen hfits ff fr fg ft hb hq
  go_enter Try.func18, Try.ntmps18
  go_wp2_with (go_at_call 33; refine (hfl' _ ((Below.refl _ _).alloc (Nat.le_refl _) _)).mono ?_; rintro e w1 ⟨a, rfl, hgo1⟩)
  go_loopw [10] (fun i wr => ∃ k : Nat, k ≤ 6 ∧ i = .int .i64 k ∧ (l.take k).all okA = true ∧ GoingA w a l wr) (fun i _ => 6 - (intOf i).toNat)
  case atStart => exact ⟨0, Nat.zero_le _, rfl, rfl, hgo1⟩
  case round =>
    obtain ⟨k, hk, rfl, hall, hgo⟩ := hrel
    have HA := Lib.hid hall
    have HG := Lib.hid hgo
    clear hall hgo hgo1 hfl'
    by_cases hlt : k < 6
    · have hkl : k < l.length := by rw [HL.out]; exact hlt
      obtain ⟨X, hX⟩ : ∃ X, l[k]? = some X := ⟨l[k], List.getElem?_eq_getElem hkl⟩
      obtain ⟨c0, c1, c2⟩ := HG.out.cells hX
      have hbd := HF.out X (List.mem_of_getElem? hX)
      have HX := Lib.hid hX
      have hts : l.take (k + 1) = l.take k ++ [X] := by
        rw [List.take_add_one, hX]
        rfl
      have HT := Lib.hid hts
      clear hts hX hkl
      obtain ⟨Z, N, M⟩ := X
      dsimp only at c0 c1 c2 hbd
      obtain ⟨n1, n2⟩ := hbd
      have HO : Hid (okA (Z, N, M) = (decide (0 ≤ N) && decide (N ≤ M))) := Lib.hid rfl
      have hcase : N < 0 ∨ (0 ≤ N ∧ M < N) ∨ (0 ≤ N ∧ N ≤ M) := by omega
      rcases hcase with h0 | ⟨h0, h1⟩ | ⟨h0, h1⟩
      · go_wp2
        go_ret
        refine ⟨ret_bool ?_, (HG.out.alloc _).below⟩
        exact (no_allA HX.out (by rw [HO.out]; simp; omega)).symm
      · go_wp2
        go_ret
        refine ⟨ret_bool ?_, (HG.out.alloc _).below⟩
        exact (no_allA HX.out (by rw [HO.out]; simp; omega)).symm
      · go_wp2
        go_roundw
        case rel => exact ⟨k + 1, by omega, by go_num, by rw [HT.out, List.all_append, HA.out, List.all_cons, HO.out]; simp; omega, HG.out.alloc _⟩
        case measure => simp [intOf]; omega
    · obtain rfl : k = 6 := by omega
      go_wp2
      go_ret
      refine ⟨ret_bool ?_, HG.out.below⟩
      have := HA.out
      rw [List.take_of_length_le (by rw [HL.out]; exact Nat.le_refl _)] at this
      exact this.symm
set_option maxHeartbeats 2000000 in
set_option maxRecDepth 100000 in
theorem ronly6 (f tz r b q ho ti le se go ba g t : Int) (w : World) :
    Calls Try.prog 29 #[.agg #[.int .i64 6, .int .i64 f, .int .i64 tz, .int .i64 r, .int .u16 b, .int .u16 q, .int .i64 ho, .int .i64 ti, .int .i64 le, .int .i64 se, .int .i64 go, .int .i64 ba, .int .i64 g, .int .i64 t]] w fun e w' => e = .returned (.agg #[.int .i64 6, .int .i64 f, .int .i64 0, .int .i64 r, .int .u16 b, .int .u16 q, .int .i64 0, .int .i64 0, .int .i64 0, .int .i64 0, .int .i64 0, .int .i64 0, .int .i64 g, .int .i64 t]) ∧ Below w.heap.size w w' := by
  go_enter Try.func29, Try.ntmps29
  go_wp2
  have hb1 := below_alloc w (.cells #[.int .i64 6, .int .i64 f, .int .i64 tz, .int .i64 r, .int .u16 b, .int .u16 q, .int .i64 ho, .int .i64 ti, .int .i64 le, .int .i64 se, .int .i64 go, .int .i64 ba, .int .i64 g, .int .i64 t] 54)
  refine bodyPost_ret (results_cell_row rfl _ _ (w.heap.size + 1) 54 #[.int .i64 6, .int .i64 f, .int .i64 0, .int .i64 r, .int .u16 b, .int .u16 q, .int .i64 0, .int .i64 0, .int .i64 0, .int .i64 0, .int .i64 0, .int .i64 0, .int .i64 g, .int .i64 t] (0, 0) _ rfl (by have := heap_alloc_new (w.alloc (.cells #[.int .i64 6, .int .i64 f, .int .i64 tz, .int .i64 r, .int .u16 b, .int .u16 q, .int .i64 ho, .int .i64 ti, .int .i64 le, .int .i64 se, .int .i64 go, .int .i64 ba, .int .i64 g, .int .i64 t] 54)) (.cells #[.int .i64 6, .int .i64 f, .int .i64 0, .int .i64 r, .int .u16 b, .int .u16 q, .int .i64 0, .int .i64 0, .int .i64 0, .int .i64 0, .int .i64 0, .int .i64 0, .int .i64 g, .int .i64 t] 54); simpa using this) Try.underlying54 rfl plain_size6) rfl ?_
  exact ⟨rfl, hb1.alloc hb1.size _⟩
end Go.Proofs.Ytmmdkafkfjfgnaa

/- The document's Floor, for seats over LawKit. -/
namespace Go.Proofs.Ytmmdkafkfjfgnaa
open Go.RowKit
set_option linter.unusedVariables false
set_option linter.unusedSimpArgs false

theorem rfloor_yes (a b : Int) (w : World) (ha : Fits a) (h1 : 1 ≤ b) (h2 : b ≤ 9223372036854775807) :
    Calls Try.prog 44 #[.int .i64 a, .int .i64 b] w fun e w' => e = .returned (.tuple #[.int .i64 (a / b), .int .i64 (a % b)]) ∧ ∃ n, w' = w.drewN n := by
  obtain ⟨ha1, ha2⟩ := ha
  have g0 := ediv_bd a b h1
  have m0 := Int.emod_nonneg a (show b ≠ 0 by omega)
  have m1 := Int.emod_lt_of_pos a (show 0 < b by omega)
  by_cases c0 : 0 ≤ a
  · have d0 : decide (a < 0) = false := decide_eq_false (by omega)
    by_cases c1 : a % b = 0
    · have d1 : (a % b == 0) = true := by simpa using c1
      have H := Lib.hid c1
      clear c1 g0 m0 m1
      go_enter Try.func44, Try.ntmps44
      go_wp2
      go_quiet (fail)
      go_wp2
      go_ret2
      exact ⟨ret_ii rfl rfl, ⟨_, rfl⟩⟩
    · have d1 : (a % b == 0) = false := by simpa using c1
      have d2 : (a % b != 0) = true := by simpa using c1
      clear c1 g0 m0 m1
      go_enter Try.func44, Try.ntmps44
      go_wp2
      go_quiet (fail)
      go_wp2
      go_ret2
      exact ⟨ret_ii rfl rfl, ⟨_, rfl⟩⟩
  · have hnp : a.tmod b ≤ 0 := by
      have := Int.tmod_nonneg b (a := -a) (by omega)
      rw [Int.neg_tmod] at this; omega
    by_cases c1 : a.tmod b = 0
    · have H : Hid (a.tdiv b = a / b ∧ a.tmod b = a % b) := Lib.hid (tdm_pos a b h1 (by omega))
      have d1 : (a.tmod b == 0) = true := by simpa using c1
      have d2 : (a.tmod b != 0) = false := by simpa using c1
      clear c1 g0 m0 m1 hnp
      go_enter Try.func44, Try.ntmps44
      go_wp2
      go_quiet (fail)
      go_wp2
      go_ret2
      exact ⟨ret_ii H.out.1 H.out.2, ⟨_, rfl⟩⟩
    · have H : Hid (a.tdiv b - 1 = a / b ∧ a.tmod b + b = a % b) := Lib.hid (tdm_neg a b h1 (by omega))
      have g1 : -9223372036854775808 ≤ a.tdiv b - 1 ∧ a.tdiv b - 1 ≤ 9223372036854775807 := by have := H.out; omega
      have g2 : -9223372036854775808 ≤ a.tmod b + b ∧ a.tmod b + b ≤ 9223372036854775807 := by have := H.out; omega
      obtain ⟨g3, g4⟩ := g1
      obtain ⟨g5, g6⟩ := g2
      have d1 : (a.tmod b == 0) = false := by simpa using c1
      have d2 : (a.tmod b != 0) = true := by simpa using c1
      clear c1 g0 m0 m1 hnp
      go_enter Try.func44, Try.ntmps44
      go_wp2
      go_quiet (fail)
      go_wp2
      go_ret2
      exact ⟨ret_ii H.out.1 H.out.2, ⟨_, rfl⟩⟩
end Go.Proofs.Ytmmdkafkfjfgnaa

/- Package anchor: the document's book: Tai, Time, Hear, Make. -/
namespace Go.Proofs.Ytmmdkafkfjfgnaa
open Go.RowKit
set_option linter.unusedVariables false
set_option linter.unusedSimpArgs false

def kindV (s : BS) : Int := if s.has = true then 6 else 0
/-- How the document's book lies. -/
def Rb (w : World) (x : Nat) (s : BS) : Prop := Holds w x 56 (pl6 (kindV s) s.f s.q s.r s.b s.g s.t).toArray
section
variable {w w' : World} {x : Nat} {s : BS}
theorem Rb.lt (h : Rb w x s) : x < w.heap.size := Holds.lt h
theorem Rb.below (h : Rb w x s) (hb : Below w.heap.size w w') : Rb w' x s := Holds.below h hb (Holds.lt h)
theorem Rb.chg {S : Nat → Prop} (h : Rb w x s) (hc : Chg S w w') (hn : ¬ S x) : Rb w' x s := Holds.chg h hc hn
theorem Rb.ck (h : Rb w x s) : w.cell? ⟨x, 0, none⟩ = some (.int .i64 (kindV s)) := Holds.cell h 0
theorem Rb.cr (h : Rb w x s) : w.cell? ⟨x, 3, none⟩ = some (.int .i64 s.r) := Holds.cell h 3
theorem Rb.cb (h : Rb w x s) : w.cell? ⟨x, 4, none⟩ = some (.int .u16 s.b) := Holds.cell h 4
theorem Rb.cq (h : Rb w x s) : w.cell? ⟨x, 5, none⟩ = some (.int .u16 s.q) := Holds.cell h 5
theorem Rb.cg (h : Rb w x s) : w.cell? ⟨x, 12, none⟩ = some (.int .i64 s.g) := Holds.cell h 12
theorem Rb.ct (h : Rb w x s) : w.cell? ⟨x, 13, none⟩ = some (.int .i64 s.t) := Holds.cell h 13
end
def RGoes (x : Nat) (s' : BS) (w w' : World) : Prop := Rb w' x s' ∧ Chg (fun k => k = x) w w'
theorem RGoes.of_below {w w' : World} {x : Nat} {s : BS} (h : Rb w x s) (hb : Below w.heap.size w w') : RGoes x s w w' := ⟨h.below hb, Chg.of_below _ hb⟩
theorem RGoes.row {w w' : World} {x : Nat} {s s' : BS} (h : Rb w x s) (hb : Below w.heap.size w w') : RGoes x s' w (w'.setRow x (pl6 (kindV s') s'.f s'.q s'.r s'.b s'.g s'.t).toArray) :=
  ⟨Holds.row (h.below hb) _, (Chg.of_below _ hb).trans (Chg.of_grown (grown_row w' x _) (S := fun k => k = x) (fun k e => by cases e; rfl)) (fun _ _ e => e)⟩
theorem RGoes.answer {w W : World} {x y : Nat} {s : BS} (h : RGoes x s w W) (hy : w.heap.size ≤ y) (hxy : x < w.heap.size) (c : Array Value) : RGoes x s w (W.setRow y c) := by
  have hg := grown_row W y c
  exact ⟨Holds.grown h.1 hg (fun e => absurd (Option.some.inj e) (by omega)), h.2.trans (Chg.of_grown hg (S := fun k => w.heap.size ≤ k) (fun k e => by cases e; omega)) (fun k hk e => by omega)⟩
theorem results_three {P : Program} {fn : Func} {p u v : Tmp} (h : fn.results = #[.tmp p, .tmp u, .tmp v]) (tmps : Array Value) (w : World) {x y z : Value} (hx : tmps.getD p undef = x) (hy : tmps.getD u undef = y) (hz : tmps.getD v undef = z) : (results fn tmps).run P w = .ok (.tuple #[x, y, z]) w := by
  have hx' : tmps[p]?.getD undef = x := by simpa using hx
  have hy' : tmps[u]?.getD undef = y := by simpa using hy
  have hz' : tmps[v]?.getD undef = z := by simpa using hz
  simp [results, h, hx', hy', hz']
set_option maxHeartbeats 4000000 in
set_option maxRecDepth 100000 in
theorem rtai_no (w : World) (x : Nat) (s : BS) (h : Rb w x s) (r b n : Int) (hn : ¬ anOf s r b = 0) : Calls Try.prog 31 #[.pointer (some ⟨x, 0, none⟩), .int .i64 r, .int .u16 b, .int .i64 n] w fun e w' => e = .returned (.tuple #[.int .i64 0, .int .i64 0, .int .i64 (anOf s r b)]) ∧ Below w.heap.size w w' := by
  have k0 := h.ck
  have k3 := h.cr
  have k4 := h.cb
  have k12 := h.cg
  have k13 := h.ct
  rcases anOf_cases s r b with ⟨h1, h2⟩ | ⟨h1, h2, h3⟩ | ⟨h1, h2, h3, h4⟩ | ⟨_, _, _, h4⟩
  · rw [h2]
    have hk : kindV s = 0 := by unfold kindV; rw [h1]; rfl
    rw [hk] at k0
    clear h hn h1 h2 hk k3 k4 k12 k13
    go_enter Try.func31, Try.ntmps31
    go_wp2
    refine bodyPost_ret (results_three rfl _ _ rfl rfl rfl) rfl ?_
    exact ⟨rfl, Below.refl _ _⟩
  · rw [h3]
    have hk : kindV s = 6 := by unfold kindV; rw [h1]; rfl
    rw [hk] at k0
    have d1 : (s.r != r) = true := by simpa using (fun e => h2 e.symm)
    clear h hn h1 h2 h3 hk k12 k13
    go_enter Try.func31, Try.ntmps31
    go_wp2
    refine bodyPost_ret (results_three rfl _ _ rfl rfl rfl) rfl ?_
    exact ⟨rfl, Below.refl _ _⟩
  · rw [h4]
    have hk : kindV s = 6 := by unfold kindV; rw [h1]; rfl
    rw [hk] at k0
    have d1 : (s.r != r) = false := by simpa using h2.symm
    have d2 : (s.b != b) = true := by simpa using (fun e => h3 e.symm)
    clear h hn h1 h2 h3 h4 hk k12 k13
    go_enter Try.func31, Try.ntmps31
    go_wp2
    refine bodyPost_ret (results_three rfl _ _ rfl rfl rfl) rfl ?_
    exact ⟨rfl, Below.refl _ _⟩
  · exact absurd h4 hn
set_option maxHeartbeats 4000000 in
set_option maxRecDepth 100000 in
theorem rtai_over (w : World) (x : Nat) (s : BS) (h : Rb w x s) (r b n : Int) (h0 : anOf s r b = 0) (hn : ¬ (0 ≤ n ∧ n ≤ 1125899906842624)) : Calls Try.prog 31 #[.pointer (some ⟨x, 0, none⟩), .int .i64 r, .int .u16 b, .int .i64 n] w fun e w' => e = .returned (.tuple #[.int .i64 0, .int .i64 0, .int .i64 8]) ∧ Below w.heap.size w w' := by
  have k0 := h.ck
  have k3 := h.cr
  have k4 := h.cb
  have k12 := h.cg
  have k13 := h.ct
  obtain ⟨h1, h2, h3⟩ : s.has = true ∧ r = s.r ∧ b = s.b := by
    rcases anOf_cases s r b with ⟨_, e⟩ | ⟨_, _, e⟩ | ⟨_, _, _, e⟩ | ⟨e1, e2, e3, _⟩
    · rw [e] at h0; cases h0
    · rw [e] at h0; cases h0
    · rw [e] at h0; cases h0
    · exact ⟨e1, e2, e3⟩
  have hk : kindV s = 6 := by unfold kindV; rw [h1]; rfl
  rw [hk] at k0
  have d1 : (s.r != r) = false := by simpa using h2.symm
  have d2 : (s.b != b) = false := by simpa using h3.symm
  have hcase : decide (n < 0) = true ∨ (decide (n < 0) = false ∧ decide (1125899906842624 < n) = true) := by
    by_cases k : n < 0
    · exact .inl (decide_eq_true k)
    · exact .inr ⟨decide_eq_false k, decide_eq_true (by omega)⟩
  clear h h0 h1 h2 h3 hn hk k12 k13
  rcases hcase with c1 | ⟨c1, c2⟩
  all_goals
    go_enter Try.func31, Try.ntmps31
    go_wp2
    refine bodyPost_ret (results_three rfl _ _ rfl rfl rfl) rfl ?_
    exact ⟨rfl, Below.refl _ _⟩
set_option maxHeartbeats 4000000 in
set_option maxRecDepth 100000 in
theorem rtai_yes (w : World) (x : Nat) (s : BS) (h : Rb w x s) (hi : BInv s) (r b n : Int) (h0 : anOf s r b = 0) (hn : 0 ≤ n ∧ n ≤ 1125899906842624) : Calls Try.prog 31 #[.pointer (some ⟨x, 0, none⟩), .int .i64 r, .int .u16 b, .int .i64 n] w fun e w' => e = .returned (.tuple #[.int .i64 (s.t + (n - s.g) / 1000), .int .i64 ((n - s.g) % 1000), .int .i64 0]) ∧ Below w.heap.size w w' := by
  have k0 := h.ck
  have k3 := h.cr
  have k4 := h.cb
  have k12 := h.cg
  have k13 := h.ct
  obtain ⟨h1, h2, h3⟩ : s.has = true ∧ r = s.r ∧ b = s.b := by
    rcases anOf_cases s r b with ⟨_, e⟩ | ⟨_, _, e⟩ | ⟨_, _, _, e⟩ | ⟨e1, e2, e3, _⟩
    · rw [e] at h0; cases h0
    · rw [e] at h0; cases h0
    · rw [e] at h0; cases h0
    · exact ⟨e1, e2, e3⟩
  have hk : kindV s = 6 := by unfold kindV; rw [h1]; rfl
  rw [hk] at k0
  have d1 : (s.r != r) = false := by simpa using h2.symm
  have d2 : (s.b != b) = false := by simpa using h3.symm
  have HB := Lib.hid h
  obtain ⟨n0, n1⟩ := hn
  obtain ⟨g0, g1⟩ := hi.g
  obtain ⟨t0, t1⟩ := hi.t
  have c1 : decide (n < 0) = false := decide_eq_false (by omega)
  have c2 : decide (1125899906842624 < n) = false := decide_eq_false (by omega)
  have e1 := IntWalk.i64_in (n - s.g) (by omega)
  have HF := Lib.hid (fun W => rfloor_yes (n - s.g) 1000 W ⟨by omega, by omega⟩ (by decide) (by decide))
  obtain ⟨Q, hQ⟩ : ∃ Q, (n - s.g) / 1000 = Q := ⟨_, rfl⟩
  obtain ⟨Z, hZ⟩ : ∃ Z, (n - s.g) % 1000 = Z := ⟨_, rfl⟩
  have e2 := IntWalk.i64_in (s.t + Q) (by omega)
  rw [hQ, hZ] at HF ⊢
  clear h h0 h1 h2 h3 hi hk hQ hZ g0 g1 t0 t1 n0 n1
  go_enter Try.func31, Try.ntmps31
  go_wp2_with (go_at_call 44; refine (HF.out _).mono ?_; rintro e w1 ⟨rfl, nf, hw1⟩; have hb1 : Below w.heap.size w w1 := (by (rw [hw1]; exact below_drewN (Below.refl _ _) nf)); have k13' := (HB.out.below hb1).ct; have HB1 := Lib.hid hb1; clear hb1 hw1 k13)
  refine bodyPost_ret (results_three rfl _ _ rfl rfl rfl) rfl ?_
  exact ⟨rfl, HB1.out⟩
theorem rtai_any (w : World) (x : Nat) (s : BS) (h : Rb w x s) (hi : BInv s) (r b n : Int) : Calls Try.prog 31 #[.pointer (some ⟨x, 0, none⟩), .int .i64 r, .int .u16 b, .int .i64 n] w fun e w' => e = .returned (.tuple #[.int .i64 (anTai s r b n).1, .int .i64 (anTai s r b n).2.1, .int .i64 (anTai s r b n).2.2]) ∧ Below w.heap.size w w' := by
  unfold anTai
  by_cases h0 : anOf s r b = 0
  · rw [if_pos h0]
    by_cases hn : 0 ≤ n ∧ n ≤ 1125899906842624
    · rw [if_pos hn]
      exact rtai_yes w x s h hi r b n h0 hn
    · rw [if_neg hn]
      exact rtai_over w x s h r b n h0 hn
  · rw [if_neg h0]
    exact rtai_no w x s h r b n h0
set_option maxHeartbeats 4000000 in
set_option maxRecDepth 100000 in
theorem rtim_no (w : World) (x : Nat) (s : BS) (h : Rb w x s) (r b n : Int) (hn : ¬ anOf s r b = 0) : Calls Try.prog 32 #[.pointer (some ⟨x, 0, none⟩), .int .i64 r, .int .u16 b, .int .i64 n] w fun e w' => e = .returned (.tuple #[.int .i64 0, .int .i64 (anOf s r b)]) ∧ Below w.heap.size w w' := by
  have HT := Lib.hid (rtai_no w x s h r b 0 hn)
  obtain ⟨E, hE⟩ : ∃ E, anOf s r b = E := ⟨_, rfl⟩
  rw [hE] at HT hn ⊢
  have d1 : (E != 0) = true := by simpa using hn
  clear h hn hE
  go_enter Try.func32, Try.ntmps32
  go_wp2_with (go_at_call 31; refine HT.out.mono ?_; rintro e w1 ⟨rfl, hb1⟩; have HB1 := Lib.hid hb1; clear hb1)
  go_ret2
  exact ⟨rfl, HB1.out⟩
set_option maxHeartbeats 4000000 in
set_option maxRecDepth 100000 in
theorem rtim_far (w : World) (x : Nat) (s : BS) (h : Rb w x s) (hi : BInv s) (r b n : Int) (h0 : anOf s r b = 0) (hn : ¬ (-1125899906842624 ≤ n ∧ n ≤ 1125899906842624)) : Calls Try.prog 32 #[.pointer (some ⟨x, 0, none⟩), .int .i64 r, .int .u16 b, .int .i64 n] w fun e w' => e = .returned (.tuple #[.int .i64 0, .int .i64 8]) ∧ Below w.heap.size w w' := by
  have HT := Lib.hid (rtai_any w x s h hi r b 0)
  have hz : ∃ q z : Int, anTai s r b 0 = (q, z, 0) := by unfold anTai; rw [if_pos h0, if_pos (by decide)]; exact ⟨_, _, rfl⟩
  obtain ⟨Q, Z, hz⟩ := hz
  rw [hz] at HT
  dsimp only at HT
  have HH := Lib.hid h
  have hcase : decide (n < -1125899906842624) = true ∨ (decide (n < -1125899906842624) = false ∧ decide (1125899906842624 < n) = true) := by
    by_cases k : n < -1125899906842624
    · exact .inl (decide_eq_true k)
    · exact .inr ⟨decide_eq_false k, decide_eq_true (by omega)⟩
  clear h h0 hi hz hn
  rcases hcase with c1 | ⟨c1, c2⟩
  all_goals
    go_enter Try.func32, Try.ntmps32
    go_wp2_with (go_at_call 31; refine HT.out.mono ?_; rintro e w1 ⟨rfl, hb1⟩; have HB1 := Lib.hid hb1; have hk := HH.out.below hb1; have k12 := hk.cg; have k13 := hk.ct; clear hb1 hk)
    go_ret2
    exact ⟨rfl, HB1.out⟩
set_option maxHeartbeats 4000000 in
set_option maxRecDepth 100000 in
theorem rtim_out (w : World) (x : Nat) (s : BS) (h : Rb w x s) (hi : BInv s) (r b n : Int) (h0 : anOf s r b = 0) (hn : -1125899906842624 ≤ n ∧ n ≤ 1125899906842624) (hg : ¬ (0 ≤ s.g + 1000 * (n - s.t) ∧ s.g + 1000 * (n - s.t) ≤ 1125899906842624)) : Calls Try.prog 32 #[.pointer (some ⟨x, 0, none⟩), .int .i64 r, .int .u16 b, .int .i64 n] w fun e w' => e = .returned (.tuple #[.int .i64 0, .int .i64 8]) ∧ Below w.heap.size w w' := by
  have HT := Lib.hid (rtai_any w x s h hi r b 0)
  have hz : ∃ q z : Int, anTai s r b 0 = (q, z, 0) := by unfold anTai; rw [if_pos h0, if_pos (by decide)]; exact ⟨_, _, rfl⟩
  obtain ⟨Q, Z, hz⟩ := hz
  rw [hz] at HT
  dsimp only at HT
  have HH := Lib.hid h
  obtain ⟨n0, n1⟩ := hn
  obtain ⟨g0, g1⟩ := hi.g
  obtain ⟨t0, t1⟩ := hi.t
  have c1 : decide (n < -1125899906842624) = false := decide_eq_false (by omega)
  have c2 : decide (1125899906842624 < n) = false := decide_eq_false (by omega)
  have e1 := IntWalk.i64_in (n - s.t) (by omega)
  have e2 := IntWalk.i64_in (1000 * (n - s.t)) (by omega)
  have e3 := IntWalk.i64_in (s.g + 1000 * (n - s.t)) (by omega)
  obtain ⟨X, hX⟩ : ∃ X, s.g + 1000 * (n - s.t) = X := ⟨_, rfl⟩
  rw [hX] at e3
  rw [hX] at hg
  have hcase : decide (X < 0) = true ∨ (decide (X < 0) = false ∧ decide (1125899906842624 < X) = true) := by
    by_cases k : X < 0
    · exact .inl (decide_eq_true k)
    · exact .inr ⟨decide_eq_false k, decide_eq_true (by omega)⟩
  clear h h0 hi hz g0 g1 t0 t1 n0 n1 hg
  rcases hcase with c3 | ⟨c3, c4⟩
  all_goals
    go_enter Try.func32, Try.ntmps32
    go_upto_region 6 with (go_at_call 31; refine HT.out.mono ?_; rintro e w1 ⟨rfl, hb1⟩; have HB1 := Lib.hid hb1; have hk := HH.out.below hb1; have k12 := hk.cg; have k13 := hk.ct; clear hb1 hk)
    go_quiet (fail)
    replace HB1 := Lib.hid (below_drewN HB1.out nq)
    go_wp2
    go_ret2
    exact ⟨rfl, HB1.out⟩
set_option maxHeartbeats 4000000 in
set_option maxRecDepth 100000 in
theorem rtim_yes (w : World) (x : Nat) (s : BS) (h : Rb w x s) (hi : BInv s) (r b n : Int) (h0 : anOf s r b = 0) (hn : -1125899906842624 ≤ n ∧ n ≤ 1125899906842624) (hg : 0 ≤ s.g + 1000 * (n - s.t) ∧ s.g + 1000 * (n - s.t) ≤ 1125899906842624) : Calls Try.prog 32 #[.pointer (some ⟨x, 0, none⟩), .int .i64 r, .int .u16 b, .int .i64 n] w fun e w' => e = .returned (.tuple #[.int .i64 (s.g + 1000 * (n - s.t)), .int .i64 0]) ∧ Below w.heap.size w w' := by
  have HT := Lib.hid (rtai_any w x s h hi r b 0)
  have hz : ∃ q z : Int, anTai s r b 0 = (q, z, 0) := by unfold anTai; rw [if_pos h0, if_pos (by decide)]; exact ⟨_, _, rfl⟩
  obtain ⟨Q, Z, hz⟩ := hz
  rw [hz] at HT
  dsimp only at HT
  have HH := Lib.hid h
  obtain ⟨n0, n1⟩ := hn
  obtain ⟨g0, g1⟩ := hi.g
  obtain ⟨t0, t1⟩ := hi.t
  have c1 : decide (n < -1125899906842624) = false := decide_eq_false (by omega)
  have c2 : decide (1125899906842624 < n) = false := decide_eq_false (by omega)
  have e1 := IntWalk.i64_in (n - s.t) (by omega)
  have e2 := IntWalk.i64_in (1000 * (n - s.t)) (by omega)
  have e3 := IntWalk.i64_in (s.g + 1000 * (n - s.t)) (by omega)
  obtain ⟨X, hX⟩ : ∃ X, s.g + 1000 * (n - s.t) = X := ⟨_, rfl⟩
  rw [hX] at e3
  rw [hX] at hg ⊢
  have c3 : decide (X < 0) = false := decide_eq_false (by omega)
  have c4 : decide (1125899906842624 < X) = false := decide_eq_false (by omega)
  clear h h0 hi hz g0 g1 t0 t1 n0 n1 hg
  go_enter Try.func32, Try.ntmps32
  go_upto_region 6 with (go_at_call 31; refine HT.out.mono ?_; rintro e w1 ⟨rfl, hb1⟩; have HB1 := Lib.hid hb1; have hk := HH.out.below hb1; have k12 := hk.cg; have k13 := hk.ct; clear hb1 hk)
  go_quiet (fail)
  replace HB1 := Lib.hid (below_drewN HB1.out nq)
  go_wp2
  go_ret2
  exact ⟨rfl, HB1.out⟩
theorem rtim_any (w : World) (x : Nat) (s : BS) (h : Rb w x s) (hi : BInv s) (r b n : Int) : Calls Try.prog 32 #[.pointer (some ⟨x, 0, none⟩), .int .i64 r, .int .u16 b, .int .i64 n] w fun e w' => e = .returned (.tuple #[.int .i64 (anTime s r b n).1, .int .i64 (anTime s r b n).2]) ∧ Below w.heap.size w w' := by
  unfold anTime
  by_cases h0 : anOf s r b = 0
  · rw [if_pos h0]
    by_cases hn : -1125899906842624 ≤ n ∧ n ≤ 1125899906842624
    · by_cases hg : 0 ≤ s.g + 1000 * (n - s.t) ∧ s.g + 1000 * (n - s.t) ≤ 1125899906842624
      · rw [if_pos ⟨hn, hg⟩]
        exact rtim_yes w x s h hi r b n h0 hn hg
      · rw [if_neg (fun k => hg k.2)]
        exact rtim_out w x s h hi r b n h0 hn hg
    · rw [if_neg (fun k => hn k.1)]
      exact rtim_far w x s h hi r b n h0 hn
  · rw [if_neg h0]
    exact rtim_no w x s h r b n h0
end Go.Proofs.Ytmmdkafkfjfgnaa

/- Package anchor: the document's book: Hear, Make. -/
namespace Go.Proofs.Ytmmdkafkfjfgnaa
open Go.RowKit
set_option linter.unusedVariables false
set_option linter.unusedSimpArgs false

set_option maxHeartbeats 4000000 in
set_option maxRecDepth 100000 in
theorem rhear_bad (w : World) (x : Nat) (s : BS) (h : Rb w x s) (f tz r b q ho ti le se go ba g t : Int) (ff : Fits f) (fr : Fits r) (fg : Fits g) (ft : Fits t) (hb : F16 b) (hq : F16 q) (ha : ancB f q r b g t = false) : Calls Try.prog 15 #[.pointer (some ⟨x, 0, none⟩), .agg #[.int .i64 6, .int .i64 f, .int .i64 tz, .int .i64 r, .int .u16 b, .int .u16 q, .int .i64 ho, .int .i64 ti, .int .i64 le, .int .i64 se, .int .i64 go, .int .i64 ba, .int .i64 g, .int .i64 t]] w fun e w' => e = .returned (.bool false) ∧ RGoes x s w w' := by
  have HH := Lib.hid h
  have HG := Lib.hid (fun W => rgood6 f tz r b q ho ti le se go ba g t W ff fr fg ft hb hq)
  rw [ha] at HG
  skip
  have hX := Box.start w 54 #[.int .i64 6, .int .i64 f, .int .i64 tz, .int .i64 r, .int .u16 b, .int .u16 q, .int .i64 ho, .int .i64 ti, .int .i64 le, .int .i64 se, .int .i64 go, .int .i64 ba, .int .i64 g, .int .i64 t]
  have hB := h.below hX.below
  clear h ha ff fr fg ft hb hq
  go_enter Try.func15, Try.ntmps15
  go_upto_region 1 with (fail)
  obtain ⟨V, hV⟩ : ∃ V, V = w.alloc (.cells #[.int .i64 6, .int .i64 f, .int .i64 tz, .int .i64 r, .int .u16 b, .int .u16 q, .int .i64 ho, .int .i64 ti, .int .i64 le, .int .i64 se, .int .i64 go, .int .i64 ba, .int .i64 g, .int .i64 t] 54) := ⟨_, rfl⟩
  rw [← hV] at hX hB ⊢
  clear hV
  have HX := Lib.hid hX.drew
  have HB := Lib.hid (show Rb V.drew x s from hB)
  clear hX hB
  refine region_turns (fun (w' : World) => w'.cell? ⟨w.heap.size, 0, none⟩ = some (.int .i64 6) ∧ w'.cell? ⟨w.heap.size, 1, none⟩ = some (.int .i64 f) ∧ w'.cell? ⟨w.heap.size, 2, none⟩ = some (.int .i64 tz) ∧ w'.cell? ⟨w.heap.size, 3, none⟩ = some (.int .i64 r) ∧ w'.cell? ⟨w.heap.size, 4, none⟩ = some (.int .u16 b) ∧ w'.cell? ⟨w.heap.size, 5, none⟩ = some (.int .u16 q) ∧ w'.cell? ⟨w.heap.size, 6, none⟩ = some (.int .i64 ho) ∧ w'.cell? ⟨w.heap.size, 7, none⟩ = some (.int .i64 ti) ∧ w'.cell? ⟨w.heap.size, 8, none⟩ = some (.int .i64 le) ∧ w'.cell? ⟨w.heap.size, 9, none⟩ = some (.int .i64 se) ∧ w'.cell? ⟨w.heap.size, 10, none⟩ = some (.int .i64 go) ∧ w'.cell? ⟨w.heap.size, 11, none⟩ = some (.int .i64 ba) ∧ w'.cell? ⟨w.heap.size, 12, none⟩ = some (.int .i64 g) ∧ w'.cell? ⟨w.heap.size, 13, none⟩ = some (.int .i64 t) ∧ w'.cell? ⟨x, 0, none⟩ = some (.int .i64 (kindV s)) ∧ w'.cell? ⟨x, 5, none⟩ = some (.int .u16 s.q)) (fun j => decide (27 ≤ j)) (by kernel_rfl) (⟨HX.out.holds.cell 0, HX.out.holds.cell 1, HX.out.holds.cell 2, HX.out.holds.cell 3, HX.out.holds.cell 4, HX.out.holds.cell 5, HX.out.holds.cell 6, HX.out.holds.cell 7, HX.out.holds.cell 8, HX.out.holds.cell 9, HX.out.holds.cell 10, HX.out.holds.cell 11, HX.out.holds.cell 12, HX.out.holds.cell 13, HB.out.ck, HB.out.cq⟩) (fun hS => ?_)
  refine Turns.take hS 0 _ rfl (by kernel_rfl) (by kernel_rfl) (by kernel_rfl) (by kernel_rfl) (fun _ _ _ h => h) (by rfl) (fun w' hS' => by (try dsimp only at hS'); go_split_ands; go_simp; (try with_reducible rfl)) ?_
  simp only [Act.put, List.getElem_toArray, List.getElem_cons_succ, List.getElem_cons_zero, List.setIfInBounds_toArray, List.set_cons_zero, List.set_cons_succ]
  refine Turns.take hS 1 _ rfl (by kernel_rfl) (by kernel_rfl) (by kernel_rfl) (by kernel_rfl) (fun _ _ _ h => h) (by rfl) (fun w' hS' => by (try dsimp only at hS'); go_split_ands; go_simp; (try with_reducible rfl)) ?_
  simp only [Act.put, List.getElem_toArray, List.getElem_cons_succ, List.getElem_cons_zero, List.setIfInBounds_toArray, List.set_cons_zero, List.set_cons_succ]
  refine Turns.take hS 2 _ rfl (by kernel_rfl) (by kernel_rfl) (by kernel_rfl) (by kernel_rfl) (fun _ _ _ h => h) (by rfl) (fun w' hS' => by (try dsimp only at hS'); go_split_ands; go_simp; (try with_reducible rfl)) ?_
  simp only [Act.put, List.getElem_toArray, List.getElem_cons_succ, List.getElem_cons_zero, List.setIfInBounds_toArray, List.set_cons_zero, List.set_cons_succ]
  refine Turns.take hS 3 _ rfl (by kernel_rfl) (by kernel_rfl) (by kernel_rfl) (by kernel_rfl) (fun _ _ _ h => h) (by rfl) (fun w' hS' => by (try dsimp only at hS'); go_split_ands; go_simp; (try with_reducible rfl)) ?_
  simp only [Act.put, List.getElem_toArray, List.getElem_cons_succ, List.getElem_cons_zero, List.setIfInBounds_toArray, List.set_cons_zero, List.set_cons_succ]
  refine Turns.take hS 4 _ rfl (by kernel_rfl) (by kernel_rfl) (by kernel_rfl) (by kernel_rfl) (fun _ _ _ h => h) (by rfl) (fun w' hS' => by (try dsimp only at hS'); go_split_ands; go_simp; (try with_reducible rfl)) ?_
  simp only [Act.put, List.getElem_toArray, List.getElem_cons_succ, List.getElem_cons_zero, List.setIfInBounds_toArray, List.set_cons_zero, List.set_cons_succ]
  refine Turns.next 5 rfl (by kernel_rfl) (by rfl) (fun K hK => ?_)
  go_simp
  go_at_call 18
  refine (HG.out _).mono ?_
  rintro e w1 ⟨rfl, hb1⟩
  replace HX := Lib.hid (HX.out.next hb1)
  replace HB := Lib.hid (HB.out.below hb1)
  clear hb1
  refine hK.out _ _ (show (fun (w' : World) => w'.cell? ⟨w.heap.size, 0, none⟩ = some (.int .i64 6) ∧ w'.cell? ⟨w.heap.size, 1, none⟩ = some (.int .i64 f) ∧ w'.cell? ⟨w.heap.size, 2, none⟩ = some (.int .i64 tz) ∧ w'.cell? ⟨w.heap.size, 3, none⟩ = some (.int .i64 r) ∧ w'.cell? ⟨w.heap.size, 4, none⟩ = some (.int .u16 b) ∧ w'.cell? ⟨w.heap.size, 5, none⟩ = some (.int .u16 q) ∧ w'.cell? ⟨w.heap.size, 6, none⟩ = some (.int .i64 ho) ∧ w'.cell? ⟨w.heap.size, 7, none⟩ = some (.int .i64 ti) ∧ w'.cell? ⟨w.heap.size, 8, none⟩ = some (.int .i64 le) ∧ w'.cell? ⟨w.heap.size, 9, none⟩ = some (.int .i64 se) ∧ w'.cell? ⟨w.heap.size, 10, none⟩ = some (.int .i64 go) ∧ w'.cell? ⟨w.heap.size, 11, none⟩ = some (.int .i64 ba) ∧ w'.cell? ⟨w.heap.size, 12, none⟩ = some (.int .i64 g) ∧ w'.cell? ⟨w.heap.size, 13, none⟩ = some (.int .i64 t) ∧ w'.cell? ⟨x, 0, none⟩ = some (.int .i64 (kindV s)) ∧ w'.cell? ⟨x, 5, none⟩ = some (.int .u16 s.q)) _ from ⟨HX.out.holds.cell 0, HX.out.holds.cell 1, HX.out.holds.cell 2, HX.out.holds.cell 3, HX.out.holds.cell 4, HX.out.holds.cell 5, HX.out.holds.cell 6, HX.out.holds.cell 7, HX.out.holds.cell 8, HX.out.holds.cell 9, HX.out.holds.cell 10, HX.out.holds.cell 11, HX.out.holds.cell 12, HX.out.holds.cell 13, HB.out.ck, HB.out.cq⟩) ?_
  clear hK K hS
  have hS := (show (fun (w' : World) => w'.cell? ⟨w.heap.size, 0, none⟩ = some (.int .i64 6) ∧ w'.cell? ⟨w.heap.size, 1, none⟩ = some (.int .i64 f) ∧ w'.cell? ⟨w.heap.size, 2, none⟩ = some (.int .i64 tz) ∧ w'.cell? ⟨w.heap.size, 3, none⟩ = some (.int .i64 r) ∧ w'.cell? ⟨w.heap.size, 4, none⟩ = some (.int .u16 b) ∧ w'.cell? ⟨w.heap.size, 5, none⟩ = some (.int .u16 q) ∧ w'.cell? ⟨w.heap.size, 6, none⟩ = some (.int .i64 ho) ∧ w'.cell? ⟨w.heap.size, 7, none⟩ = some (.int .i64 ti) ∧ w'.cell? ⟨w.heap.size, 8, none⟩ = some (.int .i64 le) ∧ w'.cell? ⟨w.heap.size, 9, none⟩ = some (.int .i64 se) ∧ w'.cell? ⟨w.heap.size, 10, none⟩ = some (.int .i64 go) ∧ w'.cell? ⟨w.heap.size, 11, none⟩ = some (.int .i64 ba) ∧ w'.cell? ⟨w.heap.size, 12, none⟩ = some (.int .i64 g) ∧ w'.cell? ⟨w.heap.size, 13, none⟩ = some (.int .i64 t) ∧ w'.cell? ⟨x, 0, none⟩ = some (.int .i64 (kindV s)) ∧ w'.cell? ⟨x, 5, none⟩ = some (.int .u16 s.q)) _ from ⟨HX.out.holds.cell 0, HX.out.holds.cell 1, HX.out.holds.cell 2, HX.out.holds.cell 3, HX.out.holds.cell 4, HX.out.holds.cell 5, HX.out.holds.cell 6, HX.out.holds.cell 7, HX.out.holds.cell 8, HX.out.holds.cell 9, HX.out.holds.cell 10, HX.out.holds.cell 11, HX.out.holds.cell 12, HX.out.holds.cell 13, HB.out.ck, HB.out.cq⟩)
  refine Turns.take hS 6 _ rfl (by kernel_rfl) (by kernel_rfl) (by kernel_rfl) (by kernel_rfl) (fun _ _ _ h => h) (by rfl) (fun w' hS' => by (try dsimp only at hS'); go_split_ands; go_simp; (try with_reducible rfl)) ?_
  simp only [Act.put, List.getElem_toArray, List.getElem_cons_succ, List.getElem_cons_zero, List.setIfInBounds_toArray, List.set_cons_zero, List.set_cons_succ]
  refine Turns.take hS 7 _ rfl (by kernel_rfl) (by kernel_rfl) (by kernel_rfl) (by kernel_rfl) (fun _ _ _ h => h) (by rfl) (fun w' hS' => by (try dsimp only at hS'); go_split_ands; go_simp; (try with_reducible rfl)) ?_
  simp only [Act.put, List.getElem_toArray, List.getElem_cons_succ, List.getElem_cons_zero, List.setIfInBounds_toArray, List.set_cons_zero, List.set_cons_succ]
  refine Turns.take hS 8 _ rfl (by kernel_rfl) (by kernel_rfl) (by kernel_rfl) (by kernel_rfl) (fun _ _ _ h => h) (by rfl) (fun w' hS' => by (try dsimp only at hS'); go_split_ands; go_simp; (try with_reducible rfl)) ?_
  simp only [Act.put, List.getElem_toArray, List.getElem_cons_succ, List.getElem_cons_zero, List.setIfInBounds_toArray, List.set_cons_zero, List.set_cons_succ]
  refine Turns.skip hS 9 rfl (by kernel_rfl) (by kernel_rfl) (by kernel_rfl) (by kernel_rfl) (fun _ _ _ h => h) (by rfl) ?_
  simp only [Act.put, List.getElem_toArray, List.getElem_cons_succ, List.getElem_cons_zero, List.setIfInBounds_toArray, List.set_cons_zero, List.set_cons_succ]
  refine Turns.skip hS 10 rfl (by kernel_rfl) (by kernel_rfl) (by kernel_rfl) (by kernel_rfl) (fun _ _ _ h => h) (by rfl) ?_
  simp only [Act.put, List.getElem_toArray, List.getElem_cons_succ, List.getElem_cons_zero, List.setIfInBounds_toArray, List.set_cons_zero, List.set_cons_succ]
  refine Turns.skip hS 11 rfl (by kernel_rfl) (by kernel_rfl) (by kernel_rfl) (by kernel_rfl) (fun _ _ _ h => h) (by rfl) ?_
  simp only [Act.put, List.getElem_toArray, List.getElem_cons_succ, List.getElem_cons_zero, List.setIfInBounds_toArray, List.set_cons_zero, List.set_cons_succ]
  refine Turns.skip hS 12 rfl (by kernel_rfl) (by kernel_rfl) (by kernel_rfl) (by kernel_rfl) (fun _ _ _ h => h) (by rfl) ?_
  simp only [Act.put, List.getElem_toArray, List.getElem_cons_succ, List.getElem_cons_zero, List.setIfInBounds_toArray, List.set_cons_zero, List.set_cons_succ]
  refine Turns.skip hS 13 rfl (by kernel_rfl) (by kernel_rfl) (by kernel_rfl) (by kernel_rfl) (fun _ _ _ h => h) (by rfl) ?_
  simp only [Act.put, List.getElem_toArray, List.getElem_cons_succ, List.getElem_cons_zero, List.setIfInBounds_toArray, List.set_cons_zero, List.set_cons_succ]
  refine Turns.skip hS 14 rfl (by kernel_rfl) (by kernel_rfl) (by kernel_rfl) (by kernel_rfl) (fun _ _ _ h => h) (by rfl) ?_
  simp only [Act.put, List.getElem_toArray, List.getElem_cons_succ, List.getElem_cons_zero, List.setIfInBounds_toArray, List.set_cons_zero, List.set_cons_succ]
  refine Turns.skip hS 15 rfl (by kernel_rfl) (by kernel_rfl) (by kernel_rfl) (by kernel_rfl) (fun _ _ _ h => h) (by rfl) ?_
  simp only [Act.put, List.getElem_toArray, List.getElem_cons_succ, List.getElem_cons_zero, List.setIfInBounds_toArray, List.set_cons_zero, List.set_cons_succ]
  refine Turns.skip hS 16 rfl (by kernel_rfl) (by kernel_rfl) (by kernel_rfl) (by kernel_rfl) (fun _ _ _ h => h) (by rfl) ?_
  simp only [Act.put, List.getElem_toArray, List.getElem_cons_succ, List.getElem_cons_zero, List.setIfInBounds_toArray, List.set_cons_zero, List.set_cons_succ]
  refine Turns.skip hS 17 rfl (by kernel_rfl) (by kernel_rfl) (by kernel_rfl) (by kernel_rfl) (fun _ _ _ h => h) (by rfl) ?_
  simp only [Act.put, List.getElem_toArray, List.getElem_cons_succ, List.getElem_cons_zero, List.setIfInBounds_toArray, List.set_cons_zero, List.set_cons_succ]
  refine Turns.skip hS 18 rfl (by kernel_rfl) (by kernel_rfl) (by kernel_rfl) (by kernel_rfl) (fun _ _ _ h => h) (by rfl) ?_
  simp only [Act.put, List.getElem_toArray, List.getElem_cons_succ, List.getElem_cons_zero, List.setIfInBounds_toArray, List.set_cons_zero, List.set_cons_succ]
  refine Turns.skip hS 19 rfl (by kernel_rfl) (by kernel_rfl) (by kernel_rfl) (by kernel_rfl) (fun _ _ _ h => h) (by rfl) ?_
  simp only [Act.put, List.getElem_toArray, List.getElem_cons_succ, List.getElem_cons_zero, List.setIfInBounds_toArray, List.set_cons_zero, List.set_cons_succ]
  refine Turns.skip hS 20 rfl (by kernel_rfl) (by kernel_rfl) (by kernel_rfl) (by kernel_rfl) (fun _ _ _ h => h) (by rfl) ?_
  simp only [Act.put, List.getElem_toArray, List.getElem_cons_succ, List.getElem_cons_zero, List.setIfInBounds_toArray, List.set_cons_zero, List.set_cons_succ]
  refine Turns.skip hS 21 rfl (by kernel_rfl) (by kernel_rfl) (by kernel_rfl) (by kernel_rfl) (fun _ _ _ h => h) (by rfl) ?_
  simp only [Act.put, List.getElem_toArray, List.getElem_cons_succ, List.getElem_cons_zero, List.setIfInBounds_toArray, List.set_cons_zero, List.set_cons_succ]
  refine Turns.skip hS 22 rfl (by kernel_rfl) (by kernel_rfl) (by kernel_rfl) (by kernel_rfl) (fun _ _ _ h => h) (by rfl) ?_
  simp only [Act.put, List.getElem_toArray, List.getElem_cons_succ, List.getElem_cons_zero, List.setIfInBounds_toArray, List.set_cons_zero, List.set_cons_succ]
  refine Turns.skip hS 23 rfl (by kernel_rfl) (by kernel_rfl) (by kernel_rfl) (by kernel_rfl) (fun _ _ _ h => h) (by rfl) ?_
  simp only [Act.put, List.getElem_toArray, List.getElem_cons_succ, List.getElem_cons_zero, List.setIfInBounds_toArray, List.set_cons_zero, List.set_cons_succ]
  refine Turns.skip hS 24 rfl (by kernel_rfl) (by kernel_rfl) (by kernel_rfl) (by kernel_rfl) (fun _ _ _ h => h) (by rfl) ?_
  simp only [Act.put, List.getElem_toArray, List.getElem_cons_succ, List.getElem_cons_zero, List.setIfInBounds_toArray, List.set_cons_zero, List.set_cons_succ]
  refine Turns.skip hS 25 rfl (by kernel_rfl) (by kernel_rfl) (by kernel_rfl) (by kernel_rfl) (fun _ _ _ h => h) (by rfl) ?_
  simp only [Act.put, List.getElem_toArray, List.getElem_cons_succ, List.getElem_cons_zero, List.setIfInBounds_toArray, List.set_cons_zero, List.set_cons_succ]
  refine Turns.take hS 26 _ rfl (by kernel_rfl) (by kernel_rfl) (by kernel_rfl) (by kernel_rfl) (fun _ _ _ h => h) (by rfl) (fun w' hS' => by (try dsimp only at hS'); go_split_ands; go_simp; (try with_reducible rfl)) ?_
  simp only [Act.put, List.getElem_toArray, List.getElem_cons_succ, List.getElem_cons_zero, List.setIfInBounds_toArray, List.set_cons_zero, List.set_cons_succ]
  refine Turns.rest (late_done (by kernel_rfl)) ?_
  refine any_tail 27 (by rfl) (by kernel_rfl) ?_
  simp only [List.drop_succ_cons, List.drop_zero]
  clear hS
  go_wp2
  go_ret
  exact ⟨rfl, RGoes.of_below HH.out HX.out.below⟩
set_option maxHeartbeats 4000000 in
set_option maxRecDepth 100000 in
theorem rhear_first (w : World) (x : Nat) (s : BS) (h : Rb w x s) (f tz r b q ho ti le se go ba g t : Int) (ff : Fits f) (fr : Fits r) (fg : Fits g) (ft : Fits t) (hb : F16 b) (hq : F16 q) (ha : ancB f q r b g t = true) (hh : s.has = false) : Calls Try.prog 15 #[.pointer (some ⟨x, 0, none⟩), .agg #[.int .i64 6, .int .i64 f, .int .i64 tz, .int .i64 r, .int .u16 b, .int .u16 q, .int .i64 ho, .int .i64 ti, .int .i64 le, .int .i64 se, .int .i64 go, .int .i64 ba, .int .i64 g, .int .i64 t]] w fun e w' => e = .returned (.bool true) ∧ RGoes x ⟨true, f, q, r, b, g, t⟩ w w' := by
  have HH := Lib.hid h
  have HG := Lib.hid (fun W => rgood6 f tz r b q ho ti le se go ba g t W ff fr fg ft hb hq)
  rw [ha] at HG
  have HKV := Lib.hid (show kindV s = 0 by unfold kindV; rw [hh]; rfl)
  have hX := Box.start w 54 #[.int .i64 6, .int .i64 f, .int .i64 tz, .int .i64 r, .int .u16 b, .int .u16 q, .int .i64 ho, .int .i64 ti, .int .i64 le, .int .i64 se, .int .i64 go, .int .i64 ba, .int .i64 g, .int .i64 t]
  have hB := h.below hX.below
  clear h ha ff fr fg ft hb hq
  go_enter Try.func15, Try.ntmps15
  go_upto_region 1 with (fail)
  obtain ⟨V, hV⟩ : ∃ V, V = w.alloc (.cells #[.int .i64 6, .int .i64 f, .int .i64 tz, .int .i64 r, .int .u16 b, .int .u16 q, .int .i64 ho, .int .i64 ti, .int .i64 le, .int .i64 se, .int .i64 go, .int .i64 ba, .int .i64 g, .int .i64 t] 54) := ⟨_, rfl⟩
  rw [← hV] at hX hB ⊢
  clear hV
  have HX := Lib.hid hX.drew
  have HB := Lib.hid (show Rb V.drew x s from hB)
  clear hX hB
  obtain ⟨kk, hkk⟩ : ∃ kk, kindV s = kk := ⟨_, rfl⟩
  rw [HKV.out] at hkk
  subst hkk
  refine region_turns (fun (w' : World) => w'.cell? ⟨w.heap.size, 0, none⟩ = some (.int .i64 6) ∧ w'.cell? ⟨w.heap.size, 1, none⟩ = some (.int .i64 f) ∧ w'.cell? ⟨w.heap.size, 2, none⟩ = some (.int .i64 tz) ∧ w'.cell? ⟨w.heap.size, 3, none⟩ = some (.int .i64 r) ∧ w'.cell? ⟨w.heap.size, 4, none⟩ = some (.int .u16 b) ∧ w'.cell? ⟨w.heap.size, 5, none⟩ = some (.int .u16 q) ∧ w'.cell? ⟨w.heap.size, 6, none⟩ = some (.int .i64 ho) ∧ w'.cell? ⟨w.heap.size, 7, none⟩ = some (.int .i64 ti) ∧ w'.cell? ⟨w.heap.size, 8, none⟩ = some (.int .i64 le) ∧ w'.cell? ⟨w.heap.size, 9, none⟩ = some (.int .i64 se) ∧ w'.cell? ⟨w.heap.size, 10, none⟩ = some (.int .i64 go) ∧ w'.cell? ⟨w.heap.size, 11, none⟩ = some (.int .i64 ba) ∧ w'.cell? ⟨w.heap.size, 12, none⟩ = some (.int .i64 g) ∧ w'.cell? ⟨w.heap.size, 13, none⟩ = some (.int .i64 t) ∧ w'.cell? ⟨x, 0, none⟩ = some (.int .i64 0) ∧ w'.cell? ⟨x, 5, none⟩ = some (.int .u16 s.q)) (fun j => decide (27 ≤ j)) (by kernel_rfl) (⟨HX.out.holds.cell 0, HX.out.holds.cell 1, HX.out.holds.cell 2, HX.out.holds.cell 3, HX.out.holds.cell 4, HX.out.holds.cell 5, HX.out.holds.cell 6, HX.out.holds.cell 7, HX.out.holds.cell 8, HX.out.holds.cell 9, HX.out.holds.cell 10, HX.out.holds.cell 11, HX.out.holds.cell 12, HX.out.holds.cell 13, (HKV.out ▸ HB.out.ck), HB.out.cq⟩) (fun hS => ?_)
  refine Turns.take hS 0 _ rfl (by kernel_rfl) (by kernel_rfl) (by kernel_rfl) (by kernel_rfl) (fun _ _ _ h => h) (by rfl) (fun w' hS' => by (try dsimp only at hS'); go_split_ands; go_simp; (try with_reducible rfl)) ?_
  simp only [Act.put, List.getElem_toArray, List.getElem_cons_succ, List.getElem_cons_zero, List.setIfInBounds_toArray, List.set_cons_zero, List.set_cons_succ]
  refine Turns.take hS 1 _ rfl (by kernel_rfl) (by kernel_rfl) (by kernel_rfl) (by kernel_rfl) (fun _ _ _ h => h) (by rfl) (fun w' hS' => by (try dsimp only at hS'); go_split_ands; go_simp; (try with_reducible rfl)) ?_
  simp only [Act.put, List.getElem_toArray, List.getElem_cons_succ, List.getElem_cons_zero, List.setIfInBounds_toArray, List.set_cons_zero, List.set_cons_succ]
  refine Turns.take hS 2 _ rfl (by kernel_rfl) (by kernel_rfl) (by kernel_rfl) (by kernel_rfl) (fun _ _ _ h => h) (by rfl) (fun w' hS' => by (try dsimp only at hS'); go_split_ands; go_simp; (try with_reducible rfl)) ?_
  simp only [Act.put, List.getElem_toArray, List.getElem_cons_succ, List.getElem_cons_zero, List.setIfInBounds_toArray, List.set_cons_zero, List.set_cons_succ]
  refine Turns.take hS 3 _ rfl (by kernel_rfl) (by kernel_rfl) (by kernel_rfl) (by kernel_rfl) (fun _ _ _ h => h) (by rfl) (fun w' hS' => by (try dsimp only at hS'); go_split_ands; go_simp; (try with_reducible rfl)) ?_
  simp only [Act.put, List.getElem_toArray, List.getElem_cons_succ, List.getElem_cons_zero, List.setIfInBounds_toArray, List.set_cons_zero, List.set_cons_succ]
  refine Turns.take hS 4 _ rfl (by kernel_rfl) (by kernel_rfl) (by kernel_rfl) (by kernel_rfl) (fun _ _ _ h => h) (by rfl) (fun w' hS' => by (try dsimp only at hS'); go_split_ands; go_simp; (try with_reducible rfl)) ?_
  simp only [Act.put, List.getElem_toArray, List.getElem_cons_succ, List.getElem_cons_zero, List.setIfInBounds_toArray, List.set_cons_zero, List.set_cons_succ]
  refine Turns.next 5 rfl (by kernel_rfl) (by rfl) (fun K hK => ?_)
  go_simp
  go_at_call 18
  refine (HG.out _).mono ?_
  rintro e w1 ⟨rfl, hb1⟩
  replace HX := Lib.hid (HX.out.next hb1)
  replace HB := Lib.hid (HB.out.below hb1)
  clear hb1
  refine hK.out _ _ (show (fun (w' : World) => w'.cell? ⟨w.heap.size, 0, none⟩ = some (.int .i64 6) ∧ w'.cell? ⟨w.heap.size, 1, none⟩ = some (.int .i64 f) ∧ w'.cell? ⟨w.heap.size, 2, none⟩ = some (.int .i64 tz) ∧ w'.cell? ⟨w.heap.size, 3, none⟩ = some (.int .i64 r) ∧ w'.cell? ⟨w.heap.size, 4, none⟩ = some (.int .u16 b) ∧ w'.cell? ⟨w.heap.size, 5, none⟩ = some (.int .u16 q) ∧ w'.cell? ⟨w.heap.size, 6, none⟩ = some (.int .i64 ho) ∧ w'.cell? ⟨w.heap.size, 7, none⟩ = some (.int .i64 ti) ∧ w'.cell? ⟨w.heap.size, 8, none⟩ = some (.int .i64 le) ∧ w'.cell? ⟨w.heap.size, 9, none⟩ = some (.int .i64 se) ∧ w'.cell? ⟨w.heap.size, 10, none⟩ = some (.int .i64 go) ∧ w'.cell? ⟨w.heap.size, 11, none⟩ = some (.int .i64 ba) ∧ w'.cell? ⟨w.heap.size, 12, none⟩ = some (.int .i64 g) ∧ w'.cell? ⟨w.heap.size, 13, none⟩ = some (.int .i64 t) ∧ w'.cell? ⟨x, 0, none⟩ = some (.int .i64 0) ∧ w'.cell? ⟨x, 5, none⟩ = some (.int .u16 s.q)) _ from ⟨HX.out.holds.cell 0, HX.out.holds.cell 1, HX.out.holds.cell 2, HX.out.holds.cell 3, HX.out.holds.cell 4, HX.out.holds.cell 5, HX.out.holds.cell 6, HX.out.holds.cell 7, HX.out.holds.cell 8, HX.out.holds.cell 9, HX.out.holds.cell 10, HX.out.holds.cell 11, HX.out.holds.cell 12, HX.out.holds.cell 13, (HKV.out ▸ HB.out.ck), HB.out.cq⟩) ?_
  clear hK K hS
  have hS := (show (fun (w' : World) => w'.cell? ⟨w.heap.size, 0, none⟩ = some (.int .i64 6) ∧ w'.cell? ⟨w.heap.size, 1, none⟩ = some (.int .i64 f) ∧ w'.cell? ⟨w.heap.size, 2, none⟩ = some (.int .i64 tz) ∧ w'.cell? ⟨w.heap.size, 3, none⟩ = some (.int .i64 r) ∧ w'.cell? ⟨w.heap.size, 4, none⟩ = some (.int .u16 b) ∧ w'.cell? ⟨w.heap.size, 5, none⟩ = some (.int .u16 q) ∧ w'.cell? ⟨w.heap.size, 6, none⟩ = some (.int .i64 ho) ∧ w'.cell? ⟨w.heap.size, 7, none⟩ = some (.int .i64 ti) ∧ w'.cell? ⟨w.heap.size, 8, none⟩ = some (.int .i64 le) ∧ w'.cell? ⟨w.heap.size, 9, none⟩ = some (.int .i64 se) ∧ w'.cell? ⟨w.heap.size, 10, none⟩ = some (.int .i64 go) ∧ w'.cell? ⟨w.heap.size, 11, none⟩ = some (.int .i64 ba) ∧ w'.cell? ⟨w.heap.size, 12, none⟩ = some (.int .i64 g) ∧ w'.cell? ⟨w.heap.size, 13, none⟩ = some (.int .i64 t) ∧ w'.cell? ⟨x, 0, none⟩ = some (.int .i64 0) ∧ w'.cell? ⟨x, 5, none⟩ = some (.int .u16 s.q)) _ from ⟨HX.out.holds.cell 0, HX.out.holds.cell 1, HX.out.holds.cell 2, HX.out.holds.cell 3, HX.out.holds.cell 4, HX.out.holds.cell 5, HX.out.holds.cell 6, HX.out.holds.cell 7, HX.out.holds.cell 8, HX.out.holds.cell 9, HX.out.holds.cell 10, HX.out.holds.cell 11, HX.out.holds.cell 12, HX.out.holds.cell 13, (HKV.out ▸ HB.out.ck), HB.out.cq⟩)
  refine Turns.take hS 6 _ rfl (by kernel_rfl) (by kernel_rfl) (by kernel_rfl) (by kernel_rfl) (fun _ _ _ h => h) (by rfl) (fun w' hS' => by (try dsimp only at hS'); go_split_ands; go_simp; (try with_reducible rfl)) ?_
  simp only [Act.put, List.getElem_toArray, List.getElem_cons_succ, List.getElem_cons_zero, List.setIfInBounds_toArray, List.set_cons_zero, List.set_cons_succ]
  refine Turns.take hS 7 _ rfl (by kernel_rfl) (by kernel_rfl) (by kernel_rfl) (by kernel_rfl) (fun _ _ _ h => h) (by rfl) (fun w' hS' => by (try dsimp only at hS'); go_split_ands; go_simp; (try with_reducible rfl)) ?_
  simp only [Act.put, List.getElem_toArray, List.getElem_cons_succ, List.getElem_cons_zero, List.setIfInBounds_toArray, List.set_cons_zero, List.set_cons_succ]
  refine Turns.take hS 8 _ rfl (by kernel_rfl) (by kernel_rfl) (by kernel_rfl) (by kernel_rfl) (fun _ _ _ h => h) (by rfl) (fun w' hS' => by (try dsimp only at hS'); go_split_ands; go_simp; (try with_reducible rfl)) ?_
  simp only [Act.put, List.getElem_toArray, List.getElem_cons_succ, List.getElem_cons_zero, List.setIfInBounds_toArray, List.set_cons_zero, List.set_cons_succ]
  refine Turns.take hS 9 _ rfl (by kernel_rfl) (by kernel_rfl) (by kernel_rfl) (by kernel_rfl) (fun _ _ _ h => h) (by rfl) (fun w' hS' => by (try dsimp only at hS'); go_split_ands; go_simp; (try with_reducible rfl)) ?_
  simp only [Act.put, List.getElem_toArray, List.getElem_cons_succ, List.getElem_cons_zero, List.setIfInBounds_toArray, List.set_cons_zero, List.set_cons_succ]
  refine Turns.take hS 10 _ rfl (by kernel_rfl) (by kernel_rfl) (by kernel_rfl) (by kernel_rfl) (fun _ _ _ h => h) (by rfl) (fun w' hS' => by (try dsimp only at hS'); go_split_ands; go_simp; (try with_reducible rfl)) ?_
  simp only [Act.put, List.getElem_toArray, List.getElem_cons_succ, List.getElem_cons_zero, List.setIfInBounds_toArray, List.set_cons_zero, List.set_cons_succ]
  refine Turns.take hS 11 _ rfl (by kernel_rfl) (by kernel_rfl) (by kernel_rfl) (by kernel_rfl) (fun _ _ _ h => h) (by rfl) (fun w' hS' => by (try dsimp only at hS'); go_split_ands; go_simp; (try with_reducible rfl)) ?_
  simp only [Act.put, List.getElem_toArray, List.getElem_cons_succ, List.getElem_cons_zero, List.setIfInBounds_toArray, List.set_cons_zero, List.set_cons_succ]
  refine Turns.take hS 12 _ rfl (by kernel_rfl) (by kernel_rfl) (by kernel_rfl) (by kernel_rfl) (fun _ _ _ h => h) (by rfl) (fun w' hS' => by (try dsimp only at hS'); go_split_ands; go_simp; (try with_reducible rfl)) ?_
  simp only [Act.put, List.getElem_toArray, List.getElem_cons_succ, List.getElem_cons_zero, List.setIfInBounds_toArray, List.set_cons_zero, List.set_cons_succ]
  refine Turns.take hS 13 _ rfl (by kernel_rfl) (by kernel_rfl) (by kernel_rfl) (by kernel_rfl) (fun _ _ _ h => h) (by rfl) (fun w' hS' => by (try dsimp only at hS'); go_split_ands; go_simp; (try with_reducible rfl)) ?_
  simp only [Act.put, List.getElem_toArray, List.getElem_cons_succ, List.getElem_cons_zero, List.setIfInBounds_toArray, List.set_cons_zero, List.set_cons_succ]
  refine Turns.take hS 14 _ rfl (by kernel_rfl) (by kernel_rfl) (by kernel_rfl) (by kernel_rfl) (fun _ _ _ h => h) (by rfl) (fun w' hS' => by (try dsimp only at hS'); go_split_ands; go_simp; (try with_reducible rfl)) ?_
  simp only [Act.put, List.getElem_toArray, List.getElem_cons_succ, List.getElem_cons_zero, List.setIfInBounds_toArray, List.set_cons_zero, List.set_cons_succ]
  refine Turns.take hS 15 _ rfl (by kernel_rfl) (by kernel_rfl) (by kernel_rfl) (by kernel_rfl) (fun _ _ _ h => h) (by rfl) (fun w' hS' => by (try dsimp only at hS'); go_split_ands; go_simp; (try with_reducible rfl)) ?_
  simp only [Act.put, List.getElem_toArray, List.getElem_cons_succ, List.getElem_cons_zero, List.setIfInBounds_toArray, List.set_cons_zero, List.set_cons_succ]
  refine Turns.skip hS 16 rfl (by kernel_rfl) (by kernel_rfl) (by kernel_rfl) (by kernel_rfl) (fun _ _ _ h => h) (by rfl) ?_
  simp only [Act.put, List.getElem_toArray, List.getElem_cons_succ, List.getElem_cons_zero, List.setIfInBounds_toArray, List.set_cons_zero, List.set_cons_succ]
  refine Turns.skip hS 17 rfl (by kernel_rfl) (by kernel_rfl) (by kernel_rfl) (by kernel_rfl) (fun _ _ _ h => h) (by rfl) ?_
  simp only [Act.put, List.getElem_toArray, List.getElem_cons_succ, List.getElem_cons_zero, List.setIfInBounds_toArray, List.set_cons_zero, List.set_cons_succ]
  refine Turns.skip hS 18 rfl (by kernel_rfl) (by kernel_rfl) (by kernel_rfl) (by kernel_rfl) (fun _ _ _ h => h) (by rfl) ?_
  simp only [Act.put, List.getElem_toArray, List.getElem_cons_succ, List.getElem_cons_zero, List.setIfInBounds_toArray, List.set_cons_zero, List.set_cons_succ]
  refine Turns.skip hS 19 rfl (by kernel_rfl) (by kernel_rfl) (by kernel_rfl) (by kernel_rfl) (fun _ _ _ h => h) (by rfl) ?_
  simp only [Act.put, List.getElem_toArray, List.getElem_cons_succ, List.getElem_cons_zero, List.setIfInBounds_toArray, List.set_cons_zero, List.set_cons_succ]
  refine Turns.skip hS 20 rfl (by kernel_rfl) (by kernel_rfl) (by kernel_rfl) (by kernel_rfl) (fun _ _ _ h => h) (by rfl) ?_
  simp only [Act.put, List.getElem_toArray, List.getElem_cons_succ, List.getElem_cons_zero, List.setIfInBounds_toArray, List.set_cons_zero, List.set_cons_succ]
  refine Turns.skip hS 21 rfl (by kernel_rfl) (by kernel_rfl) (by kernel_rfl) (by kernel_rfl) (fun _ _ _ h => h) (by rfl) ?_
  simp only [Act.put, List.getElem_toArray, List.getElem_cons_succ, List.getElem_cons_zero, List.setIfInBounds_toArray, List.set_cons_zero, List.set_cons_succ]
  refine Turns.skip hS 22 rfl (by kernel_rfl) (by kernel_rfl) (by kernel_rfl) (by kernel_rfl) (fun _ _ _ h => h) (by rfl) ?_
  simp only [Act.put, List.getElem_toArray, List.getElem_cons_succ, List.getElem_cons_zero, List.setIfInBounds_toArray, List.set_cons_zero, List.set_cons_succ]
  refine Turns.skip hS 23 rfl (by kernel_rfl) (by kernel_rfl) (by kernel_rfl) (by kernel_rfl) (fun _ _ _ h => h) (by rfl) ?_
  simp only [Act.put, List.getElem_toArray, List.getElem_cons_succ, List.getElem_cons_zero, List.setIfInBounds_toArray, List.set_cons_zero, List.set_cons_succ]
  refine Turns.skip hS 24 rfl (by kernel_rfl) (by kernel_rfl) (by kernel_rfl) (by kernel_rfl) (fun _ _ _ h => h) (by rfl) ?_
  simp only [Act.put, List.getElem_toArray, List.getElem_cons_succ, List.getElem_cons_zero, List.setIfInBounds_toArray, List.set_cons_zero, List.set_cons_succ]
  refine Turns.take hS 25 _ rfl (by kernel_rfl) (by kernel_rfl) (by kernel_rfl) (by kernel_rfl) (fun _ _ _ h => h) (by rfl) (fun w' hS' => by (try dsimp only at hS'); go_split_ands; go_simp; (try with_reducible rfl)) ?_
  simp only [Act.put, List.getElem_toArray, List.getElem_cons_succ, List.getElem_cons_zero, List.setIfInBounds_toArray, List.set_cons_zero, List.set_cons_succ]
  refine Turns.take hS 26 _ rfl (by kernel_rfl) (by kernel_rfl) (by kernel_rfl) (by kernel_rfl) (fun _ _ _ h => h) (by rfl) (fun w' hS' => by (try dsimp only at hS'); go_split_ands; go_simp; (try with_reducible rfl)) ?_
  simp only [Act.put, List.getElem_toArray, List.getElem_cons_succ, List.getElem_cons_zero, List.setIfInBounds_toArray, List.set_cons_zero, List.set_cons_succ]
  refine Turns.rest (late_done (by kernel_rfl)) ?_
  refine any_tail 27 (by rfl) (by kernel_rfl) ?_
  simp only [List.drop_succ_cons, List.drop_zero]
  clear hS
  have x0 := HX.out.holds.cell 0
  have x1 := HX.out.holds.cell 1
  have x2 := HX.out.holds.cell 2
  have x3 := HX.out.holds.cell 3
  have x4 := HX.out.holds.cell 4
  have x5 := HX.out.holds.cell 5
  have x6 := HX.out.holds.cell 6
  have x7 := HX.out.holds.cell 7
  have x8 := HX.out.holds.cell 8
  have x9 := HX.out.holds.cell 9
  have x10 := HX.out.holds.cell 10
  have x11 := HX.out.holds.cell 11
  have x12 := HX.out.holds.cell 12
  have x13 := HX.out.holds.cell 13
  go_wp2_with (first
    | (go_at_call 29; refine (ronly6 f tz r b q ho ti le se go ba g t _).mono ?_; rintro e w2 ⟨rfl, hb2⟩; replace HX := Lib.hid (HX.out.next hb2); replace HB := Lib.hid (HB.out.below hb2); clear hb2 x0 x1 x2 x3 x4 x5 x6 x7 x8 x9 x10 x11 x12 x13)
    | (refine wpList_store_at rfl 54 (.tmp 36) (.tmp 34) rfl x 0 (pl6 6 f q r b g t) rfl rfl 56 (pl6 (kindV s) s.f s.q s.r s.b s.g s.t) HB.out plain_size6 (Nat.le_refl 14) (pl6_one _ _ _ _ _ _ _) ?_; rw [splice_all (pl6 (kindV s) s.f s.q s.r s.b s.g s.t) (pl6 6 f q r b g t) rfl]; have HGO := Lib.hid (RGoes.row (s' := ⟨true, f, q, r, b, g, t⟩) HH.out HX.out.below)))
  go_ret
  exact ⟨rfl, HGO.out⟩
set_option maxHeartbeats 4000000 in
set_option maxRecDepth 100000 in
theorem rhear_old (w : World) (x : Nat) (s : BS) (h : Rb w x s) (f tz r b q ho ti le se go ba g t : Int) (ff : Fits f) (fr : Fits r) (fg : Fits g) (ft : Fits t) (hb : F16 b) (hq : F16 q) (hqs : F16 s.q) (ha : ancB f q r b g t = true) (hh : s.has = true) (hn : newB q s.q = false) : Calls Try.prog 15 #[.pointer (some ⟨x, 0, none⟩), .agg #[.int .i64 6, .int .i64 f, .int .i64 tz, .int .i64 r, .int .u16 b, .int .u16 q, .int .i64 ho, .int .i64 ti, .int .i64 le, .int .i64 se, .int .i64 go, .int .i64 ba, .int .i64 g, .int .i64 t]] w fun e w' => e = .returned (.bool false) ∧ RGoes x s w w' := by
  have HN := Lib.hid hn
  have HH := Lib.hid h
  have HG := Lib.hid (fun W => rgood6 f tz r b q ho ti le se go ba g t W ff fr fg ft hb hq)
  rw [ha] at HG
  have HKV := Lib.hid (show kindV s = 6 by unfold kindV; rw [hh]; rfl)
  have HQ := Lib.hid (And.intro hq hqs)
  have hX := Box.start w 54 #[.int .i64 6, .int .i64 f, .int .i64 tz, .int .i64 r, .int .u16 b, .int .u16 q, .int .i64 ho, .int .i64 ti, .int .i64 le, .int .i64 se, .int .i64 go, .int .i64 ba, .int .i64 g, .int .i64 t]
  have hB := h.below hX.below
  clear h ha ff fr fg ft hb hq hqs
  go_enter Try.func15, Try.ntmps15
  go_upto_region 1 with (fail)
  obtain ⟨V, hV⟩ : ∃ V, V = w.alloc (.cells #[.int .i64 6, .int .i64 f, .int .i64 tz, .int .i64 r, .int .u16 b, .int .u16 q, .int .i64 ho, .int .i64 ti, .int .i64 le, .int .i64 se, .int .i64 go, .int .i64 ba, .int .i64 g, .int .i64 t] 54) := ⟨_, rfl⟩
  rw [← hV] at hX hB ⊢
  clear hV
  have HX := Lib.hid hX.drew
  have HB := Lib.hid (show Rb V.drew x s from hB)
  clear hX hB
  obtain ⟨kk, hkk⟩ : ∃ kk, kindV s = kk := ⟨_, rfl⟩
  rw [HKV.out] at hkk
  subst hkk
  refine region_turns (fun (w' : World) => w'.cell? ⟨w.heap.size, 0, none⟩ = some (.int .i64 6) ∧ w'.cell? ⟨w.heap.size, 1, none⟩ = some (.int .i64 f) ∧ w'.cell? ⟨w.heap.size, 2, none⟩ = some (.int .i64 tz) ∧ w'.cell? ⟨w.heap.size, 3, none⟩ = some (.int .i64 r) ∧ w'.cell? ⟨w.heap.size, 4, none⟩ = some (.int .u16 b) ∧ w'.cell? ⟨w.heap.size, 5, none⟩ = some (.int .u16 q) ∧ w'.cell? ⟨w.heap.size, 6, none⟩ = some (.int .i64 ho) ∧ w'.cell? ⟨w.heap.size, 7, none⟩ = some (.int .i64 ti) ∧ w'.cell? ⟨w.heap.size, 8, none⟩ = some (.int .i64 le) ∧ w'.cell? ⟨w.heap.size, 9, none⟩ = some (.int .i64 se) ∧ w'.cell? ⟨w.heap.size, 10, none⟩ = some (.int .i64 go) ∧ w'.cell? ⟨w.heap.size, 11, none⟩ = some (.int .i64 ba) ∧ w'.cell? ⟨w.heap.size, 12, none⟩ = some (.int .i64 g) ∧ w'.cell? ⟨w.heap.size, 13, none⟩ = some (.int .i64 t) ∧ w'.cell? ⟨x, 0, none⟩ = some (.int .i64 6) ∧ w'.cell? ⟨x, 5, none⟩ = some (.int .u16 s.q)) (fun j => decide (27 ≤ j)) (by kernel_rfl) (⟨HX.out.holds.cell 0, HX.out.holds.cell 1, HX.out.holds.cell 2, HX.out.holds.cell 3, HX.out.holds.cell 4, HX.out.holds.cell 5, HX.out.holds.cell 6, HX.out.holds.cell 7, HX.out.holds.cell 8, HX.out.holds.cell 9, HX.out.holds.cell 10, HX.out.holds.cell 11, HX.out.holds.cell 12, HX.out.holds.cell 13, (HKV.out ▸ HB.out.ck), HB.out.cq⟩) (fun hS => ?_)
  refine Turns.take hS 0 _ rfl (by kernel_rfl) (by kernel_rfl) (by kernel_rfl) (by kernel_rfl) (fun _ _ _ h => h) (by rfl) (fun w' hS' => by (try dsimp only at hS'); go_split_ands; go_simp; (try with_reducible rfl)) ?_
  simp only [Act.put, List.getElem_toArray, List.getElem_cons_succ, List.getElem_cons_zero, List.setIfInBounds_toArray, List.set_cons_zero, List.set_cons_succ]
  refine Turns.take hS 1 _ rfl (by kernel_rfl) (by kernel_rfl) (by kernel_rfl) (by kernel_rfl) (fun _ _ _ h => h) (by rfl) (fun w' hS' => by (try dsimp only at hS'); go_split_ands; go_simp; (try with_reducible rfl)) ?_
  simp only [Act.put, List.getElem_toArray, List.getElem_cons_succ, List.getElem_cons_zero, List.setIfInBounds_toArray, List.set_cons_zero, List.set_cons_succ]
  refine Turns.take hS 2 _ rfl (by kernel_rfl) (by kernel_rfl) (by kernel_rfl) (by kernel_rfl) (fun _ _ _ h => h) (by rfl) (fun w' hS' => by (try dsimp only at hS'); go_split_ands; go_simp; (try with_reducible rfl)) ?_
  simp only [Act.put, List.getElem_toArray, List.getElem_cons_succ, List.getElem_cons_zero, List.setIfInBounds_toArray, List.set_cons_zero, List.set_cons_succ]
  refine Turns.take hS 3 _ rfl (by kernel_rfl) (by kernel_rfl) (by kernel_rfl) (by kernel_rfl) (fun _ _ _ h => h) (by rfl) (fun w' hS' => by (try dsimp only at hS'); go_split_ands; go_simp; (try with_reducible rfl)) ?_
  simp only [Act.put, List.getElem_toArray, List.getElem_cons_succ, List.getElem_cons_zero, List.setIfInBounds_toArray, List.set_cons_zero, List.set_cons_succ]
  refine Turns.take hS 4 _ rfl (by kernel_rfl) (by kernel_rfl) (by kernel_rfl) (by kernel_rfl) (fun _ _ _ h => h) (by rfl) (fun w' hS' => by (try dsimp only at hS'); go_split_ands; go_simp; (try with_reducible rfl)) ?_
  simp only [Act.put, List.getElem_toArray, List.getElem_cons_succ, List.getElem_cons_zero, List.setIfInBounds_toArray, List.set_cons_zero, List.set_cons_succ]
  refine Turns.next 5 rfl (by kernel_rfl) (by rfl) (fun K hK => ?_)
  go_simp
  go_at_call 18
  refine (HG.out _).mono ?_
  rintro e w1 ⟨rfl, hb1⟩
  replace HX := Lib.hid (HX.out.next hb1)
  replace HB := Lib.hid (HB.out.below hb1)
  clear hb1
  refine hK.out _ _ (show (fun (w' : World) => w'.cell? ⟨w.heap.size, 0, none⟩ = some (.int .i64 6) ∧ w'.cell? ⟨w.heap.size, 1, none⟩ = some (.int .i64 f) ∧ w'.cell? ⟨w.heap.size, 2, none⟩ = some (.int .i64 tz) ∧ w'.cell? ⟨w.heap.size, 3, none⟩ = some (.int .i64 r) ∧ w'.cell? ⟨w.heap.size, 4, none⟩ = some (.int .u16 b) ∧ w'.cell? ⟨w.heap.size, 5, none⟩ = some (.int .u16 q) ∧ w'.cell? ⟨w.heap.size, 6, none⟩ = some (.int .i64 ho) ∧ w'.cell? ⟨w.heap.size, 7, none⟩ = some (.int .i64 ti) ∧ w'.cell? ⟨w.heap.size, 8, none⟩ = some (.int .i64 le) ∧ w'.cell? ⟨w.heap.size, 9, none⟩ = some (.int .i64 se) ∧ w'.cell? ⟨w.heap.size, 10, none⟩ = some (.int .i64 go) ∧ w'.cell? ⟨w.heap.size, 11, none⟩ = some (.int .i64 ba) ∧ w'.cell? ⟨w.heap.size, 12, none⟩ = some (.int .i64 g) ∧ w'.cell? ⟨w.heap.size, 13, none⟩ = some (.int .i64 t) ∧ w'.cell? ⟨x, 0, none⟩ = some (.int .i64 6) ∧ w'.cell? ⟨x, 5, none⟩ = some (.int .u16 s.q)) _ from ⟨HX.out.holds.cell 0, HX.out.holds.cell 1, HX.out.holds.cell 2, HX.out.holds.cell 3, HX.out.holds.cell 4, HX.out.holds.cell 5, HX.out.holds.cell 6, HX.out.holds.cell 7, HX.out.holds.cell 8, HX.out.holds.cell 9, HX.out.holds.cell 10, HX.out.holds.cell 11, HX.out.holds.cell 12, HX.out.holds.cell 13, (HKV.out ▸ HB.out.ck), HB.out.cq⟩) ?_
  clear hK K hS
  have hS := (show (fun (w' : World) => w'.cell? ⟨w.heap.size, 0, none⟩ = some (.int .i64 6) ∧ w'.cell? ⟨w.heap.size, 1, none⟩ = some (.int .i64 f) ∧ w'.cell? ⟨w.heap.size, 2, none⟩ = some (.int .i64 tz) ∧ w'.cell? ⟨w.heap.size, 3, none⟩ = some (.int .i64 r) ∧ w'.cell? ⟨w.heap.size, 4, none⟩ = some (.int .u16 b) ∧ w'.cell? ⟨w.heap.size, 5, none⟩ = some (.int .u16 q) ∧ w'.cell? ⟨w.heap.size, 6, none⟩ = some (.int .i64 ho) ∧ w'.cell? ⟨w.heap.size, 7, none⟩ = some (.int .i64 ti) ∧ w'.cell? ⟨w.heap.size, 8, none⟩ = some (.int .i64 le) ∧ w'.cell? ⟨w.heap.size, 9, none⟩ = some (.int .i64 se) ∧ w'.cell? ⟨w.heap.size, 10, none⟩ = some (.int .i64 go) ∧ w'.cell? ⟨w.heap.size, 11, none⟩ = some (.int .i64 ba) ∧ w'.cell? ⟨w.heap.size, 12, none⟩ = some (.int .i64 g) ∧ w'.cell? ⟨w.heap.size, 13, none⟩ = some (.int .i64 t) ∧ w'.cell? ⟨x, 0, none⟩ = some (.int .i64 6) ∧ w'.cell? ⟨x, 5, none⟩ = some (.int .u16 s.q)) _ from ⟨HX.out.holds.cell 0, HX.out.holds.cell 1, HX.out.holds.cell 2, HX.out.holds.cell 3, HX.out.holds.cell 4, HX.out.holds.cell 5, HX.out.holds.cell 6, HX.out.holds.cell 7, HX.out.holds.cell 8, HX.out.holds.cell 9, HX.out.holds.cell 10, HX.out.holds.cell 11, HX.out.holds.cell 12, HX.out.holds.cell 13, (HKV.out ▸ HB.out.ck), HB.out.cq⟩)
  refine Turns.take hS 6 _ rfl (by kernel_rfl) (by kernel_rfl) (by kernel_rfl) (by kernel_rfl) (fun _ _ _ h => h) (by rfl) (fun w' hS' => by (try dsimp only at hS'); go_split_ands; go_simp; (try with_reducible rfl)) ?_
  simp only [Act.put, List.getElem_toArray, List.getElem_cons_succ, List.getElem_cons_zero, List.setIfInBounds_toArray, List.set_cons_zero, List.set_cons_succ]
  refine Turns.take hS 7 _ rfl (by kernel_rfl) (by kernel_rfl) (by kernel_rfl) (by kernel_rfl) (fun _ _ _ h => h) (by rfl) (fun w' hS' => by (try dsimp only at hS'); go_split_ands; go_simp; (try with_reducible rfl)) ?_
  simp only [Act.put, List.getElem_toArray, List.getElem_cons_succ, List.getElem_cons_zero, List.setIfInBounds_toArray, List.set_cons_zero, List.set_cons_succ]
  refine Turns.take hS 8 _ rfl (by kernel_rfl) (by kernel_rfl) (by kernel_rfl) (by kernel_rfl) (fun _ _ _ h => h) (by rfl) (fun w' hS' => by (try dsimp only at hS'); go_split_ands; go_simp; (try with_reducible rfl)) ?_
  simp only [Act.put, List.getElem_toArray, List.getElem_cons_succ, List.getElem_cons_zero, List.setIfInBounds_toArray, List.set_cons_zero, List.set_cons_succ]
  refine Turns.take hS 9 _ rfl (by kernel_rfl) (by kernel_rfl) (by kernel_rfl) (by kernel_rfl) (fun _ _ _ h => h) (by rfl) (fun w' hS' => by (try dsimp only at hS'); go_split_ands; go_simp; (try with_reducible rfl)) ?_
  simp only [Act.put, List.getElem_toArray, List.getElem_cons_succ, List.getElem_cons_zero, List.setIfInBounds_toArray, List.set_cons_zero, List.set_cons_succ]
  refine Turns.take hS 10 _ rfl (by kernel_rfl) (by kernel_rfl) (by kernel_rfl) (by kernel_rfl) (fun _ _ _ h => h) (by rfl) (fun w' hS' => by (try dsimp only at hS'); go_split_ands; go_simp; (try with_reducible rfl)) ?_
  simp only [Act.put, List.getElem_toArray, List.getElem_cons_succ, List.getElem_cons_zero, List.setIfInBounds_toArray, List.set_cons_zero, List.set_cons_succ]
  refine Turns.take hS 11 _ rfl (by kernel_rfl) (by kernel_rfl) (by kernel_rfl) (by kernel_rfl) (fun _ _ _ h => h) (by rfl) (fun w' hS' => by (try dsimp only at hS'); go_split_ands; go_simp; (try with_reducible rfl)) ?_
  simp only [Act.put, List.getElem_toArray, List.getElem_cons_succ, List.getElem_cons_zero, List.setIfInBounds_toArray, List.set_cons_zero, List.set_cons_succ]
  refine Turns.take hS 12 _ rfl (by kernel_rfl) (by kernel_rfl) (by kernel_rfl) (by kernel_rfl) (fun _ _ _ h => h) (by rfl) (fun w' hS' => by (try dsimp only at hS'); go_split_ands; go_simp; (try with_reducible rfl)) ?_
  simp only [Act.put, List.getElem_toArray, List.getElem_cons_succ, List.getElem_cons_zero, List.setIfInBounds_toArray, List.set_cons_zero, List.set_cons_succ]
  refine Turns.take hS 13 _ rfl (by kernel_rfl) (by kernel_rfl) (by kernel_rfl) (by kernel_rfl) (fun _ _ _ h => h) (by rfl) (fun w' hS' => by (try dsimp only at hS'); go_split_ands; go_simp; (try with_reducible rfl)) ?_
  simp only [Act.put, List.getElem_toArray, List.getElem_cons_succ, List.getElem_cons_zero, List.setIfInBounds_toArray, List.set_cons_zero, List.set_cons_succ]
  refine Turns.take hS 14 _ rfl (by kernel_rfl) (by kernel_rfl) (by kernel_rfl) (by kernel_rfl) (fun _ _ _ h => h) (by rfl) (fun w' hS' => by (try dsimp only at hS'); go_split_ands; go_simp; (try with_reducible rfl)) ?_
  simp only [Act.put, List.getElem_toArray, List.getElem_cons_succ, List.getElem_cons_zero, List.setIfInBounds_toArray, List.set_cons_zero, List.set_cons_succ]
  refine Turns.take hS 15 _ rfl (by kernel_rfl) (by kernel_rfl) (by kernel_rfl) (by kernel_rfl) (fun _ _ _ h => h) (by rfl) (fun w' hS' => by (try dsimp only at hS'); go_split_ands; go_simp; (try with_reducible rfl)) ?_
  simp only [Act.put, List.getElem_toArray, List.getElem_cons_succ, List.getElem_cons_zero, List.setIfInBounds_toArray, List.set_cons_zero, List.set_cons_succ]
  refine Turns.take hS 16 _ rfl (by kernel_rfl) (by kernel_rfl) (by kernel_rfl) (by kernel_rfl) (fun _ _ _ h => h) (by rfl) (fun w' hS' => by (try dsimp only at hS'); go_split_ands; go_simp; (try with_reducible rfl)) ?_
  simp only [Act.put, List.getElem_toArray, List.getElem_cons_succ, List.getElem_cons_zero, List.setIfInBounds_toArray, List.set_cons_zero, List.set_cons_succ]
  refine Turns.take hS 17 _ rfl (by kernel_rfl) (by kernel_rfl) (by kernel_rfl) (by kernel_rfl) (fun _ _ _ h => h) (by rfl) (fun w' hS' => by (try dsimp only at hS'); go_split_ands; go_simp; (try with_reducible rfl)) ?_
  simp only [Act.put, List.getElem_toArray, List.getElem_cons_succ, List.getElem_cons_zero, List.setIfInBounds_toArray, List.set_cons_zero, List.set_cons_succ]
  refine Turns.take hS 18 _ rfl (by kernel_rfl) (by kernel_rfl) (by kernel_rfl) (by kernel_rfl) (fun _ _ _ h => h) (by rfl) (fun w' hS' => by (try dsimp only at hS'); go_split_ands; go_simp; (try with_reducible rfl)) ?_
  simp only [Act.put, List.getElem_toArray, List.getElem_cons_succ, List.getElem_cons_zero, List.setIfInBounds_toArray, List.set_cons_zero, List.set_cons_succ]
  refine Turns.take hS 19 _ rfl (by kernel_rfl) (by kernel_rfl) (by kernel_rfl) (by kernel_rfl) (fun _ _ _ h => h) (by rfl) (fun w' hS' => by (try dsimp only at hS'); go_split_ands; go_simp; (try with_reducible rfl)) ?_
  simp only [Act.put, List.getElem_toArray, List.getElem_cons_succ, List.getElem_cons_zero, List.setIfInBounds_toArray, List.set_cons_zero, List.set_cons_succ]
  refine Turns.take hS 20 _ rfl (by kernel_rfl) (by kernel_rfl) (by kernel_rfl) (by kernel_rfl) (fun _ _ _ h => h) (by rfl) (fun w' hS' => by (try dsimp only at hS'); go_split_ands; go_simp; (try with_reducible rfl)) ?_
  simp only [Act.put, List.getElem_toArray, List.getElem_cons_succ, List.getElem_cons_zero, List.setIfInBounds_toArray, List.set_cons_zero, List.set_cons_succ]
  refine Turns.take hS 21 _ rfl (by kernel_rfl) (by kernel_rfl) (by kernel_rfl) (by kernel_rfl) (fun _ _ _ h => h) (by rfl) (fun w' hS' => by (try dsimp only at hS'); go_split_ands; go_simp; (try with_reducible rfl)) ?_
  simp only [Act.put, List.getElem_toArray, List.getElem_cons_succ, List.getElem_cons_zero, List.setIfInBounds_toArray, List.set_cons_zero, List.set_cons_succ]
  refine Turns.take hS 22 _ rfl (by kernel_rfl) (by kernel_rfl) (by kernel_rfl) (by kernel_rfl) (fun _ _ _ h => h) (by rfl) (fun w' hS' => by (try dsimp only at hS'); go_split_ands; go_simp; (try with_reducible rfl)) ?_
  simp only [Act.put, List.getElem_toArray, List.getElem_cons_succ, List.getElem_cons_zero, List.setIfInBounds_toArray, List.set_cons_zero, List.set_cons_succ]
  refine Turns.next 23 rfl (by kernel_rfl) (by rfl) (fun K hK => ?_)
  go_simp
  go_at_call 28
  refine (rnewer_any q s.q _ HQ.out.1 HQ.out.2).mono ?_
  rintro e wx ⟨rfl, hwx⟩
  rw [HN.out]
  subst wx
  refine hK.out _ _ (show (fun (w' : World) => w'.cell? ⟨w.heap.size, 0, none⟩ = some (.int .i64 6) ∧ w'.cell? ⟨w.heap.size, 1, none⟩ = some (.int .i64 f) ∧ w'.cell? ⟨w.heap.size, 2, none⟩ = some (.int .i64 tz) ∧ w'.cell? ⟨w.heap.size, 3, none⟩ = some (.int .i64 r) ∧ w'.cell? ⟨w.heap.size, 4, none⟩ = some (.int .u16 b) ∧ w'.cell? ⟨w.heap.size, 5, none⟩ = some (.int .u16 q) ∧ w'.cell? ⟨w.heap.size, 6, none⟩ = some (.int .i64 ho) ∧ w'.cell? ⟨w.heap.size, 7, none⟩ = some (.int .i64 ti) ∧ w'.cell? ⟨w.heap.size, 8, none⟩ = some (.int .i64 le) ∧ w'.cell? ⟨w.heap.size, 9, none⟩ = some (.int .i64 se) ∧ w'.cell? ⟨w.heap.size, 10, none⟩ = some (.int .i64 go) ∧ w'.cell? ⟨w.heap.size, 11, none⟩ = some (.int .i64 ba) ∧ w'.cell? ⟨w.heap.size, 12, none⟩ = some (.int .i64 g) ∧ w'.cell? ⟨w.heap.size, 13, none⟩ = some (.int .i64 t) ∧ w'.cell? ⟨x, 0, none⟩ = some (.int .i64 6) ∧ w'.cell? ⟨x, 5, none⟩ = some (.int .u16 s.q)) _ from ⟨HX.out.holds.cell 0, HX.out.holds.cell 1, HX.out.holds.cell 2, HX.out.holds.cell 3, HX.out.holds.cell 4, HX.out.holds.cell 5, HX.out.holds.cell 6, HX.out.holds.cell 7, HX.out.holds.cell 8, HX.out.holds.cell 9, HX.out.holds.cell 10, HX.out.holds.cell 11, HX.out.holds.cell 12, HX.out.holds.cell 13, (HKV.out ▸ HB.out.ck), HB.out.cq⟩) ?_
  clear hK K hS
  have hS := (show (fun (w' : World) => w'.cell? ⟨w.heap.size, 0, none⟩ = some (.int .i64 6) ∧ w'.cell? ⟨w.heap.size, 1, none⟩ = some (.int .i64 f) ∧ w'.cell? ⟨w.heap.size, 2, none⟩ = some (.int .i64 tz) ∧ w'.cell? ⟨w.heap.size, 3, none⟩ = some (.int .i64 r) ∧ w'.cell? ⟨w.heap.size, 4, none⟩ = some (.int .u16 b) ∧ w'.cell? ⟨w.heap.size, 5, none⟩ = some (.int .u16 q) ∧ w'.cell? ⟨w.heap.size, 6, none⟩ = some (.int .i64 ho) ∧ w'.cell? ⟨w.heap.size, 7, none⟩ = some (.int .i64 ti) ∧ w'.cell? ⟨w.heap.size, 8, none⟩ = some (.int .i64 le) ∧ w'.cell? ⟨w.heap.size, 9, none⟩ = some (.int .i64 se) ∧ w'.cell? ⟨w.heap.size, 10, none⟩ = some (.int .i64 go) ∧ w'.cell? ⟨w.heap.size, 11, none⟩ = some (.int .i64 ba) ∧ w'.cell? ⟨w.heap.size, 12, none⟩ = some (.int .i64 g) ∧ w'.cell? ⟨w.heap.size, 13, none⟩ = some (.int .i64 t) ∧ w'.cell? ⟨x, 0, none⟩ = some (.int .i64 6) ∧ w'.cell? ⟨x, 5, none⟩ = some (.int .u16 s.q)) _ from ⟨HX.out.holds.cell 0, HX.out.holds.cell 1, HX.out.holds.cell 2, HX.out.holds.cell 3, HX.out.holds.cell 4, HX.out.holds.cell 5, HX.out.holds.cell 6, HX.out.holds.cell 7, HX.out.holds.cell 8, HX.out.holds.cell 9, HX.out.holds.cell 10, HX.out.holds.cell 11, HX.out.holds.cell 12, HX.out.holds.cell 13, (HKV.out ▸ HB.out.ck), HB.out.cq⟩)
  refine Turns.take hS 24 _ rfl (by kernel_rfl) (by kernel_rfl) (by kernel_rfl) (by kernel_rfl) (fun _ _ _ h => h) (by rfl) (fun w' hS' => by (try dsimp only at hS'); go_split_ands; go_simp; (try with_reducible rfl)) ?_
  simp only [Act.put, List.getElem_toArray, List.getElem_cons_succ, List.getElem_cons_zero, List.setIfInBounds_toArray, List.set_cons_zero, List.set_cons_succ]
  refine Turns.take hS 25 _ rfl (by kernel_rfl) (by kernel_rfl) (by kernel_rfl) (by kernel_rfl) (fun _ _ _ h => h) (by rfl) (fun w' hS' => by (try dsimp only at hS'); go_split_ands; go_simp; (try with_reducible rfl)) ?_
  simp only [Act.put, List.getElem_toArray, List.getElem_cons_succ, List.getElem_cons_zero, List.setIfInBounds_toArray, List.set_cons_zero, List.set_cons_succ]
  refine Turns.take hS 26 _ rfl (by kernel_rfl) (by kernel_rfl) (by kernel_rfl) (by kernel_rfl) (fun _ _ _ h => h) (by rfl) (fun w' hS' => by (try dsimp only at hS'); go_split_ands; go_simp; (try with_reducible rfl)) ?_
  simp only [Act.put, List.getElem_toArray, List.getElem_cons_succ, List.getElem_cons_zero, List.setIfInBounds_toArray, List.set_cons_zero, List.set_cons_succ]
  refine Turns.rest (late_done (by kernel_rfl)) ?_
  refine any_tail 27 (by rfl) (by kernel_rfl) ?_
  simp only [List.drop_succ_cons, List.drop_zero]
  clear hS
  go_wp2
  go_ret
  exact ⟨rfl, RGoes.of_below HH.out HX.out.below⟩
set_option maxHeartbeats 4000000 in
set_option maxRecDepth 100000 in
theorem rhear_next (w : World) (x : Nat) (s : BS) (h : Rb w x s) (f tz r b q ho ti le se go ba g t : Int) (ff : Fits f) (fr : Fits r) (fg : Fits g) (ft : Fits t) (hb : F16 b) (hq : F16 q) (hqs : F16 s.q) (ha : ancB f q r b g t = true) (hh : s.has = true) (hn : newB q s.q = true) : Calls Try.prog 15 #[.pointer (some ⟨x, 0, none⟩), .agg #[.int .i64 6, .int .i64 f, .int .i64 tz, .int .i64 r, .int .u16 b, .int .u16 q, .int .i64 ho, .int .i64 ti, .int .i64 le, .int .i64 se, .int .i64 go, .int .i64 ba, .int .i64 g, .int .i64 t]] w fun e w' => e = .returned (.bool true) ∧ RGoes x ⟨true, f, q, r, b, g, t⟩ w w' := by
  have HN := Lib.hid hn
  have HH := Lib.hid h
  have HG := Lib.hid (fun W => rgood6 f tz r b q ho ti le se go ba g t W ff fr fg ft hb hq)
  rw [ha] at HG
  have HKV := Lib.hid (show kindV s = 6 by unfold kindV; rw [hh]; rfl)
  have HQ := Lib.hid (And.intro hq hqs)
  have hX := Box.start w 54 #[.int .i64 6, .int .i64 f, .int .i64 tz, .int .i64 r, .int .u16 b, .int .u16 q, .int .i64 ho, .int .i64 ti, .int .i64 le, .int .i64 se, .int .i64 go, .int .i64 ba, .int .i64 g, .int .i64 t]
  have hB := h.below hX.below
  clear h ha ff fr fg ft hb hq hqs
  go_enter Try.func15, Try.ntmps15
  go_upto_region 1 with (fail)
  obtain ⟨V, hV⟩ : ∃ V, V = w.alloc (.cells #[.int .i64 6, .int .i64 f, .int .i64 tz, .int .i64 r, .int .u16 b, .int .u16 q, .int .i64 ho, .int .i64 ti, .int .i64 le, .int .i64 se, .int .i64 go, .int .i64 ba, .int .i64 g, .int .i64 t] 54) := ⟨_, rfl⟩
  rw [← hV] at hX hB ⊢
  clear hV
  have HX := Lib.hid hX.drew
  have HB := Lib.hid (show Rb V.drew x s from hB)
  clear hX hB
  obtain ⟨kk, hkk⟩ : ∃ kk, kindV s = kk := ⟨_, rfl⟩
  rw [HKV.out] at hkk
  subst hkk
  refine region_turns (fun (w' : World) => w'.cell? ⟨w.heap.size, 0, none⟩ = some (.int .i64 6) ∧ w'.cell? ⟨w.heap.size, 1, none⟩ = some (.int .i64 f) ∧ w'.cell? ⟨w.heap.size, 2, none⟩ = some (.int .i64 tz) ∧ w'.cell? ⟨w.heap.size, 3, none⟩ = some (.int .i64 r) ∧ w'.cell? ⟨w.heap.size, 4, none⟩ = some (.int .u16 b) ∧ w'.cell? ⟨w.heap.size, 5, none⟩ = some (.int .u16 q) ∧ w'.cell? ⟨w.heap.size, 6, none⟩ = some (.int .i64 ho) ∧ w'.cell? ⟨w.heap.size, 7, none⟩ = some (.int .i64 ti) ∧ w'.cell? ⟨w.heap.size, 8, none⟩ = some (.int .i64 le) ∧ w'.cell? ⟨w.heap.size, 9, none⟩ = some (.int .i64 se) ∧ w'.cell? ⟨w.heap.size, 10, none⟩ = some (.int .i64 go) ∧ w'.cell? ⟨w.heap.size, 11, none⟩ = some (.int .i64 ba) ∧ w'.cell? ⟨w.heap.size, 12, none⟩ = some (.int .i64 g) ∧ w'.cell? ⟨w.heap.size, 13, none⟩ = some (.int .i64 t) ∧ w'.cell? ⟨x, 0, none⟩ = some (.int .i64 6) ∧ w'.cell? ⟨x, 5, none⟩ = some (.int .u16 s.q)) (fun j => decide (27 ≤ j)) (by kernel_rfl) (⟨HX.out.holds.cell 0, HX.out.holds.cell 1, HX.out.holds.cell 2, HX.out.holds.cell 3, HX.out.holds.cell 4, HX.out.holds.cell 5, HX.out.holds.cell 6, HX.out.holds.cell 7, HX.out.holds.cell 8, HX.out.holds.cell 9, HX.out.holds.cell 10, HX.out.holds.cell 11, HX.out.holds.cell 12, HX.out.holds.cell 13, (HKV.out ▸ HB.out.ck), HB.out.cq⟩) (fun hS => ?_)
  refine Turns.take hS 0 _ rfl (by kernel_rfl) (by kernel_rfl) (by kernel_rfl) (by kernel_rfl) (fun _ _ _ h => h) (by rfl) (fun w' hS' => by (try dsimp only at hS'); go_split_ands; go_simp; (try with_reducible rfl)) ?_
  simp only [Act.put, List.getElem_toArray, List.getElem_cons_succ, List.getElem_cons_zero, List.setIfInBounds_toArray, List.set_cons_zero, List.set_cons_succ]
  refine Turns.take hS 1 _ rfl (by kernel_rfl) (by kernel_rfl) (by kernel_rfl) (by kernel_rfl) (fun _ _ _ h => h) (by rfl) (fun w' hS' => by (try dsimp only at hS'); go_split_ands; go_simp; (try with_reducible rfl)) ?_
  simp only [Act.put, List.getElem_toArray, List.getElem_cons_succ, List.getElem_cons_zero, List.setIfInBounds_toArray, List.set_cons_zero, List.set_cons_succ]
  refine Turns.take hS 2 _ rfl (by kernel_rfl) (by kernel_rfl) (by kernel_rfl) (by kernel_rfl) (fun _ _ _ h => h) (by rfl) (fun w' hS' => by (try dsimp only at hS'); go_split_ands; go_simp; (try with_reducible rfl)) ?_
  simp only [Act.put, List.getElem_toArray, List.getElem_cons_succ, List.getElem_cons_zero, List.setIfInBounds_toArray, List.set_cons_zero, List.set_cons_succ]
  refine Turns.take hS 3 _ rfl (by kernel_rfl) (by kernel_rfl) (by kernel_rfl) (by kernel_rfl) (fun _ _ _ h => h) (by rfl) (fun w' hS' => by (try dsimp only at hS'); go_split_ands; go_simp; (try with_reducible rfl)) ?_
  simp only [Act.put, List.getElem_toArray, List.getElem_cons_succ, List.getElem_cons_zero, List.setIfInBounds_toArray, List.set_cons_zero, List.set_cons_succ]
  refine Turns.take hS 4 _ rfl (by kernel_rfl) (by kernel_rfl) (by kernel_rfl) (by kernel_rfl) (fun _ _ _ h => h) (by rfl) (fun w' hS' => by (try dsimp only at hS'); go_split_ands; go_simp; (try with_reducible rfl)) ?_
  simp only [Act.put, List.getElem_toArray, List.getElem_cons_succ, List.getElem_cons_zero, List.setIfInBounds_toArray, List.set_cons_zero, List.set_cons_succ]
  refine Turns.next 5 rfl (by kernel_rfl) (by rfl) (fun K hK => ?_)
  go_simp
  go_at_call 18
  refine (HG.out _).mono ?_
  rintro e w1 ⟨rfl, hb1⟩
  replace HX := Lib.hid (HX.out.next hb1)
  replace HB := Lib.hid (HB.out.below hb1)
  clear hb1
  refine hK.out _ _ (show (fun (w' : World) => w'.cell? ⟨w.heap.size, 0, none⟩ = some (.int .i64 6) ∧ w'.cell? ⟨w.heap.size, 1, none⟩ = some (.int .i64 f) ∧ w'.cell? ⟨w.heap.size, 2, none⟩ = some (.int .i64 tz) ∧ w'.cell? ⟨w.heap.size, 3, none⟩ = some (.int .i64 r) ∧ w'.cell? ⟨w.heap.size, 4, none⟩ = some (.int .u16 b) ∧ w'.cell? ⟨w.heap.size, 5, none⟩ = some (.int .u16 q) ∧ w'.cell? ⟨w.heap.size, 6, none⟩ = some (.int .i64 ho) ∧ w'.cell? ⟨w.heap.size, 7, none⟩ = some (.int .i64 ti) ∧ w'.cell? ⟨w.heap.size, 8, none⟩ = some (.int .i64 le) ∧ w'.cell? ⟨w.heap.size, 9, none⟩ = some (.int .i64 se) ∧ w'.cell? ⟨w.heap.size, 10, none⟩ = some (.int .i64 go) ∧ w'.cell? ⟨w.heap.size, 11, none⟩ = some (.int .i64 ba) ∧ w'.cell? ⟨w.heap.size, 12, none⟩ = some (.int .i64 g) ∧ w'.cell? ⟨w.heap.size, 13, none⟩ = some (.int .i64 t) ∧ w'.cell? ⟨x, 0, none⟩ = some (.int .i64 6) ∧ w'.cell? ⟨x, 5, none⟩ = some (.int .u16 s.q)) _ from ⟨HX.out.holds.cell 0, HX.out.holds.cell 1, HX.out.holds.cell 2, HX.out.holds.cell 3, HX.out.holds.cell 4, HX.out.holds.cell 5, HX.out.holds.cell 6, HX.out.holds.cell 7, HX.out.holds.cell 8, HX.out.holds.cell 9, HX.out.holds.cell 10, HX.out.holds.cell 11, HX.out.holds.cell 12, HX.out.holds.cell 13, (HKV.out ▸ HB.out.ck), HB.out.cq⟩) ?_
  clear hK K hS
  have hS := (show (fun (w' : World) => w'.cell? ⟨w.heap.size, 0, none⟩ = some (.int .i64 6) ∧ w'.cell? ⟨w.heap.size, 1, none⟩ = some (.int .i64 f) ∧ w'.cell? ⟨w.heap.size, 2, none⟩ = some (.int .i64 tz) ∧ w'.cell? ⟨w.heap.size, 3, none⟩ = some (.int .i64 r) ∧ w'.cell? ⟨w.heap.size, 4, none⟩ = some (.int .u16 b) ∧ w'.cell? ⟨w.heap.size, 5, none⟩ = some (.int .u16 q) ∧ w'.cell? ⟨w.heap.size, 6, none⟩ = some (.int .i64 ho) ∧ w'.cell? ⟨w.heap.size, 7, none⟩ = some (.int .i64 ti) ∧ w'.cell? ⟨w.heap.size, 8, none⟩ = some (.int .i64 le) ∧ w'.cell? ⟨w.heap.size, 9, none⟩ = some (.int .i64 se) ∧ w'.cell? ⟨w.heap.size, 10, none⟩ = some (.int .i64 go) ∧ w'.cell? ⟨w.heap.size, 11, none⟩ = some (.int .i64 ba) ∧ w'.cell? ⟨w.heap.size, 12, none⟩ = some (.int .i64 g) ∧ w'.cell? ⟨w.heap.size, 13, none⟩ = some (.int .i64 t) ∧ w'.cell? ⟨x, 0, none⟩ = some (.int .i64 6) ∧ w'.cell? ⟨x, 5, none⟩ = some (.int .u16 s.q)) _ from ⟨HX.out.holds.cell 0, HX.out.holds.cell 1, HX.out.holds.cell 2, HX.out.holds.cell 3, HX.out.holds.cell 4, HX.out.holds.cell 5, HX.out.holds.cell 6, HX.out.holds.cell 7, HX.out.holds.cell 8, HX.out.holds.cell 9, HX.out.holds.cell 10, HX.out.holds.cell 11, HX.out.holds.cell 12, HX.out.holds.cell 13, (HKV.out ▸ HB.out.ck), HB.out.cq⟩)
  refine Turns.take hS 6 _ rfl (by kernel_rfl) (by kernel_rfl) (by kernel_rfl) (by kernel_rfl) (fun _ _ _ h => h) (by rfl) (fun w' hS' => by (try dsimp only at hS'); go_split_ands; go_simp; (try with_reducible rfl)) ?_
  simp only [Act.put, List.getElem_toArray, List.getElem_cons_succ, List.getElem_cons_zero, List.setIfInBounds_toArray, List.set_cons_zero, List.set_cons_succ]
  refine Turns.take hS 7 _ rfl (by kernel_rfl) (by kernel_rfl) (by kernel_rfl) (by kernel_rfl) (fun _ _ _ h => h) (by rfl) (fun w' hS' => by (try dsimp only at hS'); go_split_ands; go_simp; (try with_reducible rfl)) ?_
  simp only [Act.put, List.getElem_toArray, List.getElem_cons_succ, List.getElem_cons_zero, List.setIfInBounds_toArray, List.set_cons_zero, List.set_cons_succ]
  refine Turns.take hS 8 _ rfl (by kernel_rfl) (by kernel_rfl) (by kernel_rfl) (by kernel_rfl) (fun _ _ _ h => h) (by rfl) (fun w' hS' => by (try dsimp only at hS'); go_split_ands; go_simp; (try with_reducible rfl)) ?_
  simp only [Act.put, List.getElem_toArray, List.getElem_cons_succ, List.getElem_cons_zero, List.setIfInBounds_toArray, List.set_cons_zero, List.set_cons_succ]
  refine Turns.take hS 9 _ rfl (by kernel_rfl) (by kernel_rfl) (by kernel_rfl) (by kernel_rfl) (fun _ _ _ h => h) (by rfl) (fun w' hS' => by (try dsimp only at hS'); go_split_ands; go_simp; (try with_reducible rfl)) ?_
  simp only [Act.put, List.getElem_toArray, List.getElem_cons_succ, List.getElem_cons_zero, List.setIfInBounds_toArray, List.set_cons_zero, List.set_cons_succ]
  refine Turns.take hS 10 _ rfl (by kernel_rfl) (by kernel_rfl) (by kernel_rfl) (by kernel_rfl) (fun _ _ _ h => h) (by rfl) (fun w' hS' => by (try dsimp only at hS'); go_split_ands; go_simp; (try with_reducible rfl)) ?_
  simp only [Act.put, List.getElem_toArray, List.getElem_cons_succ, List.getElem_cons_zero, List.setIfInBounds_toArray, List.set_cons_zero, List.set_cons_succ]
  refine Turns.take hS 11 _ rfl (by kernel_rfl) (by kernel_rfl) (by kernel_rfl) (by kernel_rfl) (fun _ _ _ h => h) (by rfl) (fun w' hS' => by (try dsimp only at hS'); go_split_ands; go_simp; (try with_reducible rfl)) ?_
  simp only [Act.put, List.getElem_toArray, List.getElem_cons_succ, List.getElem_cons_zero, List.setIfInBounds_toArray, List.set_cons_zero, List.set_cons_succ]
  refine Turns.take hS 12 _ rfl (by kernel_rfl) (by kernel_rfl) (by kernel_rfl) (by kernel_rfl) (fun _ _ _ h => h) (by rfl) (fun w' hS' => by (try dsimp only at hS'); go_split_ands; go_simp; (try with_reducible rfl)) ?_
  simp only [Act.put, List.getElem_toArray, List.getElem_cons_succ, List.getElem_cons_zero, List.setIfInBounds_toArray, List.set_cons_zero, List.set_cons_succ]
  refine Turns.take hS 13 _ rfl (by kernel_rfl) (by kernel_rfl) (by kernel_rfl) (by kernel_rfl) (fun _ _ _ h => h) (by rfl) (fun w' hS' => by (try dsimp only at hS'); go_split_ands; go_simp; (try with_reducible rfl)) ?_
  simp only [Act.put, List.getElem_toArray, List.getElem_cons_succ, List.getElem_cons_zero, List.setIfInBounds_toArray, List.set_cons_zero, List.set_cons_succ]
  refine Turns.take hS 14 _ rfl (by kernel_rfl) (by kernel_rfl) (by kernel_rfl) (by kernel_rfl) (fun _ _ _ h => h) (by rfl) (fun w' hS' => by (try dsimp only at hS'); go_split_ands; go_simp; (try with_reducible rfl)) ?_
  simp only [Act.put, List.getElem_toArray, List.getElem_cons_succ, List.getElem_cons_zero, List.setIfInBounds_toArray, List.set_cons_zero, List.set_cons_succ]
  refine Turns.take hS 15 _ rfl (by kernel_rfl) (by kernel_rfl) (by kernel_rfl) (by kernel_rfl) (fun _ _ _ h => h) (by rfl) (fun w' hS' => by (try dsimp only at hS'); go_split_ands; go_simp; (try with_reducible rfl)) ?_
  simp only [Act.put, List.getElem_toArray, List.getElem_cons_succ, List.getElem_cons_zero, List.setIfInBounds_toArray, List.set_cons_zero, List.set_cons_succ]
  refine Turns.take hS 16 _ rfl (by kernel_rfl) (by kernel_rfl) (by kernel_rfl) (by kernel_rfl) (fun _ _ _ h => h) (by rfl) (fun w' hS' => by (try dsimp only at hS'); go_split_ands; go_simp; (try with_reducible rfl)) ?_
  simp only [Act.put, List.getElem_toArray, List.getElem_cons_succ, List.getElem_cons_zero, List.setIfInBounds_toArray, List.set_cons_zero, List.set_cons_succ]
  refine Turns.take hS 17 _ rfl (by kernel_rfl) (by kernel_rfl) (by kernel_rfl) (by kernel_rfl) (fun _ _ _ h => h) (by rfl) (fun w' hS' => by (try dsimp only at hS'); go_split_ands; go_simp; (try with_reducible rfl)) ?_
  simp only [Act.put, List.getElem_toArray, List.getElem_cons_succ, List.getElem_cons_zero, List.setIfInBounds_toArray, List.set_cons_zero, List.set_cons_succ]
  refine Turns.take hS 18 _ rfl (by kernel_rfl) (by kernel_rfl) (by kernel_rfl) (by kernel_rfl) (fun _ _ _ h => h) (by rfl) (fun w' hS' => by (try dsimp only at hS'); go_split_ands; go_simp; (try with_reducible rfl)) ?_
  simp only [Act.put, List.getElem_toArray, List.getElem_cons_succ, List.getElem_cons_zero, List.setIfInBounds_toArray, List.set_cons_zero, List.set_cons_succ]
  refine Turns.take hS 19 _ rfl (by kernel_rfl) (by kernel_rfl) (by kernel_rfl) (by kernel_rfl) (fun _ _ _ h => h) (by rfl) (fun w' hS' => by (try dsimp only at hS'); go_split_ands; go_simp; (try with_reducible rfl)) ?_
  simp only [Act.put, List.getElem_toArray, List.getElem_cons_succ, List.getElem_cons_zero, List.setIfInBounds_toArray, List.set_cons_zero, List.set_cons_succ]
  refine Turns.take hS 20 _ rfl (by kernel_rfl) (by kernel_rfl) (by kernel_rfl) (by kernel_rfl) (fun _ _ _ h => h) (by rfl) (fun w' hS' => by (try dsimp only at hS'); go_split_ands; go_simp; (try with_reducible rfl)) ?_
  simp only [Act.put, List.getElem_toArray, List.getElem_cons_succ, List.getElem_cons_zero, List.setIfInBounds_toArray, List.set_cons_zero, List.set_cons_succ]
  refine Turns.take hS 21 _ rfl (by kernel_rfl) (by kernel_rfl) (by kernel_rfl) (by kernel_rfl) (fun _ _ _ h => h) (by rfl) (fun w' hS' => by (try dsimp only at hS'); go_split_ands; go_simp; (try with_reducible rfl)) ?_
  simp only [Act.put, List.getElem_toArray, List.getElem_cons_succ, List.getElem_cons_zero, List.setIfInBounds_toArray, List.set_cons_zero, List.set_cons_succ]
  refine Turns.take hS 22 _ rfl (by kernel_rfl) (by kernel_rfl) (by kernel_rfl) (by kernel_rfl) (fun _ _ _ h => h) (by rfl) (fun w' hS' => by (try dsimp only at hS'); go_split_ands; go_simp; (try with_reducible rfl)) ?_
  simp only [Act.put, List.getElem_toArray, List.getElem_cons_succ, List.getElem_cons_zero, List.setIfInBounds_toArray, List.set_cons_zero, List.set_cons_succ]
  refine Turns.next 23 rfl (by kernel_rfl) (by rfl) (fun K hK => ?_)
  go_simp
  go_at_call 28
  refine (rnewer_any q s.q _ HQ.out.1 HQ.out.2).mono ?_
  rintro e wx ⟨rfl, hwx⟩
  rw [HN.out]
  subst wx
  refine hK.out _ _ (show (fun (w' : World) => w'.cell? ⟨w.heap.size, 0, none⟩ = some (.int .i64 6) ∧ w'.cell? ⟨w.heap.size, 1, none⟩ = some (.int .i64 f) ∧ w'.cell? ⟨w.heap.size, 2, none⟩ = some (.int .i64 tz) ∧ w'.cell? ⟨w.heap.size, 3, none⟩ = some (.int .i64 r) ∧ w'.cell? ⟨w.heap.size, 4, none⟩ = some (.int .u16 b) ∧ w'.cell? ⟨w.heap.size, 5, none⟩ = some (.int .u16 q) ∧ w'.cell? ⟨w.heap.size, 6, none⟩ = some (.int .i64 ho) ∧ w'.cell? ⟨w.heap.size, 7, none⟩ = some (.int .i64 ti) ∧ w'.cell? ⟨w.heap.size, 8, none⟩ = some (.int .i64 le) ∧ w'.cell? ⟨w.heap.size, 9, none⟩ = some (.int .i64 se) ∧ w'.cell? ⟨w.heap.size, 10, none⟩ = some (.int .i64 go) ∧ w'.cell? ⟨w.heap.size, 11, none⟩ = some (.int .i64 ba) ∧ w'.cell? ⟨w.heap.size, 12, none⟩ = some (.int .i64 g) ∧ w'.cell? ⟨w.heap.size, 13, none⟩ = some (.int .i64 t) ∧ w'.cell? ⟨x, 0, none⟩ = some (.int .i64 6) ∧ w'.cell? ⟨x, 5, none⟩ = some (.int .u16 s.q)) _ from ⟨HX.out.holds.cell 0, HX.out.holds.cell 1, HX.out.holds.cell 2, HX.out.holds.cell 3, HX.out.holds.cell 4, HX.out.holds.cell 5, HX.out.holds.cell 6, HX.out.holds.cell 7, HX.out.holds.cell 8, HX.out.holds.cell 9, HX.out.holds.cell 10, HX.out.holds.cell 11, HX.out.holds.cell 12, HX.out.holds.cell 13, (HKV.out ▸ HB.out.ck), HB.out.cq⟩) ?_
  clear hK K hS
  have hS := (show (fun (w' : World) => w'.cell? ⟨w.heap.size, 0, none⟩ = some (.int .i64 6) ∧ w'.cell? ⟨w.heap.size, 1, none⟩ = some (.int .i64 f) ∧ w'.cell? ⟨w.heap.size, 2, none⟩ = some (.int .i64 tz) ∧ w'.cell? ⟨w.heap.size, 3, none⟩ = some (.int .i64 r) ∧ w'.cell? ⟨w.heap.size, 4, none⟩ = some (.int .u16 b) ∧ w'.cell? ⟨w.heap.size, 5, none⟩ = some (.int .u16 q) ∧ w'.cell? ⟨w.heap.size, 6, none⟩ = some (.int .i64 ho) ∧ w'.cell? ⟨w.heap.size, 7, none⟩ = some (.int .i64 ti) ∧ w'.cell? ⟨w.heap.size, 8, none⟩ = some (.int .i64 le) ∧ w'.cell? ⟨w.heap.size, 9, none⟩ = some (.int .i64 se) ∧ w'.cell? ⟨w.heap.size, 10, none⟩ = some (.int .i64 go) ∧ w'.cell? ⟨w.heap.size, 11, none⟩ = some (.int .i64 ba) ∧ w'.cell? ⟨w.heap.size, 12, none⟩ = some (.int .i64 g) ∧ w'.cell? ⟨w.heap.size, 13, none⟩ = some (.int .i64 t) ∧ w'.cell? ⟨x, 0, none⟩ = some (.int .i64 6) ∧ w'.cell? ⟨x, 5, none⟩ = some (.int .u16 s.q)) _ from ⟨HX.out.holds.cell 0, HX.out.holds.cell 1, HX.out.holds.cell 2, HX.out.holds.cell 3, HX.out.holds.cell 4, HX.out.holds.cell 5, HX.out.holds.cell 6, HX.out.holds.cell 7, HX.out.holds.cell 8, HX.out.holds.cell 9, HX.out.holds.cell 10, HX.out.holds.cell 11, HX.out.holds.cell 12, HX.out.holds.cell 13, (HKV.out ▸ HB.out.ck), HB.out.cq⟩)
  refine Turns.take hS 24 _ rfl (by kernel_rfl) (by kernel_rfl) (by kernel_rfl) (by kernel_rfl) (fun _ _ _ h => h) (by rfl) (fun w' hS' => by (try dsimp only at hS'); go_split_ands; go_simp; (try with_reducible rfl)) ?_
  simp only [Act.put, List.getElem_toArray, List.getElem_cons_succ, List.getElem_cons_zero, List.setIfInBounds_toArray, List.set_cons_zero, List.set_cons_succ]
  refine Turns.take hS 25 _ rfl (by kernel_rfl) (by kernel_rfl) (by kernel_rfl) (by kernel_rfl) (fun _ _ _ h => h) (by rfl) (fun w' hS' => by (try dsimp only at hS'); go_split_ands; go_simp; (try with_reducible rfl)) ?_
  simp only [Act.put, List.getElem_toArray, List.getElem_cons_succ, List.getElem_cons_zero, List.setIfInBounds_toArray, List.set_cons_zero, List.set_cons_succ]
  refine Turns.take hS 26 _ rfl (by kernel_rfl) (by kernel_rfl) (by kernel_rfl) (by kernel_rfl) (fun _ _ _ h => h) (by rfl) (fun w' hS' => by (try dsimp only at hS'); go_split_ands; go_simp; (try with_reducible rfl)) ?_
  simp only [Act.put, List.getElem_toArray, List.getElem_cons_succ, List.getElem_cons_zero, List.setIfInBounds_toArray, List.set_cons_zero, List.set_cons_succ]
  refine Turns.rest (late_done (by kernel_rfl)) ?_
  refine any_tail 27 (by rfl) (by kernel_rfl) ?_
  simp only [List.drop_succ_cons, List.drop_zero]
  clear hS
  have x0 := HX.out.holds.cell 0
  have x1 := HX.out.holds.cell 1
  have x2 := HX.out.holds.cell 2
  have x3 := HX.out.holds.cell 3
  have x4 := HX.out.holds.cell 4
  have x5 := HX.out.holds.cell 5
  have x6 := HX.out.holds.cell 6
  have x7 := HX.out.holds.cell 7
  have x8 := HX.out.holds.cell 8
  have x9 := HX.out.holds.cell 9
  have x10 := HX.out.holds.cell 10
  have x11 := HX.out.holds.cell 11
  have x12 := HX.out.holds.cell 12
  have x13 := HX.out.holds.cell 13
  go_wp2_with (first
    | (go_at_call 29; refine (ronly6 f tz r b q ho ti le se go ba g t _).mono ?_; rintro e w2 ⟨rfl, hb2⟩; replace HX := Lib.hid (HX.out.next hb2); replace HB := Lib.hid (HB.out.below hb2); clear hb2 x0 x1 x2 x3 x4 x5 x6 x7 x8 x9 x10 x11 x12 x13)
    | (refine wpList_store_at rfl 54 (.tmp 36) (.tmp 34) rfl x 0 (pl6 6 f q r b g t) rfl rfl 56 (pl6 (kindV s) s.f s.q s.r s.b s.g s.t) HB.out plain_size6 (Nat.le_refl 14) (pl6_one _ _ _ _ _ _ _) ?_; rw [splice_all (pl6 (kindV s) s.f s.q s.r s.b s.g s.t) (pl6 6 f q r b g t) rfl]; have HGO := Lib.hid (RGoes.row (s' := ⟨true, f, q, r, b, g, t⟩) HH.out HX.out.below)))
  go_ret
  exact ⟨rfl, HGO.out⟩
theorem rhear_any (w : World) (x : Nat) (s : BS) (h : Rb w x s) (f tz r b q ho ti le se go ba g t : Int) (ff : Fits f) (fr : Fits r) (fg : Fits g) (ft : Fits t) (hb : F16 b) (hq : F16 q) (hqs : F16 s.q) : Calls Try.prog 15 #[.pointer (some ⟨x, 0, none⟩), .agg #[.int .i64 6, .int .i64 f, .int .i64 tz, .int .i64 r, .int .u16 b, .int .u16 q, .int .i64 ho, .int .i64 ti, .int .i64 le, .int .i64 se, .int .i64 go, .int .i64 ba, .int .i64 g, .int .i64 t]] w fun e w' => e = .returned (.bool (anHeard s f q r b g t)) ∧ RGoes x (anHear s f q r b g t) w w' := by
  unfold anHear anHeard
  cases ha : ancB f q r b g t with
  | false => exact rhear_bad w x s h f tz r b q ho ti le se go ba g t ff fr fg ft hb hq ha
  | true =>
    cases hh : s.has with
    | false => exact rhear_first w x s h f tz r b q ho ti le se go ba g t ff fr fg ft hb hq ha hh
    | true =>
      cases hn : newB q s.q with
      | false => exact rhear_old w x s h f tz r b q ho ti le se go ba g t ff fr fg ft hb hq hqs ha hh hn
      | true => exact rhear_next w x s h f tz r b q ho ti le se go ba g t ff fr fg ft hb hq hqs ha hh hn
theorem pl6_cells {w : World} {x : Nat} {T : TypeId} {k f q r b g t : Int} (h : Holds w x T (pl6 k f q r b g t).toArray) : w.cell? ⟨x, 0, none⟩ = some (.int .i64 k) ∧ w.cell? ⟨x, 1, none⟩ = some (.int .i64 f) ∧ w.cell? ⟨x, 2, none⟩ = some (.int .i64 0) ∧ w.cell? ⟨x, 3, none⟩ = some (.int .i64 r) ∧ w.cell? ⟨x, 4, none⟩ = some (.int .u16 b) ∧ w.cell? ⟨x, 5, none⟩ = some (.int .u16 q) ∧ w.cell? ⟨x, 6, none⟩ = some (.int .i64 0) ∧ w.cell? ⟨x, 7, none⟩ = some (.int .i64 0) ∧ w.cell? ⟨x, 8, none⟩ = some (.int .i64 0) ∧ w.cell? ⟨x, 9, none⟩ = some (.int .i64 0) ∧ w.cell? ⟨x, 10, none⟩ = some (.int .i64 0) ∧ w.cell? ⟨x, 11, none⟩ = some (.int .i64 0) ∧ w.cell? ⟨x, 12, none⟩ = some (.int .i64 g) ∧ w.cell? ⟨x, 13, none⟩ = some (.int .i64 t) :=
  ⟨h.cell 0, h.cell 1, h.cell 2, h.cell 3, h.cell 4, h.cell 5, h.cell 6, h.cell 7, h.cell 8, h.cell 9, h.cell 10, h.cell 11, h.cell 12, h.cell 13⟩
set_option maxHeartbeats 4000000 in
set_option maxRecDepth 100000 in
theorem rmake_no (w : World) (x : Nat) (s : BS) (h : Rb w x s) (me ro bo gl ta : Int) (fm : Fits me) (fr : Fits ro) (hb : F16 bo) (fg : Fits gl) (fa : Fits ta) (hqs : F16 s.q) (hM : anMade s me ro bo gl ta = false) : Calls Try.prog 16 #[.pointer (some ⟨x, 0, none⟩), .int .i64 me, .int .i64 ro, .int .u16 bo, .int .i64 gl, .int .i64 ta] w fun e w' => e = .returned (.agg #[.int .i64 0, .int .i64 0, .int .i64 0, .int .i64 0, .int .u16 0, .int .u16 0, .int .i64 0, .int .i64 0, .int .i64 0, .int .i64 0, .int .i64 0, .int .i64 0, .int .i64 0, .int .i64 0]) ∧ RGoes x s w w' := by
  have HLT := Lib.hid h.lt
  have HQ := Lib.hid hqs
  have HG := Lib.hid (fun W => rgood6 me 0 ro bo (nextV s.q) 0 0 0 0 0 0 gl ta W fm fr fg fa hb (next_16 s.q))
  have hm : anMade s me ro bo gl ta = ancB me (nextV s.q) ro bo gl ta := rfl
  rw [← hm, hM] at HG
  clear hm hM
  obtain ⟨N, hN⟩ : ∃ N, nextV s.q = N := ⟨_, rfl⟩
  have HN := Lib.hid hN
  rw [hN] at HG
  (try rw [hN])
  clear hN
  have hD := Duo.start w 54 54 #[.int .i64 0, .int .i64 0, .int .i64 0, .int .i64 0, .int .u16 0, .int .u16 0, .int .i64 0, .int .i64 0, .int .i64 0, .int .i64 0, .int .i64 0, .int .i64 0, .int .i64 0, .int .i64 0] #[.int .i64 6, .int .i64 me, .int .i64 0, .int .i64 ro, .int .u16 bo, .int .u16 N, .int .i64 0, .int .i64 0, .int .i64 0, .int .i64 0, .int .i64 0, .int .i64 0, .int .i64 gl, .int .i64 ta]
  have hR := Box.start w 54 #[.int .i64 0, .int .i64 0, .int .i64 0, .int .i64 0, .int .u16 0, .int .u16 0, .int .i64 0, .int .i64 0, .int .i64 0, .int .i64 0, .int .i64 0, .int .i64 0, .int .i64 0, .int .i64 0]
  have hB := h.below hD.below
  have hB0 := (h.below hR.below).cq
  have HH := Lib.hid h
  clear h hqs hR
  go_enter Try.func16, Try.ntmps16
  go_upto_region 2 with (go_at_call 30; refine (rnext_any s.q _ HQ.out).mono ?_; rintro e wx ⟨rfl, hwx⟩; rw [HN.out]; subst wx)
  obtain ⟨V, hV⟩ : ∃ V, V = (w.alloc (.cells #[.int .i64 0, .int .i64 0, .int .i64 0, .int .i64 0, .int .u16 0, .int .u16 0, .int .i64 0, .int .i64 0, .int .i64 0, .int .i64 0, .int .i64 0, .int .i64 0, .int .i64 0, .int .i64 0] 54)).alloc (.cells #[.int .i64 6, .int .i64 me, .int .i64 0, .int .i64 ro, .int .u16 bo, .int .u16 N, .int .i64 0, .int .i64 0, .int .i64 0, .int .i64 0, .int .i64 0, .int .i64 0, .int .i64 gl, .int .i64 ta] 54) := ⟨_, rfl⟩
  rw [← hV] at hD hB ⊢
  clear hV hB0
  have HD := Lib.hid hD
  have HB := Lib.hid hB
  clear hD hB
  obtain ⟨e0, e1, e2, e3, e4, e5, e6, e7, e8, e9, e10, e11, e12, e13⟩ := pl6_cells HD.out.two
  go_wp2_with (first
    | (go_at_call 18; refine (HG.out _).mono ?_; rintro e w5 ⟨rfl, hb5⟩; replace HD := Lib.hid (HD.out.next hb5); replace HB := Lib.hid (HB.out.below hb5); clear hb5 e0 e1 e2 e3 e4 e5 e6 e7 e8 e9 e10 e11 e12 e13; obtain ⟨e0, e1, e2, e3, e4, e5, e6, e7, e8, e9, e10, e11, e12, e13⟩ := pl6_cells HD.out.two)
    | (refine wpList_store_at rfl 54 (.tmp 12) (.tmp 29) rfl w.heap.size 0 (pl6 0 0 0 0 0 0 0) rfl rfl 54 (pl6 0 0 0 0 0 0 0) HD.out.one plain_size6 (Nat.le_refl 14) (pl6_one _ _ _ _ _ _ _) ?_; rw [splice_all (pl6 0 0 0 0 0 0 0) (pl6 0 0 0 0 0 0 0) rfl]; have HO := Lib.hid (HD.out.one.row (pl6 0 0 0 0 0 0 0).toArray); have HGO := Lib.hid ((RGoes.of_below HH.out HD.out.below).answer (Nat.le_refl _) HLT.out (pl6 0 0 0 0 0 0 0).toArray)))
  refine bodyPost_ret (results_cell_row rfl _ _ w.heap.size 54 (pl6 0 0 0 0 0 0 0).toArray (0, 0) _ rfl HO.out Try.underlying54 rfl plain_size6) rfl ?_
  exact ⟨rfl, HGO.out⟩
set_option maxHeartbeats 4000000 in
set_option maxRecDepth 100000 in
theorem rmake_yes (w : World) (x : Nat) (s : BS) (h : Rb w x s) (me ro bo gl ta : Int) (fm : Fits me) (fr : Fits ro) (hb : F16 bo) (fg : Fits gl) (fa : Fits ta) (hqs : F16 s.q) (hM : anMade s me ro bo gl ta = true) : Calls Try.prog 16 #[.pointer (some ⟨x, 0, none⟩), .int .i64 me, .int .i64 ro, .int .u16 bo, .int .i64 gl, .int .i64 ta] w fun e w' => e = .returned (.agg #[.int .i64 6, .int .i64 me, .int .i64 0, .int .i64 ro, .int .u16 bo, .int .u16 (nextV s.q), .int .i64 0, .int .i64 0, .int .i64 0, .int .i64 0, .int .i64 0, .int .i64 0, .int .i64 gl, .int .i64 ta]) ∧ RGoes x ⟨true, me, nextV s.q, ro, bo, gl, ta⟩ w w' := by
  have HLT := Lib.hid h.lt
  have HQ := Lib.hid hqs
  have HG := Lib.hid (fun W => rgood6 me 0 ro bo (nextV s.q) 0 0 0 0 0 0 gl ta W fm fr fg fa hb (next_16 s.q))
  have hm : anMade s me ro bo gl ta = ancB me (nextV s.q) ro bo gl ta := rfl
  rw [← hm, hM] at HG
  clear hm hM
  obtain ⟨N, hN⟩ : ∃ N, nextV s.q = N := ⟨_, rfl⟩
  have HN := Lib.hid hN
  rw [hN] at HG
  (try rw [hN])
  clear hN
  have hD := Duo.start w 54 54 #[.int .i64 0, .int .i64 0, .int .i64 0, .int .i64 0, .int .u16 0, .int .u16 0, .int .i64 0, .int .i64 0, .int .i64 0, .int .i64 0, .int .i64 0, .int .i64 0, .int .i64 0, .int .i64 0] #[.int .i64 6, .int .i64 me, .int .i64 0, .int .i64 ro, .int .u16 bo, .int .u16 N, .int .i64 0, .int .i64 0, .int .i64 0, .int .i64 0, .int .i64 0, .int .i64 0, .int .i64 gl, .int .i64 ta]
  have hR := Box.start w 54 #[.int .i64 0, .int .i64 0, .int .i64 0, .int .i64 0, .int .u16 0, .int .u16 0, .int .i64 0, .int .i64 0, .int .i64 0, .int .i64 0, .int .i64 0, .int .i64 0, .int .i64 0, .int .i64 0]
  have hB := h.below hD.below
  have hB0 := (h.below hR.below).cq
  have HH := Lib.hid h
  clear h hqs hR
  go_enter Try.func16, Try.ntmps16
  go_upto_region 2 with (go_at_call 30; refine (rnext_any s.q _ HQ.out).mono ?_; rintro e wx ⟨rfl, hwx⟩; rw [HN.out]; subst wx)
  obtain ⟨V, hV⟩ : ∃ V, V = (w.alloc (.cells #[.int .i64 0, .int .i64 0, .int .i64 0, .int .i64 0, .int .u16 0, .int .u16 0, .int .i64 0, .int .i64 0, .int .i64 0, .int .i64 0, .int .i64 0, .int .i64 0, .int .i64 0, .int .i64 0] 54)).alloc (.cells #[.int .i64 6, .int .i64 me, .int .i64 0, .int .i64 ro, .int .u16 bo, .int .u16 N, .int .i64 0, .int .i64 0, .int .i64 0, .int .i64 0, .int .i64 0, .int .i64 0, .int .i64 gl, .int .i64 ta] 54) := ⟨_, rfl⟩
  rw [← hV] at hD hB ⊢
  clear hV hB0
  have HD := Lib.hid hD
  have HB := Lib.hid hB
  clear hD hB
  obtain ⟨e0, e1, e2, e3, e4, e5, e6, e7, e8, e9, e10, e11, e12, e13⟩ := pl6_cells HD.out.two
  go_wp2_with (first
    | (go_at_call 18; refine (HG.out _).mono ?_; rintro e w5 ⟨rfl, hb5⟩; replace HD := Lib.hid (HD.out.next hb5); replace HB := Lib.hid (HB.out.below hb5); clear hb5 e0 e1 e2 e3 e4 e5 e6 e7 e8 e9 e10 e11 e12 e13; obtain ⟨e0, e1, e2, e3, e4, e5, e6, e7, e8, e9, e10, e11, e12, e13⟩ := pl6_cells HD.out.two)
    | (refine wpList_store_at rfl 54 (.tmp 33) (.tmp 31) rfl x 0 (pl6 6 me N ro bo gl ta) rfl rfl 56 (pl6 (kindV s) s.f s.q s.r s.b s.g s.t) HB.out plain_size6 (Nat.le_refl 14) (pl6_one _ _ _ _ _ _ _) ?_; rw [splice_all (pl6 (kindV s) s.f s.q s.r s.b s.g s.t) (pl6 6 me N ro bo gl ta) rfl]; have HGO := Lib.hid (RGoes.row (s' := ⟨true, me, N, ro, bo, gl, ta⟩) HH.out HD.out.below); have hg := grown_row w5 x (pl6 6 me N ro bo gl ta).toArray; have HO := Lib.hid (HD.out.one.grown hg (fun e => absurd (Option.some.inj e) (by have := HLT.out; omega))); have he := HD.out.two.grown hg (fun e => absurd (Option.some.inj e) (by have := HLT.out; omega)); clear e0 e1 e2 e3 e4 e5 e6 e7 e8 e9 e10 e11 e12 e13 hg; obtain ⟨e0, e1, e2, e3, e4, e5, e6, e7, e8, e9, e10, e11, e12, e13⟩ := pl6_cells he; clear he)
    | (refine wpList_store_at rfl 54 (.tmp 12) (.tmp 34) rfl w.heap.size 0 (pl6 6 me N ro bo gl ta) rfl rfl 54 (pl6 0 0 0 0 0 0 0) HO.out plain_size6 (Nat.le_refl 14) (pl6_one _ _ _ _ _ _ _) ?_; rw [splice_all (pl6 0 0 0 0 0 0 0) (pl6 6 me N ro bo gl ta) rfl]; replace HO := Lib.hid (HO.out.row (pl6 6 me N ro bo gl ta).toArray); replace HGO := Lib.hid (HGO.out.answer (Nat.le_refl _) HLT.out (pl6 6 me N ro bo gl ta).toArray)))
  refine bodyPost_ret (results_cell_row rfl _ _ w.heap.size 54 (pl6 6 me N ro bo gl ta).toArray (0, 0) _ rfl HO.out Try.underlying54 rfl plain_size6) rfl ?_
  exact ⟨rfl, HGO.out⟩
end Go.Proofs.Ytmmdkafkfjfgnaa

/- Package civil, mathematics: long years, months, the numbers of days, and their order. Nothing here speaks of one program. -/
namespace Go.Proofs.Ytmmdkafkfjfgnaa
set_option linter.unusedSimpArgs false
set_option linter.unusedVariables false

/-- Has a year a day more? -/
def longB (y : Int) : Bool := (decide (y % 4 = 0) && !decide (y % 100 = 0)) || decide (y % 400 = 0)
/-- The days of a month. -/
def daysV (y m : Int) : Int := if m = 4 ∨ m = 6 ∨ m = 9 ∨ m = 11 then 30 else if m = 2 then (if longB y then 29 else 28) else 31
/-- The days of all years ahead of one. -/
def aheadV (y : Int) : Int := 365 * (y - 1) + (y - 1) / 4 - (y - 1) / 100 + (y - 1) / 400
/-- The days of the first k months. -/
def monthsV (y : Int) : Nat → Int
  | 0 => 0
  | k + 1 => monthsV y k + daysV y (k + 1)
/-- Can a date be? -/
structure CanD (y m d : Int) : Prop where
  y1 : 1 ≤ y
  y2 : y ≤ 9999
  m1 : 1 ≤ m
  m2 : m ≤ 12
  d1 : 1 ≤ d
  d2 : d ≤ daysV y m
theorem not_canD {y m d : Int} (h : ¬ CanD y m d) : y < 1 ∨ (1 ≤ y ∧ 9999 < y) ∨ (1 ≤ y ∧ y ≤ 9999 ∧ m < 1) ∨ (1 ≤ y ∧ y ≤ 9999 ∧ 1 ≤ m ∧ 12 < m) ∨ (1 ≤ y ∧ y ≤ 9999 ∧ 1 ≤ m ∧ m ≤ 12 ∧ d < 1) ∨ (1 ≤ y ∧ y ≤ 9999 ∧ 1 ≤ m ∧ m ≤ 12 ∧ 1 ≤ d ∧ daysV y m < d) := by
  refine Classical.byContradiction fun g => h ⟨by omega, by omega, by omega, by omega, by omega, by omega⟩
def goodD (y m d : Int) : Bool := decide (1 ≤ y ∧ y ≤ 9999 ∧ 1 ≤ m ∧ m ≤ 12 ∧ 1 ≤ d ∧ d ≤ daysV y m)
theorem goodD_yes {y m d : Int} (h : CanD y m d) : goodD y m d = true := decide_eq_true ⟨h.y1, h.y2, h.m1, h.m2, h.d1, h.d2⟩
theorem goodD_no {y m d : Int} (h : ¬ CanD y m d) : goodD y m d = false := decide_eq_false fun ⟨a, b, c, e, f, g⟩ => h ⟨a, b, c, e, f, g⟩
/-- A day's number. -/
def numV (y m d : Int) : Int := -719162 + aheadV y + monthsV y (m - 1).toNat + d - 1

theorem days_bd (y m : Int) : 28 ≤ daysV y m ∧ daysV y m ≤ 31 := by unfold daysV; (repeat' split) <;> omega
theorem long_day (y : Int) : aheadV (y + 1) = aheadV y + 365 + (if longB y then 1 else 0) := by
  unfold aheadV longB
  by_cases h4 : y % 4 = 0 <;> by_cases h100 : y % 100 = 0 <;> by_cases h400 : y % 400 = 0 <;> simp [h4, h100, h400] <;> omega
theorem ahead_le {a b : Int} (h : a ≤ b) : aheadV a ≤ aheadV b := by unfold aheadV; omega
theorem ahead_bd {y : Int} (h1 : 1 ≤ y) (h2 : y ≤ 10000) : 0 ≤ aheadV y ∧ aheadV y ≤ 3652059 := by unfold aheadV; omega
theorem feb (y : Int) : daysV y 2 = 28 + (if longB y then 1 else 0) := by
  unfold daysV
  rw [if_neg (by decide), if_pos rfl]
  cases longB y <;> rfl
theorem months_12 (y : Int) : monthsV y 12 = 365 + (if longB y then 1 else 0) := by
  have h := feb y
  simp only [monthsV]
  show 0 + daysV y 1 + daysV y 2 + daysV y 3 + daysV y 4 + daysV y 5 + daysV y 6 + daysV y 7 + daysV y 8 + daysV y 9 + daysV y 10 + daysV y 11 + daysV y 12 = _
  rw [h]
  show 0 + 31 + (28 + (if longB y then 1 else 0)) + 31 + 30 + 31 + 30 + 31 + 31 + 30 + 31 + 30 + 31 = _
  omega
theorem months_next (y : Int) (k : Nat) : monthsV y (k + 1) = monthsV y k + daysV y ((k : Int) + 1) := rfl
theorem months_le (y : Int) {j k : Nat} (h : j ≤ k) : monthsV y j ≤ monthsV y k := by
  induction h with
  | refl => exact Int.le_refl _
  | @step n _ ih =>
    have := days_bd y ((n : Int) + 1)
    rw [Nat.succ_eq_add_one, months_next]
    omega
theorem months_nonneg (y : Int) (k : Nat) : 0 ≤ monthsV y k := months_le y (Nat.zero_le k)
theorem year_full (y : Int) : aheadV y + monthsV y 12 = aheadV (y + 1) := by rw [long_day, months_12]; omega
theorem month_in {m : Int} (h1 : 1 ≤ m) : ((((m - 1).toNat : Nat) : Int)) + 1 = m := by omega
/-- Within its year a day lies behind the months ahead of its own, and not behind its own. -/
theorem day_bd {y m d : Int} (h : CanD y m d) : monthsV y (m - 1).toNat < monthsV y (m - 1).toNat + d ∧ monthsV y (m - 1).toNat + d ≤ monthsV y m.toNat ∧ monthsV y m.toNat ≤ monthsV y 12 := by
  have h1 := h.m1
  have h2 := h.m2
  have h3 := h.d1
  have h4 := h.d2
  have e : m.toNat = (m - 1).toNat + 1 := by omega
  have k := months_next y (m - 1).toNat
  rw [month_in h1] at k
  refine ⟨by omega, ?_, months_le y (by omega)⟩
  rw [e, k]
  omega
theorem num_bd {y m d : Int} (h : CanD y m d) : -719162 ≤ numV y m d ∧ numV y m d ≤ 2932896 := by
  have k := day_bd h
  have f := year_full y
  have a := ahead_bd (y := y) h.y1 (by have := h.y2; omega)
  have b := ahead_bd (y := y + 1) (by have := h.y1; omega) (by have := h.y2; omega)
  have n := months_nonneg y (m - 1).toNat
  have := h.d1
  unfold numV
  omega
/-- Is the first date later? -/
def laterD (a b c x y z : Int) : Bool := decide (x < a) || (decide (a = x) && (decide (y < b) || (decide (b = y) && decide (z < c))))
theorem num_lt {y m d y' m' d' : Int} (h : CanD y m d) (h' : CanD y' m' d') (hl : y < y' ∨ (y = y' ∧ (m < m' ∨ (m = m' ∧ d < d')))) : numV y m d < numV y' m' d' := by
  have k := day_bd h
  have k' := day_bd h'
  have f := year_full y
  have n' := months_nonneg y' (m' - 1).toNat
  unfold numV
  rcases hl with h1 | ⟨rfl, h1 | ⟨rfl, h1⟩⟩
  · have := ahead_le (a := y + 1) (b := y') (by omega)
    have := h'.d1
    omega
  · have := months_le y (j := m.toNat) (k := (m' - 1).toNat) (by have := h.m1; omega)
    have := h'.d1
    omega
  · omega
theorem num_same {y m d y' m' d' : Int} (h : CanD y m d) (h' : CanD y' m' d') (he : numV y m d = numV y' m' d') : y = y' ∧ m = m' ∧ d = d' := by
  refine Classical.byContradiction fun g => ?_
  have t : (y < y' ∨ (y = y' ∧ (m < m' ∨ (m = m' ∧ d < d')))) ∨ (y' < y ∨ (y' = y ∧ (m' < m ∨ (m' = m ∧ d' < d)))) := by omega
  rcases t with t | t
  · have := num_lt h h' t; omega
  · have := num_lt h' h t; omega
/-- The date behind one. -/
def nextD (y m d : Int) : Int × Int × Int := if d + 1 ≤ daysV y m then (y, m, d + 1) else if m + 1 ≤ 12 then (y, m + 1, 1) else (y + 1, 1, 1)
theorem next_num {y m d : Int} (h : CanD y m d) : numV (nextD y m d).1 (nextD y m d).2.1 (nextD y m d).2.2 = numV y m d + 1 := by
  have h1 := h.m1
  have h2 := h.m2
  have h3 := h.d1
  have h4 := h.d2
  have e : m.toNat = (m - 1).toNat + 1 := by omega
  have k := months_next y (m - 1).toNat
  rw [month_in h1, ← e] at k
  have f := year_full y
  unfold nextD numV
  split
  · dsimp only; omega
  · split
    · dsimp only
      have e2 : (m + 1 - 1).toNat = m.toNat := by omega
      rw [e2]
      omega
    · dsimp only
      have e3 : m.toNat = 12 := by omega
      rw [e3] at k
      show -719162 + aheadV (y + 1) + 0 + 1 - 1 = _
      omega
theorem next_can {y m d : Int} (h : CanD y m d) (h9 : ¬ 9999 < (nextD y m d).1) : CanD (nextD y m d).1 (nextD y m d).2.1 (nextD y m d).2.2 := by
  have h1 := h.m1
  have h2 := h.m2
  have h3 := h.d1
  have h4 := h.d2
  have h5 := h.y1
  have h6 := h.y2
  unfold nextD at h9 ⊢
  split
  · exact ⟨h5, h6, h1, h2, by dsimp only; omega, by dsimp only; omega⟩
  · split
    · refine ⟨h5, h6, by dsimp only; omega, by dsimp only; omega, by dsimp only; omega, ?_⟩
      have := days_bd y (m + 1)
      dsimp only
      omega
    · rename_i g1 g2
      rw [if_neg g1, if_neg g2] at h9
      dsimp only at h9
      refine ⟨by dsimp only; omega, by dsimp only; omega, by dsimp only; omega, by dsimp only; omega, by dsimp only; omega, ?_⟩
      have := days_bd (y + 1) 1
      dsimp only
      omega
theorem next_far {y m d : Int} (h : CanD y m d) (h9 : 9999 < (nextD y m d).1) : 2932896 < numV y m d + 1 := by
  have e := next_num h
  unfold nextD at h9 e
  have h6 := h.y2
  split at h9
  · dsimp only at h9; omega
  · split at h9
    · dsimp only at h9; omega
    · rename_i g1 g2
      rw [if_neg g1, if_neg g2] at e
      dsimp only at h9 e
      have e9 : y = 9999 := by omega
      subst e9
      have : numV (9999 + 1) 1 1 = 2932897 := by decide
      omega
end Go.Proofs.Ytmmdkafkfjfgnaa

/- Package civil: long years, months, the days ahead of a year, and whether a date can be; the document's own. -/
namespace Go.Proofs.Ytmmdkafkfjfgnaa
open Go.RowKit
set_option linter.unusedSimpArgs false
set_option linter.unusedVariables false

theorem tmod_of {a : Int} (h : 0 ≤ a) (b : Int) : a.tmod b = a % b := Int.tmod_eq_emod_of_nonneg h
theorem tdiv_of {a : Int} (h : 0 ≤ a) (b : Int) : a.tdiv b = a / b := Int.tdiv_eq_ediv_of_nonneg h
theorem beq_no {a b : Int} (h : ¬ a = b) : (a == b) = false := by simpa using h
theorem long_any (y : Int) (w : World) (h : 0 ≤ y) :
    Calls Try.prog 55 #[.int .i64 y] w fun e w' => e = .returned (.bool (longB y)) ∧ w' = w := by
  have e1 := tmod_of h 4
  have e2 := tmod_of h 100
  have e3 := tmod_of h 400
  unfold longB
  by_cases h4 : y % 4 = 0 <;> by_cases h100 : y % 100 = 0 <;> by_cases h400 : y % 400 = 0
  all_goals
    go_enter Try.func55, Try.ntmps55
    go_wp2
    go_ret
    exact ⟨by simp [h4, h100, h400], rfl⟩
theorem daysV_30 {y m : Int} (h : m = 4 ∨ m = 6 ∨ m = 9 ∨ m = 11) : daysV y m = 30 := if_pos h
theorem daysV_2 (y : Int) : daysV y 2 = if longB y then 29 else 28 := by unfold daysV; rw [if_neg (by decide), if_pos rfl]
theorem daysV_31 {y m : Int} (h : ¬ (m = 4 ∨ m = 6 ∨ m = 9 ∨ m = 11)) (h2 : ¬ m = 2) : daysV y m = 31 := by unfold daysV; rw [if_neg h, if_neg h2]
theorem days_any (y m : Int) (w : World) (h : 0 ≤ y) :
    Calls Try.prog 53 #[.int .i64 y, .int .i64 m] w fun e w' => e = .returned (.int .i64 (daysV y m)) ∧ w' = w := by
  by_cases h30 : m = 4 ∨ m = 6 ∨ m = 9 ∨ m = 11
  · rw [daysV_30 h30]
    rcases h30 with rfl | rfl | rfl | rfl
    all_goals
      go_enter Try.func53, Try.ntmps53
      go_wp2
      go_ret
      exact ⟨rfl, rfl⟩
  by_cases h2 : m = 2
  · subst h2
    rw [daysV_2]
    clear h30
    cases hl : longB y
    all_goals
      go_enter Try.func53, Try.ntmps53
      go_wp2_with (go_at_call 55; refine (long_any y _ h).mono ?_; rintro e w' ⟨rfl, rfl⟩; rw [hl])
      go_ret
      exact ⟨rfl, rfl⟩
  · rw [daysV_31 h30 h2]
    have a1 := beq_no (a := m) (b := 4) (by omega)
    have a2 := beq_no (a := m) (b := 6) (by omega)
    have a3 := beq_no (a := m) (b := 9) (by omega)
    have a4 := beq_no (a := m) (b := 11) (by omega)
    have a5 := beq_no (a := m) (b := 2) (by omega)
    clear h30
    go_enter Try.func53, Try.ntmps53
    go_wp2
    go_ret
    exact ⟨rfl, rfl⟩
theorem ahead_any (y : Int) (w : World) (h1 : 1 ≤ y) (h2 : y ≤ 10000) :
    Calls Try.prog 52 #[.int .i64 y] w fun e w' => e = .returned (.int .i64 (aheadV y)) ∧ w' = w := by
  have e0 := IntWalk.i64_in (y - 1) (by omega)
  have h0 : 0 ≤ y - 1 := by omega
  have e1 := tdiv_of h0 4
  have e2 := tdiv_of h0 100
  have e3 := tdiv_of h0 400
  have e4 := IntWalk.i64_in (365 * (y - 1)) (by omega)
  have e5 := IntWalk.i64_in ((y - 1) / 4) (by omega)
  have e6 := IntWalk.i64_in ((y - 1) / 100) (by omega)
  have e7 := IntWalk.i64_in ((y - 1) / 400) (by omega)
  have e8 := IntWalk.i64_in (365 * (y - 1) + (y - 1) / 4) (by omega)
  have e9 := IntWalk.i64_in (365 * (y - 1) + (y - 1) / 4 - (y - 1) / 100) (by omega)
  have e10 := IntWalk.i64_in (365 * (y - 1) + (y - 1) / 4 - (y - 1) / 100 + (y - 1) / 400) (by omega)
  go_enter Try.func52, Try.ntmps52
  go_wp2
  go_ret
  exact ⟨rfl, rfl⟩
end Go.Proofs.Ytmmdkafkfjfgnaa

/- Package civil: the number of a date, the date of a number; the document's own, and its next date. -/
namespace Go.Proofs.Ytmmdkafkfjfgnaa
open Go.RowKit
set_option linter.unusedSimpArgs false
set_option linter.unusedVariables false

end Go.Proofs.Ytmmdkafkfjfgnaa

/- Package civil: the date of a number; the document's next date. -/
namespace Go.Proofs.Ytmmdkafkfjfgnaa
open Go.RowKit
set_option linter.unusedSimpArgs false
set_option linter.unusedVariables false

theorem date_size : (Try.prog.info? 65).map (·.size) = some 3 := by kernel_rfl
/-- The end of a call that answers a date, which lies in a variable of its own, and a bool. -/
def GaveDate (y m d : Int) (ok : Bool) (e : Ending) : Prop := e = .returned (.tuple #[.agg #[.int .i64 y, .int .i64 m, .int .i64 d], .bool ok])
theorem of_no (n : Int) (w : World) (h : n < -719162 ∨ 2932896 < n) :
    Calls Try.prog 47 #[.int .i64 n] w fun e w' => GaveDate 0 0 0 false e ∧ Below w.heap.size w w' := by
  have hb := Holds.new w 65 #[.int .i64 0, .int .i64 0, .int .i64 0]
  have HH := Lib.hid hb
  have c0 := hb.cell 0
  have c1 := hb.cell 1
  have c2 := hb.cell 2
  have f0 := hb.soft 0
  have f1 := hb.soft 1
  have f2 := hb.soft 2
  have HB := Lib.hid (below_alloc w (.cells #[.int .i64 0, .int .i64 0, .int .i64 0] 65))
  clear hb
  by_cases hl : n < -719162
  · clear h
    go_enter Try.func47, Try.ntmps47
    go_wp2
    refine bodyPost_ret (results_row_tmp rfl _ _ w.heap.size 65 [.int .i64 0, .int .i64 0, .int .i64 0] _ _ rfl HH.out Try.underlying65 rfl date_size rfl) rfl ?_
    exact ⟨rfl, HB.out⟩
  · have hg : 2932896 < n := by omega
    have d0 : decide (n < -719162) = false := decide_eq_false hl
    clear h
    go_enter Try.func47, Try.ntmps47
    go_wp2
    refine bodyPost_ret (results_row_tmp rfl _ _ w.heap.size 65 [.int .i64 0, .int .i64 0, .int .i64 0] _ _ rfl HH.out Try.underlying65 rfl date_size rfl) rfl ?_
    exact ⟨rfl, HB.out⟩
theorem of_yes (n : Int) (w : World) (h1 : -719162 ≤ n) (h2 : n ≤ 2932896) :
    Calls Try.prog 47 #[.int .i64 n] w fun e w' => (∃ y m d, CanD y m d ∧ numV y m d = n ∧ GaveDate y m d true e) ∧ Below w.heap.size w w' := by
  have HB := Lib.hid (Box.start w 65 #[.int .i64 0, .int .i64 0, .int .i64 0])
  have d0 : decide (n < -719162) = false := decide_eq_false (by omega)
  have d1 : decide (2932896 < n) = false := decide_eq_false (by omega)
  have e0 : n - -719162 = n + 719162 := by omega
  obtain ⟨L, hL⟩ : ∃ L, n + 719162 = L := ⟨_, rfl⟩
  rw [hL] at e0
  have l1 : 0 ≤ L := by omega
  have l2 : L ≤ 3652058 := by omega
  have HL := Lib.hid hL
  have e1 := IntWalk.i64_in L (by omega)
  have e2 := tdiv_of l1 366
  have e3 := IntWalk.i64_in (L / 366) (by omega)
  have e4 := IntWalk.i64_in (L / 366 + 1) (by omega)
  clear hL
  go_enter Try.func47, Try.ntmps47
  go_wp2
  have hq : aheadV (L / 366 + 1) ≤ L := by unfold aheadV; omega
  have hq2 : L / 366 + 1 ≤ 9999 := by omega
  have HQ := Lib.hid hq
  have HQ2 := Lib.hid hq2
  clear hq hq2 d0 d1 e0 e1 e2 e3 e4
  go_loopw [5] (fun i wr => ∃ y : Int, 1 ≤ y ∧ y ≤ 9999 ∧ aheadV y ≤ L ∧ i = .int .i64 y ∧ Box w 65 #[.int .i64 0, .int .i64 0, .int .i64 0] wr) (fun i _ => 10000 - (intOf i).toNat)
  case atStart => exact ⟨L / 366 + 1, by omega, HQ2.out, HQ.out, rfl, HB.out⟩
  case round =>
    clear HQ HQ2
    obtain ⟨y, y1, y2, ya, rfl, hbx⟩ := hrel
    have HX := Lib.hid hbx
    clear hbx
    have g1 := IntWalk.i64_in (y + 1) (by omega)
    obtain ⟨A1, hA1⟩ : ∃ A, aheadV (y + 1) = A := ⟨_, rfl⟩
    have HA1 := Lib.hid hA1
    by_cases hlt : A1 ≤ L
    · have y3 : y + 1 ≤ 9999 := by
        refine Classical.byContradiction fun hc => ?_
        have e : y + 1 = 10000 := by omega
        rw [e] at hA1
        have : aheadV 10000 = 3652059 := by decide
        omega
      clear hA1
      go_wp2_with (go_at_call 52; refine (ahead_any (y + 1) _ (by omega) (by omega)).mono ?_; rintro e wx ⟨rfl, rfl⟩; rw [HA1.out])
      go_roundw
      case rel => exact ⟨y + 1, by omega, y3, by rw [HA1.out]; exact hlt, rfl, HX.out⟩
      case measure => simp [intOf]; omega
    · have d2 : decide (A1 ≤ L) = false := decide_eq_false hlt
      have yf := year_full y
      rw [hA1] at yf
      obtain ⟨A, hA⟩ : ∃ A, aheadV y = A := ⟨_, rfl⟩
      have HA := Lib.hid hA
      rw [hA] at ya yf
      have m0 := months_nonneg y 12
      obtain ⟨M12, hM12⟩ : ∃ M, monthsV y 12 = M := ⟨_, rfl⟩
      have HM12 := Lib.hid hM12
      rw [hM12] at yf
      have a0 := ahead_bd (y := y) y1 (by omega)
      rw [hA] at a0
      have g2 := IntWalk.i64_in (L - A) (by omega)
      obtain ⟨D, hD⟩ : ∃ D, L - A = D := ⟨_, rfl⟩
      have HD := Lib.hid hD
      rw [hD] at g2
      have dd1 : 0 ≤ D := by omega
      have dd3 : D ≤ 3652058 := by omega
      have dd2 : D < M12 := by omega
      clear hA1 hM12 m0
      go_wp2_with (first
        | (go_at_call 52; with_reducible refine (ahead_any (y + 1) _ (by omega) (by omega)).mono ?_; rintro e wx ⟨rfl, rfl⟩; rw [HA1.out])
        | (go_at_call 52; with_reducible refine (ahead_any y _ (by omega) (by omega)).mono ?_; rintro e wx ⟨rfl, rfl⟩; rw [HA.out]))
      clear hD hA d2 hlt yf
      go_loopw [4, 6] (fun l i wr => ∃ k : Nat, k ≤ 11 ∧ monthsV y k ≤ D ∧ l = .int .i64 (D - monthsV y k) ∧ i = .int .i64 ((k : Int) + 1) ∧ Box w 65 #[.int .i64 0, .int .i64 0, .int .i64 0] wr) (fun _ i _ => 13 - (intOf i).toNat)
      case atStart => exact ⟨0, by omega, dd1, by show _ = Value.int .i64 (D - 0); rw [Int.sub_zero], rfl, HX.out⟩
      case round =>
        obtain ⟨k, hk, mk, rfl, rfl, hbx⟩ := hrel
        have HY := Lib.hid hbx
        have hh := hbx.holds
        have c0 := hh.cell 0
        have c1 := hh.cell 1
        have c2 := hh.cell 2
        have f0 := hh.soft 0
        have f1 := hh.soft 1
        have f2 := hh.soft 2
        clear hh hbx
        have hn := months_next y k
        have dd := days_bd y ((k : Int) + 1)
        have mz := months_nonneg y k
        have ml := months_le y (j := k) (k := 12) (by omega)
        rw [HM12.out] at ml
        obtain ⟨M, hM⟩ : ∃ M, monthsV y k = M := ⟨_, rfl⟩
        obtain ⟨E, hE⟩ : ∃ D, daysV y ((k : Int) + 1) = D := ⟨_, rfl⟩
        rw [hM] at hn mk mz ml
        rw [hE] at hn dd
        have HM := Lib.hid hM
        have HE := Lib.hid hE
        have HN := Lib.hid hn
        simp only [hM]
        by_cases hge : E ≤ D - M
        · have k11 : k + 1 ≤ 11 := by
            refine Classical.byContradiction fun hc => ?_
            have e : k + 1 = 12 := by omega
            rw [e, HM12.out] at hn
            omega
          clear hM hE hn ml
          have f3 := IntWalk.i64_in (D - M - E) (by omega)
          have f4 := IntWalk.i64_in ((k : Int) + 1 + 1) (by omega)
          go_wp2_with (go_at_call 53; refine (days_any y _ _ (by omega)).mono ?_; rintro e wx ⟨rfl, rfl⟩; rw [HE.out])
          go_roundw
          case rel => exact ⟨k + 1, k11, by rw [HN.out]; omega, by rw [HN.out, Int.sub_sub], by go_num, HY.out⟩
          case measure => simp [intOf]; omega
        · have d3 : decide (E ≤ D - M) = false := decide_eq_false hge
          clear hM hE hn ml
          have f3 := IntWalk.i64_in (D - M + 1) (by omega)
          go_wp2_with (go_at_call 53; refine (days_any y _ _ (by omega)).mono ?_; rintro e wx ⟨rfl, rfl⟩; rw [HE.out])
          refine bodyPost_ret (results_row_tmp rfl _ _ w.heap.size 65 [.int .i64 y, .int .i64 ((k : Int) + 1), .int .i64 (D - M + 1)] _ _ rfl (((HY.out.holds.put 0 _).put 1 _).put 2 _) Try.underlying65 rfl date_size rfl) rfl ?_
          refine ⟨⟨y, (k : Int) + 1, D - M + 1, ⟨y1, y2, by omega, by omega, by omega, by rw [HE.out]; omega⟩, ?_, rfl⟩, ?_⟩
          · unfold numV
            have ek : ((k : Int) + 1 - 1).toNat = k := by omega
            rw [ek, HM.out, HA.out]
            have := HD.out
            have := HL.out
            omega
          · exact ((HY.out.below.setCell (Nat.le_refl _) _).setCell (Nat.le_refl _) _).setCell (Nat.le_refl _) _
end Go.Proofs.Ytmmdkafkfjfgnaa

/- Package civil: digits, and a date's text; the document's own. -/
namespace Go.Proofs.Ytmmdkafkfjfgnaa
open Go.RowKit
set_option linter.unusedSimpArgs false
set_option linter.unusedVariables false

/-- The last k digits of a number, the first ahead. -/
def digs : Nat → Nat → List UInt8
  | 0, _ => []
  | k + 1, n => Lib.dg n k :: digs k n
theorem digs_len : ∀ k n, (digs k n).length = k
  | 0, _ => rfl
  | k + 1, n => by rw [digs, List.length_cons, digs_len k n]
theorem digs_range (n : Nat) : ∀ k, digs k n = (List.range k).map fun t => Lib.dg n (k - 1 - t)
  | 0 => rfl
  | k + 1 => by
    rw [digs, digs_range n k, List.range_succ_eq_map, List.map_cons, List.map_map]
    congr 1
    refine List.map_congr_left fun t _ => ?_
    show _ = Lib.dg n (k + 1 - 1 - (t + 1))
    congr 1
    omega
theorem digs_dec (u : Nat) : ∀ j, digs (Lib.nDigits u + j) u = List.replicate j 48 ++ Lib.decDigits u
  | 0 => by rw [Nat.add_zero, digs_range, Lib.decDigits_eq]; rfl
  | j + 1 => by
    rw [← Nat.add_assoc, digs, digs_dec u j, List.replicate_succ, List.cons_append]
    congr 1
    unfold Lib.dg
    have h1 := Lib.lt_pow_nDigits u
    have h2 : 10 ^ Lib.nDigits u ≤ 10 ^ (Lib.nDigits u + j) := Nat.pow_le_pow_right (by decide) (Nat.le_add_right _ _)
    rw [Nat.div_eq_of_lt (by omega)]
    rfl
theorem nDigits_le {u k : Nat} (h : u < 10 ^ k) (hk : 1 ≤ k) : Lib.nDigits u ≤ k := by
  refine Classical.byContradiction fun hc => ?_
  have hlow : ∀ v, ¬ v < 10 → 10 ^ (Lib.nDigits v - 1) ≤ v := by
    intro v
    induction v using Nat.strongRecOn with
    | _ v ih =>
      intro hv
      rw [Lib.nDigits_big hv, Nat.add_sub_cancel]
      by_cases h2 : v / 10 < 10
      · rw [Lib.nDigits_small h2]
        omega
      · have h3 := ih (v / 10) (by omega) h2
        have h4 := Lib.nDigits_pos (v / 10)
        obtain ⟨q, hq⟩ : ∃ q, Lib.nDigits (v / 10) = q + 1 := ⟨Lib.nDigits (v / 10) - 1, by omega⟩
        rw [hq] at h3 ⊢
        rw [Nat.add_sub_cancel] at h3
        rw [Nat.pow_succ]
        omega
  by_cases h10 : u < 10
  · rw [Lib.nDigits_small h10] at hc
    omega
  · have h1 := hlow u h10
    have h2 : 10 ^ k ≤ 10 ^ (Lib.nDigits u - 1) := Nat.pow_le_pow_right (by decide) (by omega)
    omega
def digB (k n : Nat) : ByteArray := ⟨(digs k n).toArray⟩
def decB (n : Nat) : ByteArray := ⟨(Lib.decDigits n).toArray⟩
def zerB (c : Nat) : ByteArray := ⟨(List.replicate c (48 : UInt8)).toArray⟩
theorem digB_size (k n : Nat) : (digB k n).size = k := by simp [digB, ByteArray.size, digs_len]
theorem decB_size (n : Nat) : (decB n).size = Lib.nDigits n := by simp [decB, ByteArray.size, Lib.decDigits_length]
theorem zerB_size (c : Nat) : (zerB c).size = c := by simp [zerB, ByteArray.size]
theorem zer_dec {k n : Nat} (h : Lib.nDigits n ≤ k) : zerB (k - Lib.nDigits n) ++ decB n = digB k n := by
  unfold zerB decB digB
  rw [ByteArray.mk_append_mk, ← digs_dec, Nat.add_sub_cancel' h]


/-- A date's text. -/
def textB (y m d : Int) : ByteArray := digB 4 y.toNat ++ ⟨#[45]⟩ ++ digB 2 m.toNat ++ ⟨#[45]⟩ ++ digB 2 d.toNat
end Go.Proofs.Ytmmdkafkfjfgnaa

/- Package civil: a date's text; the document's own. -/
namespace Go.Proofs.Ytmmdkafkfjfgnaa
open Go.RowKit
set_option linter.unusedSimpArgs false
set_option linter.unusedVariables false

end Go.Proofs.Ytmmdkafkfjfgnaa

/- Package civil: the date of a text (a range over a string, its runes). -/
namespace Go.Proofs.Ytmmdkafkfjfgnaa
open Go.RowKit
set_option linter.unusedSimpArgs false
set_option linter.unusedVariables false

/-- A text's byte, as a number. -/
def byt (s : ByteArray) (j : Nat) : Int := ((s.data.toList.getD j 0).toNat : Int)
theorem byt_bd (s : ByteArray) (j : Nat) : 0 ≤ byt s j ∧ byt s j ≤ 255 := by
  unfold byt
  have := (s.data.toList.getD j 0).toNat_lt
  omega
theorem byt_at {s : ByteArray} {j : Nat} (h : j < s.size) : byt s j = ((s[j]'h).toNat : Int) := by
  unfold byt
  have h' : j < s.data.toList.length := by simpa using h
  rw [List.getD_eq_getElem?_getD, List.getElem?_eq_getElem h']
  rfl
/-- Does a text's byte stand where it may? -/
def confB (s : ByteArray) (j : Nat) : Prop := if j = 4 ∨ j = 7 then byt s j = 45 else 48 ≤ byt s j ∧ byt s j ≤ 57
def confR (j : Nat) (r : Int) : Prop := if j = 4 ∨ j = 7 then r = 45 else 48 ≤ r ∧ r ≤ 57
/-- The number of k digits from a on. -/
def numS (s : ByteArray) (a : Nat) : Nat → Int
  | 0 => 0
  | k + 1 => numS s a k * 10 + (byt s (a + k) - 48)
theorem numS_bd (s : ByteArray) (a : Nat) {k : Nat} (hk : k ≤ 4) : -1000000 ≤ numS s a k ∧ numS s a k ≤ 1000000 := by
  have b0 := byt_bd s (a + 0)
  have b1 := byt_bd s (a + 1)
  have b2 := byt_bd s (a + 2)
  have b3 := byt_bd s (a + 3)
  have h : k = 0 ∨ k = 1 ∨ k = 2 ∨ k = 3 ∨ k = 4 := by omega
  rcases h with rfl | rfl | rfl | rfl | rfl <;> simp only [numS] <;> omega
/-- Is a text a date's? -/
structure IsDate (s : ByteArray) (y m d : Int) : Prop where
  ten : s.size = 10
  conf : ∀ j, j < 10 → confB s j
  y_eq : y = numS s 0 4
  m_eq : m = numS s 5 2
  d_eq : d = numS s 8 2
  can : CanD y m d
/-- What a rune tells of its byte. -/
theorem rune_conf {s : ByteArray} {p : Nat} (h : p < s.size) : (confB s p ↔ confR p ((Utf8.decode s p).1 : Int)) ∧ (confB s p → (Utf8.decode s p).2 = 1 ∧ ((Utf8.decode s p).1 : Int) = byt s p) ∧ (Utf8.decode s p).1 ≤ 2147483647 := by
  refine ⟨?_, ?_, decode_le s p⟩
  · by_cases ha : (s[p]'h).toNat < 128
    · rw [decode_ascii s p h ha]
      unfold confB confR
      rw [byt_at h]
    · have hd := (decode_high s p h (by omega)).1
      unfold confB confR
      rw [byt_at h]
      split <;> omega
  · intro hc
    by_cases ha : (s[p]'h).toNat < 128
    · rw [decode_ascii s p h ha, byt_at h]
      exact ⟨rfl, rfl⟩
    · exfalso
      unfold confB at hc
      rw [byt_at h] at hc
      split at hc <;> omega

/-- Where the numbers stand as p bytes have been read. -/
def atP (p : Nat) : Nat := if p ≤ 4 then 0 else if p ≤ 7 then 1 else 2
def nP (s : ByteArray) (p : Nat) : Int × Int × Int := (numS s 0 (min p 4), numS s 5 (min (p - 5) 2), numS s 8 (p - 8))
/-- The reading, under way. -/
structure PRun (w : World) (s : ByteArray) (p : Nat) (W : World) : Prop where
  res : Holds W w.heap.size 65 #[.int .i64 0, .int .i64 0, .int .i64 0]
  nums : Holds W (w.heap.size + 1) 96 #[.int .i64 (nP s p).1, .int .i64 (nP s p).2.1, .int .i64 (nP s p).2.2]
  iter : W.heap[w.heap.size + 2]? = some (.stringIter s p)
  below : Below w.heap.size w W
theorem holds_iterAt {w : World} {g k : Nat} {s : ByteArray} {pos : Nat} {t : TypeId} {cs : Array Value} (h : Holds w g t cs) (hk : g ≠ k) : Holds (w.iterAt k s pos) g t cs := (Lib.iterAt_other w k g s pos hk).trans h
theorem below_iterAt' {B : Nat} {a w : World} (h : Below B a w) {k : Nat} (hk : B ≤ k) (s : ByteArray) (pos : Nat) : Below B a (w.iterAt k s pos) := Lib.below_iterAt h hk s pos
theorem PRun.start (w : World) (s : ByteArray) : PRun w s 0 (((w.alloc (.cells #[.int .i64 0, .int .i64 0, .int .i64 0] 65)).alloc (.cells #[.int .i64 0, .int .i64 0, .int .i64 0] 96)).iter s 0) := by
  have e1 := size_alloc w (.cells #[.int .i64 0, .int .i64 0, .int .i64 0] 65)
  have e2 := size_alloc (w.alloc (.cells #[.int .i64 0, .int .i64 0, .int .i64 0] 65)) (.cells #[.int .i64 0, .int .i64 0, .int .i64 0] 96)
  have h1 := Holds.new (w.alloc (.cells #[.int .i64 0, .int .i64 0, .int .i64 0] 65)) 96 #[.int .i64 0, .int .i64 0, .int .i64 0]
  rw [e1] at h1
  have h2 := heap_alloc_new ((w.alloc (.cells #[.int .i64 0, .int .i64 0, .int .i64 0] 65)).alloc (.cells #[.int .i64 0, .int .i64 0, .int .i64 0] 96)) (.stringIter s 0)
  rw [e2, e1] at h2
  exact ⟨((Holds.new w _ _).alloc _).alloc _, h1.alloc _, h2, ((below_alloc w _).trans ((below_alloc _ _).mono (by rw [e1]; omega))).trans ((below_alloc _ _).mono (by rw [e2, e1]; omega))⟩
theorem PRun.moved {w W : World} {s : ByteArray} {p : Nat} (h : PRun w s p W) (q : Nat) :
    Holds (W.iterAt (w.heap.size + 2) s q) w.heap.size 65 #[.int .i64 0, .int .i64 0, .int .i64 0] ∧ Holds (W.iterAt (w.heap.size + 2) s q) (w.heap.size + 1) 96 #[.int .i64 (nP s p).1, .int .i64 (nP s p).2.1, .int .i64 (nP s p).2.2] ∧
      (W.iterAt (w.heap.size + 2) s q).heap[w.heap.size + 2]? = some (.stringIter s q) ∧ Below w.heap.size w (W.iterAt (w.heap.size + 2) s q) :=
  ⟨holds_iterAt h.res (by omega), holds_iterAt h.nums (by omega), Lib.iterAt_heap W _ s p q h.iter, below_iterAt' h.below (by omega) s q⟩
theorem prun_set {w W : World} {s : ByteArray} {p : Nat} {n0 n1 n2 : Int} (h1 : Holds W w.heap.size 65 #[.int .i64 0, .int .i64 0, .int .i64 0]) (h2 : Holds W (w.heap.size + 1) 96 #[.int .i64 n0, .int .i64 n1, .int .i64 n2])
    (h3 : W.heap[w.heap.size + 2]? = some (.stringIter s p)) (h4 : Below w.heap.size w W) (k : Nat) (v : Int) (e : nP s p = ((if k = 0 then v else n0), (if k = 1 then v else n1), (if k = 2 then v else n2))) (hk : k ≤ 2) :
    PRun w s p (W.setCell ⟨w.heap.size + 1, k, none⟩ (.int .i64 v)) := by
  refine ⟨h1.far (by omega) _, ?_, (Below.heap_setCell W ⟨w.heap.size + 1, k, none⟩ _ (w.heap.size + 2) (by dsimp only; omega)).trans h3, h4.setCell (by dsimp only; omega) _⟩
  have := h2.put k (.int .i64 v)
  rw [e]
  have hc : k = 0 ∨ k = 1 ∨ k = 2 := by omega
  rcases hc with rfl | rfl | rfl <;> exact this
theorem nP_same {s : ByteArray} {p : Nat} (h : p = 4 ∨ p = 7) : nP s (p + 1) = nP s p := by
  rcases h with rfl | rfl <;> rfl
theorem numS_next (s : ByteArray) (a k : Nat) : numS s a (k + 1) = numS s a k * 10 + (byt s (a + k) - 48) := rfl
theorem nP_next {s : ByteArray} {p : Nat} (h4 : ¬ p = 4) (h7 : ¬ p = 7) (h10 : p < 10) : nP s (p + 1) = ((if atP p = 0 then (nP s p).1 * 10 + (byt s p - 48) else (nP s p).1), (if atP p = 1 then (nP s p).2.1 * 10 + (byt s p - 48) else (nP s p).2.1), (if atP p = 2 then (nP s p).2.2 * 10 + (byt s p - 48) else (nP s p).2.2)) := by
  have h : p = 0 ∨ p = 1 ∨ p = 2 ∨ p = 3 ∨ p = 5 ∨ p = 6 ∨ p = 8 ∨ p = 9 := by omega
  rcases h with rfl | rfl | rfl | rfl | rfl | rfl | rfl | rfl <;> rfl
theorem nP_bd (s : ByteArray) {p : Nat} (h : p ≤ 10) : (-1000000 ≤ (nP s p).1 ∧ (nP s p).1 ≤ 1000000) ∧ (-1000000 ≤ (nP s p).2.1 ∧ (nP s p).2.1 ≤ 1000000) ∧ -1000000 ≤ (nP s p).2.2 ∧ (nP s p).2.2 ≤ 1000000 :=
  ⟨numS_bd s 0 (by omega), numS_bd s 5 (by omega), numS_bd s 8 (by omega)⟩
end Go.Proofs.Ytmmdkafkfjfgnaa

/- Package civil: what Parse answers, of any text. -/
namespace Go.Proofs.Ytmmdkafkfjfgnaa
open Go.RowKit
set_option linter.unusedSimpArgs false
set_option linter.unusedVariables false

end Go.Proofs.Ytmmdkafkfjfgnaa

/- Package civil: what the document's Parse answers, of any text. -/
namespace Go.Proofs.Ytmmdkafkfjfgnaa
open Go.RowKit
set_option linter.unusedSimpArgs false
set_option linter.unusedVariables false

/-- The number of k digits from a on; -1: there is something else. -/
def numD (s : ByteArray) (a k : Nat) : Int := if ∀ j, j < k → 48 ≤ byt s (a + j) ∧ byt s (a + j) ≤ 57 then numS s a k else -1
theorem run_byte (t : ByteArray) (j : Nat) (h : j < t.size) (W : World) : (Instr.index 9 (.string t) (.int .i64 (j : Int))).run Try.prog W = .ok (.int .u8 (byt t j)) W := by
  have hj : 0 ≤ (j : Int) ∧ (j : Int) < (t.size : Int) := by omega
  rw [run_index_string W 9 t .i64 (j : Int) Try.underlying9, dif_pos hj, byt_at h]
  rfl
end Go.Proofs.Ytmmdkafkfjfgnaa

/- Package civil: what the document's Parse answers where the strokes stand. -/
namespace Go.Proofs.Ytmmdkafkfjfgnaa
open Go.RowKit
set_option linter.unusedSimpArgs false
set_option linter.unusedVariables false

end Go.Proofs.Ytmmdkafkfjfgnaa
