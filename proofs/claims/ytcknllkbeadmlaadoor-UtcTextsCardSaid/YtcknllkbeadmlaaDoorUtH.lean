/- Package utc: the document's Of. -/
import Derived.Test.YtcknllkbeadmlaaDoorUtG
import Derived.Deep.CutBlock
namespace Go.Proofs.YtcknllkbeadmlaaDoor
open Go.RowKit
set_option linter.unusedSimpArgs false
set_option linter.unusedVariables false

theorem rofs : (Tryd.prog.info? 28).map (·.size) = some 6 := by kernel_rfl
/-- What the document's Of answers. -/
def ROfPost (st ah en : Int) (L : List (Int × Int)) (tai : Int) (w : World) (e : Ending) (w' : World) : Prop :=
  ((∃ D y m d, OnDay st ah en L tai D ∧ CanD y m d ∧ numV y m d = D ∧ e = .returned (.tuple #[.agg #[.int .i64 y, .int .i64 m, .int .i64 d, .int .i64 (hV (tai - beginV ah L D)), .int .i64 (mV (tai - beginV ah L D)), .int .i64 (sV (tai - beginV ah L D))], .bool true])) ∨
    ((¬ ∃ D, OnDay st ah en L tai D) ∧ e = .returned (.tuple #[.agg #[.int .i64 0, .int .i64 0, .int .i64 0, .int .i64 0, .int .i64 0, .int .i64 0], .bool false]))) ∧ Below w.heap.size w w'
set_option maxRecDepth 100000 in
set_option maxHeartbeats 8000000 in
theorem ruof_any (st ah en tai : Int) (L : List (Int × Int)) (A : Option Addr) (n c : Nat) (w : World) (g : GTab st ah en L) (hr : PRow w A n c L) (hn : n ≤ 1000) (ht : Fits tai) :
    Calls Tryd.prog 14 #[.agg #[.int .i64 st, .int .i64 ah, .int .i64 en, .slice A n c], .int .i64 tai] w (ROfPost st ah en L tai w) := by
  have HX := Lib.hid (Box.start w 24 #[.int .i64 st, .int .i64 ah, .int .i64 en, .slice A n c])
  have hs0 := size_alloc w (.cells #[.int .i64 st, .int .i64 ah, .int .i64 en, .slice A n c] 24)
  have hy := Box.start (w.alloc (.cells #[.int .i64 st, .int .i64 ah, .int .i64 en, .slice A n c] 24)) 28 #[.int .i64 0, .int .i64 0, .int .i64 0, .int .i64 0, .int .i64 0, .int .i64 0]
  replace HX := Lib.hid (HX.out.next hy.below)
  have HY := Lib.hid (show Holds _ (w.heap.size + 1) 28 #[.int .i64 0, .int .i64 0, .int .i64 0, .int .i64 0, .int .i64 0, .int .i64 0] by have := hy.holds; rwa [hs0] at this)
  have HLT := Lib.hid (show w.heap.size ≤ w.heap.size + 1 by omega)
  have s1 := g.fine.s1
  have s2 := g.fine.e2
  have s3 := g.fine.lt
  have HB := Lib.hid (fun W (hW : Below w.heap.size w W) d (h1 : st ≤ d) (h2 : d < en) => rubegin_any W A n c d g (hr.below hW) hn (by omega) (by omega))
  have HB1 := Lib.hid (fun W (hW : Below w.heap.size w W) => HB.out W hW st (by omega) (by omega))
  have HB2 := Lib.hid (fun W (hW : Below w.heap.size w W) => HB.out W hW (en - 1) (by omega) (by omega))
  have HL2 := Lib.hid (fun W (hW : Below w.heap.size w W) => rstep_any W st ah en A n c L (en - 1) (hr.below hW) hn)
  have HG := Lib.hid g
  have HHI := Lib.hid (show beginV ah L (en - 1) + lenV L (en - 1) ≤ tai → ¬ ∃ D, OnDay st ah en L tai D from fun h => on_above g h)
  have HLO := Lib.hid (show tai < beginV ah L st → ¬ ∃ D, OnDay st ah en L tai D from fun h => on_below g h)
  have b1 := g.beg st
  have b2 := g.beg (en - 1)
  have b3 := g.len (en - 1)
  have HEN := Lib.hid (show lenV L (en - 1) = 86400 + stepL L (en - 1) from rfl)
  obtain ⟨t1, t2⟩ := ht
  have e1 := IntWalk.i64_in (en - 1) (by omega)
  have HEL := Lib.hid (show ∀ x, st ≤ x → x ≤ en - 1 → st ≤ x ∧ x < en from fun x a b => ⟨a, by omega⟩)
  obtain ⟨P, hP⟩ : ∃ P, beginV ah L st = P := ⟨_, rfl⟩
  obtain ⟨Q, hQ⟩ : ∃ P, beginV ah L (en - 1) = P := ⟨_, rfl⟩
  obtain ⟨R, hR⟩ : ∃ P, stepL L (en - 1) = P := ⟨_, rfl⟩
  rw [hR] at HL2 HEN
  rw [hP] at HB1 HLO b1
  rw [hQ] at HB2 HHI b2
  rw [HEN.out] at HHI b3
  have e2 := IntWalk.i64_in (Q + 86400) (by omega)
  have e3 := IntWalk.i64_in (Q + 86400 + R) (by omega)
  have HPQ := Lib.hid (And.intro hP (And.intro hQ (show lenV L (en - 1) = 86400 + R by rw [HEN.out])))
  clear hP hQ hR hs0 hy g hr hn
  obtain ⟨c0, c1, c2, c3⟩ := HX.out.tab4
  by_cases hlo : tai < P
  · have u1 : decide (tai < P) = true := decide_eq_true hlo
    have HNO := Lib.hid (HLO.out hlo)
    clear s1 s2 s3 b1 b2 b3 e2 e3 hlo
    go_enter Tryd.func14, Tryd.ntmps14
    go_upto_region 3 with (fail)
    clear c0 c1 c2 c3
    obtain ⟨W0, hW0⟩ : ∃ W0, W0 = (w.alloc (.cells #[.int .i64 st, .int .i64 ah, .int .i64 en, .slice A n c] 24)).alloc (.cells #[.int .i64 0, .int .i64 0, .int .i64 0, .int .i64 0, .int .i64 0, .int .i64 0] 28) := ⟨_, rfl⟩
    rw [← hW0] at HX HY ⊢
    clear hW0
    replace HX := Lib.hid (show Box w 24 #[.int .i64 st, .int .i64 ah, .int .i64 en, .slice A n c] W0.drew from HX.out.drew)
    replace HY := Lib.hid (show Holds W0.drew (w.heap.size + 1) 28 #[.int .i64 0, .int .i64 0, .int .i64 0, .int .i64 0, .int .i64 0, .int .i64 0] from HY.out)
    refine region_turns (fun (w' : World) => w'.cell? ⟨w.heap.size, 0, none⟩ = some (.int .i64 st) ∧ w'.cell? ⟨w.heap.size, 1, none⟩ = some (.int .i64 ah) ∧ w'.cell? ⟨w.heap.size, 2, none⟩ = some (.int .i64 en) ∧ w'.cell? ⟨w.heap.size, 3, none⟩ = some (.slice A n c)) (fun j => decide (17 ≤ j)) (by kernel_rfl) (HX.out.tab4) (fun hS => ?_)
    refine Turns.take hS 0 _ rfl (by kernel_rfl) (by kernel_rfl) (by kernel_rfl) (by kernel_rfl) (fun _ _ _ h => h) (by rfl) (fun w' hS' => by (try dsimp only at hS'); go_split_ands; go_simp; (try with_reducible rfl)) ?_
    simp only [Act.put, List.getElem_toArray, List.getElem_cons_succ, List.getElem_cons_zero, List.setIfInBounds_toArray, List.set_cons_zero, List.set_cons_succ]
    refine Turns.take hS 1 _ rfl (by kernel_rfl) (by kernel_rfl) (by kernel_rfl) (by kernel_rfl) (fun _ _ _ h => h) (by rfl) (fun w' hS' => by (try dsimp only at hS'); go_split_ands; go_simp; (try with_reducible rfl)) ?_
    simp only [Act.put, List.getElem_toArray, List.getElem_cons_succ, List.getElem_cons_zero, List.setIfInBounds_toArray, List.set_cons_zero, List.set_cons_succ]
    refine Turns.take hS 2 _ rfl (by kernel_rfl) (by kernel_rfl) (by kernel_rfl) (by kernel_rfl) (fun _ _ _ h => h) (by rfl) (fun w' hS' => by (try dsimp only at hS'); go_split_ands; go_simp; (try with_reducible rfl)) ?_
    simp only [Act.put, List.getElem_toArray, List.getElem_cons_succ, List.getElem_cons_zero, List.setIfInBounds_toArray, List.set_cons_zero, List.set_cons_succ]
    refine Turns.next 3 rfl (by kernel_rfl) (by rfl) (fun K hK => ?_)
    go_simp
    go_at_call 17
    refine (HB1.out _ HX.out.below).mono ?_
    rintro e w3 ⟨rfl, hb3⟩
    replace HX := Lib.hid (HX.out.next hb3)
    replace HY := Lib.hid (HY.out.below hb3 HY.out.lt)
    clear hb3
    refine hK.out _ _ (show (fun (w' : World) => w'.cell? ⟨w.heap.size, 0, none⟩ = some (.int .i64 st) ∧ w'.cell? ⟨w.heap.size, 1, none⟩ = some (.int .i64 ah) ∧ w'.cell? ⟨w.heap.size, 2, none⟩ = some (.int .i64 en) ∧ w'.cell? ⟨w.heap.size, 3, none⟩ = some (.slice A n c)) _ from HX.out.tab4) ?_
    clear hK K hS
    have hS := (show (fun (w' : World) => w'.cell? ⟨w.heap.size, 0, none⟩ = some (.int .i64 st) ∧ w'.cell? ⟨w.heap.size, 1, none⟩ = some (.int .i64 ah) ∧ w'.cell? ⟨w.heap.size, 2, none⟩ = some (.int .i64 en) ∧ w'.cell? ⟨w.heap.size, 3, none⟩ = some (.slice A n c)) _ from HX.out.tab4)
    refine Turns.take hS 4 _ rfl (by kernel_rfl) (by kernel_rfl) (by kernel_rfl) (by kernel_rfl) (fun _ _ _ h => h) (by rfl) (fun w' hS' => by (try dsimp only at hS'); go_split_ands; go_simp; (try with_reducible rfl)) ?_
    simp only [Act.put, List.getElem_toArray, List.getElem_cons_succ, List.getElem_cons_zero, List.setIfInBounds_toArray, List.set_cons_zero, List.set_cons_succ]
    refine Turns.take hS 5 _ rfl (by kernel_rfl) (by kernel_rfl) (by kernel_rfl) (by kernel_rfl) (fun _ _ _ h => h) (by rfl) (fun w' hS' => by (try dsimp only at hS'); go_split_ands; go_simp; (try with_reducible rfl)) ?_
    simp only [Act.put, List.getElem_toArray, List.getElem_cons_succ, List.getElem_cons_zero, List.setIfInBounds_toArray, List.set_cons_zero, List.set_cons_succ]
    refine Turns.skip hS 6 rfl (by kernel_rfl) (by kernel_rfl) (by kernel_rfl) (by kernel_rfl) (fun _ _ _ h => h) (by rfl) ?_
    simp only [Act.put, List.getElem_toArray, List.getElem_cons_succ, List.getElem_cons_zero, List.setIfInBounds_toArray, List.set_cons_zero, List.set_cons_succ]
    refine Turns.skip hS 7 rfl (by kernel_rfl) (by kernel_rfl) (by kernel_rfl) (by kernel_rfl) (fun _ _ _ h => h) (by rfl) ?_
    simp only [Act.put, List.getElem_toArray, List.getElem_cons_succ, List.getElem_cons_zero, List.setIfInBounds_toArray, List.set_cons_zero, List.set_cons_succ]
    refine Turns.skip hS 8 rfl (by kernel_rfl) (by kernel_rfl) (by kernel_rfl) (by kernel_rfl) (fun _ _ _ h => h) (by rfl) ?_
    simp only [Act.put, List.getElem_toArray, List.getElem_cons_succ, List.getElem_cons_zero, List.setIfInBounds_toArray, List.set_cons_zero, List.set_cons_succ]
    refine Turns.skip hS 9 rfl (by kernel_rfl) (by kernel_rfl) (by kernel_rfl) (by kernel_rfl) (fun _ _ _ h => h) (by rfl) ?_
    simp only [Act.put, List.getElem_toArray, List.getElem_cons_succ, List.getElem_cons_zero, List.setIfInBounds_toArray, List.set_cons_zero, List.set_cons_succ]
    refine Turns.skip hS 10 rfl (by kernel_rfl) (by kernel_rfl) (by kernel_rfl) (by kernel_rfl) (fun _ _ _ h => h) (by rfl) ?_
    simp only [Act.put, List.getElem_toArray, List.getElem_cons_succ, List.getElem_cons_zero, List.setIfInBounds_toArray, List.set_cons_zero, List.set_cons_succ]
    refine Turns.skip hS 11 rfl (by kernel_rfl) (by kernel_rfl) (by kernel_rfl) (by kernel_rfl) (fun _ _ _ h => h) (by rfl) ?_
    simp only [Act.put, List.getElem_toArray, List.getElem_cons_succ, List.getElem_cons_zero, List.setIfInBounds_toArray, List.set_cons_zero, List.set_cons_succ]
    refine Turns.skip hS 12 rfl (by kernel_rfl) (by kernel_rfl) (by kernel_rfl) (by kernel_rfl) (fun _ _ _ h => h) (by rfl) ?_
    simp only [Act.put, List.getElem_toArray, List.getElem_cons_succ, List.getElem_cons_zero, List.setIfInBounds_toArray, List.set_cons_zero, List.set_cons_succ]
    refine Turns.skip hS 13 rfl (by kernel_rfl) (by kernel_rfl) (by kernel_rfl) (by kernel_rfl) (fun _ _ _ h => h) (by rfl) ?_
    simp only [Act.put, List.getElem_toArray, List.getElem_cons_succ, List.getElem_cons_zero, List.setIfInBounds_toArray, List.set_cons_zero, List.set_cons_succ]
    refine Turns.skip hS 14 rfl (by kernel_rfl) (by kernel_rfl) (by kernel_rfl) (by kernel_rfl) (fun _ _ _ h => h) (by rfl) ?_
    simp only [Act.put, List.getElem_toArray, List.getElem_cons_succ, List.getElem_cons_zero, List.setIfInBounds_toArray, List.set_cons_zero, List.set_cons_succ]
    refine Turns.skip hS 15 rfl (by kernel_rfl) (by kernel_rfl) (by kernel_rfl) (by kernel_rfl) (fun _ _ _ h => h) (by rfl) ?_
    simp only [Act.put, List.getElem_toArray, List.getElem_cons_succ, List.getElem_cons_zero, List.setIfInBounds_toArray, List.set_cons_zero, List.set_cons_succ]
    refine Turns.take hS 16 _ rfl (by kernel_rfl) (by kernel_rfl) (by kernel_rfl) (by kernel_rfl) (fun _ _ _ h => h) (by rfl) (fun w' hS' => by (try dsimp only at hS'); go_split_ands; go_simp; (try with_reducible rfl)) ?_
    simp only [Act.put, List.getElem_toArray, List.getElem_cons_succ, List.getElem_cons_zero, List.setIfInBounds_toArray, List.set_cons_zero, List.set_cons_succ]
    refine Turns.rest (late_done (by kernel_rfl)) ?_
    refine any_tail 17 (by rfl) (by kernel_rfl) ?_
    simp only [List.drop_succ_cons, List.drop_zero]
    clear hS
    have r0 := HY.out.cell 0
    have r1 := HY.out.cell 1
    have r2 := HY.out.cell 2
    have r3 := HY.out.cell 3
    have r4 := HY.out.cell 4
    have r5 := HY.out.cell 5
    have g0 := HY.out.soft 0
    have g1 := HY.out.soft 1
    have g2 := HY.out.soft 2
    have g3 := HY.out.soft 3
    have g4 := HY.out.soft 4
    have g5 := HY.out.soft 5
    go_wp2
    refine bodyPost_ret (results_row_tmp rfl _ _ (w.heap.size + 1) 28 [.int .i64 0, .int .i64 0, .int .i64 0, .int .i64 0, .int .i64 0, .int .i64 0] _ _ rfl ((((((HY.out.put 0 _).put 1 _).put 2 _).put 3 _).put 4 _).put 5 _) Tryd.underlying28 rfl rofs rfl) rfl ?_
    exact ⟨.inr ⟨HNO.out, rfl⟩, ((((((HX.out.below.setCell HLT.out _).setCell HLT.out _).setCell HLT.out _).setCell HLT.out _).setCell HLT.out _).setCell HLT.out _)⟩
  have u1 : decide (tai < P) = false := decide_eq_false hlo
  by_cases hhi : Q + 86400 + R ≤ tai
  · have u2 : decide (Q + 86400 + R ≤ tai) = true := decide_eq_true hhi
    have HNO := Lib.hid (HHI.out (by omega))
    clear s1 s2 s3 b1 b2 b3 hlo hhi
    go_enter Tryd.func14, Tryd.ntmps14
    go_upto_region 3 with (fail)
    clear c0 c1 c2 c3
    obtain ⟨W0, hW0⟩ : ∃ W0, W0 = (w.alloc (.cells #[.int .i64 st, .int .i64 ah, .int .i64 en, .slice A n c] 24)).alloc (.cells #[.int .i64 0, .int .i64 0, .int .i64 0, .int .i64 0, .int .i64 0, .int .i64 0] 28) := ⟨_, rfl⟩
    rw [← hW0] at HX HY ⊢
    clear hW0
    replace HX := Lib.hid (show Box w 24 #[.int .i64 st, .int .i64 ah, .int .i64 en, .slice A n c] W0.drew from HX.out.drew)
    replace HY := Lib.hid (show Holds W0.drew (w.heap.size + 1) 28 #[.int .i64 0, .int .i64 0, .int .i64 0, .int .i64 0, .int .i64 0, .int .i64 0] from HY.out)
    refine region_turns (fun (w' : World) => w'.cell? ⟨w.heap.size, 0, none⟩ = some (.int .i64 st) ∧ w'.cell? ⟨w.heap.size, 1, none⟩ = some (.int .i64 ah) ∧ w'.cell? ⟨w.heap.size, 2, none⟩ = some (.int .i64 en) ∧ w'.cell? ⟨w.heap.size, 3, none⟩ = some (.slice A n c)) (fun j => decide (17 ≤ j)) (by kernel_rfl) (HX.out.tab4) (fun hS => ?_)
    refine Turns.take hS 0 _ rfl (by kernel_rfl) (by kernel_rfl) (by kernel_rfl) (by kernel_rfl) (fun _ _ _ h => h) (by rfl) (fun w' hS' => by (try dsimp only at hS'); go_split_ands; go_simp; (try with_reducible rfl)) ?_
    simp only [Act.put, List.getElem_toArray, List.getElem_cons_succ, List.getElem_cons_zero, List.setIfInBounds_toArray, List.set_cons_zero, List.set_cons_succ]
    refine Turns.take hS 1 _ rfl (by kernel_rfl) (by kernel_rfl) (by kernel_rfl) (by kernel_rfl) (fun _ _ _ h => h) (by rfl) (fun w' hS' => by (try dsimp only at hS'); go_split_ands; go_simp; (try with_reducible rfl)) ?_
    simp only [Act.put, List.getElem_toArray, List.getElem_cons_succ, List.getElem_cons_zero, List.setIfInBounds_toArray, List.set_cons_zero, List.set_cons_succ]
    refine Turns.take hS 2 _ rfl (by kernel_rfl) (by kernel_rfl) (by kernel_rfl) (by kernel_rfl) (fun _ _ _ h => h) (by rfl) (fun w' hS' => by (try dsimp only at hS'); go_split_ands; go_simp; (try with_reducible rfl)) ?_
    simp only [Act.put, List.getElem_toArray, List.getElem_cons_succ, List.getElem_cons_zero, List.setIfInBounds_toArray, List.set_cons_zero, List.set_cons_succ]
    refine Turns.next 3 rfl (by kernel_rfl) (by rfl) (fun K hK => ?_)
    go_simp
    go_at_call 17
    refine (HB1.out _ HX.out.below).mono ?_
    rintro e w3 ⟨rfl, hb3⟩
    replace HX := Lib.hid (HX.out.next hb3)
    replace HY := Lib.hid (HY.out.below hb3 HY.out.lt)
    clear hb3
    refine hK.out _ _ (show (fun (w' : World) => w'.cell? ⟨w.heap.size, 0, none⟩ = some (.int .i64 st) ∧ w'.cell? ⟨w.heap.size, 1, none⟩ = some (.int .i64 ah) ∧ w'.cell? ⟨w.heap.size, 2, none⟩ = some (.int .i64 en) ∧ w'.cell? ⟨w.heap.size, 3, none⟩ = some (.slice A n c)) _ from HX.out.tab4) ?_
    clear hK K hS
    have hS := (show (fun (w' : World) => w'.cell? ⟨w.heap.size, 0, none⟩ = some (.int .i64 st) ∧ w'.cell? ⟨w.heap.size, 1, none⟩ = some (.int .i64 ah) ∧ w'.cell? ⟨w.heap.size, 2, none⟩ = some (.int .i64 en) ∧ w'.cell? ⟨w.heap.size, 3, none⟩ = some (.slice A n c)) _ from HX.out.tab4)
    refine Turns.take hS 4 _ rfl (by kernel_rfl) (by kernel_rfl) (by kernel_rfl) (by kernel_rfl) (fun _ _ _ h => h) (by rfl) (fun w' hS' => by (try dsimp only at hS'); go_split_ands; go_simp; (try with_reducible rfl)) ?_
    simp only [Act.put, List.getElem_toArray, List.getElem_cons_succ, List.getElem_cons_zero, List.setIfInBounds_toArray, List.set_cons_zero, List.set_cons_succ]
    refine Turns.take hS 5 _ rfl (by kernel_rfl) (by kernel_rfl) (by kernel_rfl) (by kernel_rfl) (fun _ _ _ h => h) (by rfl) (fun w' hS' => by (try dsimp only at hS'); go_split_ands; go_simp; (try with_reducible rfl)) ?_
    simp only [Act.put, List.getElem_toArray, List.getElem_cons_succ, List.getElem_cons_zero, List.setIfInBounds_toArray, List.set_cons_zero, List.set_cons_succ]
    refine Turns.take hS 6 _ rfl (by kernel_rfl) (by kernel_rfl) (by kernel_rfl) (by kernel_rfl) (fun _ _ _ h => h) (by rfl) (fun w' hS' => by (try dsimp only at hS'); go_split_ands; go_simp; (try with_reducible rfl)) ?_
    simp only [Act.put, List.getElem_toArray, List.getElem_cons_succ, List.getElem_cons_zero, List.setIfInBounds_toArray, List.set_cons_zero, List.set_cons_succ]
    refine Turns.take hS 7 _ rfl (by kernel_rfl) (by kernel_rfl) (by kernel_rfl) (by kernel_rfl) (fun _ _ _ h => h) (by rfl) (fun w' hS' => by (try dsimp only at hS'); go_split_ands; go_simp; (try with_reducible rfl)) ?_
    simp only [Act.put, List.getElem_toArray, List.getElem_cons_succ, List.getElem_cons_zero, List.setIfInBounds_toArray, List.set_cons_zero, List.set_cons_succ]
    refine Turns.take hS 8 _ rfl (by kernel_rfl) (by kernel_rfl) (by kernel_rfl) (by kernel_rfl) (fun _ _ _ h => h) (by rfl) (fun w' hS' => by (try dsimp only at hS'); go_split_ands; go_simp; (try with_reducible rfl)) ?_
    simp only [Act.put, List.getElem_toArray, List.getElem_cons_succ, List.getElem_cons_zero, List.setIfInBounds_toArray, List.set_cons_zero, List.set_cons_succ]
    refine Turns.take hS 11 _ rfl (by kernel_rfl) (by kernel_rfl) (by kernel_rfl) (by kernel_rfl) (fun _ _ _ h => h) (by rfl) (fun w' hS' => by (try dsimp only at hS'); go_split_ands; go_simp; (try with_reducible rfl)) ?_
    simp only [Act.put, List.getElem_toArray, List.getElem_cons_succ, List.getElem_cons_zero, List.setIfInBounds_toArray, List.set_cons_zero, List.set_cons_succ]
    refine Turns.take hS 12 _ rfl (by kernel_rfl) (by kernel_rfl) (by kernel_rfl) (by kernel_rfl) (fun _ _ _ h => h) (by rfl) (fun w' hS' => by (try dsimp only at hS'); go_split_ands; go_simp; (try with_reducible rfl)) ?_
    simp only [Act.put, List.getElem_toArray, List.getElem_cons_succ, List.getElem_cons_zero, List.setIfInBounds_toArray, List.set_cons_zero, List.set_cons_succ]
    refine Turns.next 9 rfl (by kernel_rfl) (by rfl) (fun K hK => ?_)
    go_simp
    go_at_call 17
    refine (HB2.out _ HX.out.below).mono ?_
    rintro e w9 ⟨rfl, hb9⟩
    replace HX := Lib.hid (HX.out.next hb9)
    replace HY := Lib.hid (HY.out.below hb9 HY.out.lt)
    clear hb9
    refine hK.out _ _ (show (fun (w' : World) => w'.cell? ⟨w.heap.size, 0, none⟩ = some (.int .i64 st) ∧ w'.cell? ⟨w.heap.size, 1, none⟩ = some (.int .i64 ah) ∧ w'.cell? ⟨w.heap.size, 2, none⟩ = some (.int .i64 en) ∧ w'.cell? ⟨w.heap.size, 3, none⟩ = some (.slice A n c)) _ from HX.out.tab4) ?_
    clear hK K hS
    have hS := (show (fun (w' : World) => w'.cell? ⟨w.heap.size, 0, none⟩ = some (.int .i64 st) ∧ w'.cell? ⟨w.heap.size, 1, none⟩ = some (.int .i64 ah) ∧ w'.cell? ⟨w.heap.size, 2, none⟩ = some (.int .i64 en) ∧ w'.cell? ⟨w.heap.size, 3, none⟩ = some (.slice A n c)) _ from HX.out.tab4)
    refine Turns.take hS 10 _ rfl (by kernel_rfl) (by kernel_rfl) (by kernel_rfl) (by kernel_rfl) (fun _ _ _ h => h) (by rfl) (fun w' hS' => by (try dsimp only at hS'); go_split_ands; go_simp; (try with_reducible rfl)) ?_
    simp only [Act.put, List.getElem_toArray, List.getElem_cons_succ, List.getElem_cons_zero, List.setIfInBounds_toArray, List.set_cons_zero, List.set_cons_succ]
    refine Turns.next 13 rfl (by kernel_rfl) (by rfl) (fun K hK => ?_)
    go_simp
    go_at_call 18
    refine (HL2.out _ HX.out.below).mono ?_
    rintro e w13 ⟨rfl, hb13⟩
    replace HX := Lib.hid (HX.out.next hb13)
    replace HY := Lib.hid (HY.out.below hb13 HY.out.lt)
    clear hb13
    refine hK.out _ _ (show (fun (w' : World) => w'.cell? ⟨w.heap.size, 0, none⟩ = some (.int .i64 st) ∧ w'.cell? ⟨w.heap.size, 1, none⟩ = some (.int .i64 ah) ∧ w'.cell? ⟨w.heap.size, 2, none⟩ = some (.int .i64 en) ∧ w'.cell? ⟨w.heap.size, 3, none⟩ = some (.slice A n c)) _ from HX.out.tab4) ?_
    clear hK K hS
    have hS := (show (fun (w' : World) => w'.cell? ⟨w.heap.size, 0, none⟩ = some (.int .i64 st) ∧ w'.cell? ⟨w.heap.size, 1, none⟩ = some (.int .i64 ah) ∧ w'.cell? ⟨w.heap.size, 2, none⟩ = some (.int .i64 en) ∧ w'.cell? ⟨w.heap.size, 3, none⟩ = some (.slice A n c)) _ from HX.out.tab4)
    refine Turns.take hS 14 _ rfl (by kernel_rfl) (by kernel_rfl) (by kernel_rfl) (by kernel_rfl) (fun _ _ _ h => h) (by rfl) (fun w' hS' => by (try dsimp only at hS'); go_split_ands; go_simp; (try with_reducible rfl)) ?_
    simp only [Act.put, List.getElem_toArray, List.getElem_cons_succ, List.getElem_cons_zero, List.setIfInBounds_toArray, List.set_cons_zero, List.set_cons_succ]
    refine Turns.take hS 15 _ rfl (by kernel_rfl) (by kernel_rfl) (by kernel_rfl) (by kernel_rfl) (fun _ _ _ h => h) (by rfl) (fun w' hS' => by (try dsimp only at hS'); go_split_ands; go_simp; (try with_reducible rfl)) ?_
    simp only [Act.put, List.getElem_toArray, List.getElem_cons_succ, List.getElem_cons_zero, List.setIfInBounds_toArray, List.set_cons_zero, List.set_cons_succ]
    refine Turns.take hS 16 _ rfl (by kernel_rfl) (by kernel_rfl) (by kernel_rfl) (by kernel_rfl) (fun _ _ _ h => h) (by rfl) (fun w' hS' => by (try dsimp only at hS'); go_split_ands; go_simp; (try with_reducible rfl)) ?_
    simp only [Act.put, List.getElem_toArray, List.getElem_cons_succ, List.getElem_cons_zero, List.setIfInBounds_toArray, List.set_cons_zero, List.set_cons_succ]
    refine Turns.rest (late_done (by kernel_rfl)) ?_
    refine any_tail 17 (by rfl) (by kernel_rfl) ?_
    simp only [List.drop_succ_cons, List.drop_zero]
    clear hS
    have r0 := HY.out.cell 0
    have r1 := HY.out.cell 1
    have r2 := HY.out.cell 2
    have r3 := HY.out.cell 3
    have r4 := HY.out.cell 4
    have r5 := HY.out.cell 5
    have g0 := HY.out.soft 0
    have g1 := HY.out.soft 1
    have g2 := HY.out.soft 2
    have g3 := HY.out.soft 3
    have g4 := HY.out.soft 4
    have g5 := HY.out.soft 5
    go_wp2
    refine bodyPost_ret (results_row_tmp rfl _ _ (w.heap.size + 1) 28 [.int .i64 0, .int .i64 0, .int .i64 0, .int .i64 0, .int .i64 0, .int .i64 0] _ _ rfl ((((((HY.out.put 0 _).put 1 _).put 2 _).put 3 _).put 4 _).put 5 _) Tryd.underlying28 rfl rofs rfl) rfl ?_
    exact ⟨.inr ⟨HNO.out, rfl⟩, ((((((HX.out.below.setCell HLT.out _).setCell HLT.out _).setCell HLT.out _).setCell HLT.out _).setCell HLT.out _).setCell HLT.out _)⟩
  have u2 : decide (Q + 86400 + R ≤ tai) = false := decide_eq_false hhi
  have HS := Lib.hid (show beginV ah L st ≤ tai ∧ tai < beginV ah L (en - 1) + lenV L (en - 1) ∧ st ≤ en - 1 from by
    obtain ⟨k1, k2, k3⟩ := HPQ.out
    rw [k1, k2, k3]
    omega)
  have HSS := Lib.hid (show -719162 ≤ st ∧ en ≤ 2932896 from ⟨s1, s2⟩)
  clear s1 s2 s3 b1 b2 b3 hlo hhi
  go_enter Tryd.func14, Tryd.ntmps14
  go_upto_region 3 with (fail)
  clear c0 c1 c2 c3
  obtain ⟨W0, hW0⟩ : ∃ W0, W0 = (w.alloc (.cells #[.int .i64 st, .int .i64 ah, .int .i64 en, .slice A n c] 24)).alloc (.cells #[.int .i64 0, .int .i64 0, .int .i64 0, .int .i64 0, .int .i64 0, .int .i64 0] 28) := ⟨_, rfl⟩
  rw [← hW0] at HX HY ⊢
  clear hW0
  replace HX := Lib.hid (show Box w 24 #[.int .i64 st, .int .i64 ah, .int .i64 en, .slice A n c] W0.drew from HX.out.drew)
  replace HY := Lib.hid (show Holds W0.drew (w.heap.size + 1) 28 #[.int .i64 0, .int .i64 0, .int .i64 0, .int .i64 0, .int .i64 0, .int .i64 0] from HY.out)
  refine region_turns (fun (w' : World) => w'.cell? ⟨w.heap.size, 0, none⟩ = some (.int .i64 st) ∧ w'.cell? ⟨w.heap.size, 1, none⟩ = some (.int .i64 ah) ∧ w'.cell? ⟨w.heap.size, 2, none⟩ = some (.int .i64 en) ∧ w'.cell? ⟨w.heap.size, 3, none⟩ = some (.slice A n c)) (fun j => decide (17 ≤ j)) (by kernel_rfl) (HX.out.tab4) (fun hS => ?_)
  refine Turns.take hS 0 _ rfl (by kernel_rfl) (by kernel_rfl) (by kernel_rfl) (by kernel_rfl) (fun _ _ _ h => h) (by rfl) (fun w' hS' => by (try dsimp only at hS'); go_split_ands; go_simp; (try with_reducible rfl)) ?_
  simp only [Act.put, List.getElem_toArray, List.getElem_cons_succ, List.getElem_cons_zero, List.setIfInBounds_toArray, List.set_cons_zero, List.set_cons_succ]
  refine Turns.take hS 1 _ rfl (by kernel_rfl) (by kernel_rfl) (by kernel_rfl) (by kernel_rfl) (fun _ _ _ h => h) (by rfl) (fun w' hS' => by (try dsimp only at hS'); go_split_ands; go_simp; (try with_reducible rfl)) ?_
  simp only [Act.put, List.getElem_toArray, List.getElem_cons_succ, List.getElem_cons_zero, List.setIfInBounds_toArray, List.set_cons_zero, List.set_cons_succ]
  refine Turns.take hS 2 _ rfl (by kernel_rfl) (by kernel_rfl) (by kernel_rfl) (by kernel_rfl) (fun _ _ _ h => h) (by rfl) (fun w' hS' => by (try dsimp only at hS'); go_split_ands; go_simp; (try with_reducible rfl)) ?_
  simp only [Act.put, List.getElem_toArray, List.getElem_cons_succ, List.getElem_cons_zero, List.setIfInBounds_toArray, List.set_cons_zero, List.set_cons_succ]
  refine Turns.next 3 rfl (by kernel_rfl) (by rfl) (fun K hK => ?_)
  go_simp
  go_at_call 17
  refine (HB1.out _ HX.out.below).mono ?_
  rintro e w3 ⟨rfl, hb3⟩
  replace HX := Lib.hid (HX.out.next hb3)
  replace HY := Lib.hid (HY.out.below hb3 HY.out.lt)
  clear hb3
  refine hK.out _ _ (show (fun (w' : World) => w'.cell? ⟨w.heap.size, 0, none⟩ = some (.int .i64 st) ∧ w'.cell? ⟨w.heap.size, 1, none⟩ = some (.int .i64 ah) ∧ w'.cell? ⟨w.heap.size, 2, none⟩ = some (.int .i64 en) ∧ w'.cell? ⟨w.heap.size, 3, none⟩ = some (.slice A n c)) _ from HX.out.tab4) ?_
  clear hK K hS
  have hS := (show (fun (w' : World) => w'.cell? ⟨w.heap.size, 0, none⟩ = some (.int .i64 st) ∧ w'.cell? ⟨w.heap.size, 1, none⟩ = some (.int .i64 ah) ∧ w'.cell? ⟨w.heap.size, 2, none⟩ = some (.int .i64 en) ∧ w'.cell? ⟨w.heap.size, 3, none⟩ = some (.slice A n c)) _ from HX.out.tab4)
  refine Turns.take hS 4 _ rfl (by kernel_rfl) (by kernel_rfl) (by kernel_rfl) (by kernel_rfl) (fun _ _ _ h => h) (by rfl) (fun w' hS' => by (try dsimp only at hS'); go_split_ands; go_simp; (try with_reducible rfl)) ?_
  simp only [Act.put, List.getElem_toArray, List.getElem_cons_succ, List.getElem_cons_zero, List.setIfInBounds_toArray, List.set_cons_zero, List.set_cons_succ]
  refine Turns.take hS 5 _ rfl (by kernel_rfl) (by kernel_rfl) (by kernel_rfl) (by kernel_rfl) (fun _ _ _ h => h) (by rfl) (fun w' hS' => by (try dsimp only at hS'); go_split_ands; go_simp; (try with_reducible rfl)) ?_
  simp only [Act.put, List.getElem_toArray, List.getElem_cons_succ, List.getElem_cons_zero, List.setIfInBounds_toArray, List.set_cons_zero, List.set_cons_succ]
  refine Turns.take hS 6 _ rfl (by kernel_rfl) (by kernel_rfl) (by kernel_rfl) (by kernel_rfl) (fun _ _ _ h => h) (by rfl) (fun w' hS' => by (try dsimp only at hS'); go_split_ands; go_simp; (try with_reducible rfl)) ?_
  simp only [Act.put, List.getElem_toArray, List.getElem_cons_succ, List.getElem_cons_zero, List.setIfInBounds_toArray, List.set_cons_zero, List.set_cons_succ]
  refine Turns.take hS 7 _ rfl (by kernel_rfl) (by kernel_rfl) (by kernel_rfl) (by kernel_rfl) (fun _ _ _ h => h) (by rfl) (fun w' hS' => by (try dsimp only at hS'); go_split_ands; go_simp; (try with_reducible rfl)) ?_
  simp only [Act.put, List.getElem_toArray, List.getElem_cons_succ, List.getElem_cons_zero, List.setIfInBounds_toArray, List.set_cons_zero, List.set_cons_succ]
  refine Turns.take hS 8 _ rfl (by kernel_rfl) (by kernel_rfl) (by kernel_rfl) (by kernel_rfl) (fun _ _ _ h => h) (by rfl) (fun w' hS' => by (try dsimp only at hS'); go_split_ands; go_simp; (try with_reducible rfl)) ?_
  simp only [Act.put, List.getElem_toArray, List.getElem_cons_succ, List.getElem_cons_zero, List.setIfInBounds_toArray, List.set_cons_zero, List.set_cons_succ]
  refine Turns.take hS 11 _ rfl (by kernel_rfl) (by kernel_rfl) (by kernel_rfl) (by kernel_rfl) (fun _ _ _ h => h) (by rfl) (fun w' hS' => by (try dsimp only at hS'); go_split_ands; go_simp; (try with_reducible rfl)) ?_
  simp only [Act.put, List.getElem_toArray, List.getElem_cons_succ, List.getElem_cons_zero, List.setIfInBounds_toArray, List.set_cons_zero, List.set_cons_succ]
  refine Turns.take hS 12 _ rfl (by kernel_rfl) (by kernel_rfl) (by kernel_rfl) (by kernel_rfl) (fun _ _ _ h => h) (by rfl) (fun w' hS' => by (try dsimp only at hS'); go_split_ands; go_simp; (try with_reducible rfl)) ?_
  simp only [Act.put, List.getElem_toArray, List.getElem_cons_succ, List.getElem_cons_zero, List.setIfInBounds_toArray, List.set_cons_zero, List.set_cons_succ]
  refine Turns.next 9 rfl (by kernel_rfl) (by rfl) (fun K hK => ?_)
  go_simp
  go_at_call 17
  refine (HB2.out _ HX.out.below).mono ?_
  rintro e w9 ⟨rfl, hb9⟩
  replace HX := Lib.hid (HX.out.next hb9)
  replace HY := Lib.hid (HY.out.below hb9 HY.out.lt)
  clear hb9
  refine hK.out _ _ (show (fun (w' : World) => w'.cell? ⟨w.heap.size, 0, none⟩ = some (.int .i64 st) ∧ w'.cell? ⟨w.heap.size, 1, none⟩ = some (.int .i64 ah) ∧ w'.cell? ⟨w.heap.size, 2, none⟩ = some (.int .i64 en) ∧ w'.cell? ⟨w.heap.size, 3, none⟩ = some (.slice A n c)) _ from HX.out.tab4) ?_
  clear hK K hS
  have hS := (show (fun (w' : World) => w'.cell? ⟨w.heap.size, 0, none⟩ = some (.int .i64 st) ∧ w'.cell? ⟨w.heap.size, 1, none⟩ = some (.int .i64 ah) ∧ w'.cell? ⟨w.heap.size, 2, none⟩ = some (.int .i64 en) ∧ w'.cell? ⟨w.heap.size, 3, none⟩ = some (.slice A n c)) _ from HX.out.tab4)
  refine Turns.take hS 10 _ rfl (by kernel_rfl) (by kernel_rfl) (by kernel_rfl) (by kernel_rfl) (fun _ _ _ h => h) (by rfl) (fun w' hS' => by (try dsimp only at hS'); go_split_ands; go_simp; (try with_reducible rfl)) ?_
  simp only [Act.put, List.getElem_toArray, List.getElem_cons_succ, List.getElem_cons_zero, List.setIfInBounds_toArray, List.set_cons_zero, List.set_cons_succ]
  refine Turns.next 13 rfl (by kernel_rfl) (by rfl) (fun K hK => ?_)
  go_simp
  go_at_call 18
  refine (HL2.out _ HX.out.below).mono ?_
  rintro e w13 ⟨rfl, hb13⟩
  replace HX := Lib.hid (HX.out.next hb13)
  replace HY := Lib.hid (HY.out.below hb13 HY.out.lt)
  clear hb13
  refine hK.out _ _ (show (fun (w' : World) => w'.cell? ⟨w.heap.size, 0, none⟩ = some (.int .i64 st) ∧ w'.cell? ⟨w.heap.size, 1, none⟩ = some (.int .i64 ah) ∧ w'.cell? ⟨w.heap.size, 2, none⟩ = some (.int .i64 en) ∧ w'.cell? ⟨w.heap.size, 3, none⟩ = some (.slice A n c)) _ from HX.out.tab4) ?_
  clear hK K hS
  have hS := (show (fun (w' : World) => w'.cell? ⟨w.heap.size, 0, none⟩ = some (.int .i64 st) ∧ w'.cell? ⟨w.heap.size, 1, none⟩ = some (.int .i64 ah) ∧ w'.cell? ⟨w.heap.size, 2, none⟩ = some (.int .i64 en) ∧ w'.cell? ⟨w.heap.size, 3, none⟩ = some (.slice A n c)) _ from HX.out.tab4)
  refine Turns.take hS 14 _ rfl (by kernel_rfl) (by kernel_rfl) (by kernel_rfl) (by kernel_rfl) (fun _ _ _ h => h) (by rfl) (fun w' hS' => by (try dsimp only at hS'); go_split_ands; go_simp; (try with_reducible rfl)) ?_
  simp only [Act.put, List.getElem_toArray, List.getElem_cons_succ, List.getElem_cons_zero, List.setIfInBounds_toArray, List.set_cons_zero, List.set_cons_succ]
  refine Turns.take hS 15 _ rfl (by kernel_rfl) (by kernel_rfl) (by kernel_rfl) (by kernel_rfl) (fun _ _ _ h => h) (by rfl) (fun w' hS' => by (try dsimp only at hS'); go_split_ands; go_simp; (try with_reducible rfl)) ?_
  simp only [Act.put, List.getElem_toArray, List.getElem_cons_succ, List.getElem_cons_zero, List.setIfInBounds_toArray, List.set_cons_zero, List.set_cons_succ]
  refine Turns.take hS 16 _ rfl (by kernel_rfl) (by kernel_rfl) (by kernel_rfl) (by kernel_rfl) (fun _ _ _ h => h) (by rfl) (fun w' hS' => by (try dsimp only at hS'); go_split_ands; go_simp; (try with_reducible rfl)) ?_
  simp only [Act.put, List.getElem_toArray, List.getElem_cons_succ, List.getElem_cons_zero, List.setIfInBounds_toArray, List.set_cons_zero, List.set_cons_succ]
  refine Turns.rest (late_done (by kernel_rfl)) ?_
  refine any_tail 17 (by rfl) (by kernel_rfl) ?_
  simp only [List.drop_succ_cons, List.drop_zero]
  clear hS
  clear HB1 HB2 HL2 HLO HHI HEN HPQ e2 e3 u1 u2
  go_wp2
  go_loopw [6, 7] (fun lo hi wr => ∃ l h : Int, lo = .int .i64 l ∧ hi = .int .i64 h ∧ st ≤ l ∧ l ≤ h ∧ h ≤ en - 1 ∧ beginV ah L l ≤ tai ∧ tai < beginV ah L h + lenV L h ∧ Box w 24 #[.int .i64 st, .int .i64 ah, .int .i64 en, .slice A n c] wr ∧ Holds wr (w.heap.size + 1) 28 #[.int .i64 0, .int .i64 0, .int .i64 0, .int .i64 0, .int .i64 0, .int .i64 0]) (fun lo hi _ => (intOf hi - intOf lo).toNat)
  case atStart => exact ⟨st, en - 1, rfl, rfl, Int.le_refl _, HS.out.2.2, Int.le_refl _, HS.out.1, HS.out.2.1, HX.out, HY.out⟩
  case round =>
    clear HX HY e1
    obtain ⟨l, h, rfl, rfl, hl, hlh, hh, hbl, hbh, hx, hy⟩ := hrel
    have HX := Lib.hid hx
    have HY := Lib.hid hy
    obtain ⟨z1, z2⟩ := HSS.out
    clear hx hy
    by_cases hlt : l < h
    · have e1 := IntWalk.i64_in (h - l) (by omega)
      have e2 := IntWalk.i64_in (h - l + 1) (by omega)
      have e3 := tdiv_of (show 0 ≤ h - l + 1 by omega) 2
      have e4 := IntWalk.i64_in ((h - l + 1) / 2) (by omega)
      have e5 := IntWalk.i64_in (l + (h - l + 1) / 2) (by omega)
      obtain ⟨m, hm⟩ : ∃ m, l + (h - l + 1) / 2 = m := ⟨_, rfl⟩
      rw [hm] at e5
      have mb : l < m ∧ m ≤ h := by omega
      have HM := Lib.hid (fun W (hW : Below w.heap.size w W) => HB.out W hW m (by omega) (by omega))
      have nx := HG.out.next (m - 1)
      rw [show m - 1 + 1 = m by omega] at nx
      have e6 := IntWalk.i64_in (m - 1) (by omega)
      have HBL := Lib.hid hbl
      have HBH := Lib.hid hbh
      have HNX := Lib.hid nx
      obtain ⟨B, hB⟩ : ∃ B, beginV ah L m = B := ⟨_, rfl⟩
      have HBB := Lib.hid hB
      rw [hB] at HM
      obtain ⟨c0, c1, c2, c3⟩ := HX.out.tab4
      clear nx hbl hbh hB
      by_cases hle : B ≤ tai
      · have t3 : decide (B ≤ tai) = true := decide_eq_true hle
        go_wp2_with (go_at_call 17; refine (HM.out _ HX.out.below).mono ?_; rintro e w5 ⟨rfl, hb5⟩; replace HX := Lib.hid (HX.out.next hb5); replace HY := Lib.hid (HY.out.below hb5 HY.out.lt); clear hb5; clear c0 c1 c2 c3; obtain ⟨c0, c1, c2, c3⟩ := HX.out.tab4)
        go_roundw
        case rel => exact ⟨m, h, rfl, rfl, by omega, by omega, by omega, by rw [HBB.out]; exact hle, HBH.out, HX.out, HY.out⟩
        case measure => simp [intOf]; omega
      · have t3 : decide (B ≤ tai) = false := decide_eq_false hle
        go_wp2_with (go_at_call 17; refine (HM.out _ HX.out.below).mono ?_; rintro e w5 ⟨rfl, hb5⟩; replace HX := Lib.hid (HX.out.next hb5); replace HY := Lib.hid (HY.out.below hb5 HY.out.lt); clear hb5; clear c0 c1 c2 c3; obtain ⟨c0, c1, c2, c3⟩ := HX.out.tab4)
        go_roundw
        case rel => exact ⟨l, m - 1, rfl, rfl, by omega, by omega, by omega, HBL.out, by rw [← HNX.out, HBB.out]; omega, HX.out, HY.out⟩
        case measure => simp [intOf]; omega
    · have hlh2 : l = h := by omega
      subst hlh2
      have on : OnDay st ah en L tai l := ⟨hl, by omega, hbl, hbh⟩
      have HON := Lib.hid on
      have HM := Lib.hid (fun W (hW : Below w.heap.size w W) => HB.out W hW l (by omega) (by omega))
      have os := on.sec HG.out
      obtain ⟨y, m, d, hc, hn⟩ := date_ex (n := l) (by omega) (by omega)
      have HD := Lib.hid (fun W => rudate_any hc l hn W)
      have HCN := Lib.hid (And.intro hc hn)
      have hlt2 : decide (l < l) = false := decide_eq_false hlt
      obtain ⟨B, hB⟩ : ∃ B, beginV ah L l = B := ⟨_, rfl⟩
      rw [hB] at HM os
      have e1 := IntWalk.i64_in (tai - B) (by omega)
      have HV := Lib.hid (show tai - beginV ah L l = tai - B by rw [hB])
      obtain ⟨s, hs⟩ : ∃ s, tai - B = s := ⟨_, rfl⟩
      rw [hs] at e1 os HV
      clear hc hn on hbl hbh hB hlt
      obtain ⟨c0, c1, c2, c3⟩ := HX.out.tab4
      by_cases h86 : s = 86400
      · have HVV := Lib.hid (show hV s = 23 ∧ mV s = 59 ∧ sV s = 60 from ⟨if_pos h86, if_pos h86, if_pos h86⟩)
        have t4 : (s == 86400) = true := by rw [h86]; rfl
        clear h86
        go_wp2_with (first
          | (go_at_call 17; refine (HM.out _ HX.out.below).mono ?_; rintro e w5 ⟨rfl, hb5⟩; replace HX := Lib.hid (HX.out.next hb5); replace HY := Lib.hid (HY.out.below hb5 HY.out.lt); clear hb5; clear c0 c1 c2 c3; obtain ⟨c0, c1, c2, c3⟩ := HX.out.tab4)
          | (go_at_call 32; refine (HD.out _).mono ?_; rintro e w6 ⟨rfl, hb6⟩; replace HX := Lib.hid (HX.out.next hb6); replace HY := Lib.hid (HY.out.below hb6 HY.out.lt); clear hb6; have HQ := Lib.hid (Box.start w6 26 #[.int .i64 y, .int .i64 m, .int .i64 d]); obtain ⟨q0, q1, q2, _⟩ := HQ.out.cells3; replace HX := Lib.hid (HX.out.next HQ.out.below); replace HY := Lib.hid (HY.out.below HQ.out.below HY.out.lt); have r0 := HY.out.cell 0; have r1 := HY.out.cell 1; have r2 := HY.out.cell 2; have r3 := HY.out.cell 3; have r4 := HY.out.cell 4; have r5 := HY.out.cell 5; have g0 := HY.out.soft 0; have g1 := HY.out.soft 1; have g2 := HY.out.soft 2; have g3 := HY.out.soft 3; have g4 := HY.out.soft 4; have g5 := HY.out.soft 5))
        refine bodyPost_ret (results_row_tmp rfl _ _ (w.heap.size + 1) 28 [.int .i64 y, .int .i64 m, .int .i64 d, .int .i64 23, .int .i64 59, .int .i64 60] _ _ rfl ((((((HY.out.put 0 _).put 1 _).put 2 _).put 3 _).put 4 _).put 5 _) Tryd.underlying28 rfl rofs rfl) rfl ?_
        exact ⟨.inl ⟨l, y, m, d, HON.out, HCN.out.1, HCN.out.2, by rw [HV.out, HVV.out.1, HVV.out.2.1, HVV.out.2.2]; rfl⟩, ((((((HX.out.below.setCell HLT.out _).setCell HLT.out _).setCell HLT.out _).setCell HLT.out _).setCell HLT.out _).setCell HLT.out _)⟩
      · have HVV := Lib.hid (show hV s = s / 3600 ∧ mV s = s % 3600 / 60 ∧ sV s = s % 60 from ⟨if_neg h86, if_neg h86, if_neg h86⟩)
        have t4 : (s == 86400) = false := beq_no h86
        have k1 := tdiv_of os.1 3600
        have k2 := tmod_of os.1 3600
        have k3 := tdiv_of (show 0 ≤ s % 3600 by omega) 60
        have k4 := tmod_of os.1 60
        have k5 := IntWalk.i64_in (s / 3600) (by omega)
        have k6 := IntWalk.i64_in (s % 3600) (by omega)
        have k7 := IntWalk.i64_in (s % 3600 / 60) (by omega)
        have k8 := IntWalk.i64_in (s % 60) (by omega)
        go_wp2_with (first
          | (go_at_call 17; refine (HM.out _ HX.out.below).mono ?_; rintro e w5 ⟨rfl, hb5⟩; replace HX := Lib.hid (HX.out.next hb5); replace HY := Lib.hid (HY.out.below hb5 HY.out.lt); clear hb5; clear c0 c1 c2 c3; obtain ⟨c0, c1, c2, c3⟩ := HX.out.tab4)
          | (go_at_call 32; refine (HD.out _).mono ?_; rintro e w6 ⟨rfl, hb6⟩; replace HX := Lib.hid (HX.out.next hb6); replace HY := Lib.hid (HY.out.below hb6 HY.out.lt); clear hb6; have HQ := Lib.hid (Box.start w6 26 #[.int .i64 y, .int .i64 m, .int .i64 d]); obtain ⟨q0, q1, q2, _⟩ := HQ.out.cells3; replace HX := Lib.hid (HX.out.next HQ.out.below); replace HY := Lib.hid (HY.out.below HQ.out.below HY.out.lt); have r0 := HY.out.cell 0; have r1 := HY.out.cell 1; have r2 := HY.out.cell 2; have r3 := HY.out.cell 3; have r4 := HY.out.cell 4; have r5 := HY.out.cell 5; have g0 := HY.out.soft 0; have g1 := HY.out.soft 1; have g2 := HY.out.soft 2; have g3 := HY.out.soft 3; have g4 := HY.out.soft 4; have g5 := HY.out.soft 5))
        refine bodyPost_ret (results_row_tmp rfl _ _ (w.heap.size + 1) 28 [.int .i64 y, .int .i64 m, .int .i64 d, .int .i64 (s / 3600), .int .i64 (s % 3600 / 60), .int .i64 (s % 60)] _ _ rfl ((((((HY.out.put 0 _).put 1 _).put 2 _).put 3 _).put 4 _).put 5 _) Tryd.underlying28 rfl rofs rfl) rfl ?_
        exact ⟨.inl ⟨l, y, m, d, HON.out, HCN.out.1, HCN.out.2, by rw [HV.out, HVV.out.1, HVV.out.2.1, HVV.out.2.2]; rfl⟩, ((((((HX.out.below.setCell HLT.out _).setCell HLT.out _).setCell HLT.out _).setCell HLT.out _).setCell HLT.out _).setCell HLT.out _)⟩
end Go.Proofs.YtcknllkbeadmlaaDoor
