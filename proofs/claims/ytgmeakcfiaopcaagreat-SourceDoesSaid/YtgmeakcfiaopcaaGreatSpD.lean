/- Package slope: Of. -/
import Derived.Test.YtgmeakcfiaopcaaGreatSpC
namespace Go.Proofs.YtgmeakcfiaopcaaGreat
open Go.RowKit
set_option linter.unusedVariables false
set_option linter.unusedSimpArgs false

open Classical in
/-- What Of answers. -/
noncomputable def ofV (d : Int) (L : List Ent) : Int × Int := if FitsL L ∧ denV (ptsL L) ≠ 0 then clampS (numV (ptsL L)) (denV (ptsL L)) (2 * dV d) (1000 - dV d) else (0, 1)
theorem of_is {d : Int} {L : List Ent} (h : FitsL L) (h0 : denV (ptsL L) ≠ 0) : ofV d L = clampS (numV (ptsL L)) (denV (ptsL L)) (2 * dV d) (1000 - dV d) := if_pos ⟨h, h0⟩
theorem of_not {d : Int} {L : List Ent} (h : ¬ FitsL L) : ofV d L = (0, 1) := if_neg (fun k => h k.1)
theorem of_flat {d : Int} {L : List Ent} (h0 : denV (ptsL L) = 0) : ofV d L = (0, 1) := if_neg (fun k => k.2 h0)
theorem fits_len {L : List Ent} (h : FitsL L) : (ptsL L).length ≤ 8 := by rw [pts_len]; exact h.eight
/-- All products are far within 64 bits. -/
theorem of_fits {d : Int} {L : List Ent} (h : FitsL L) : Fits (numV (ptsL L) * (1000 - dV d)) ∧ Fits (2 * dV d * denV (ptsL L)) ∧ Fits (-(2 * dV d * denV (ptsL L))) ∧ Fits (-(2 * dV d)) := by
  obtain ⟨n1, n2, d1, d2⟩ := numden_bd (near_in h) (fits_len h)
  obtain ⟨b1, b2⟩ := dV_bd d
  have e1 := prod_bd (x := numV (ptsL L)) (y := 1000 - dV d) (m := 2251799813685248) (k := 1000) ⟨by omega, by omega⟩ ⟨by omega, by omega⟩
  have e2 := prod_bd (x := 2 * dV d) (y := denV (ptsL L)) (m := 20) (k := 1125899906842624) ⟨by omega, by omega⟩ ⟨by omega, by omega⟩
  unfold Fits
  refine ⟨?_, ?_, ?_, ?_⟩ <;> omega

/-- The memory while Of works: the answer's variable, the squares' one. -/
structure Two2 (w : World) (g : Nat) (nu de : Int) (w' : World) : Prop where
  box : Box w 140 #[.int .i64 0, .int .i64 0] w'
  sq : Holds w' g 140 #[.int .i64 nu, .int .i64 de]
theorem Two2.next {w w' w2 : World} {g : Nat} {nu de : Int} (h : Two2 w g nu de w') (hb : Below w'.heap.size w' w2) : Two2 w g nu de w2 := ⟨h.box.next hb, h.sq.below hb h.sq.lt⟩
theorem Two2.cells {w w' : World} {g : Nat} {nu de : Int} (h : Two2 w g nu de w') : w'.cell? ⟨g, 0, none⟩ = some (.int .i64 nu) ∧ w'.cell? ⟨g, 1, none⟩ = some (.int .i64 de) ∧ Two2 w g nu de w' := ⟨h.sq.cell 0, h.sq.cell 1, h⟩
theorem fits_yes {w : World} {B : Nat} {A : Option Addr} {n c : Nat} {L : List Ent} (h : TRow w B A n c L) (hF : FitsL L) :
    Calls Tryz.prog 94 #[.slice A n c] w fun e w' => e = .returned (.bool true) ∧ Below w.heap.size w w' := by
  refine (fits_any w B A n c L h).mono ?_
  rintro e w' ⟨⟨rfl, h1⟩ | ⟨rfl, h1⟩, hb⟩
  · exact ⟨rfl, hb⟩
  · exact absurd hF h1
theorem fits_not {w : World} {B : Nat} {A : Option Addr} {n c : Nat} {L : List Ent} (h : TRow w B A n c L) (hF : ¬ FitsL L) :
    Calls Tryz.prog 94 #[.slice A n c] w fun e w' => e = .returned (.bool false) ∧ Below w.heap.size w w' := by
  refine (fits_any w B A n c L h).mono ?_
  rintro e w' ⟨⟨rfl, h1⟩ | ⟨rfl, h1⟩, hb⟩
  · exact absurd h1 hF
  · exact ⟨rfl, hb⟩
set_option maxHeartbeats 2000000 in
theorem slope_of (d : Int) (w : World) (B : Nat) (A : Option Addr) (n c : Nat) (L : List Ent) (h : TRow w B A n c L) :
    Calls Tryz.prog 83 #[.int .i64 d, .slice A n c] w fun e w' => e = .returned (slV (ofV d L)) ∧ Below w.heap.size w w' := by
  have HB := Lib.hid (Box.start w 140 #[.int .i64 0, .int .i64 0])
  by_cases hF : FitsL L
  · have hy := fits_yes (h.below (below_alloc w (.cells #[.int .i64 0, .int .i64 0] 140))) hF
    by_cases h0 : denV (ptsL L) = 0
    · rw [of_flat h0]
      have hq := fun W (hW : Below w.heap.size w W) => squares_any W B A n c L (h.below hW) hF
      rw [h0] at hq
      obtain ⟨nu, hnu⟩ : ∃ nu, numV (ptsL L) = nu := ⟨_, rfl⟩
      simp only [hnu] at hq
      have HQ := Lib.hid hq
      clear hq hF h0 hnu h
      go_enter Tryz.func83, Tryz.ntmps83
      go_upto_region 4 with (first
        | (go_at_call 94; refine hy.mono ?_; rintro e w2 ⟨rfl, hb2⟩; have HB2 := Lib.hid (HB.out.next hb2); have hsq := HQ.out w2 HB2.out.below; clear hb2)
        | (go_at_call 95; refine hsq.mono ?_; rintro e w3 ⟨rfl, hb3⟩; have HB3 := Lib.hid (HB2.out.next hb3); have q1 := (Holds.new w3 140 #[.int .i64 nu, .int .i64 0]).cell 1; have HB4 := Lib.hid (HB3.out.alloc (.cells #[.int .i64 nu, .int .i64 0] 140)); have c0 := HB4.out.holds.cell 0; have c1 := HB4.out.holds.cell 1; have s0 := HB4.out.holds.soft 0; have s1 := HB4.out.holds.soft 1; unfold slV; clear hb3 hsq))
      go_wp2
      exact end_sl rfl rfl ((HB4.out.holds.put 0 _).put 1 _) rfl ⟨rfl, (HB4.out.below.setCell (by dsimp only; omega) _).setCell (by dsimp only; omega) _⟩
    · have hx := of_fits (d := d) hF
      obtain ⟨x1, x2, x3, x4⟩ := hx
      rw [of_is hF h0]
      have hq := fun W (hW : Below w.heap.size w W) => squares_any W B A n c L (h.below hW) hF
      obtain ⟨nu, hnu⟩ : ∃ nu, numV (ptsL L) = nu := ⟨_, rfl⟩
      obtain ⟨de, hde⟩ : ∃ nu, denV (ptsL L) = nu := ⟨_, rfl⟩
      simp only [hnu, hde] at hq x1 x2 x3 h0 ⊢
      have e0 : (de == 0) = false := by simpa using h0
      have HQ := Lib.hid hq
      clear hq hF hnu hde h
      go_enter Tryz.func83, Tryz.ntmps83
      go_upto_region 6 with (first
        | (go_at_call 94; refine hy.mono ?_; rintro e w2 ⟨rfl, hb2⟩; have HB2 := Lib.hid (HB.out.next hb2); have hsq := HQ.out w2 HB2.out.below; clear hb2)
        | (go_at_call 95; refine hsq.mono ?_; rintro e w3 ⟨rfl, hb3⟩; have HB3 := Lib.hid (HB2.out.next hb3); have hn5 := (Holds.new w3 140 #[.int .i64 nu, .int .i64 de]); have q1 := hn5.cell 1; have HB4 := Lib.hid (show Two2 w w3.heap.size nu de _ from ⟨HB3.out.alloc (.cells #[.int .i64 nu, .int .i64 de] 140), hn5⟩); unfold slV; clear hb3 hsq hn5))
      clear hy q1 HB2 HB3 h0 e0 HQ HB
      have hm := fun W => most_any d W
      have hw := fun W => within_any nu de (2 * dV d) (1000 - dV d) W x1 x2 x3 x4
      obtain ⟨r, hr⟩ : ∃ r, clampS nu de (2 * dV d) (1000 - dV d) = r := ⟨_, rfl⟩
      obtain ⟨r1, r2⟩ := r
      simp only [hr] at hw ⊢
      unfold slV at hw
      dsimp only at hw
      have HM := Lib.hid hm
      have HW := Lib.hid hw
      have HR := Lib.hid hr
      clear hr hm hw x1 x2 x3 x4
      refine region_turns (fun (w' : World) => w'.cell? ⟨w3.heap.size, 0, none⟩ = some (.int .i64 nu) ∧ w'.cell? ⟨w3.heap.size, 1, none⟩ = some (.int .i64 de) ∧ Two2 w w3.heap.size nu de w') (fun j => decide (4 ≤ j)) (by kernel_rfl) ((HB4.out.next (Below.refl _ _).drew).cells) (fun hS => ?_)
      refine Turns.take hS 0 _ rfl (by kernel_rfl) (by kernel_rfl) (by kernel_rfl) (by kernel_rfl) (fun _ _ _ h => h) (by rfl) (fun w' hS' => by (try dsimp only at hS'); go_split_ands; go_simp; (try with_reducible rfl)) ?_
      simp only [Act.put, List.getElem_toArray, List.getElem_cons_succ, List.getElem_cons_zero, List.setIfInBounds_toArray, List.set_cons_zero, List.set_cons_succ]
      refine Turns.take hS 1 _ rfl (by kernel_rfl) (by kernel_rfl) (by kernel_rfl) (by kernel_rfl) (fun _ _ _ h => h) (by rfl) (fun w' hS' => by (try dsimp only at hS'); go_split_ands; go_simp; (try with_reducible rfl)) ?_
      simp only [Act.put, List.getElem_toArray, List.getElem_cons_succ, List.getElem_cons_zero, List.setIfInBounds_toArray, List.set_cons_zero, List.set_cons_succ]
      refine Turns.next 2 rfl (by kernel_rfl) (by rfl) (fun K hK => ?_)
      go_simp
      go_at_call 97
      refine (HM.out _).mono ?_
      rintro e w4 ⟨rfl, hb4⟩
      have HE := Lib.hid (hS.2.2.next hb4)
      refine hK.out _ _ (show (fun (w' : World) => w'.cell? ⟨w3.heap.size, 0, none⟩ = some (.int .i64 nu) ∧ w'.cell? ⟨w3.heap.size, 1, none⟩ = some (.int .i64 de) ∧ Two2 w w3.heap.size nu de w') _ from HE.out.cells) ?_
      clear hK K hS
      have hS := (show (fun (w' : World) => w'.cell? ⟨w3.heap.size, 0, none⟩ = some (.int .i64 nu) ∧ w'.cell? ⟨w3.heap.size, 1, none⟩ = some (.int .i64 de) ∧ Two2 w w3.heap.size nu de w') _ from HE.out.cells)
      refine Turns.next 3 rfl (by kernel_rfl) (by rfl) (fun K hK => ?_)
      go_simp
      go_at_call 96
      refine (HW.out _).mono ?_
      rintro e w5 ⟨rfl, hb5⟩
      have HG := Lib.hid (hS.2.2.next hb5)
      refine hK.out _ _ (show (fun (w' : World) => w'.cell? ⟨w3.heap.size, 0, none⟩ = some (.int .i64 nu) ∧ w'.cell? ⟨w3.heap.size, 1, none⟩ = some (.int .i64 de) ∧ Two2 w w3.heap.size nu de w') _ from HG.out.cells) ?_
      clear hK K hS
      have hS := (show (fun (w' : World) => w'.cell? ⟨w3.heap.size, 0, none⟩ = some (.int .i64 nu) ∧ w'.cell? ⟨w3.heap.size, 1, none⟩ = some (.int .i64 de) ∧ Two2 w w3.heap.size nu de w') _ from HG.out.cells)
      refine Turns.rest (late_done (by kernel_rfl)) ?_
      refine any_tail 4 (by rfl) (by kernel_rfl) ?_
      simp only [List.drop_succ_cons, List.drop_zero]
      clear hS
      have c0 := HG.out.box.holds.cell 0
      have c1 := HG.out.box.holds.cell 1
      have s0 := HG.out.box.holds.soft 0
      have s1 := HG.out.box.holds.soft 1
      go_wp2
      exact end_sl rfl rfl ((HG.out.box.holds.put 0 _).put 1 _) rfl ⟨by rw [HR.out]; rfl, (HG.out.box.below.setCell (by dsimp only; omega) _).setCell (by dsimp only; omega) _⟩
  · rw [of_not hF]
    have hy := fits_not (h.below (below_alloc w (.cells #[.int .i64 0, .int .i64 0] 140))) hF
    clear hF h
    go_enter Tryz.func83, Tryz.ntmps83
    go_wp2_with (go_at_call 94; refine hy.mono ?_; rintro e w2 ⟨rfl, hb2⟩; have HB2 := Lib.hid (HB.out.next hb2); have c0 := HB2.out.holds.cell 0; have c1 := HB2.out.holds.cell 1; have s0 := HB2.out.holds.soft 0; have s1 := HB2.out.holds.soft 1)
    exact end_sl rfl rfl ((HB2.out.holds.put 0 _).put 1 _) rfl ⟨rfl, (HB2.out.below.setCell (by dsimp only; omega) _).setCell (by dsimp only; omega) _⟩
end Go.Proofs.YtgmeakcfiaopcaaGreat
