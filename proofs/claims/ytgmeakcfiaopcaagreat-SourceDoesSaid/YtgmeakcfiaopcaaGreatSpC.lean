/- Package slope: squares. -/
import Derived.Test.YtgmeakcfiaopcaaGreatSpB
namespace Go.Proofs.YtgmeakcfiaopcaaGreat
open Go.RowKit
set_option linter.unusedVariables false
set_option linter.unusedSimpArgs false

theorem near_in {L : List Ent} (h : FitsL L) : ∀ p ∈ ptsL L, Near p := fun p hp => by
  simp only [ptsL, List.mem_map] at hp
  obtain ⟨e, he, rfl⟩ := hp
  exact (h.each e he).2
theorem pts_len (L : List Ent) : (ptsL L).length = L.length := by simp [ptsL]
theorem pts_at {L : List Ent} {k : Nat} {x : Ent} (h : L[k]? = some x) : (ptsL L)[k]? = some (ptO (headE L) x) := by simp [ptsL, h]
/-- How great sums of so few points so near may be. -/
structure SumB (P : List (Int × Int)) : Prop where
  x0 : 0 ≤ sumP pX P
  x1 : sumP pX P ≤ 33554432
  y0 : -33554432 ≤ sumP pY P
  y1 : sumP pY P ≤ 33554432
  xx0 : 0 ≤ sumP pXX P
  xx1 : sumP pXX P ≤ 140737488355328
  xy0 : -140737488355328 ≤ sumP pXY P
  xy1 : sumP pXY P ≤ 140737488355328
theorem near_prod {p : Int × Int} (h : Near p) : (0 ≤ p.1 * p.1 ∧ p.1 * p.1 ≤ 17592186044416) ∧ -17592186044416 ≤ p.1 * p.2 ∧ p.1 * p.2 ≤ 17592186044416 := by
  obtain ⟨h1, h2, h3, h4⟩ := h
  have e1 := prod_bd (x := p.1) (y := p.1) (m := 4194304) (k := 4194304) ⟨by omega, by omega⟩ ⟨by omega, by omega⟩
  have e2 := prod_bd (x := p.1) (y := p.2) (m := 4194304) (k := 4194304) ⟨by omega, by omega⟩ ⟨by omega, by omega⟩
  have e3 := Int.mul_nonneg h1 h1
  omega
theorem sum_b {P : List (Int × Int)} (h : ∀ p ∈ P, Near p) (h8 : P.length ≤ 8) : SumB P := by
  have b1 := sumP_bd pX 0 4194304 P (fun p hp => ⟨(h p hp).1, (h p hp).2.1⟩)
  have b2 := sumP_bd pY (-4194304) 4194304 P (fun p hp => ⟨(h p hp).2.2.1, (h p hp).2.2.2⟩)
  have b3 := sumP_bd pXX 0 17592186044416 P (fun p hp => (near_prod (h p hp)).1)
  have b4 := sumP_bd pXY (-17592186044416) 17592186044416 P (fun p hp => (near_prod (h p hp)).2)
  refine ⟨?_, ?_, ?_, ?_, ?_, ?_, ?_, ?_⟩ <;> omega
theorem take_near {P : List (Int × Int)} (h : ∀ p ∈ P, Near p) (k : Nat) : ∀ p ∈ P.take k, Near p := fun p hp => h p (List.mem_of_mem_take hp)
theorem take_next {α : Type} {P : List α} {k : Nat} {x : α} (h : P[k]? = some x) : P.take (k + 1) = P.take k ++ [x] := by
  have hl := (List.getElem?_eq_some_iff.1 h).1
  rw [List.take_succ_eq_append_getElem hl]
  rw [List.getElem?_eq_getElem hl] at h
  cases h
  rfl
/-- The numerator and the denominator of so few points so near. -/
structure NumB (P : List (Int × Int)) : Prop where
  n1 : -1125899906842624 ≤ (P.length : Int) * sumP pXY P ∧ (P.length : Int) * sumP pXY P ≤ 1125899906842624
  n2 : -1125899906842624 ≤ sumP pX P * sumP pY P ∧ sumP pX P * sumP pY P ≤ 1125899906842624
  d1 : 0 ≤ (P.length : Int) * sumP pXX P ∧ (P.length : Int) * sumP pXX P ≤ 1125899906842624
  d2 : 0 ≤ sumP pX P * sumP pX P ∧ sumP pX P * sumP pX P ≤ 1125899906842624
theorem num_b {P : List (Int × Int)} (h : ∀ p ∈ P, Near p) (h8 : P.length ≤ 8) : NumB P := by
  have b := sum_b h h8
  obtain ⟨b1, b2, b3, b4, b5, b6, b7, b8⟩ := b
  have e1 := prod_bd (x := (P.length : Int)) (y := sumP pXY P) (m := 8) (k := 140737488355328) ⟨by omega, by omega⟩ ⟨by omega, by omega⟩
  have e2 := prod_bd (x := sumP pX P) (y := sumP pY P) (m := 33554432) (k := 33554432) ⟨by omega, by omega⟩ ⟨by omega, by omega⟩
  have e3 := prod_bd (x := (P.length : Int)) (y := sumP pXX P) (m := 8) (k := 140737488355328) ⟨by omega, by omega⟩ ⟨by omega, by omega⟩
  have e4 := prod_bd (x := sumP pX P) (y := sumP pX P) (m := 33554432) (k := 33554432) ⟨by omega, by omega⟩ ⟨by omega, by omega⟩
  have e5 := Int.mul_nonneg (show 0 ≤ (P.length : Int) by omega) b5
  have e6 := Int.mul_nonneg b1 b1
  refine ⟨?_, ?_, ?_, ?_⟩ <;> omega
theorem numden_bd {P : List (Int × Int)} (h : ∀ p ∈ P, Near p) (h8 : P.length ≤ 8) : -2251799813685248 ≤ numV P ∧ numV P ≤ 2251799813685248 ∧ 0 ≤ denV P ∧ denV P ≤ 1125899906842624 := by
  obtain ⟨n1, n2, d1, d2⟩ := num_b h h8
  have := den_nonneg _ P rfl
  unfold numV denV at *
  omega

set_option maxHeartbeats 2000000 in
theorem squares_any (w : World) (B : Nat) (A : Option Addr) (n c : Nat) (L : List Ent) (h : TRow w B A n c L) (hf : FitsL L) :
    Calls Tryz.prog 95 #[.slice A n c] w fun e w' => e = .returned (slV (numV (ptsL L), denV (ptsL L))) ∧ Below w.heap.size w w' := by
  have hlen := h.len
  have h2 := hf.two
  have h8 := hf.eight
  have hnear := near_in hf
  obtain ⟨P, hP⟩ : ∃ P, ptsL L = P := ⟨_, rfl⟩
  rw [hP] at hnear ⊢
  have hPl : P.length = n := by rw [← hP, pts_len, hlen]
  obtain ⟨nu, hnu⟩ : ∃ nu, numV P = nu := ⟨_, rfl⟩
  obtain ⟨de, hde⟩ : ∃ de, denV P = de := ⟨_, rfl⟩
  rw [hnu, hde]
  obtain ⟨o, ho⟩ : ∃ o, L[0]? = some o := ⟨_, List.getElem?_eq_getElem (by omega)⟩
  have HH := Lib.hid (head_of ho)
  have H := Lib.hid h
  have HL := Lib.hid hlen
  have HO := Lib.hid ho
  have HN := Lib.hid hnear
  have HP := Lib.hid hP
  have HPl := Lib.hid hPl
  have HF := Lib.hid hf
  have HNU := Lib.hid hnu
  have HDE := Lib.hid hde
  have hn2 : 2 ≤ n := by omega
  have hn8 : n ≤ 8 := by omega
  have HB0 := Lib.hid (Box.start w 140 #[.int .i64 0, .int .i64 0])
  clear h hlen ho hnear hP hPl hf h2 h8 hnu hde
  go_enter Tryz.func95, Tryz.ntmps95
  go_wp2
  go_loopw [3, 4, 5, 6, 14] (fun sx sy sxx sxy i wr => ∃ k : Nat, k ≤ n ∧ i = .int .i64 (k : Int) ∧ sx = .int .i64 (sumP pX (P.take k)) ∧ sy = .int .i64 (sumP pY (P.take k)) ∧ sxx = .int .i64 (sumP pXX (P.take k)) ∧ sxy = .int .i64 (sumP pXY (P.take k)) ∧ Box w 140 #[.int .i64 0, .int .i64 0] wr) (fun _ _ _ _ i _ => n - (intOf i).toNat)
  case atStart => exact ⟨0, Nat.zero_le _, rfl, rfl, rfl, rfl, rfl, HB0.out⟩
  case round =>
    obtain ⟨k, hk, rfl, rfl, rfl, rfl, rfl, hb⟩ := hrel
    have HB := Lib.hid hb
    clear hb HB0
    by_cases hlt : k < n
    · obtain ⟨x, hx⟩ : ∃ x, L[k]? = some x := ⟨_, List.getElem?_eq_getElem (by rw [HL.out]; exact hlt)⟩
      obtain ⟨b, off, hA, q0, q1, q2⟩ := (H.out.below HB.out.below).at hx
      obtain ⟨b', off', hA', p0, p1, p2⟩ := (H.out.below HB.out.below).at HO.out
      obtain ⟨b3, off3, hA3, _, hlt3, _⟩ := (H.out.below HB.out.below).cell (by omega)
      rw [hA] at hA' hA3
      simp only [Option.some.injEq, Addr.mk.injEq, and_true] at hA' hA3
      obtain ⟨rfl, rfl⟩ := hA'
      obtain ⟨rfl, rfl⟩ := hA3
      subst hA
      have hpx := pts_at hx
      rw [HP.out, HH.out] at hpx
      have hnx := HN.out _ (List.mem_of_getElem? hpx)
      have hpr := near_prod hnx
      have htk := take_next hpx
      have hb0 := sum_b (take_near HN.out k) (by rw [List.length_take, HPl.out]; omega)
      have hb1 := sum_b (take_near HN.out (k + 1)) (by rw [List.length_take, HPl.out]; omega)
      have hcx := (HF.out.each x (List.mem_of_getElem? hx)).1
      have hco := (HF.out.each o (List.mem_of_getElem? HO.out)).1
      obtain ⟨f1, f2⟩ := can_apart hco hcx
      obtain ⟨o1, o2, o3⟩ := o
      obtain ⟨x1, x2, x3⟩ := x
      dsimp only at q0 q1 q2 p0 p1 p2 f1 f2
      rw [Nat.zero_mul, Nat.add_zero] at p0 p1 p2
      have hk0 := (Holds.new wr 49 #[.int .i64 x1, .int .i64 x2, .int .i64 x3])
      have hal := below_alloc wr (.cells #[.int .i64 x1, .int .i64 x2, .int .i64 x3] 49)
      have H6 := Lib.hid (show Six b off wr.heap.size 0 (o1, o2, o3) (x1, x2, x3) (wr.alloc (.cells #[.int .i64 x1, .int .i64 x2, .int .i64 x3] 49)) from ⟨Nat.lt_of_lt_of_le hlt3 hal.size, hk0.lt, below_cells hal hlt3 p0, below_cells hal hlt3 p1, below_cells hal hlt3 p2, hk0.cell 0, hk0.cell 1, hk0.cell 2⟩)
      have ewk := IntWalk.i64_in ((k : Int) + 1) (by omega)
      have HB1 := Lib.hid (HB.out.alloc (.cells #[.int .i64 x1, .int .i64 x2, .int .i64 x3] 49))
      have hsx : sumP pX (P.take (k + 1)) = sumP pX (P.take k) + (x1 - o1) := by rw [htk, sumP_snoc]; rfl
      have hsy : sumP pY (P.take (k + 1)) = sumP pY (P.take k) + (x2 - o2) := by rw [htk, sumP_snoc]; rfl
      have hsxx : sumP pXX (P.take (k + 1)) = sumP pXX (P.take k) + (x1 - o1) * (x1 - o1) := by rw [htk, sumP_snoc]; rfl
      have hsxy : sumP pXY (P.take (k + 1)) = sumP pXY (P.take k) + (x1 - o1) * (x2 - o2) := by rw [htk, sumP_snoc]; rfl
      have hnx' : Near (x1 - o1, x2 - o2) := hnx
      have hpr' : (0 ≤ (x1 - o1) * (x1 - o1) ∧ (x1 - o1) * (x1 - o1) ≤ 17592186044416) ∧ -17592186044416 ≤ (x1 - o1) * (x2 - o2) ∧ (x1 - o1) * (x2 - o2) ≤ 17592186044416 := hpr
      obtain ⟨a1, a2, a3, a4, a5, a6, a7, a8⟩ := hb1
      clear hk0 hal hlt3 p0 p1 p2 hx hpx hnx hpr htk hco hcx hb0 hnx'
      have n0 : 0 < n := by omega
      go_upto_region 5 with (fail)
      clear q0 q1 q2
      refine region_turns (fun (w' : World) => w'.cell? ⟨b, off, none⟩ = some (.int .i64 o1) ∧ w'.cell? ⟨b, off + 1, none⟩ = some (.int .i64 o2) ∧ w'.cell? ⟨b, off + 2, none⟩ = some (.int .i64 o3) ∧ w'.cell? ⟨wr.heap.size, 0, none⟩ = some (.int .i64 x1) ∧ w'.cell? ⟨wr.heap.size, 0 + 1, none⟩ = some (.int .i64 x2) ∧ w'.cell? ⟨wr.heap.size, 0 + 2, none⟩ = some (.int .i64 x3) ∧ Six b off wr.heap.size 0 (o1, o2, o3) (x1, x2, x3) w') (fun j => decide (10 ≤ j)) (by kernel_rfl) ((H6.out.below (Below.refl _ _).drew).cells) (fun hS => ?_)
      refine Turns.take hS 0 _ rfl (by kernel_rfl) (by kernel_rfl) (by kernel_rfl) (by kernel_rfl) (fun _ _ _ h => h) (by rfl) (fun w' hS' => by (try dsimp only at hS'); go_split_ands; go_simp; (try with_reducible rfl)) ?_
      simp only [Act.put, List.getElem_toArray, List.getElem_cons_succ, List.getElem_cons_zero, List.setIfInBounds_toArray, List.set_cons_zero, List.set_cons_succ]
      refine Turns.take hS 1 _ rfl (by kernel_rfl) (by kernel_rfl) (by kernel_rfl) (by kernel_rfl) (fun _ _ _ h => h) (by rfl) (fun w' hS' => by (try dsimp only at hS'); go_split_ands; go_simp; (try with_reducible rfl)) ?_
      simp only [Act.put, List.getElem_toArray, List.getElem_cons_succ, List.getElem_cons_zero, List.setIfInBounds_toArray, List.set_cons_zero, List.set_cons_succ]
      refine Turns.take hS 2 _ rfl (by kernel_rfl) (by kernel_rfl) (by kernel_rfl) (by kernel_rfl) (fun _ _ _ h => h) (by rfl) (fun w' hS' => by (try dsimp only at hS'); go_split_ands; go_simp; (try with_reducible rfl)) ?_
      simp only [Act.put, List.getElem_toArray, List.getElem_cons_succ, List.getElem_cons_zero, List.setIfInBounds_toArray, List.set_cons_zero, List.set_cons_succ]
      refine Turns.take hS 3 _ rfl (by kernel_rfl) (by kernel_rfl) (by kernel_rfl) (by kernel_rfl) (fun _ _ _ h => h) (by rfl) (fun w' hS' => by (try dsimp only at hS'); go_split_ands; go_simp; (try with_reducible rfl)) ?_
      simp only [Act.put, List.getElem_toArray, List.getElem_cons_succ, List.getElem_cons_zero, List.setIfInBounds_toArray, List.set_cons_zero, List.set_cons_succ]
      refine Turns.next 4 rfl (by kernel_rfl) (by rfl) (fun K hK => ?_)
      go_simp
      go_at_call 101
      refine (apart_any o1 o2 o3 x1 x2 x3 _ f1 f2).mono ?_
      rintro e w3 ⟨rfl, hb3⟩
      have HB3 := Lib.hid hb3
      have HE := Lib.hid (hS.2.2.2.2.2.2.below hb3)
      refine hK.out _ _ (show (fun (w' : World) => w'.cell? ⟨b, off, none⟩ = some (.int .i64 o1) ∧ w'.cell? ⟨b, off + 1, none⟩ = some (.int .i64 o2) ∧ w'.cell? ⟨b, off + 2, none⟩ = some (.int .i64 o3) ∧ w'.cell? ⟨wr.heap.size, 0, none⟩ = some (.int .i64 x1) ∧ w'.cell? ⟨wr.heap.size, 0 + 1, none⟩ = some (.int .i64 x2) ∧ w'.cell? ⟨wr.heap.size, 0 + 2, none⟩ = some (.int .i64 x3) ∧ Six b off wr.heap.size 0 (o1, o2, o3) (x1, x2, x3) w') _ from HE.out.cells) ?_
      clear hK K hS
      have hS := (show (fun (w' : World) => w'.cell? ⟨b, off, none⟩ = some (.int .i64 o1) ∧ w'.cell? ⟨b, off + 1, none⟩ = some (.int .i64 o2) ∧ w'.cell? ⟨b, off + 2, none⟩ = some (.int .i64 o3) ∧ w'.cell? ⟨wr.heap.size, 0, none⟩ = some (.int .i64 x1) ∧ w'.cell? ⟨wr.heap.size, 0 + 1, none⟩ = some (.int .i64 x2) ∧ w'.cell? ⟨wr.heap.size, 0 + 2, none⟩ = some (.int .i64 x3) ∧ Six b off wr.heap.size 0 (o1, o2, o3) (x1, x2, x3) w') _ from HE.out.cells)
      refine Turns.take hS 5 _ rfl (by kernel_rfl) (by kernel_rfl) (by kernel_rfl) (by kernel_rfl) (fun _ _ _ h => h) (by rfl) (fun w' hS' => by (try dsimp only at hS'); go_split_ands; go_simp; (try with_reducible rfl)) ?_
      simp only [Act.put, List.getElem_toArray, List.getElem_cons_succ, List.getElem_cons_zero, List.setIfInBounds_toArray, List.set_cons_zero, List.set_cons_succ]
      refine Turns.take hS 6 _ rfl (by kernel_rfl) (by kernel_rfl) (by kernel_rfl) (by kernel_rfl) (fun _ _ _ h => h) (by rfl) (fun w' hS' => by (try dsimp only at hS'); go_split_ands; go_simp; (try with_reducible rfl)) ?_
      simp only [Act.put, List.getElem_toArray, List.getElem_cons_succ, List.getElem_cons_zero, List.setIfInBounds_toArray, List.set_cons_zero, List.set_cons_succ]
      refine Turns.take hS 7 _ rfl (by kernel_rfl) (by kernel_rfl) (by kernel_rfl) (by kernel_rfl) (fun _ _ _ h => h) (by rfl) (fun w' hS' => by (try dsimp only at hS'); go_split_ands; go_simp; (try with_reducible rfl)) ?_
      simp only [Act.put, List.getElem_toArray, List.getElem_cons_succ, List.getElem_cons_zero, List.setIfInBounds_toArray, List.set_cons_zero, List.set_cons_succ]
      refine Turns.take hS 8 _ rfl (by kernel_rfl) (by kernel_rfl) (by kernel_rfl) (by kernel_rfl) (fun _ _ _ h => h) (by rfl) (fun w' hS' => by (try dsimp only at hS'); go_split_ands; go_simp; (try with_reducible rfl)) ?_
      simp only [Act.put, List.getElem_toArray, List.getElem_cons_succ, List.getElem_cons_zero, List.setIfInBounds_toArray, List.set_cons_zero, List.set_cons_succ]
      refine Turns.take hS 9 _ rfl (by kernel_rfl) (by kernel_rfl) (by kernel_rfl) (by kernel_rfl) (fun _ _ _ h => h) (by rfl) (fun w' hS' => by (try dsimp only at hS'); go_split_ands; go_simp; (try with_reducible rfl)) ?_
      simp only [Act.put, List.getElem_toArray, List.getElem_cons_succ, List.getElem_cons_zero, List.setIfInBounds_toArray, List.set_cons_zero, List.set_cons_succ]
      refine Turns.rest (late_done (by kernel_rfl)) ?_
      refine any_tail 10 (by rfl) (by kernel_rfl) ?_
      simp only [List.drop_succ_cons, List.drop_zero]
      clear hS
      have HB4 := Lib.hid (HB1.out.drew.next hb3)
      obtain ⟨X, hX⟩ : ∃ X, x1 - o1 = X := ⟨_, rfl⟩
      obtain ⟨Y, hY⟩ : ∃ Y, x2 - o2 = Y := ⟨_, rfl⟩
      simp only [hX, hY] at hsx hsy hsxx hsxy hpr' ⊢
      clear hX hY f1 f2 hb3 HB3 HE H6 HB1 HB
      have w1 := IntWalk.i64_in (X * X) (by omega)
      have w2 := IntWalk.i64_in (X * Y) (by omega)
      obtain ⟨XX, hXX⟩ : ∃ XX, X * X = XX := ⟨_, rfl⟩
      obtain ⟨XY, hXY⟩ : ∃ XY, X * Y = XY := ⟨_, rfl⟩
      rw [hXX] at w1 hsxx
      rw [hXY] at w2 hsxy
      have w3' : IntKind.i64.wrap (sumP pX (P.take k) + X) = sumP pX (P.take (k + 1)) := by rw [hsx]; exact IntWalk.i64_in _ (by omega)
      have w4' : IntKind.i64.wrap (sumP pY (P.take k) + Y) = sumP pY (P.take (k + 1)) := by rw [hsy]; exact IntWalk.i64_in _ (by omega)
      have w5' : IntKind.i64.wrap (sumP pXX (P.take k) + XX) = sumP pXX (P.take (k + 1)) := by rw [hsxx]; exact IntWalk.i64_in _ (by omega)
      have w6' : IntKind.i64.wrap (sumP pXY (P.take k) + XY) = sumP pXY (P.take (k + 1)) := by rw [hsxy]; exact IntWalk.i64_in _ (by omega)
      clear hpr' a1 a2 a3 a4 a5 a6 a7 a8 hsx hsy hsxx hsxy
      go_wp2
      go_roundw
      case rel => exact ⟨k + 1, by omega, by go_num, rfl, rfl, rfl, rfl, HB4.out⟩
      case measure => simp [intOf]; omega
    · have hkn : k = n := by omega
      have htk : P.take k = P := List.take_of_length_le (by rw [HPl.out]; omega)
      rw [htk]
      obtain ⟨n1, n2, d1, d2⟩ := num_b HN.out (by rw [HPl.out]; exact hn8)
      have hnu : (n : Int) * sumP pXY P - sumP pX P * sumP pY P = nu := by rw [← HNU.out, ← HPl.out]; rfl
      have hde : (n : Int) * sumP pXX P - sumP pX P * sumP pX P = de := by rw [← HDE.out, ← HPl.out]; rfl
      rw [HPl.out] at n1 d1
      have w1 := IntWalk.i64_in ((n : Int) * sumP pXY P) (by omega)
      have w2 := IntWalk.i64_in (sumP pX P * sumP pY P) (by omega)
      have w3 := IntWalk.i64_in ((n : Int) * sumP pXX P) (by omega)
      have w4 := IntWalk.i64_in (sumP pX P * sumP pX P) (by omega)
      have w5 : IntKind.i64.wrap ((n : Int) * sumP pXY P - sumP pX P * sumP pY P) = nu := by rw [← hnu]; exact IntWalk.i64_in _ (by omega)
      have w6 : IntKind.i64.wrap ((n : Int) * sumP pXX P - sumP pX P * sumP pX P) = de := by rw [← hde]; exact IntWalk.i64_in _ (by omega)
      have l1 : ¬ (k : Int) < n := by omega
      clear hnu hde n1 n2 d1 d2 htk hkn
      have c0 := HB.out.holds.cell 0
      have c1 := HB.out.holds.cell 1
      have s0 := HB.out.holds.soft 0
      have s1 := HB.out.holds.soft 1
      go_wp2
      exact end_sl rfl rfl ((HB.out.holds.put 0 _).put 1 _) rfl ⟨rfl, (HB.out.below.setCell (by dsimp only; omega) _).setCell (by dsimp only; omega) _⟩
end Go.Proofs.YtgmeakcfiaopcaaGreat
