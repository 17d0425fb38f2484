/- Package slope: fits, squares. -/
import Derived.Test.YtgmeakcfiaopcaaGreatBunM
import Derived.Deep.CutBlock
namespace Go.Proofs.YtgmeakcfiaopcaaGreat
open Go.RowKit
set_option linter.unusedVariables false
set_option linter.unusedSimpArgs false

/-- How far an entry lies from the first one. -/
def ptO (o e : Ent) : Int × Int := (e.1 - o.1, e.2.1 - o.2.1)
def Near (p : Int × Int) : Prop := 0 ≤ p.1 ∧ p.1 ≤ 4194304 ∧ -4194304 ≤ p.2 ∧ p.2 ≤ 4194304
def headE (L : List Ent) : Ent := L.headD (0, 0, 0)
def ptsL (L : List Ent) : List (Int × Int) := L.map (ptO (headE L))
structure FitsL (L : List Ent) : Prop where
  two : 2 ≤ L.length
  eight : L.length ≤ 8
  each : ∀ e ∈ L, CanE e ∧ Near (ptO (headE L) e)
theorem head_of {L : List Ent} {o : Ent} (h : L[0]? = some o) : headE L = o := by
  cases L with
  | nil => cases h
  | cons x L => simpa [headE] using h
theorem not_near {x y : Int} (h : ¬ Near (x, y)) : x < 0 ∨ (0 ≤ x ∧ 4194304 < x) ∨ (0 ≤ x ∧ x ≤ 4194304 ∧ y < -4194304) ∨ (0 ≤ x ∧ x ≤ 4194304 ∧ -4194304 ≤ y ∧ 4194304 < y) := by
  unfold Near at h
  dsimp only at h
  omega
theorem can_apart {a b : Ent} (ha : CanE a) (hb : CanE b) : Fits (b.1 - a.1) ∧ Fits (b.2.1 - a.2.1) := by
  obtain ⟨a1, a2, a3, a4, _, _⟩ := ha
  obtain ⟨b1, b2, b3, b4, _, _⟩ := hb
  unfold Fits
  omega
theorem below_cells {w w' : World} {b o : Nat} (hb : Below w.heap.size w w') (h : b < w.heap.size) {v : Value} (hc : w.cell? ⟨b, o, none⟩ = some v) : w'.cell? ⟨b, o, none⟩ = some v := (hb.cell (p := ⟨b, o, none⟩) h).trans hc
/-- An entry in a row, and one in a block of its own. -/
structure Six (b p g q : Nat) (o e : Ent) (w : World) : Prop where
  lt1 : b < w.heap.size
  lt2 : g < w.heap.size
  o0 : w.cell? ⟨b, p, none⟩ = some (.int .i64 o.1)
  o1 : w.cell? ⟨b, p + 1, none⟩ = some (.int .i64 o.2.1)
  o2 : w.cell? ⟨b, p + 2, none⟩ = some (.int .i64 o.2.2)
  e0 : w.cell? ⟨g, q, none⟩ = some (.int .i64 e.1)
  e1 : w.cell? ⟨g, q + 1, none⟩ = some (.int .i64 e.2.1)
  e2 : w.cell? ⟨g, q + 2, none⟩ = some (.int .i64 e.2.2)
theorem Six.below {b p g q : Nat} {o e : Ent} {w w' : World} (h : Six b p g q o e w) (hb : Below w.heap.size w w') : Six b p g q o e w' :=
  ⟨Nat.lt_of_lt_of_le h.lt1 hb.size, Nat.lt_of_lt_of_le h.lt2 hb.size, below_cells hb h.lt1 h.o0, below_cells hb h.lt1 h.o1, below_cells hb h.lt1 h.o2, below_cells hb h.lt2 h.e0, below_cells hb h.lt2 h.e1, below_cells hb h.lt2 h.e2⟩
theorem Six.cells {b p g q : Nat} {a0 a1 a2 b0 b1 b2 : Int} {w : World} (h : Six b p g q (a0, a1, a2) (b0, b1, b2) w) :
    w.cell? ⟨b, p, none⟩ = some (.int .i64 a0) ∧ w.cell? ⟨b, p + 1, none⟩ = some (.int .i64 a1) ∧ w.cell? ⟨b, p + 2, none⟩ = some (.int .i64 a2) ∧
    w.cell? ⟨g, q, none⟩ = some (.int .i64 b0) ∧ w.cell? ⟨g, q + 1, none⟩ = some (.int .i64 b1) ∧ w.cell? ⟨g, q + 2, none⟩ = some (.int .i64 b2) ∧ Six b p g q (a0, a1, a2) (b0, b1, b2) w :=
  ⟨h.o0, h.o1, h.o2, h.e0, h.e1, h.e2, h⟩

/-- What fits answers. -/
def FitAns (L : List Ent) (w : World) (e : Ending) (w' : World) : Prop := (e = .returned (.bool true) ∧ FitsL L ∨ e = .returned (.bool false) ∧ ¬ FitsL L) ∧ Below w.heap.size w w'
theorem fit_no {L : List Ent} {w w' : World} (h : ¬ FitsL L) (hb : Below w.heap.size w w') : FitAns L w (.returned (.bool false)) w' := ⟨.inr ⟨rfl, h⟩, hb⟩
theorem fit_yes {L : List Ent} {w w' : World} (h : FitsL L) (hb : Below w.heap.size w w') : FitAns L w (.returned (.bool true)) w' := ⟨.inl ⟨rfl, h⟩, hb⟩
set_option maxHeartbeats 2000000 in
theorem fits_any (w : World) (B : Nat) (A : Option Addr) (n c : Nat) (L : List Ent) (h : TRow w B A n c L) :
    Calls Tryz.prog 94 #[.slice A n c] w (FitAns L w) := by
  have hlen := h.len
  have hcap := h.cap_le
  have hmx := h.max
  unfold maxLen at hmx
  by_cases n2 : n < 2
  · have hno : ¬ FitsL L := fun hf => by have := hf.two; omega
    have t1 : (n : Int) < 2 := by omega
    clear h hlen
    go_enter Tryz.func94, Tryz.ntmps94
    go_wp2
    go_ret
    exact fit_no hno (Below.refl _ _)
  by_cases n8 : 8 < n
  · have hno : ¬ FitsL L := fun hf => by have := hf.eight; omega
    have t1 : ¬ (n : Int) < 2 := by omega
    have t2 : (8 : Int) < n := by omega
    have t3 : decide ((n : Int) < 2) = false := decide_eq_false t1
    clear h hlen
    go_enter Tryz.func94, Tryz.ntmps94
    go_wp2
    go_ret
    exact fit_no hno (Below.refl _ _)
  have t1 : ¬ (n : Int) < 2 := by omega
  have t2 : ¬ (8 : Int) < n := by omega
  have t3 : decide ((n : Int) < 2) = false := decide_eq_false t1
  have t4 : decide ((8 : Int) < n) = false := decide_eq_false t2
  obtain ⟨o, ho⟩ : ∃ o, L[0]? = some o := ⟨_, List.getElem?_eq_getElem (by omega)⟩
  have hhd := head_of ho
  have H := Lib.hid h
  have HL := Lib.hid hlen
  have HO := Lib.hid ho
  have HH := Lib.hid hhd
  clear h hlen ho hhd
  go_enter Tryz.func94, Tryz.ntmps94
  go_wp2
  go_loopw [17] (fun i wr => ∃ k : Nat, k ≤ n ∧ i = .int .i64 (k : Int) ∧ Below w.heap.size w wr ∧ ∀ j e, j < k → L[j]? = some e → CanE e ∧ Near (ptO o e)) (fun i _ => n - (intOf i).toNat)
  case atStart => exact ⟨0, Nat.zero_le _, rfl, Below.refl _ _, fun j e hj => absurd hj (Nat.not_lt_zero _)⟩
  case round =>
    obtain ⟨k, hk, rfl, hb, hall⟩ := hrel
    have HA := Lib.hid hall
    have HB := Lib.hid hb
    clear hall hb
    by_cases hlt : k < n
    · obtain ⟨x, hx⟩ : ∃ x, L[k]? = some x := ⟨_, List.getElem?_eq_getElem (by rw [HL.out]; exact hlt)⟩
      obtain ⟨b, off, hA, q0, q1, q2⟩ := (H.out.below HB.out).at hx
      obtain ⟨b', off', hA', p0, p1, p2⟩ := (H.out.below HB.out).at HO.out
      obtain ⟨b3, off3, hA3, _, hlt3, _⟩ := (H.out.below HB.out).cell (by omega)
      rw [hA] at hA' hA3
      simp only [Option.some.injEq, Addr.mk.injEq, and_true] at hA' hA3
      obtain ⟨rfl, rfl⟩ := hA'
      obtain ⟨rfl, rfl⟩ := hA3
      subst hA
      obtain ⟨o1, o2, o3⟩ := o
      obtain ⟨x1, x2, x3⟩ := x
      dsimp only at q0 q1 q2 p0 p1 p2
      rw [Nat.zero_mul, Nat.add_zero] at p0 p1 p2
      have hk0 := (Holds.new wr 49 #[.int .i64 x1, .int .i64 x2, .int .i64 x3])
      have hal := below_alloc wr (.cells #[.int .i64 x1, .int .i64 x2, .int .i64 x3] 49)
      have H6 := Lib.hid (show Six b off wr.heap.size 0 (o1, o2, o3) (x1, x2, x3) (wr.alloc (.cells #[.int .i64 x1, .int .i64 x2, .int .i64 x3] 49)) from ⟨Nat.lt_of_lt_of_le hlt3 hal.size, hk0.lt, below_cells hal hlt3 p0, below_cells hal hlt3 p1, below_cells hal hlt3 p2, hk0.cell 0, hk0.cell 1, hk0.cell 2⟩)
      have HX := Lib.hid hx
      have ewk := IntWalk.i64_in ((k : Int) + 1) (by omega)
      have HB1 := Lib.hid (HB.out.alloc HB.out.size (.cells #[.int .i64 x1, .int .i64 x2, .int .i64 x3] 49))
      clear hx hk0 hal hlt3 p0 p1 p2
      by_cases hcan : CanE (x1, x2, x3)
      · have hcano : CanE (o1, o2, o3) := by
          by_cases hk0 : k = 0
          · subst hk0
            have := HO.out.symm.trans HX.out
            cases this
            exact hcan
          · exact (HA.out 0 _ (by omega) HO.out).1
        obtain ⟨f1, f2⟩ := can_apart hcano hcan
        have HC := Lib.hid hcan
        dsimp only at f1 f2
        clear hcano
        go_upto_region 8 with (go_at_call 29; (with_reducible refine (good_yes _ _ _ _ hcan).mono ?_); rintro e w2 ⟨rfl, hb2⟩; have HB2 := Lib.hid (HB1.out.trans (hb2.mono HB1.out.size)); have H62 := Lib.hid (H6.out.below hb2); clear hb2)
        clear hcan q0 q1 q2
        have n0 : 0 < n := by omega
        refine region_turns (fun (w' : World) => w'.cell? ⟨b, off, none⟩ = some (.int .i64 o1) ∧ w'.cell? ⟨b, off + 1, none⟩ = some (.int .i64 o2) ∧ w'.cell? ⟨b, off + 2, none⟩ = some (.int .i64 o3) ∧ w'.cell? ⟨wr.heap.size, 0, none⟩ = some (.int .i64 x1) ∧ w'.cell? ⟨wr.heap.size, 0 + 1, none⟩ = some (.int .i64 x2) ∧ w'.cell? ⟨wr.heap.size, 0 + 2, none⟩ = some (.int .i64 x3) ∧ Six b off wr.heap.size 0 (o1, o2, o3) (x1, x2, x3) w') (fun j => decide (10 ≤ j)) (by kernel_rfl) ((H62.out.below (Below.refl _ _).drew).cells) (fun hS => ?_)
        refine Turns.take hS 0 _ rfl (by kernel_rfl) (by kernel_rfl) (by kernel_rfl) (by kernel_rfl) (fun _ _ _ h => h) (by rfl) (fun w' hS' => by (try dsimp only at hS'); go_split_ands; go_simp; (try with_reducible rfl)) ?_
        simp only [Act.put, List.getElem_toArray, List.getElem_cons_succ, List.getElem_cons_zero, List.setIfInBounds_toArray, List.set_cons_zero, List.set_cons_succ]
        refine Turns.take hS 1 _ rfl (by kernel_rfl) (by kernel_rfl) (by kernel_rfl) (by kernel_rfl) (fun _ _ _ h => h) (by rfl) (fun w' hS' => by (try dsimp only at hS'); go_split_ands; go_simp; (try with_reducible rfl)) ?_
        simp only [Act.put, List.getElem_toArray, List.getElem_cons_succ, List.getElem_cons_zero, List.setIfInBounds_toArray, List.set_cons_zero, List.set_cons_succ]
        refine Turns.take hS 2 _ rfl (by kernel_rfl) (by kernel_rfl) (by kernel_rfl) (by kernel_rfl) (fun _ _ _ h => h) (by rfl) (fun w' hS' => by (try dsimp only at hS'); go_split_ands; go_simp; (try with_reducible rfl)) ?_
        simp only [Act.put, List.getElem_toArray, List.getElem_cons_succ, List.getElem_cons_zero, List.setIfInBounds_toArray, List.set_cons_zero, List.set_cons_succ]
        refine Turns.take hS 3 _ rfl (by kernel_rfl) (by kernel_rfl) (by kernel_rfl) (by kernel_rfl) (fun _ _ _ h => h) (by rfl) (fun w' hS' => by (try dsimp only at hS'); go_split_ands; go_simp; (try with_reducible rfl)) ?_
        simp only [Act.put, List.getElem_toArray, List.getElem_cons_succ, List.getElem_cons_zero, List.setIfInBounds_toArray, List.set_cons_zero, List.set_cons_succ]
        refine Turns.next 4 rfl (by kernel_rfl) (by rfl) (fun K hK => ?_)
        go_simp
        go_at_call 101
        refine (apart_any o1 o2 o3 x1 x2 x3 _ f1 f2).mono ?_
        rintro e w3 ⟨rfl, hb3⟩
        have HB3 := Lib.hid hb3
        have HE := Lib.hid (hS.2.2.2.2.2.2.below hb3)
        refine hK.out _ _ (show (fun (w' : World) => w'.cell? ⟨b, off, none⟩ = some (.int .i64 o1) ∧ w'.cell? ⟨b, off + 1, none⟩ = some (.int .i64 o2) ∧ w'.cell? ⟨b, off + 2, none⟩ = some (.int .i64 o3) ∧ w'.cell? ⟨wr.heap.size, 0, none⟩ = some (.int .i64 x1) ∧ w'.cell? ⟨wr.heap.size, 0 + 1, none⟩ = some (.int .i64 x2) ∧ w'.cell? ⟨wr.heap.size, 0 + 2, none⟩ = some (.int .i64 x3) ∧ Six b off wr.heap.size 0 (o1, o2, o3) (x1, x2, x3) w') _ from HE.out.cells) ?_
        clear hK K hS
        have hS := (show (fun (w' : World) => w'.cell? ⟨b, off, none⟩ = some (.int .i64 o1) ∧ w'.cell? ⟨b, off + 1, none⟩ = some (.int .i64 o2) ∧ w'.cell? ⟨b, off + 2, none⟩ = some (.int .i64 o3) ∧ w'.cell? ⟨wr.heap.size, 0, none⟩ = some (.int .i64 x1) ∧ w'.cell? ⟨wr.heap.size, 0 + 1, none⟩ = some (.int .i64 x2) ∧ w'.cell? ⟨wr.heap.size, 0 + 2, none⟩ = some (.int .i64 x3) ∧ Six b off wr.heap.size 0 (o1, o2, o3) (x1, x2, x3) w') _ from HE.out.cells)
        refine Turns.take hS 5 _ rfl (by kernel_rfl) (by kernel_rfl) (by kernel_rfl) (by kernel_rfl) (fun _ _ _ h => h) (by rfl) (fun w' hS' => by (try dsimp only at hS'); go_split_ands; go_simp; (try with_reducible rfl)) ?_
        simp only [Act.put, List.getElem_toArray, List.getElem_cons_succ, List.getElem_cons_zero, List.setIfInBounds_toArray, List.set_cons_zero, List.set_cons_succ]
        refine Turns.take hS 6 _ rfl (by kernel_rfl) (by kernel_rfl) (by kernel_rfl) (by kernel_rfl) (fun _ _ _ h => h) (by rfl) (fun w' hS' => by (try dsimp only at hS'); go_split_ands; go_simp; (try with_reducible rfl)) ?_
        simp only [Act.put, List.getElem_toArray, List.getElem_cons_succ, List.getElem_cons_zero, List.setIfInBounds_toArray, List.set_cons_zero, List.set_cons_succ]
        refine Turns.take hS 7 _ rfl (by kernel_rfl) (by kernel_rfl) (by kernel_rfl) (by kernel_rfl) (fun _ _ _ h => h) (by rfl) (fun w' hS' => by (try dsimp only at hS'); go_split_ands; go_simp; (try with_reducible rfl)) ?_
        simp only [Act.put, List.getElem_toArray, List.getElem_cons_succ, List.getElem_cons_zero, List.setIfInBounds_toArray, List.set_cons_zero, List.set_cons_succ]
        refine Turns.take hS 8 _ rfl (by kernel_rfl) (by kernel_rfl) (by kernel_rfl) (by kernel_rfl) (fun _ _ _ h => h) (by rfl) (fun w' hS' => by (try dsimp only at hS'); go_split_ands; go_simp; (try with_reducible rfl)) ?_
        simp only [Act.put, List.getElem_toArray, List.getElem_cons_succ, List.getElem_cons_zero, List.setIfInBounds_toArray, List.set_cons_zero, List.set_cons_succ]
        refine Turns.take hS 9 _ rfl (by kernel_rfl) (by kernel_rfl) (by kernel_rfl) (by kernel_rfl) (fun _ _ _ h => h) (by rfl) (fun w' hS' => by (try dsimp only at hS'); go_split_ands; go_simp; (try with_reducible rfl)) ?_
        simp only [Act.put, List.getElem_toArray, List.getElem_cons_succ, List.getElem_cons_zero, List.setIfInBounds_toArray, List.set_cons_zero, List.set_cons_succ]
        refine Turns.rest (late_done (by kernel_rfl)) ?_
        refine any_tail 10 (by rfl) (by kernel_rfl) ?_
        simp only [List.drop_succ_cons, List.drop_zero]
        clear hS
        have HB4 := Lib.hid (HB2.out.drew.trans (hb3.mono HB2.out.drew.size))
        have hsp : ptO (o1, o2, o3) (x1, x2, x3) = (x1 - o1, x2 - o2) := rfl
        obtain ⟨X, hX⟩ : ∃ X, x1 - o1 = X := ⟨_, rfl⟩
        obtain ⟨Y, hY⟩ : ∃ Y, x2 - o2 = Y := ⟨_, rfl⟩
        rw [hX, hY] at hsp
        simp only [hX, hY]
        have HS := Lib.hid hsp
        clear hX hY hsp f1 f2 hb3 HB3 HE H62 H6 HB1 HB2 HB
        by_cases hn : Near (X, Y)
        · have HN := Lib.hid hn
          obtain ⟨g1, g2, g3, g4⟩ := hn
          dsimp only at g1 g2 g3 g4
          have d1 : decide (X < 0) = false := decide_eq_false (by omega)
          have d2 : decide (4194304 < X) = false := decide_eq_false (by omega)
          have d3 : decide (Y < -4194304) = false := decide_eq_false (by omega)
          have d4 : decide (4194304 < Y) = false := decide_eq_false (by omega)
          go_wp2
          go_roundw
          case rel =>
            refine ⟨k + 1, by omega, by go_num, HB4.out, fun j e hj hje => ?_⟩
            by_cases hjk : j = k
            · subst hjk
              have := HX.out.symm.trans hje
              cases this
              rw [HS.out]
              exact ⟨HC.out, HN.out⟩
            · exact HA.out j e (by omega) hje
          case measure => simp [intOf]; omega
        · have hno : ¬ FitsL L := fun hf => hn (by
            have := (hf.each _ (List.mem_of_getElem? HX.out)).2
            rw [HH.out, HS.out] at this
            exact this)
          have HNO := Lib.hid hno
          rcases not_near hn with g1 | ⟨g1, g2⟩ | ⟨g1, g2, g3⟩ | ⟨g1, g2, g3, g4⟩
          all_goals
            clear hn hno
            try have d1 : decide (X < 0) = false := decide_eq_false (by omega)
            try have d2 : decide (4194304 < X) = false := decide_eq_false (by omega)
            try have d3 : decide (Y < -4194304) = false := decide_eq_false (by omega)
            go_wp2
            go_ret
            exact fit_no HNO.out HB4.out
      · have hno : ¬ FitsL L := fun hf => hcan (hf.each _ (List.mem_of_getElem? HX.out)).1
        go_wp2_with (go_at_call 29; (with_reducible refine (good_no _ _ _ _ hcan).mono ?_); rintro e w2 ⟨rfl, hb2⟩)
        go_ret
        exact fit_no hno (HB1.out.trans (hb2.mono HB1.out.size))
    · have hkn : k = n := by omega
      have hyes : FitsL L := ⟨by have := HL.out; omega, by have := HL.out; omega, fun e he => by
        obtain ⟨j, hj⟩ := List.mem_iff_getElem?.1 he
        have hjl := (List.getElem?_eq_some_iff.1 hj).1
        rw [HH.out]
        exact HA.out j e (by rw [HL.out] at hjl; omega) hj⟩
      have l1 : ¬ (k : Int) < n := by omega
      clear hkn
      go_wp2
      go_ret
      exact fit_yes hyes HB.out
end Go.Proofs.YtgmeakcfiaopcaaGreat
